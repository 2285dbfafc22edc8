import PyProof.Rows.All
import Wide.All
import OpenK.AllK
import Wide.FinOn
import HandS.ForMost
import HandS.IsInst
import HandS.Evl
import HandS.ClsMeth
import HandS.MakeKwOnly
import HandS.TryOnly
import HandS.ExcOwn
import HandS.ExcIs
import HandS.ExcCtx
import HandS.HotCalls
import HandS.WordsExc
import HandS.Conv
import HandS.FStr
import HandS.RaiseMore
import HandS.Style
import HandS.Small
import HandS.More
import HandS.Star
import KE.GoesMore
import HandS.Walk
import HandS.SetBool
import HandS.Strs
import HandS.SetFor
import HandS.SortInts
import HandS.HeadHook2
import KE.KOwnIter
import HandS.IterVal
import HandS.Lambda
import HandS.RevTup
import HandS.Rev
import HandS.EndTab
import HandS.TupMul
import HandS.Zip
import HandS.Dict
import HandS.StrMore
import HandS.HeadHook4
import KE.KNestM
import HandS.AnyAll
import HandS.GenOver
import PySem.Challenge.RW_lotsandties_k39_copies_that_are_struck
set_option Elab.async false
set_option linter.all false
set_option maxRecDepth 100000
set_option maxHeartbeats 4000000
namespace Rg
open PySem PySem.Spec PyProof.Rows L2
/-! ### heaps -/
theorem same_upd {H : Hp} {p : Addr} {o : HO} (h : H p = none) : Same H (upd H p o) := fun b x e => by
  rw [upd_ne (ne_of_none e h)]
  exact e
theorem upd_id {H : Hp} {p : Addr} {o : HO} (h : H p = some o) : upd H p o = H := by
  funext b
  by_cases e : b = p
  · rw [e, upd_same, h]
  · rw [upd_ne e]
theorem yes_ {σ : L2.St} {H : Hp} {A B : Hp → Prop} (h : A H) : tYes σ H fun b H3 => if b = true then A H3 else B H3 := by
  show if true = true then A H else B H
  rw [if_pos rfl]
  exact h
/-- what is free behind a store was free, and is another place -/
theorem un {H : Hp} {a b : Addr} {o : HO} (e : upd H a o b = none) : H b = none := by
  by_cases z : b = a
  · rw [z, upd_same] at e; cases e
  · rw [upd_ne z] at e; exact e
theorem unn {H : Hp} {a b : Addr} {o : HO} (e : upd H a o b = none) : b ≠ a := fun z => by
  rw [z, upd_same] at e; cases e
theorem unn' {H : Hp} {a b : Addr} {o : HO} (e : upd H a o b = none) : a ≠ b := fun z => unn e z.symm
theorem upd_comm {H : Hp} {p q : Addr} {o o' : HO} (h : p ≠ q) : upd (upd H p o) q o' = upd (upd H q o') p o := by
  funext b
  by_cases e : b = p
  · rw [e, upd_same, upd_ne h, upd_same]
  · by_cases e2 : b = q
    · rw [e2, upd_same, upd_ne h.symm, upd_same]
    · rw [upd_ne e2, upd_ne e, upd_ne e, upd_ne e2]
theorem upd_app {H : Hp} {p : Addr} {fs : List Int} {x : Int} : upd (upd H p (.lst (fs.map V.int))) p (.lst (fs.map V.int ++ [V.int x])) = upd H p (.lst ((fs ++ [x]).map V.int)) := by
  rw [upd_upd, List.map_append]
  rfl
/-- kept but for what stands at S -/
def Kp (S : List Addr) (H H' : Hp) : Prop := ∀ x o, H x = some o → x ∉ S → H' x = some o
theorem Kp.refl {S : List Addr} {H : Hp} : Kp S H H := fun _ _ e _ => e
theorem Kp.new {S : List Addr} {H H1 : Hp} {a : Addr} {o : HO} (k : Kp S H H1) (h : H1 a = none) : Kp S H (upd H1 a o) := fun x u e n => by
  rw [upd_ne (ne_of_none (k x u e n) h)]
  exact k x u e n
theorem Kp.own {S : List Addr} {H H1 : Hp} {a : Addr} {o : HO} (k : Kp S H H1) (h : a ∈ S) : Kp S H (upd H1 a o) := fun x u e n => by
  have z : x ≠ a := fun z => by rw [z] at n; exact n h
  rw [upd_ne z]
  exact k x u e n
theorem Kp.own1 {p : Addr} {H H1 : Hp} {o : HO} (k : Kp [p] H H1) : Kp [p] H (upd H1 p o) := k.own (by simp)
theorem Kp.trans {S : List Addr} {H H1 H2 : Hp} (a : Kp S H H1) (b : Kp S H1 H2) : Kp S H H2 := fun x o e n => b x o (a x o e n) n
theorem Kp.same {S : List Addr} {H H1 H2 : Hp} (a : Kp S H H1) (b : Same H1 H2) : Kp S H H2 := fun x o e n => b x o (a x o e n)
theorem Kp.of {S : List Addr} {H H1 : Hp} (b : Same H H1) : Kp S H H1 := fun x o e _ => b x o e
theorem Kp.mono {S S' : List Addr} {H H1 : Hp} (a : Kp S H H1) (h : ∀ x, x ∈ S → x ∈ S') : Kp S' H H1 := fun x o e n => a x o e fun z => n (h x z)
theorem Kp.free {S : List Addr} {H H1 : Hp} {x : Addr} (a : Kp S H H1) (n : x ∉ S) (h : H1 x = none) : H x = none := by
  cases q : H x with
  | none => rfl
  | some o => rw [a x o q n] at h; cases h
theorem Kp.at1 {p x : Addr} {H H' : Hp} {o : HO} (k : Kp [p] H H') (e : H x = some o) (n : x ≠ p) : H' x = some o := k x o e (by simp [n])
theorem Kp.ret {a : Addr} {S : List Addr} {H H' : Hp} {o : HO} (k : Kp (a :: S) H H') (h : H a = none) : Kp S H H' := fun x u e n => k x u e (by
  intro z
  rcases List.mem_cons.mp z with z | z
  · rw [z, h] at e; cases e
  · exact n z)
theorem own_f {H H' : Hp} {p : Addr} {o : HO} (h : upd H p o = H') : H' p = some o ∧ Kp [p] H H' ∧ ∀ x, H' x = none → H x = none ∧ x ≠ p := by
  subst h
  exact ⟨upd_same, Kp.refl.own1, fun x e => ⟨un e, unn e⟩⟩
theorem new_f {H H' : Hp} {a : Addr} {o : HO} (h : upd H a o = H') (n : H a = none) : H' a = some o ∧ Same H H' ∧ ∀ x, H' x = none → H x = none ∧ x ≠ a := by
  subst h
  exact ⟨upd_same, same_upd n, fun x e => ⟨un e, unn e⟩⟩
/-- a whole-number constant of the module -/
theorem pe_gc {X : Cx} {x : Str} {n : Int} {pos : Pos} (hm : ∃ t, X.mg x = some (.int n t)) (hg : Gl X x := by rfl) (hd : (x == ("__debug__" : Str)) = false := by decide) : PE X (.Name x pos) (tC (.int n)) :=
  let ⟨t, h⟩ := hm
  pe_glob hg h ⟨t, rfl⟩ hd
/-- a text constant of the module -/
theorem pe_gs {X : Cx} {x z : Str} {pos : Pos} (hm : ∃ t, X.mg x = some (.str z t)) (hg : Gl X x := by rfl) (hd : (x == ("__debug__" : Str)) = false := by decide) : PE X (.Name x pos) (tC (.str z)) :=
  let ⟨t, h⟩ := hm
  pe_glob hg h ⟨t, rfl⟩ hd
/-- C.f, C a class of the module, f a value of the class -/
theorem pe_cv {X : Cx} {x f : Str} {C : Addr} {mc : Value} {v : V} {p pos : Pos} (hm : X.mg x = some (.ref C)) (r : ClX.CRead X.K C mc) (k : ∃ u, ClX.CVal X.K C mc f v u) (hg : Gl X x := by rfl) (hd : (x == ("__debug__" : Str)) = false := by decide)
    (hb : attributeBase (.Name x p) f X.env (eval (.Name x p) X.env) = eval (.Name x p) X.env := by rfl) : PE X (.Attribute (.Name x p) f pos) (tC v) := by
  obtain ⟨u, k⟩ := k
  have := (ClX.pe_cval (pos := pos) (pe_glob (X := X) (x := x) (v := .ref C) (u := .ref C) (pos := p) hg hm rfl hd) hb)
  exact ⟨fun pins s σ H Q I h => this.run pins s σ H Q I ⟨C, mc, v, u, rfl, r, k, h⟩⟩
/-! ### the same rules with the written part named (inside a comprehension) -/
section
variable {X : Cx} {K : PySem.W.Frag}
def rListOf (K : PySem.W.Frag) : List V → Hp → VK → Prop := fun xs H Q => ∃ p ys, xs = [.ref p] ∧ (SqL K H p ys ∨ SqT K H p ys) ∧ ∀ l, H l = none → Q (.ref l) (upd H l (.lst ys))
theorem pe_listof {e : Expr} {te : TE} {p pos : Pos} (he : PE X e te) (hm : X.mg "list" = none) (hK : X.K = K := by rfl) (hg : Gl X "list" := by rfl) (hs : starEach [e] X.env = (false, eval e X.env) :: starEach [] X.env := by rfl) : PE X (.Call (.Name "list" p) [e] [] pos) (tCB (rListOf K) (tCons te tNil)) := by
  subst hK
  exact pe_callTy call_list_of hg hm (by decide +kernel) (pa_cons he pa_nil hs) (he := hs)
theorem pe_fldK {e : Expr} {f : Str} {pos : Pos} {ta : TE} (he : PE X e ta) (hb : attributeBase e f X.env (eval e X.env) = eval e X.env) (hK : X.K = K := by rfl) : PE X (.Attribute e f pos) (tFld K ta f) := by
  subst hK
  exact pe_fld he hb
theorem pe_ixK {a b : Expr} {pos : Pos} {ta tb : TE} (ha : PE X a ta) (hb : PE X b tb) (hs : PlainIx b) (hK : X.K = K := by rfl) : PE X (.Subscript a b pos) (tOp (rIxL K) ta tb) := by
  subst hK
  exact pe_ix ix_list ha hb hs
theorem pe_lenK {e : Expr} {te : TE} {p pos : Pos} (he : PE X e te) (hm : X.mg "len" = none) (hK : X.K = K := by rfl) (hg : Gl X "len" := by rfl) (hs : starEach [e] X.env = (false, eval e X.env) :: starEach [] X.env := by rfl) : PE X (.Call (.Name "len" p) [e] [] pos) (tCB (fun xs H Q => ∃ p ys, xs = [.ref p] ∧ (SqL K H p ys ∨ SqT K H p ys) ∧ Q (.int ys.length) H) (tCons te tNil)) := by
  subst hK
  exact pe_callB call_len_seq hg hm (by decide +kernel) (pa_cons he pa_nil hs) (he := hs)
end
/-! ### static methods, called off the class -/
structure SMet (K : PySem.W.Frag) (C : Addr) (mc : Value) (m : Str) (g : Addr) : Prop where
  ex : ∃ p, PySem.W.findCls K (.ref C) mc m = some (.get (.builtin "staticmethod.__get__") (.ref p) .none (.ref C)) ∧ (∃ rest, PySem.W.recIn K p "staticmethod" = some (.ref g :: rest)) ∧ PySem.W.keepIn K (.ref g) = true
/-- C.m(e, ..), C the class at C, m a static method -/
def tSMeth (sp : Sp) (dvs : List V) (E : XK) (t : TA) : TE := fun σ H Q => t σ H fun vs H2 => sp (vs ++ dvs) H2 Q E
section
variable {X : Cx} {CX : CXT} {k : Nat} {C g : Addr} {mc : Value} {sp : Sp} {E : XK} {x : Str} {e : Expr} {es : List Expr} {m : Str} {p pos apos : Pos} {t : TA} {pl : Sem Bool} {fd : FuncData} {ps : List Str} {ds : List Value} {dvs : List V}
theorem pe_smeth (hmx : X.mg x = some (.ref C)) (r : ClX.CRead X.K C mc) (c : SMet X.K C mc m g) (F : FnOk X.prog X.w X.K X.mg X.base CX k g fd ps sp) (hr : Room k X.A) (hb : Binds X.K fd ps ds) (hd : Vals dvs ds) (hx : Passes CX X E) (ha : PA X (e :: es) t) (hg : Gl X x := by rfl) (hdb : (x == ("__debug__" : Str)) = false := by decide)
    (hst : starEach (e :: es) X.env = (false, eval e X.env) :: starEach es X.env := by rfl) (hpl : (backTo pos (starEach es X.env)).any (·.1) = false := by rfl)
    (ht : eval (.Call (.Attribute (.Name x p) m apos) (e :: es) [] pos) X.env = (do
      let ov ← eval (.Name x p) X.env
      standAt apos.atName
      let (f, first) ← holding [ov] (getMethod ov m pl)
      callWith pos f first (backTo pos (starEach (e :: es) X.env)) (backToKw pos (keywordEach [] X.env))) := by rfl) :
    PE X (.Call (.Attribute (.Name x p) m apos) (e :: es) [] pos) (tSMeth sp dvs E t) := by
  obtain ⟨q, at_, ⟨rest, hp⟩, hk⟩ := c.ex
  refine ⟨fun pins s σ H Q I h => ?_⟩
  refine PySem.W.methodCall_KW (pl := pl) (ld_glob I hg hmx ?_ hdb) ht
  refine PySem.W.method_cls I.kIn r.ga (PySem.W.cls_bind I.kIn r.rd at_ ?_)
  refine wpAny_call (PySem.W.sm_get (s := { s with toks := s.toks + 1 }) I.kIn hp (PySem.W.handed_on rfl ?_))
  refine PySem.W.callWith_K (f := .ref g) (first := []) (h₀ := X.base) I.ok.mod.kin hk (thn (ha.run pos pins _ σ H _ (I.tok _) h) fun us s1 ⟨vs, H1, I1, r1, q1⟩ => ⟨I1.kIn, ?_⟩) hst hpl
  exact run_fn F hr hb hd hx I1 r1 q1
end
/-! ### errors -/
theorem exm_sub {K : PySem.W.Frag} {D S : Addr} (h1 : PySem.W.subIn K (.ref S) (.type "BaseException") = some true) (h2 : PySem.W.isClsIn K S = true) (h3 : PySem.W.typeIn K (.ref S) = some (.type "type")) (h4 : PySem.W.subIn K (.ref D) (.ref S) = some true) :
    PySem.W.exmOne K (.ref D) (.ref S) = some true := by
  have e1 : (PySem.W.subIn K (.ref S) (.type "BaseException") == some true) = true := by rw [h1] <;> rfl
  have e2 : ((PySem.W.clsIn K S).isSome && PySem.W.typeIn K (.ref S) == some (.type "type")) = true := by
    have h2' : (PySem.W.clsIn K S).isSome = true := h2
    rw [h2', h3] <;> rfl
  show (if (PySem.W.subIn K (.ref S) (.type "BaseException") == some true) = true then (if ((PySem.W.clsIn K S).isSome && PySem.W.typeIn K (.ref S) == some (.type "type")) = true then PySem.W.subIn K (.ref D) (.ref S) else none) else none) = some true
  rw [if_pos e1, if_pos e2]
  exact h4
theorem kit_sub {K : PySem.W.Frag} {D S : Addr} {b : Bool} (hne : D ≠ S) (h2 : PySem.W.isClsIn K S = true) (h3 : PySem.W.typeIn K (.ref S) = some (.type "type")) (h4 : PySem.W.subIn K (.ref D) (.ref S) = some b) :
    PySem.W.kitOne K (.ref D) (.ref S) = some b := by
  have e2 : ((PySem.W.clsIn K S).isSome && PySem.W.typeIn K (.ref S) == some (.type "type")) = true := by
    have h2' : (PySem.W.clsIn K S).isSome = true := h2
    rw [h2', h3] <;> rfl
  unfold PySem.W.kitOne
  rw [if_neg (by intro z; exact hne (Value.ref.inj (beq_iff_eq.mp z)))]
  show (if ((PySem.W.clsIn K S).isSome && PySem.W.typeIn K (.ref S) == some (.type "type")) = true then PySem.W.subIn K (.ref D) (.ref S) else none) = some b
  rw [if_pos e2]
  exact h4
/-- a suite that is come to by an error of the class at D alone (no fields of its own) -/
def tOnly (cls : Value) (d : Option Addr) (D : Addr) (t : TS) : TS := fun E σ H => cls = .ref D ∧ d = none ∧ t E σ H
theorem pss_only {X : Cx} {sts : List Stmt} {t : TS} {cls : Value} {d : Option Addr} {D : Addr} (h : cls = .ref D → d = none → PSs X sts t) : PSs X sts (tOnly cls d D t) :=
  ⟨fun pins s σ H E I hh => (h hh.1 hh.2.1).run pins s σ H E I hh.2.2⟩
theorem kit_self {K : PySem.W.Frag} {D : Addr} : PySem.W.kitOne K (.ref D) (.ref D) = some true := by
  unfold PySem.W.kitOne
  rw [if_pos (beq_self_eq_true _)]
theorem dec_iv (a d : Int) : decide (V.int a = V.int d) = decide (a = d) := by
  by_cases e : a = d
  · subst e; simp
  · rw [decide_eq_false e, decide_eq_false fun q => e (V.int.inj q)]
end Rg
namespace Rg
open PySem PySem.Spec PyProof.Rows L2
/-! ### tests that are known -/
theorem wT {c A B : Prop} [Decidable c] (h : c) (a : A) : if decide c = true then A else B := by rw [decide_eq_true h, if_pos rfl]; exact a
theorem wF {c A B : Prop} [Decidable c] (h : ¬ c) (a : B) : if decide c = true then A else B := by rw [decide_eq_false h, if_neg Bool.false_ne_true]; exact a
theorem wTv {a b : Int} {A B : Prop} (h : a = b) (k : A) : if decide (V.int a = V.int b) = true then A else B := wT (by rw [h]) k
theorem wFv {a b : Int} {A B : Prop} (h : ¬ a = b) (k : B) : if decide (V.int a = V.int b) = true then A else B := wF (fun z => h (V.int.inj z)) k
theorem wI {a b : Int} {A B : Prop} (h1 : a = b → A) (h2 : ¬ a = b → B) : if decide (V.int a = V.int b) = true then A else B := by
  by_cases e : a = b
  · exact wTv e (h1 e)
  · exact wFv e (h2 e)
theorem wD {c A B : Prop} [Decidable c] (h1 : c → A) (h2 : ¬ c → B) : if decide c = true then A else B := by
  by_cases e : c
  · exact wT e (h1 e)
  · exact wF e (h2 e)
theorem wTn {c A B : Prop} [Decidable c] (h : ¬ c) (a : A) : if (!decide c) = true then A else B := by rw [decide_eq_false h]; exact iteT a
theorem wFn {c A B : Prop} [Decidable c] (h : c) (a : B) : if (!decide c) = true then A else B := by rw [decide_eq_true h]; exact iteF a
theorem wTb {b : Bool} {A B : Prop} (h : b = true) (a : A) : if b = true then A else B := by rw [if_pos h]; exact a
theorem wFb {b : Bool} {A B : Prop} (h : b = false) (a : B) : if b = true then A else B := by rw [if_neg (by rw [h]; decide)]; exact a
/-- what was free before may be written -/
theorem Kp.put {S : List Addr} {H H1 : Hp} {a : Addr} {o : HO} (k : Kp S H H1) (h : H a = none) : Kp S H (upd H1 a o) := fun x u e n => by
  rw [upd_ne (ne_of_none e h)]
  exact k x u e n
theorem wNT {a b : Int} {A B : Prop} (h : ¬ a = b) (k : A) : if (!decide (V.int a = V.int b)) = true then A else B := wTn (fun z => h (V.int.inj z)) k
theorem wNF {a b : Int} {A B : Prop} (h : a = b) (k : B) : if (!decide (V.int a = V.int b)) = true then A else B := wFn (by rw [h]) k
theorem wNe {a b : Int} {A B : Prop} (h1 : ¬ a = b → A) (h2 : a = b → B) : if (!decide (V.int a = V.int b)) = true then A else B := by
  by_cases e : a = b
  · exact wNF e (h2 e)
  · exact wNT e (h1 e)
theorem wND {c A B : Prop} [Decidable c] (h1 : ¬ c → A) (h2 : c → B) : if (!decide c) = true then A else B := by
  by_cases e : c
  · exact wFn e (h2 e)
  · exact wTn e (h1 e)
theorem CMul_l {i j : Int} (h : -(2 ^ 64) < i ∧ i < 2 ^ 64) : CMul i j := .inl h
theorem CMul_r {i j : Int} (h : -(2 ^ 64) < j ∧ j < 2 ^ 64) : CMul i j := .inr h
theorem lt_line {n : Nat} (h : n ≤ 10000) : n < sizeLine := Nat.lt_of_le_of_lt h (by decide)
/-- the slots written out -/
theorem sg {t : L2.St → Hp → Prop} {σ σ' : L2.St} {H : Hp} (e : σ = σ') (h : t σ' H) : t σ H := by rw [e]; exact h
theorem sgG {i : Nat} {v : V} {σ σ' : L2.St} {H : Hp} {k : L2.St → Hp → Prop} (e : σ.set i (some v) = σ') (h : k σ' H) : gName i v σ H k := by
  subst e
  exact h
end Rg
namespace Rg
open PySem PySem.Spec PyProof.Rows L2
/-! ### an error that a suite holds, handed to a def of one's own -/
section
variable {prog : Program} {w : World} {A : Around} {E : Value → Shared → Prop} {s : Shared}
/-- a walk over a list comes to its end while an error is handled -/
theorem list_end_hot {it l x1 : Addr} {i : Nat} {items} {Q : Option Value → Shared → Prop} (hot : HotX.HotAt A x1 s.heap) (hit : s.heap.IsListIter it l i) (hl : s.heap.IsList l items) (hx : items[i]? = none)
    (hQ : ∀ h', Heap.ExtBut it s.heap h' → Q none { s with heap := h' }) : wpAny (model prog w) A (pyNext (.ref it)) Q E s := by
  obtain ⟨hh, o1, vs1, h1, d1, c1⟩ := hot; obtain ⟨o, ho, hc, hd⟩ := id hit
  obtain ⟨ol, hol, _, nl, hdl⟩ := hl; unfold pyNext
  have ni : it ≠ x1 := fun z => by
    rw [← z, ho] at h1
    cases h1
    rw [hd] at d1
    cases d1
    simp at c1
  refine wpAny_bind (wpAny_attempt (wpAny_callSpecial?_slot (name := Str.ofString "__next__") hit.typeIs slot_listiter_next (wpAny_call_entry slot_listiter_next hit.typeIs entry_listiter_next ?_ (args_listiter_next _))))
  refine (show wpAny _ _ (field (.ref it) 0 >>= _) _ _ s from ?_); refine wpAny_bind (wpAny_field ho hd (x := .ref l) rfl ?_)
  refine (show wpAny _ _ (if (Value.ref l == Value.none) = true then _ else _) _ _ s from ?_); rw [if_neg (show ¬ ((Value.ref l == Value.none) = true) from Bool.false_ne_true)]
  refine (show wpAny _ _ (field (.ref it) 1 >>= _) _ _ s from ?_); refine wpAny_bind (wpAny_field ho hd (x := .int i 0) rfl ?_)
  refine (show wpAny _ _ (seqItems? (.ref l) >>= _) _ _ s from ?_); refine wpAny_bind (wpAny_seqItems hol hdl ?_)
  simp only [Int.toNat_natCast, hx]; refine wpAny_bind (wpAny_rule (wpAny_bind (wpAny_setField ho hd (by simp) ?_)))
  refine (show wpAny _ _ (newExc (.type "StopIteration") [] >>= _) _ _ _ from ?_); refine wpAny_bind ?_
  simp only [newExc, newTuple]; refine wpAny_bind (wpAny_newObj_type ?_ (by size_fits))
  refine wpAny_bind (m := firstArgMember _ _) (wpAny_of_eq (a := Value.none) (by first | rfl | (simp only [firstArgMember]; rfl)) ?_); refine wpAny_newObj_type ?_ (by size_fits)
  have g1 : ∀ f : Obj → Obj, (s.heap.update it f).get? x1 = some o1 := fun f => by rw [Heap.get?_update_other _ _ ni]; exact h1
  refine HotX.raiseNew_hot ⟨hh, o1, vs1, Heap.get?_push_of_some _ (Heap.get?_push_of_some _ (g1 _)), d1, c1⟩ (Nat.ne_of_lt (Heap.lt_size (Heap.get?_push_of_some _ (g1 _)))) (Heap.get?_push_size _ rfl) rfl (by first | (simp; done) | (simp; omega) | (simp only [Array.size_append]; simp; omega)) ?_
  refine wpAny_bind (wpAny_isInstance (T := "StopIteration") (b := true) ⟨_, Heap.get?_update_self _ (Heap.get?_push_size _ rfl) rfl, rfl⟩ isSubtype_stop ?_); refine wpAny_pure (hQ _ fun b o' nb e => ?_)
  have e2 : ∀ f oo, ((s.heap.update it f).push oo).get? b = some o' := fun f oo => (Heap.SameBut.update ..).extBut.push _ b o' nb e
  rw [Heap.get?_update_other _ _ (Nat.ne_of_gt (Heap.lt_size (e2 _ _)))]; exact Heap.get?_push_of_some _ (e2 _ _)
end
/-- the turns of a walk over a list while an error is handled -/
theorem turn_listH {P : Program} {w : World} {K : PySem.W.Frag} {tg : Expr} (a it : Addr) : L2H.TurnH P w K tg (Itl K a) [it] it (fun i h => h.IsListIter it a i) where
  mem := by simp
  obj := fun i h st b hb => (turn_list (P := P) (w := w) (K := K) (tg := tg) a it).obj i h st b hb
  keep := fun i h h' st k => (turn_list (P := P) (w := w) (K := K) (tg := tg) a it).keep i h h' st k
  item := by
    intro X hP hw hK hc i pins s σ H E I hf st hg; subst hP hw hK
    obtain ⟨xs, x, hq, hx⟩ := hg; obtain ⟨its, rv, p, hz⟩ := I.list hq
    obtain ⟨u, hu, ru⟩ := rv.get hx; obtain ⟨f0, f1, f2, f3, f4, f5⟩ := hf it (by simp)
    refine wpAny_pyNext_list_item st p.isList (x := u) (by simpa using hu) fun h' st' sb => ?_
    have I1 : Inv X pins σ H { s with heap := h' } := I.turned (t' := s.toks) (fun b o hb e => (sb.2 b hb).trans e) f0 f1 f3 f4 f5
    obtain ⟨o, e, c, d⟩ := id st'
    exact ⟨u, rfl, go_of (s := { s with heap := h' }) e c d (by decide) ⟨x, H, I1, ru, ⟨rfl, fun ys hy => by rw [I.list_inj hy hq]; exact hx⟩, st', fun b hb => (hf b hb).1⟩⟩
  done := by
    intro X hP hw hK hc i pins s σ H E I hf st hg; subst hP hw hK
    obtain ⟨xs, hq, hx⟩ := hg; obtain ⟨its, rv, p, hz⟩ := I.list hq
    obtain ⟨f0, f1, f2, f3, f4, f5⟩ := hf it (by simp); obtain ⟨x1, hot⟩ := hc.at I
    have hl := rv.length
    exact list_end_hot hot st p.isList (by simp; omega) fun h' eb => ⟨rfl, I.turned (t' := s.toks) (fun b o hb e => eb b o hb e) f0 f1 f3 f4 f5⟩
  self := fun _ _ _ _ _ st h => wpAny_pyIter_listiter st h
theorem pi_listH {X : Cx} {tg l : Expr} {tl : TE} (hl : PE X l tl) : L2H.PIH X tg l (iList X.K tl) := by
  refine ⟨fun pins s σ H R I h => thn (hl.run pins s σ H _ I h) fun v s1 ⟨x, H1, I1, r1, q1⟩ => ?_⟩
  obtain ⟨a, e, ⟨xs, hq⟩, q⟩ := q1; subst e; cases r1
  obtain ⟨its, rv, p, hz⟩ := I1.list hq; refine wpAny_pyIter_list p.isList ?_
  refine ⟨s1.heap.objs.size, [s1.heap.objs.size], _, _, H1, rfl, I1.kept (t' := s1.toks) (fun b o e => Heap.get?_push_of_some _ e), turn_listH a _, ⟨_, Heap.get?_push_size _ rfl, rfl, rfl⟩, fun b hb => ?_, q⟩
  have e : b = s1.heap.objs.size := by simpa using hb
  subst e; exact I1.fpOk (Nat.le_refl _) (I1.hok.fresh (Nat.le_refl _))
/-- a def that is called with the error that a suite holds (of the class at D) and lets nothing out -/
structure FnE (P : Program) (w : World) (K : PySem.W.Frag) (mg : Str → Option Value) (base : Heap) (k : Nat) (f : Addr) (fd : FuncData) (ps : List Str) (D : Addr) (sp : Addr → Sp) : Prop where
  len : ∀ a vs H Q E, sp a vs H Q E → vs.length = ps.length
  run : ∀ (A : Around) (outer : List Env) (s : Shared) (H : Hp) (args : Args) (us : List Value) (vs : List V) (Q : VK) (E : XK) (p : Addr × Obj), L2H.RoomH k A → L2H.Hot1 A p → Zc (.ref D) none p.2 → L2H.PinOk outer H s p → Env0 P w K mg base A outer s H →
    BindsTo s fd args (ps.zip us) → Vals vs us → sp p.1 vs H Q E → codeAny (model P w) A (.call (.ref f) args) (CR CX0 outer P w H s Q E) s
section
variable {P : Program} {w : World} {K : PySem.W.Frag} {mg : Str → Option Value} {base : Heap}
theorem _root_.L2.Fun.okE {x qual : Str} {st : Stmt} {f D : Addr} {fd : FuncData} {N ps : List Str} {k : Nat} {sp : Addr → Sp} (F : Fun K x qual st f fd) (S : FnScope N ps (defScope st)) (len : ∀ a vs H Q E, sp a vs H Q E → vs.length = ps.length)
    (hbody : ∀ (cdv : Value) (A : Around) (outer : List Env) (s : Shared) (H : Hp) (vs : List V) (Q : VK) (E : XK) (p : Addr × Obj), L2H.Hot1 A p → Zc (.ref D) none p.2 → L2H.RoomH k (A.deeper (envOfC qual (defScope st) s.heap.objs.size f cdv)) → sp p.1 vs H Q E →
      ∃ t, PSs (L2H.cxH CX0 P w K mg base N qual (defScope st) f cdv A outer s H E p) (defBody st) t ∧ t { nx := fun _ H' => Q .non H', rt := Q } (L2.start N vs) H) : FnE P w K mg base (k + 1) f fd ps D sp := by
  obtain ⟨oc, od, kV, doc, pm, an, cdv, ct, osl, rfl, lk, hcd⟩ := F.ex
  refine ⟨len, fun A outer s H args us vs Q E p hr hot hz hpin e0 hb r hsp => ?_⟩
  have hl := len _ _ _ _ _ hsp; have KX : K.In s.heap := e0.mod.kin.keeps fun b o e => (e0.bs b o e).1
  have lim : s.heap.NoLimit := e0.mod.nolimit.keeps fun b o e => (e0.bs b o e).1; have bb := hb
  have hkind : ∀ y ∈ ps.zip us, (defScope st).names.lookup y.1 = some .local ∨ ((defScope st).names.lookup y.1 = some .cell ∧ ((cellsFrom (s.heap.objs.size + 1) (defScope st).names []).lookup y.1).isSome = true) := fun ⟨n, v⟩ hy =>
    (S.par n (List.of_mem_zip hy).1).elim .inl fun q => .inr ⟨q, PySem.W.cellsFrom_some _ _ _ (.inl q)⟩
  refine codeAny_call_function hr.depth (KX _ _ lk) rfl S.co S.gen rfl (PySem.W.codeRec_of KX hcd) (bb _ _ _ _ (wpAny_newFunctionEnv_cells S.kind hkind fun env he s1 x => ?_))
  subst he; refine ⟨lim.keeps x.toInCall.keep, codeAny_func ?_⟩
  obtain ⟨t, ht, hq⟩ := hbody cdv A outer s H vs Q E p hot hz (hr.deeper _) hsp
  have I := L2H.inv_startH (CX := CX0) (E := E) S hpin e0 hl r x
  refine wpAny_mono (ht.run [] s1 (L2.start N vs) H _ I hq) (fun fl s' hs => ?_) fun _ _ hs => hs
  cases fl with
  | ret u => exact hs.elim fun v ⟨σ', H', J, rv, q⟩ => ⟨v, H', J.os, J.bare, J.base, J.hok, rv, q⟩
  | next => exact hs.elim fun σ' ⟨H', J, q⟩ => ⟨V.non, H', J.os, J.bare, J.base, J.hok, rfl, q⟩
  | brk => exact hs.elim fun _ ⟨_, _, q⟩ => q.elim
  | cont => exact hs.elim fun _ ⟨_, _, q⟩ => q.elim
end
section
variable {X : Cx} {k : Nat} {f D : Addr} {fd : FuncData} {ps : List Str} {sp : Addr → Sp} {x : Str} {q pos : Pos} {e : Expr} {es : List Expr} {t : TA}
/-- f(e, ..), f a def for the error at a -/
def tCallE (sp : Addr → Sp) (a : Addr) (t : TA) : TE := fun σ H Q => t σ H fun vs H1 => sp a vs H1 Q E0
theorem pe_callE (F : FnE X.prog X.w X.K X.mg X.base k f fd ps D sp) (hr : L2H.RoomH k X.A) {p : Addr × Obj} (hot : L2H.Hot1 X.A p) (hz : Zc (.ref D) none p.2) (hp : p ∈ X.pn) (hg : Gl X x) (hm : X.mg x = some (.ref f)) (hk : PySem.W.keepIn X.K (.ref f) = true) (hb : Binds X.K fd ps [])
    (ha : PA X (e :: es) t) (hdb : (x == ("__debug__" : Str)) = false := by decide) (he : starEach (e :: es) X.env = (false, eval e X.env) :: starEach es X.env := by rfl) (hpl : (backTo pos (starEach es X.env)).any (·.1) = false := by rfl) :
    PE X (.Call (.Name x q) (e :: es) [] pos) (tCallE sp p.1 t) := by
  refine ⟨fun pins s σ H Q I h => wpAny_Call_Name_kw (ld_glob I hg hm ?_ hdb)⟩
  refine PySem.W.callWith_K (h₀ := X.base) I.ok.mod.kin hk (thn (ha.run pos pins s σ H _ I h) fun us s1 ⟨vs, H1, I1, r, q⟩ => ⟨I1.kIn, ?_⟩) he hpl
  have hl : us.length = ps.length := by rw [← r.length]; exact F.len _ _ _ _ _ q
  have b := hb s1 us I1.kIn (by rw [List.append_nil]; exact hl)
  rw [List.append_nil] at b
  have P1 := I1.pin p (List.mem_append_left _ hp)
  have hpin : L2H.PinOk X.stack H1 s1 p := ⟨P1.1, P1.2.1, fun hm' => (List.mem_cons.mp (I1.stkSub p.1 hm')).elim P1.2.2.1 P1.2.2.2.1, P1.2.2.2.2⟩
  refine wpAny_call (codeAny_mono (F.run X.A X.stack s1 H1 ⟨us, []⟩ us vs Q E0 p hr hot hz hpin I1.env0 b r q) fun r' s' hq => ?_)
  cases r' with
  | error e => exact False.elim hq
  | ok fl =>
    cases fl with
    | ret u => exact I1.after hq
    | _ => exact False.elim hq
/-- isinstance of the error that is handled, in whatever def it is asked -/
theorem call_isP {a D : Addr} {oe : Obj} (C : ExcC X.K D) (hz : Zc (.ref D) none oe) (hf : ∃ vs, oe.data = .fields vs) (hp : (a, oe) ∈ X.pn) : CallR X (.builtin "isinstance") (rIsE X.K D a) := by
  rintro pins s σ H xs us Q I r ⟨c, cv, b, rfl, hcv, e, q⟩
  obtain ⟨vs, hv⟩ := hf
  cases r with
  | cons rx rr =>
    cases rr with
    | cons rt rr =>
      cases rr; cases rx
      have ec := hcv _ rt
      subst ec
      have hget := (I.pin (a, oe) (List.mem_append_left _ hp)).1
      have J : PySem.W.InstAt s.heap a oe D none := by
        obtain ⟨oc, od, oda, osl⟩ := oe
        obtain ⟨h1, h2⟩ := hz
        subst hv
        cases h1
        cases h2
        exact ⟨hget, rfl, rfl, trivial⟩
      exact PySem.W.kia_one (PySem.W.handS_kitx_exc C.hg C.hk C.hs C.hd C.ha C.hn C.ht C.hm) I.kIn J e (fun z => nomatch z) fun tk => ⟨.bl b, H, I.kept (t' := tk) fun _ _ z => z, rfl, q⟩
end
/-! ### defs that raise: the error's context is told to be None -/
section
variable {P : Program} {w : World} {K : PySem.W.Frag} {mg : Str → Option Value} {base : Heap}
theorem _root_.L2.Fun.okN {x qual : Str} {st : Stmt} {f : Addr} {fd : FuncData} {N ps : List Str} {k : Nat} {sp : Sp} (F : Fun K x qual st f fd) (S : FnScope N ps (defScope st)) (len : ∀ vs H Q E, sp vs H Q E → vs.length = ps.length)
    (hbody : ∀ (cdv : Value) (A : Around) (outer : List Env) (s : Shared) (H : Hp) (vs : List V) (Q : VK) (E : XK), Room k (A.deeper (envOfC qual (defScope st) s.heap.objs.size f cdv)) → sp vs H Q E →
      ∃ t, PSs (cxOf (L2N.CX P w) P w K mg base N qual (defScope st) f cdv A outer s H E) (defBody st) t ∧ t { nx := fun _ H' => Q .non H', rt := Q } (L2.start N vs) H) : FnOk P w K mg base (L2N.CX P w) (k + 1) f fd ps sp := by
  obtain ⟨oc, od, kV, doc, pm, an, cdv, ct, osl, rfl, lk, hcd⟩ := F.ex
  exact fn_of lk hcd S len fun A outer s H vs Q E hr hsp => hbody cdv A outer s H vs Q E hr hsp
theorem takes0N {X : Cx} : L2N.Takes X (fun _ _ _ _ => False) := fun _ _ x => by
  obtain ⟨_, _, _, _, _, _, _, _, _, _, _, _, _, _, _, _, z⟩ := x
  cases z
end
section
variable {X : Cx} {C : Addr} {bmB : List Value} {B newId initId : String}
/-- X(e) -/
theorem pmk_own1N {x : Str} {e : Expr} {ta : TE} {p pos : Pos} (F : ExcBaseFacts B newId initId bmB) (q : PySem.W.excIn X.K C bmB newId = true) (gC : X.mg x = some (.ref C)) (kC : PySem.W.keepIn X.K (.ref C) = true) (r : Raises X (.ref C)) (hg : Gl X x) (he : PE X e ta)
    (hs : starEach [e] X.env = (false, eval e X.env) :: starEach [] X.env := by rfl) (hdb : (x == ("__debug__" : Str)) = false := by decide) : L2N.PMk X (.Call (.Name x p) [e] [] pos) (fun σ H Q => ta σ H fun _ H1 => Q (.ref C) none H1) := by
  intro pins s σ H Q I h; refine wpAny_Call_Name_kw (ld_glob I hg gC ?_ hdb)
  refine PySem.W.callWith_K (h₀ := X.base) I.ok.mod.kin kC ?_ hs (by rfl); rw [hs]
  refine (show wpAny _ _ (spliced ((false, eval e X.env) :: backTo pos (starEach [] X.env))) _ _ s from ?_)
  refine Calls.spliced_cons (thn (he.run pins s σ H _ I h) fun u s1 ⟨v, H1, I1, r1, q1⟩ => Calls.spliced_nil ⟨I1.kIn, ?_⟩)
  refine (show wpAny _ _ (call (.ref C) [u]) _ _ _ from ?_)
  obtain ⟨bm, N, nm, qn, bs, hdct, sn, sub, ab, col, dd, k0, k1, k2, k3, k5, mN, hC, hN, hni, T⟩ := exc_obj I1.kIn q
  exact wpAny_call_exc_subT F T hC hN hni (fun h' e' hm => L2N.mk_of I1 hm r q1 (I1.hok.gone hm.new)) (by show 1 ≤ sizeLine; rw [sizeLine_eq]; omega)
end
/-! ### which class an error is of -/
theorem kit_subT {K : PySem.W.Frag} {D S : Addr} (h2 : PySem.W.isClsIn K S = true) (h3 : PySem.W.typeIn K (.ref S) = some (.type "type")) (h4 : PySem.W.subIn K (.ref D) (.ref S) = some true) : PySem.W.kitOne K (.ref D) (.ref S) = some true := by
  by_cases e : D = S
  · subst e
    exact kit_self
  · exact kit_sub e h2 h3 h4
theorem kit_blt {K : PySem.W.Frag} {D : Addr} {b : String} {r : Bool} (hm : PySem.W.kitMeta b = true) (h : PySem.W.subIn K (.ref D) (.type b) = some r) : PySem.W.kitOne K (.ref D) (.type b) = some r := by
  unfold PySem.W.kitOne
  rw [if_neg (by intro z; exact nomatch (beq_iff_eq.mp z))]
  unfold PySem.W.kitCls
  simpa [hm] using h
theorem takeB {α : Type} {l : List α} {i : Nat} {x : α} (h : l[i]? = some x) : l.take (i + 1) = l.take i ++ [x] := by
  rw [List.take_succ, h]
  rfl
/-! ### unpacking a tuple while an error is handled -/
section
variable {prog : Program} {w : World} {A : Around} {E : Value → Shared → Prop} {s : Shared}
theorem tup_end_hot {it l x1 : Addr} {i : Nat} {items} {Q : Option Value → Shared → Prop} (hot : HotX.HotAt A x1 s.heap) (hit : IsTupIter s.heap it l i) (hl : IsTup s.heap l items) (hx : items[i]? = none)
    (hQ : ∀ h', Heap.ExtBut it s.heap h' → Q none { s with heap := h' }) : wpAny (model prog w) A (pyNext (.ref it)) Q E s := by
  obtain ⟨hh, o1, vs1, h1, d1, c1⟩ := hot; obtain ⟨o, ho, hc, hd⟩ := id hit
  obtain ⟨ol, hol, _, nl, hdl⟩ := hl; unfold pyNext
  have ni : it ≠ x1 := fun z => by
    rw [← z, ho] at h1
    cases h1
    rw [hd] at d1
    cases d1
    simp at c1
  refine wpAny_bind (wpAny_attempt (wpAny_callSpecial?_slot (name := Str.ofString "__next__") hit.typeIs slot_tupleiter_next (wpAny_call_entry slot_tupleiter_next hit.typeIs entry_tupleiter_next ?_ (args_tupleiter_next _))))
  refine (show wpAny _ _ (field (.ref it) 0 >>= _) _ _ s from ?_); refine wpAny_bind (wpAny_field ho hd (x := .ref l) rfl ?_)
  refine (show wpAny _ _ (if (Value.ref l == Value.none) = true then _ else _) _ _ s from ?_); rw [if_neg (show ¬ ((Value.ref l == Value.none) = true) from Bool.false_ne_true)]
  refine (show wpAny _ _ (field (.ref it) 1 >>= _) _ _ s from ?_); refine wpAny_bind (wpAny_field ho hd (x := .int i 0) rfl ?_)
  refine (show wpAny _ _ (seqItems? (.ref l) >>= _) _ _ s from ?_); refine wpAny_bind (wpAny_seqItems hol hdl ?_)
  simp only [Int.toNat_natCast, hx]; refine wpAny_bind (wpAny_rule (wpAny_bind (wpAny_setField ho hd (by simp) ?_)))
  refine (show wpAny _ _ (newExc (.type "StopIteration") [] >>= _) _ _ _ from ?_); refine wpAny_bind ?_
  simp only [newExc, newTuple]; refine wpAny_bind (wpAny_newObj_type ?_ (by size_fits))
  refine wpAny_bind (m := firstArgMember _ _) (wpAny_of_eq (a := Value.none) (by first | rfl | (simp only [firstArgMember]; rfl)) ?_); refine wpAny_newObj_type ?_ (by size_fits)
  have g1 : ∀ f : Obj → Obj, (s.heap.update it f).get? x1 = some o1 := fun f => by rw [Heap.get?_update_other _ _ ni]; exact h1
  refine HotX.raiseNew_hot ⟨hh, o1, vs1, Heap.get?_push_of_some _ (Heap.get?_push_of_some _ (g1 _)), d1, c1⟩ (Nat.ne_of_lt (Heap.lt_size (Heap.get?_push_of_some _ (g1 _)))) (Heap.get?_push_size _ rfl) rfl (by first | (simp; done) | (simp; omega) | (simp only [Array.size_append]; simp; omega)) ?_
  refine wpAny_bind (wpAny_isInstance (T := "StopIteration") (b := true) ⟨_, Heap.get?_update_self _ (Heap.get?_push_size _ rfl) rfl, rfl⟩ isSubtype_stop ?_); refine wpAny_pure (hQ _ fun b o' nb e => ?_)
  have e2 : ∀ f oo, ((s.heap.update it f).push oo).get? b = some o' := fun f oo => (Heap.SameBut.update ..).extBut.push _ b o' nb e
  rw [Heap.get?_update_other _ _ (Nat.ne_of_gt (Heap.lt_size (e2 _ _)))]; exact Heap.get?_push_of_some _ (e2 _ _)
theorem unpack_hot {t x1 : Addr} {items : Array Value} {Q : List Value → Shared → Prop} (hot : HotX.HotAt A x1 s.heap) (ht : IsTup s.heap t items)
    (hQ : ∀ h', Heap.ExtBut s.heap.objs.size s.heap h' → Q items.toList { s with heap := h' }) : wpAny (model prog w) A (unpackItems (.ref t) items.size none) Q E s := by
  have hlt : t ≠ s.heap.objs.size := ht.elim fun o ho => Nat.ne_of_lt (Heap.lt_size ho.1)
  have hx : x1 ≠ s.heap.objs.size := hot.2.elim fun o ho => ho.elim fun _ h => Nat.ne_of_lt (Heap.lt_size h.1)
  unfold unpackItems notIterableAtAll; refine wpAny_bind (wpAny_bind (wpAny_specialOf ht.typeIs slot_tuple_iter.lookup (wpAny_pure ?_)))
  simp only [Bool.false_eq_true, if_false]; refine wpAny_bind (wpAny_holding (iter_tuple ht (wpAny_bind (wpAny_holding (draw_tuple hlt items.size 0 _ _ ⟨_, Heap.get?_push_size _ rfl, rfl, rfl⟩ (ht.push _) (by omega) fun h₁ hit₁ hs₁ => ?_)))))
  have hall : List.take items.size (List.drop 0 items.toList) = items.toList := by rw [List.drop_zero]; exact List.take_of_length_le (by simp)
  rw [hall, if_neg (by simp)]
  have ht₁ := (ht.push { cls := .type "tuple_iterator", data := .fields #[.ref t, .int 0 0] }).extBut hs₁.extBut hlt
  have hot₁ : HotX.HotAt A x1 h₁ := hot.2.elim fun o ho => ho.elim fun vv h => ⟨hot.1, o, vv, hs₁.extBut x1 o hx (Heap.get?_push_of_some _ h.1), h.2.1, h.2.2⟩
  refine wpAny_bind (wpAny_holding (tup_end_hot hot₁ hit₁ ht₁ (by simp) fun h₂ he₂ => ?_))
  simp only [Option.isSome_none, Bool.false_eq_true, if_false]; exact wpAny_pure (hQ h₂ fun b o hb e => he₂ b o hb (hs₁.extBut b o hb (Heap.get?_push_of_some _ e)))
end
/-- (a, b, ..) = a tuple, while an error is handled -/
theorem pg_tupH {X : Cx} {pos : Pos} {es : List Expr} {k : Nat} {t : TGs} {n : Nat} (hc : L2H.HotC X) (h : PGs X es t) (hn : (assignEach es X.env).length = n := by rfl) (hst : (assignEach es X.env).findIdx? (·.1) = none := by rfl) : PG X (.Tuple es k pos) (gTup X.K n t) := by
  refine ⟨fun pins s σ H v u Q I r hw => ?_⟩
  obtain ⟨a, xs, e1, hq, hl, hw⟩ := hw; subst e1; cases r
  obtain ⟨its, rv, ht, hz⟩ := I.tuple hq; obtain ⟨x1, hot⟩ := hc.at I
  rw [assign_Tuple]; refine wpAny_bind (wpAny_standAt ?_); unfold unpack
  rw [show (assignEach es X.env).length = its.toArray.size by simp [hn, ← hl, rv.length], hst]
  refine wpAny_bind (wpAny_holding (unpack_hot hot ht fun h' hx => ?_))
  have I1 : Inv X pins σ H { s with heap := h' } := I.kept (t' := s.toks) fun b o e => hx b o (Nat.ne_of_lt (Heap.lt_size e)) e
  exact h.run pins _ σ H xs _ Q I1 (by simpa using rv) hw
/-- a def that may raise, called where it does not -/
theorem passLN {X : Cx} : Passes (L2N.CX X.prog X.w) X E0 := fun _ _ _ _ _ _ _ h => by
  obtain ⟨_, _, _, _, _, _, _, _, _, _, _, _, z⟩ := h
  exact False.elim z
end Rg
namespace Rg
open PySem PySem.Spec PyProof.Rows L2
/-! ### enumerate(tuple) -/
open Sem (wp)
open AutoSeq1 (wpAny_loadPart')
theorem meets_enumerate_newT (l : Addr) (items : Array Value) (n : Nat) (dct : Option Addr) (sl : Array (Option Value)) :
    Meets (Builtin.«enumerate.__new__» ⟨[.type "enumerate", .ref l], []⟩) (fun _ R s => s.heap.get? l = some { cls := .type "tuple", dict := dct, data := .seq items n, slots := sl } ∧
      R (.ok (.ret (.ref (s.heap.push { cls := .type "tuple_iterator", data := .fields #[.ref l, .int 0 0] }).objs.size)))
        { s with heap := (s.heap.push { cls := .type "tuple_iterator", data := .fields #[.ref l, .int 0 0] }).push { cls := .type "enumerate", data := .fields #[.none, .bool false, .ref s.heap.objs.size, rawInt 0, .none, .none] } }) :=
  .of_wp fun prog w A R s h => by
    obtain ⟨hp, g, d, tk, os⟩ := s; obtain ⟨hl, h⟩ := h
    have hsub := sub_enumerate
    have hL : Heap.IsTuple (Shared.heap ⟨hp, g, d, tk, os⟩) l items := ⟨_, hl, rfl, n, rfl⟩
    wp_walk using wpAny_loadPart' hl
    refine wpAny_stack_any fun st => wpAny_pure ?_
    split
    · rename_i c _ _ _ _ _
      cases (c == Value.type "enumerate")
      · wp_walk using wpAny_loadPart' hl, wpAny_pyIter_tuple hL
        exact ⟨_, rfl, h⟩
      · wp_walk using wpAny_loadPart' hl, wpAny_pyIter_tuple hL
        exact ⟨_, rfl, h⟩
    · wp_walk using wpAny_loadPart' hl, wpAny_pyIter_tuple hL
      exact ⟨_, rfl, h⟩
section
variable {prog : Program} {w : World} {A : Around} {E : Value → Shared → Prop} {s : Shared}
theorem call_enumerate_tuple {l : Addr} {items : Array Value} {Q : Value → Shared → Prop} (hL : s.heap.IsTuple l items)
    (h : ∀ h', IsEnum h' (s.heap.objs.size + 1) s.heap.objs.size 0 .none → h'.IsTupleIter s.heap.objs.size l 0 → h'.objs.size = s.heap.objs.size + 2 →
      (∀ b o, s.heap.get? b = some o → h'.get? b = some o) → Q (.ref (s.heap.objs.size + 1)) { s with heap := h' }) :
    wpAny (model prog w) A (call (.type "enumerate") [.ref l]) Q E s := by
  obtain ⟨⟨c, dct, dt, sl⟩, hl, hc, n, hd⟩ := hL
  replace hc : c = .type "tuple" := hc
  replace hd : dt = .seq items n := hd
  subst hc hd
  refine callType_new F.called_enumerate (by decide) (F.typeCall_enumerate_1 _) (F.newCall_enumerate_1 _) (fun obj => F.args_object_init_2 obj _) F.entry_enumerate_new
    (meets_enumerate_newT l items n dct sl) ⟨hl, ?_⟩
  have hz : (s.heap.push { cls := .type "tuple_iterator", data := .fields #[.ref l, .int 0 0] }).objs.size = s.heap.objs.size + 1 := Heap.size_push ..
  show _ ∧ _
  rw [hz]
  have he : IsEnum ((s.heap.push { cls := .type "tuple_iterator", data := .fields #[.ref l, .int 0 0] }).push
      { cls := .type "enumerate", data := .fields #[.none, .bool false, .ref s.heap.objs.size, rawInt 0, .none, .none] }) (s.heap.objs.size + 1) s.heap.objs.size 0 .none := by
    have := Heap.get?_push_size (s.heap.push { cls := .type "tuple_iterator", data := .fields #[.ref l, .int 0 0] })
      (o := { cls := .type "enumerate", data := .fields #[.none, .bool false, .ref s.heap.objs.size, rawInt 0, .none, .none] }) rfl
    rw [hz] at this; exact this
  refine ⟨⟨_, he, rfl⟩, h _ he ⟨_, Heap.get?_push_of_some _ (Heap.get?_push_size _ rfl), rfl, rfl⟩ (by rw [Heap.size_push, hz]) fun b o x => Heap.get?_push_of_some _ (Heap.get?_push_of_some _ x)⟩
end
/-- the tuple at a as it stands at each turn, each item in a new pair -/
def IteT (K : PySem.W.Frag) (a : Addr) : It :=
  ⟨fun i H => ∃ (xs : List V) (x : V), SqT K H a xs ∧ xs[i]? = some x, fun i H v H' => ∃ T x, v = .ref T ∧ H T = none ∧ H' = upd H T (.tup [.int (i : Nat), x]) ∧ ∀ xs, SqT K H a xs → xs[i]? = some x, fun i H => ∃ xs : List V, SqT K H a xs ∧ xs.length ≤ i⟩
theorem turn_enumT {P : Program} {w : World} {K : PySem.W.Frag} {elts : List Expr} {kk : Nat} {tpos : Pos} (a e it : Addr) :
    Turn P w K (.Tuple elts kk tpos) (IteT K a) [e, it] e (fun i h => (∃ old, IsEnum h e it ((i : Nat) : Int) old) ∧ h.IsTupleIter it a i ∧ e ≠ it) where
  mem := by simp
  obj := fun i h st b hb => by
    obtain ⟨⟨old, he⟩, ⟨o, ho, hc, hd⟩, _⟩ := st
    have e' : b = e ∨ b = it := by simpa using hb
    rcases e' with z | z
    · rw [z]; exact ⟨_, he, fun v q => nomatch q⟩
    · rw [z]; exact ⟨o, ho, fun v q => by rw [hd] at q; cases q⟩
  keep := fun i h h' st k => let ⟨⟨old, he⟩, hi, hne⟩ := st; ⟨⟨old, k e (by simp) _ he⟩, hi.at fun o q => k it (by simp) o q, hne⟩
  item := by
    intro X hP hw hK hc i pins s σ H E I hf st hg
    subst hP hw hK
    obtain ⟨⟨old, he⟩, hit, hne⟩ := st
    obtain ⟨xs, x, hq, hx⟩ := hg
    obtain ⟨its, rv, p, hz⟩ := I.tuple hq
    obtain ⟨u, hu, ru⟩ := rv.get hx
    have hlt : i < its.toArray.size := by
      have := (List.getElem?_eq_some_iff.mp hu).1
      simpa using this
    have hel : e < s.heap.objs.size := Heap.lt_size he
    have hil : it < s.heap.objs.size := by obtain ⟨_, q, _⟩ := hit; exact Heap.lt_size q
    have hae : a ≠ e := fun z => by
      obtain ⟨o, ho, hc', _⟩ := p
      rw [z] at ho
      have := Option.some.inj (ho.symm.trans he)
      rw [this] at hc'
      have hc2 : Value.type "enumerate" = Value.type "tuple" := hc'
      exact absurd hc2 (by decide)
    have hai : a ≠ it := fun z => by
      obtain ⟨o, ho, hc', _⟩ := p
      obtain ⟨o2, ho2, hc2, _⟩ := hit
      rw [z] at ho
      have := Option.some.inj (ho.symm.trans ho2)
      rw [this, hc2] at hc'
      exact absurd hc' (by decide)
    refine wpAny_pyNext_enum_itemD (Draws.tuple (prog := X.prog) (w := X.w) (A := X.A.in1) (I.ok.hd hc) it a hai its.toArray) he ⟨hit, p⟩ hlt hne (by simp [hne, hae.symm]) fun y h' tk hy ho hit' hT hsz hk => ?_
    have ey : y = u := by
      have e1 : its.toArray[i]? = some u := by simpa using hu
      rw [e1] at hy
      exact (Option.some.inj hy).symm
    subst ey
    refine ⟨_, rfl, wpAny_letOwnedTupleGo_enum (s := { s with heap := h', toks := tk + 1 }) ho fun h'' he' sb => ?_⟩
    have hT2 : h''.get? s.heap.objs.size = some { cls := .type "tuple", data := .seq #[.int i tk, y] } := (sb.2 _ (Nat.ne_of_gt hel)).trans hT
    have new : ObjOk X.prog X.w (upd H s.heap.objs.size (.tup [.int (i : Nat), x])) h'' s.heap.objs.size (.tup [.int (i : Nat), x]) :=
      ⟨by show 2 ≤ sizeLine; decide, [.int i tk, y], .cons ⟨_, rfl⟩ (.cons ru .nil), ⟨_, hT2, rfl, _, rfl⟩⟩
    have I1 : Inv X pins σ (upd H s.heap.objs.size (.tup [.int (i : Nat), x])) { s with heap := h'', toks := tk + 1 } :=
      I.turnedNew (t' := tk + 1) (ch := [e, it]) (fun b ob hb q => (sb.2 b (fun z => hb (by simp [z]))).trans (hk b ob (fun z => hb (by simp [z])) (fun z => hb (by simp [z])) q)) hf (Nat.le_refl _) new
    refine ⟨.ref s.heap.objs.size, _, I1, rfl, ⟨_, x, rfl, I.hok.fresh (Nat.le_refl _), rfl, fun ys hy => by rw [I.tuple_inj hy hq]; exact hx⟩, ⟨⟨y, ?_⟩, hit'.1.at fun o q => (sb.2 it (Ne.symm hne)).trans q, hne⟩, fun b hb => ?_⟩
    · have e1 : ((i + 1 : Nat) : Int) = (i : Int) + 1 := by omega
      rw [e1]; exact he'
    · have hb' : b < s.heap.objs.size := by
        have e' : b = e ∨ b = it := by simpa using hb
        rcases e' with z | z
        · rw [z]; exact hel
        · rw [z]; exact hil
      rw [upd_ne (Nat.ne_of_lt hb')]
      exact (hf b hb).1
  done := by
    intro X hP hw hK hc i pins s σ H E I hf st hg
    subst hP hw hK
    obtain ⟨⟨old, he⟩, hit, hne⟩ := st
    obtain ⟨xs, hq, hx⟩ := hg
    obtain ⟨its, rv, p, hz⟩ := I.tuple hq
    obtain ⟨f0, f1, f2, f3, f4, f5⟩ := hf it (by simp)
    have hl := rv.length
    unfold pyNext
    have hT : s.TypeIs (.ref e) "enumerate" := ⟨_, he, rfl⟩
    refine wpAny_bind (wpAny_attempt (wpAny_callSpecial?_slot (name := Str.ofString "__next__") hT F.slot_enumerate_next
      (wpAny_call_entry F.slot_enumerate_next hT F.entry_enumerate_next ?_ (F.args_enumerate_next_1 _))))
    show wpAny _ _ (field (.ref e) 2 >>= _) _ _ _
    refine wpAny_bind (wpAny_field he rfl (x := .ref it) rfl ?_)
    refine wpAny_bind (wpAny_nextOf_tuple_end (I.ok.hd hc) hit p (by simp; omega) fun h' x he' hx' => ?_)
    obtain ⟨o, ho, hc'⟩ := hx'
    refine wpAny_bind (wpAny_isInstance (T := "StopIteration") (b := true) ⟨o, ho, hc'⟩ isSubtype_stop ?_)
    exact wpAny_pure ⟨rfl, I.turned (t' := s.toks) (fun b o hb q => he' b o hb q) f0 f1 f3 f4 f5⟩
  self := fun A i s Q E st h => let ⟨⟨_, he⟩, _⟩ := st; wpAny_pyIter_enum he h
theorem walk_enumT {K : PySem.W.Frag} {a : Addr} {xs : List V} : Walk (IteT K a) xs.length (fun H => SqT K H a xs) (YPair (fun i => some (.int (i : Nat))) (fun i => xs[i]?)) := by
  refine ⟨fun i _ hi q => ⟨xs, xs[i], q, by simp [hi]⟩, fun _ q => ⟨xs, q, Nat.le_refl _⟩, fun i H v H' _ q y => ?_⟩
  obtain ⟨T, x, h1, h2, h3, h4⟩ := y
  exact ⟨T, .int (i : Nat), x, h1, h2, h3, rfl, h4 xs q⟩
/-- over a list or a tuple, which stays as it is -/
def iEnumA (ta : TA) : TI := fun σ H R => ta σ H fun vs H1 => ∃ a xs, vs = [.ref a] ∧ (H1 a = some (.lst xs) ∨ H1 a = some (.tup xs)) ∧ ∀ J, Walk J xs.length (fun H' => H' a = H1 a) (YPair (fun i => some (.int (i : Nat))) (fun i => xs[i]?)) → R J H1
theorem pi_enumA {X : Cx} {e : Expr} {ta : TA} {p pos tpos : Pos} {elts : List Expr} {kk : Nat} (hg : Gl X "enumerate") (hm : X.mg "enumerate" = none) (ha : PA X [e] ta) (hs : starEach [e] X.env = [(false, eval e X.env)] := by rfl) :
    PI X (.Tuple elts kk tpos) (.Call (.Name "enumerate" p) [e] [] pos) (iEnumA ta) := by
  refine ⟨fun pins s σ H R I h => ?_⟩
  refine Call_ (ld_blt I hg hm boot_enumerate (PyProof.Rows.callWith_type1 (thn (ha.run pos pins s σ H _ I h) fun us s1 ⟨vs, H1, I1, r1, q1⟩ => ?_) hs rfl))
  obtain ⟨a, xs, ex, hw, q⟩ := q1
  subst ex
  cases r1 with
  | cons r rr =>
    cases rr
    cases r
    have fp : ∀ b, b = s1.heap.objs.size + 1 ∨ b = s1.heap.objs.size → FpOk X pins H1 b := fun b e' => by
      have hle : s1.heap.objs.size ≤ b := by
        rcases e' with z | z
        · rw [z]; exact Nat.le_add_right _ _
        · rw [z]; exact Nat.le_refl _
      exact I1.fpOk hle (I1.hok.fresh hle)
    rcases hw with hw | hw
    · have hq : SqL X.K H1 a xs := .of hw
      have q := q (Ite X.K a) (walk_enum.mono (fun H' e => .of (e.trans hw)) fun _ _ _ _ _ _ y => y)
      obtain ⟨its, rv, p', hz⟩ := I1.list hq
      refine call_enumerate_list p'.isList fun h' he hit hsz hk => wpAny_pyIter_enum he ?_
      have I2 : Inv X pins σ H1 { s1 with heap := h' } := I1.kept (t' := s1.toks) hk
      refine ⟨s1.heap.objs.size + 1, [s1.heap.objs.size + 1, s1.heap.objs.size], _, _, H1, rfl, I2, turn_enum a (s1.heap.objs.size + 1) s1.heap.objs.size, ⟨⟨.none, he⟩, hit, Nat.succ_ne_self _⟩, fun b hb => fp b (by simpa using hb), q⟩
    · have hq : SqT X.K H1 a xs := .of hw
      have q := q (IteT X.K a) (walk_enumT.mono (fun H' e => .of (e.trans hw)) fun _ _ _ _ _ _ y => y)
      obtain ⟨its, rv, p', hz⟩ := I1.tuple hq
      refine call_enumerate_tuple p' fun h' he hit hsz hk => wpAny_pyIter_enum he ?_
      have I2 : Inv X pins σ H1 { s1 with heap := h' } := I1.kept (t' := s1.toks) hk
      refine ⟨s1.heap.objs.size + 1, [s1.heap.objs.size + 1, s1.heap.objs.size], _, _, H1, rfl, I2, turn_enumT a (s1.heap.objs.size + 1) s1.heap.objs.size, ⟨⟨.none, he⟩, hit, Nat.succ_ne_self _⟩, fun b hb => fp b (by simpa using hb), q⟩
end Rg
namespace Rg
open PySem PySem.Spec PyProof.Rows L2
/-! ### tuples of the written part -/
def relAllS (vs : List V) (us : List Value) : Bool := He.relAll vs us && decide (us.length ≤ 1000)
theorem relAllS_ok {vs : List V} {us : Array Value} (h : relAllS vs us.toList = true) : Vals vs us.toList := He.relAll_ok (Bool.and_eq_true_iff.mp h).1
theorem relAllS_sz {vs : List V} {us : Array Value} (h : relAllS vs us.toList = true) : us.size ≤ sizeLine := by
  have := of_decide_eq_true (Bool.and_eq_true_iff.mp h).2
  rw [Array.length_toList] at this
  have : 1000 ≤ sizeLine := by decide
  omega
/-! ### own classes: x in o, o op u, for x in o -/
section
variable {X : Cx} {k : Nat} {f C : Addr} {fd : FuncData} {sp : Sp}
/-- x in o, by the class's own __contains__ -/
def rInOwn (C : Addr) (sp : Sp) (c : Bool → Bool) : R2 := fun x y H Q => ∃ a dx fs, y = .ref a ∧ H a = some (.ins C dx fs) ∧ sp [.ref a, x] H (fun v H1 => ∃ b, v = .bl b ∧ Q (.bl (c b)) H1) E0
theorem op_inOwn (hm : Meth X.K C "__contains__" f) (F : FnOk X.prog X.w X.K X.mg X.base CX0 k f fd ["self", "name"] sp) (hr : Room k X.A) (hb : Binds X.K fd ["self", "name"] []) : OpR X (compareOp .In) (rInOwn C sp fun b => b) := by
  intro pins s σ H x y v u Q I rx ry h
  obtain ⟨a, dx, fs, rfl, e, h⟩ := h
  obtain rfl : u = Value.ref a := ry
  obtain ⟨mA, O, _, _, _, _⟩ := ins_get I.hok e
  obtain ⟨od, at_, _⟩ := O.look
  obtain ⟨m, fr⟩ := I.fr
  refine PySem.W.in_K fr I.mod.kin at_ hm.at_ hm.fn ?_
  refine wpAny_mono (run_fn (us := [.ref a, v]) (vs := [.ref a, x]) F hr hb .nil pass0 I (.cons rfl (.cons rx .nil)) h) (fun r s' hq => ?_) fun _ _ z => z
  obtain ⟨z, H1, I1, rz, b, rfl, q⟩ := hq
  obtain rfl : r = Value.bool b := rz
  exact wpAny_truthy_bool ⟨.bl b, H1, I1, rfl, q⟩
theorem op_notInOwn (hm : Meth X.K C "__contains__" f) (F : FnOk X.prog X.w X.K X.mg X.base CX0 k f fd ["self", "name"] sp) (hr : Room k X.A) (hb : Binds X.K fd ["self", "name"] []) : OpR X (compareOp .NotIn) (rInOwn C sp fun b => !b) := by
  intro pins s σ H x y v u Q I rx ry h
  obtain ⟨a, dx, fs, rfl, e, h⟩ := h
  obtain rfl : u = Value.ref a := ry
  obtain ⟨mA, O, _, _, _, _⟩ := ins_get I.hok e
  obtain ⟨od, at_, _⟩ := O.look
  obtain ⟨m, fr⟩ := I.fr
  refine PySem.W.notIn_K fr I.mod.kin at_ hm.at_ hm.fn ?_
  refine wpAny_mono (run_fn (us := [.ref a, v]) (vs := [.ref a, x]) F hr hb .nil pass0 I (.cons rfl (.cons rx .nil)) h) (fun r s' hq => ?_) fun _ _ z => z
  obtain ⟨z, H1, I1, rz, b, rfl, q⟩ := hq
  obtain rfl : r = Value.bool b := rz
  exact wpAny_truthy_bool ⟨.bl (!b), H1, I1, rfl, q⟩
/-- o op u, both of the class C, by its own method -/
def rOpOwn (C : Addr) (sp : Sp) : R2 := fun x y H Q => ∃ a dx fs b dy gs, x = .ref a ∧ y = .ref b ∧ H a = some (.ins C dx fs) ∧ H b = some (.ins C dy gs) ∧ sp [.ref a, .ref b] H (fun v H1 => Q v H1) E0
theorem op_own {op : Operator} {ps : List Str} (hs : PySem.W.selfFirst X.K C = true) (hm : Meth X.K C (PySem.dunder op.info.2) f) (F : FnOk X.prog X.w X.K X.mg X.base CX0 k f fd ps sp) (hr : Room k X.A) (hb : Binds X.K fd ps []) : OpR X (binaryOp op) (rOpOwn C sp) := by
  intro pins s σ H x y v u Q I rx ry h
  obtain ⟨a, dx, fs, b, dy, gs, rfl, rfl, e, e', h⟩ := h
  obtain rfl : v = Value.ref a := rx
  obtain rfl : u = Value.ref b := ry
  obtain ⟨mA, O, _, _, _, _⟩ := ins_get I.hok e
  obtain ⟨od, at_, _⟩ := O.look
  obtain ⟨mB, O', _, _, _, _⟩ := ins_get I.hok e'
  obtain ⟨od', at', _⟩ := O'.look
  obtain ⟨m, fr⟩ := I.fr
  refine PySem.W.binop_K fr I.mod.kin at_ at'.type hs hm.at_ hm.fn ?_
  refine wpAny_mono (run_fn (us := [.ref a, .ref b]) (vs := [.ref a, .ref b]) F hr hb .nil pass0 I (.cons rfl (.cons rfl .nil)) h) (fun r s' hq => ?_) fun _ _ z => z
  obtain ⟨z, H1, I1, rz, q⟩ := hq
  cases z with
  | non => cases rz; exact ⟨.non, H1, I1, rfl, q⟩
  | bl b => cases rz; exact ⟨.bl b, H1, I1, rfl, q⟩
  | int i => obtain ⟨t, rfl⟩ := rz; exact ⟨.int i, H1, I1, ⟨t, rfl⟩, q⟩
  | str i => obtain ⟨t, rfl⟩ := rz; exact ⟨.str i, H1, I1, ⟨t, rfl⟩, q⟩
  | byt i => obtain ⟨t, rfl⟩ := rz; exact ⟨.byt i, H1, I1, ⟨t, rfl⟩, q⟩
  | flt i => obtain ⟨t, rfl⟩ := rz; exact ⟨.flt i, H1, I1, ⟨t, rfl⟩, q⟩
  | ref i => cases rz; exact ⟨.ref i, H1, I1, rfl, q⟩
  | ty i => cases rz; exact ⟨.ty i, H1, I1, rfl, q⟩
end
/-! ### iter(t), t a tuple; walks by an own __iter__ that hands it back -/
abbrev itT (l : Addr) : Obj := { cls := .type "tuple_iterator", data := .fields #[.ref l, .int 0 0] }
def ItTO (l it : Addr) : HO := .ext fun h => h.get? it = some (itT l)
theorem itTO_ok {P : Program} {w : World} {H : Hp} {h : Heap} {l it : Addr} (e : h.get? it = some (itT l)) : ObjOk P w H h it (ItTO l it) := ⟨e, ⟨_, e⟩, fun h1 h2 q k => k _ q⟩
theorem call_iter_tup {prog : Program} {w : World} {A : Around} {E : Value → Shared → Prop} {s : Shared} {l : Addr} {items : Array Value} {Q : Value → Shared → Prop} (hl : s.heap.IsTuple l items) (h : Q (.ref s.heap.objs.size) { s with heap := s.heap.push (itT l) }) : wpAny (model prog w) A (call (.builtin "iter") [.ref l]) Q E s := by
  refine Calls.call_function_entry (by decide +kernel) (by decide +kernel) PySem.W.kdk_entry_iter (PySem.W.kdk_args_iter _) ?_
  unfold Builtin.«iter»
  refine wpAny_bind (m := PySem.someArgs "iter" 1 2 _) (wpAny_of_eq (a := [Value.ref l]) (by first | rfl | kernel_rfl!) ?_)
  show wpAny _ _ (pyIter (.ref l) >>= _) _ _ _
  refine wpAny_bind (wpAny_pyIter_tuple hl ?_)
  exact wpAny_pure ⟨_, rfl, h⟩
def rIterT (K : PySem.W.Frag) (n : Nat) : List V → Hp → VK → Prop := fun xs H Q => ∃ (l : Addr) (zs : List V), xs = [.ref l] ∧ SqT K H l zs ∧ ∀ it, H it = none → n ≤ it → Q (.ref it) (upd H it (ItTO l it))
theorem call_iterT {X : Cx} : CallR X (.builtin "iter") (rIterT X.K X.s_0.heap.objs.size) := by
  intro pins s σ H xs us Q I r h
  obtain ⟨l, zs, rfl, hq, q⟩ := h
  obtain ⟨u, rfl, ru⟩ := vals1 r
  cases ru
  obtain ⟨its, rv, pl, hz⟩ := I.tuple hq
  refine call_iter_tup (show s.heap.IsTuple l its.toArray from pl) ?_
  exact ⟨.ref s.heap.objs.size, _, I.laid (t' := s.toks) (fun b u e => Heap.get?_push_of_some _ e) (Nat.le_refl _) (itTO_ok (Heap.get?_push_size _ rfl)), rfl, q _ (I.hok.fresh (Nat.le_refl _)) I.sz⟩
/-- a def whose promise knows how many objects there are at its entry -/
structure FnS (P : Program) (w : World) (K : PySem.W.Frag) (mg : Str → Option Value) (base : Heap) (k : Nat) (f : Addr) (fd : FuncData) (ps : List Str) (sp : Nat → Sp) : Prop where
  run : ∀ (A : Around) (outer : List Env) (s : Shared) (H : Hp) (args : Args) (us : List Value) (vs : List V) (Q : VK), Room k A → Env0 P w K mg base A outer s H → BindsTo s fd args (ps.zip us) → Vals vs us → sp s.heap.objs.size vs H Q E0 →
    codeAny (model P w) A (.call (.ref f) args) (CR CX0 outer P w H s Q E0) s
theorem _root_.L2.Fun.okS {P : Program} {w : World} {K : PySem.W.Frag} {mg : Str → Option Value} {base : Heap} {x qual : Str} {st : Stmt} {f : Addr} {fd : FuncData} {N ps : List Str} {k : Nat} {sp : Nat → Sp} (F : Fun K x qual st f fd) (S : FnScope N ps (defScope st)) (len : ∀ n vs H Q E, sp n vs H Q E → vs.length = ps.length)
    (hbody : ∀ (cdv : Value) (A : Around) (outer : List Env) (s : Shared) (H : Hp) (vs : List V) (Q : VK), Room k (A.deeper (envOfC qual (defScope st) s.heap.objs.size f cdv)) → sp s.heap.objs.size vs H Q E0 →
      ∃ t, PSs (cxOf CX0 P w K mg base N qual (defScope st) f cdv A outer s H E0) (defBody st) t ∧ t { nx := fun _ H' => Q .non H', rt := Q } (L2.start N vs) H) : FnS P w K mg base (k + 1) f fd ps sp := by
  obtain ⟨oc, od, kV, doc, pm, an, cdv, ct, osl, rfl, lk, hcd⟩ := F.ex
  exact ⟨fun A outer s H args us vs Q hr e0 hb r hsp => LamX.run_ofS lk hcd S hr e0 hb r (len _ _ _ _ _ hsp) fun hr' => hbody _ A outer s H vs Q hr' hsp⟩
/-- o walked: o's class at C has an own __iter__ that keeps sp and hands back a tuple's iterator -/
def iOwnT (K : PySem.W.Frag) (C : Addr) (sp : Nat → Sp) (te : TE) : TI := fun σ H R => te σ H fun x H1 => ∃ a dx fs, x = .ref a ∧ H1 a = some (.ins C dx fs) ∧
  ∀ n, sp n [.ref a] H1 (fun v H2 => ∃ it l xs, v = .ref it ∧ n ≤ it ∧ H2 it = some (ItTO l it) ∧ SqT K (ItX.dropH H2 it) l xs ∧ R (Itt K l) (ItX.dropH H2 it)) E0
theorem pi_ownT {X : Cx} {k : Nat} {f C : Addr} {fd : FuncData} {sp : Nat → Sp} {e tg : Expr} {te : TE} (hm : Meth X.K C "__iter__" f) (F : FnS X.prog X.w X.K X.mg X.base k f fd ["self"] sp) (hr : Room k X.A) (hb : Binds X.K fd ["self"] []) (he : PE X e te) : PI X tg e (iOwnT X.K C sp te) := by
  refine ⟨fun pins s σ H R I h => thn (he.run pins s σ H _ I h) fun v s1 ⟨x, H1, I1, r1, a, dx, fs, ex, ea, h⟩ => ?_⟩
  subst ex
  obtain rfl : v = Value.ref a := r1
  obtain ⟨mA, O, _, _, _, _⟩ := ins_get I1.hok ea
  obtain ⟨od, at_, _⟩ := O.look
  obtain ⟨m, fr⟩ := I1.fr
  refine PySem.W.owit_iter fr I1.mod.kin at_ hm.at_ hm.fn ?_
  refine wpAny_call (codeAny_mono (F.run X.A X.stack s1 H1 ⟨[.ref a], []⟩ [.ref a] [.ref a] _ hr I1.env0 (hb s1 [.ref a] I1.kIn rfl) (.cons rfl .nil) (h _)) fun r s2 hq => ?_)
  cases r with
  | error e => exact hq.elim
  | ok fl =>
    cases fl with
    | ret u =>
      obtain ⟨z, H2, os, bare, un, hok, rz, it, l, xs, rfl, young, hit, hl, hR⟩ := hq
      obtain rfl : u = Value.ref it := rz
      obtain ⟨hh, g, d, t, os'⟩ := s2
      obtain rfl : os' = s1.os := os
      have I2 : Inv X pins σ H2 ⟨hh, g, d, t, s1.os⟩ := I1.call (h' := hh) (g' := g) (d' := d) (t' := t) (ch := []) un hok bare (fun b z => absurd z (by simp))
      have I3 := ItX.inv_drop I2 hit
      have at3 : hh.get? it = some (itT l) := (I2.hok it _ hit).1
      unfold PySem.W.OwitIt
      have hst : hh.IsTupleIter it l 0 := ⟨_, at3, rfl, rfl⟩
      refine wpAny_specialOf (name := Str.ofString "__next__") (T := "tuple_iterator") (Heap.IsTupleIter.typeIs (s := ⟨hh, g, d, t, s1.os⟩) hst) PySem.F.slot_tuple_iterator_next.lookup ?_
      refine ⟨it, [it], _, Itt X.K l, _, rfl, I3, turn_tuple l it, hst, fun b hb => ?_, hR⟩
      have e : b = it := by simpa using hb
      subst e
      exact ItX.inv_fp I2 hit (Nat.le_trans I1.sz young)
    | next => exact False.elim hq
    | brk => exact False.elim hq
    | cont => exact False.elim hq
/-! ### a walk over a list or a tuple -/
def iSeq (K : PySem.W.Frag) (tl : TE) : TI := fun σ H R => tl σ H fun x H1 => ∃ a, x = .ref a ∧ (((∃ xs, SqL K H1 a xs) ∧ R (Itl K a) H1) ∨ ((∃ xs, SqT K H1 a xs) ∧ R (Itt K a) H1))
theorem pi_seq {X : Cx} {tg l : Expr} {tl : TE} (hl : PE X l tl) : PI X tg l (iSeq X.K tl) := by
  refine ⟨fun pins s σ H R I h => ?_⟩
  refine thn (hl.run pins s σ H _ I h) fun v s1 ⟨x, H1, I1, r1, q1⟩ => ?_
  obtain ⟨a, e, q⟩ := q1
  subst e
  cases r1
  rcases q with ⟨⟨xs, hq⟩, q⟩ | ⟨⟨xs, hq⟩, q⟩
  · obtain ⟨its, rv, p, hz⟩ := I1.list hq
    refine wpAny_pyIter_list p.isList ?_
    refine ⟨s1.heap.objs.size, [s1.heap.objs.size], _, _, H1, rfl, I1.kept (t' := s1.toks) fun b o e => Heap.get?_push_of_some _ e, turn_list a _, ⟨_, Heap.get?_push_size _ rfl, rfl, rfl⟩, fun b hb => ?_, q⟩
    have e : b = s1.heap.objs.size := by simpa using hb
    subst e
    exact I1.fpOk (Nat.le_refl _) (I1.hok.fresh (Nat.le_refl _))
  · obtain ⟨its, rv, p, hz⟩ := I1.tuple hq
    refine wpAny_pyIter_tuple (show s1.heap.IsTuple a its.toArray from p) ?_
    refine ⟨s1.heap.objs.size, [s1.heap.objs.size], _, _, H1, rfl, I1.kept (t' := s1.toks) fun b o e => Heap.get?_push_of_some _ e, turn_tuple a _, ⟨_, Heap.get?_push_size _ rfl, rfl, rfl⟩, fun b hb => ?_, q⟩
    have e : b = s1.heap.objs.size := by simpa using hb
    subst e
    exact I1.fpOk (Nat.le_refl _) (I1.hok.fresh (Nat.le_refl _))
/-! ### enumerate of a tuple that may be written -/
def iEnumT (K : PySem.W.Frag) (ta : TA) : TI := fun σ H R => ta σ H fun vs H1 => ∃ a xs, vs = [.ref a] ∧ SqT K H1 a xs ∧ R (IteT K a) H1
theorem pi_enumT {X : Cx} {e : Expr} {ta : TA} {p pos tpos : Pos} {elts : List Expr} {kk : Nat} (hg : Gl X "enumerate") (hm : X.mg "enumerate" = none) (ha : PA X [e] ta) (hs : starEach [e] X.env = [(false, eval e X.env)] := by rfl) :
    PI X (.Tuple elts kk tpos) (.Call (.Name "enumerate" p) [e] [] pos) (iEnumT X.K ta) := by
  refine ⟨fun pins s σ H R I h => ?_⟩
  refine Call_ (ld_blt I hg hm boot_enumerate (PyProof.Rows.callWith_type1 (thn (ha.run pos pins s σ H _ I h) fun us s1 ⟨vs, H1, I1, r1, q1⟩ => ?_) hs rfl))
  obtain ⟨a, xs, ex, hq, q⟩ := q1
  subst ex
  cases r1 with
  | cons r rr =>
    cases rr
    cases r
    have fp : ∀ b, b = s1.heap.objs.size + 1 ∨ b = s1.heap.objs.size → FpOk X pins H1 b := fun b e' => by
      have hle : s1.heap.objs.size ≤ b := by
        rcases e' with z | z
        · rw [z]; exact Nat.le_add_right _ _
        · rw [z]; exact Nat.le_refl _
      exact I1.fpOk hle (I1.hok.fresh hle)
    obtain ⟨its, rv, p', hz⟩ := I1.tuple hq
    refine call_enumerate_tuple p' fun h' he hit hsz hk => wpAny_pyIter_enum he ?_
    have I2 : Inv X pins σ H1 { s1 with heap := h' } := I1.kept (t' := s1.toks) hk
    refine ⟨s1.heap.objs.size + 1, [s1.heap.objs.size + 1, s1.heap.objs.size], _, _, H1, rfl, I2, turn_enumT a (s1.heap.objs.size + 1) s1.heap.objs.size, ⟨⟨.none, he⟩, hit, Nat.succ_ne_self _⟩, fun b hb => fp b (by simpa using hb), q⟩
/-! ### an object made, a static method called, where the body may raise -/
section
variable {X : Cx} {CX : CXT} {k : Nat} {f C g : Addr} {mc : Value} {fd : FuncData} {ps : List Str} {sp : Sp} {E : L2.St → XK} {x m : Str} {p pos apos : Pos} {e : Expr} {es : List Expr} {t : TA} {pl : Sem Bool}
theorem run_makeS {pins : List (Addr × Obj)} {σ : L2.St} {H : Hp} {s : Shared} {Q : VK} {us : List Value} {vs : List V} (M : Mk X.K C f) (F : FnOk X.prog X.w X.K X.mg X.base CX k f fd ps sp) (hr : Room (k + 1) X.A) (hb : Binds X.K fd ps []) (hx : PassesAt CX X σ (E σ)) (I : Inv X pins σ H s) (r : Vals vs us)
    (h : ∀ x dx, H x = none → H dx = none → dx ≠ x → sp (.ref x :: vs) (upd (upd H dx (.own x)) x (.ins C dx [])) (fun v H2 => v = .non ∧ Q (.ref x) H2) (E σ)) :
    wpAny (model X.prog X.w) X.A (call (.ref C) us) (EP X pins σ Q) X.xe s := by
  have hq := h (s.heap.objs.size + 1) s.heap.objs.size (I.hok.fresh (Nat.le_succ _)) (I.hok.fresh (Nat.le_refl _)) (Nat.ne_of_lt (Nat.lt_succ_self _))
  have I2 := Inv.made (C := C) I
  have r2 : Vals (V.ref (s.heap.objs.size + 1) :: vs) (Value.ref (s.heap.objs.size + 1) :: us) := .cons rfl r
  have hl : (Value.ref (s.heap.objs.size + 1) :: us).length = ps.length := by
    have e := r2.length
    rw [F.len _ _ _ _ hq] at e
    exact e.symm
  have b := hb _ (Value.ref (s.heap.objs.size + 1) :: us) I2.kIn (by rw [List.append_nil]; exact hl)
  rw [List.append_nil] at b
  refine wpAny_call (make_map (f := f) I.kIn M.makes M.init (beq_iff_eq.mp M.fn) (codeAny_mono (F.run _ X.stack _ _ ⟨Value.ref (s.heap.objs.size + 1) :: us, []⟩ (Value.ref (s.heap.objs.size + 1) :: us) _ _ (E σ) (hr.make C us [])
    (I2.env0.make C us []) b r2 hq) fun r s' hq' => ?_))
  cases r with
  | error e => exact hx pins _ _ e s' I2 hq'
  | ok fl =>
    cases fl with
    | ret u =>
      obtain ⟨v, H', I3, rv, ev, q3⟩ := I2.after hq'
      subst ev
      exact ⟨rv, ⟨V.ref (s.heap.objs.size + 1), H', I3, rfl, q3⟩⟩
    | next => exact False.elim hq'
    | brk => exact False.elim hq'
    | cont => exact False.elim hq'
def tMakeS (C : Addr) (sp : Sp) (E : L2.St → XK) (t : TA) : TE := fun σ H Q => t σ H fun vs H1 => ∀ x dx, H1 x = none → H1 dx = none → dx ≠ x → sp (.ref x :: vs) (upd (upd H1 dx (.own x)) x (.ins C dx [])) (fun v H2 => v = .non ∧ Q (.ref x) H2) (E σ)
theorem pe_makeS (M : Mk X.K C f) (F : FnOk X.prog X.w X.K X.mg X.base CX k f fd ps sp) (hr : Room (k + 1) X.A) (hg : Gl X x) (hm : X.mg x = some (.ref C)) (hb : Binds X.K fd ps []) (hx : ∀ σ, PassesAt CX X σ (E σ))
    (ha : PA X (e :: es) t) (hdb : (x == ("__debug__" : Str)) = false := by decide) (he : starEach (e :: es) X.env = (false, eval e X.env) :: starEach es X.env := by rfl) (hpl : (backTo pos (starEach es X.env)).any (·.1) = false := by rfl) :
    PE X (.Call (.Name x p) (e :: es) [] pos) (tMakeS C sp E t) := by
  refine ⟨fun pins s σ H Q I h => ?_⟩
  refine wpAny_Call_Name_kw (ld_glob I hg hm ?_ hdb)
  refine PySem.W.callWith_K (h₀ := X.base) I.ok.mod.kin M.kp (thn (ha.run pos pins s σ H _ I h) fun us s1 ⟨vs, H1, I1, r, q⟩ => ⟨I1.kIn, ?_⟩) he hpl
  exact run_makeS M F hr hb (hx σ) I1 r q
def tSMethS (sp : Sp) (E : L2.St → XK) (t : TA) : TE := fun σ H Q => t σ H fun vs H2 => sp vs H2 Q (E σ)
theorem pe_smethS (hmx : X.mg x = some (.ref C)) (r : ClX.CRead X.K C mc) (c : SMet X.K C mc m g) (F : FnOk X.prog X.w X.K X.mg X.base CX k g fd ps sp) (hr : Room k X.A) (hb : Binds X.K fd ps []) (hx : ∀ σ, PassesAt CX X σ (E σ)) (ha : PA X (e :: es) t) (hg : Gl X x := by rfl) (hdb : (x == ("__debug__" : Str)) = false := by decide)
    (hst : starEach (e :: es) X.env = (false, eval e X.env) :: starEach es X.env := by rfl) (hpl : (backTo pos (starEach es X.env)).any (·.1) = false := by rfl)
    (ht : eval (.Call (.Attribute (.Name x p) m apos) (e :: es) [] pos) X.env = (do
      let ov ← eval (.Name x p) X.env
      standAt apos.atName
      let (f, first) ← holding [ov] (getMethod ov m pl)
      callWith pos f first (backTo pos (starEach (e :: es) X.env)) (backToKw pos (keywordEach [] X.env))) := by rfl) :
    PE X (.Call (.Attribute (.Name x p) m apos) (e :: es) [] pos) (tSMethS sp E t) := by
  obtain ⟨q, at_, ⟨rest, hp⟩, hk⟩ := c.ex
  refine ⟨fun pins s σ H Q I h => ?_⟩
  refine PySem.W.methodCall_KW (pl := pl) (ld_glob I hg hmx ?_ hdb) ht
  refine PySem.W.method_cls I.kIn r.ga (PySem.W.cls_bind I.kIn r.rd at_ ?_)
  refine wpAny_call (PySem.W.sm_get (s := { s with toks := s.toks + 1 }) I.kIn hp (PySem.W.handed_on rfl ?_))
  refine PySem.W.callWith_K (f := .ref g) (first := []) (h₀ := X.base) I.ok.mod.kin hk (thn (ha.run pos pins _ σ H _ (I.tok _) h) fun us s1 ⟨vs, H1, I1, r1, q1⟩ => ⟨I1.kIn, ?_⟩) hst hpl
  exact run_fnS F hr hb (hx σ) I1 r1 q1
theorem pe_smeth0 (hmx : X.mg x = some (.ref C)) (r : ClX.CRead X.K C mc) (c : SMet X.K C mc m g) {E : XK} (F : FnOk X.prog X.w X.K X.mg X.base CX k g fd ps sp) (hr : Room k X.A) (hb : Binds X.K fd ps []) (hx : Passes CX X E) (hg : Gl X x := by rfl) (hdb : (x == ("__debug__" : Str)) = false := by decide)
    (ht : eval (.Call (.Attribute (.Name x p) m apos) [] [] pos) X.env = (do
      let ov ← eval (.Name x p) X.env
      standAt apos.atName
      let (f, first) ← holding [ov] (getMethod ov m pl)
      callWith pos f first (backTo pos (starEach [] X.env)) (backToKw pos (keywordEach [] X.env))) := by rfl) :
    PE X (.Call (.Attribute (.Name x p) m apos) [] [] pos) (fun σ H Q => sp [] H Q E) := by
  obtain ⟨q, at_, ⟨rest, hp⟩, hk⟩ := c.ex
  refine ⟨fun pins s σ H Q I h => ?_⟩
  refine PySem.W.methodCall_KW (pl := pl) (ld_glob I hg hmx ?_ hdb) ht
  refine PySem.W.method_cls I.kIn r.ga (PySem.W.cls_bind I.kIn r.rd at_ ?_)
  refine wpAny_call (PySem.W.sm_get (s := { s with toks := s.toks + 1 }) I.kIn hp (PySem.W.handed_on rfl ?_))
  exact PySem.W.callWith_K0 (first := []) (I.tok (s.toks + 1)).kIn hk (run_fn (us := []) (vs := []) F hr hb .nil hx (I.tok (s.toks + 1)) .nil h)
end
/-! ### isinstance(e, (c1, c2, ..)), e the exception that the suite holds -/
def rIsET (K : PySem.W.Frag) (D a : Addr) : List V → Hp → VK → Prop := fun xs H Q => ∃ (tp : Addr) (cs : List V) (us : List Value) (b : Bool), xs = [.ref a, .ref tp] ∧ H tp = some (.tup cs) ∧ Paired ClsV cs us ∧ PySem.W.kitAny K (.ref D) us = some b ∧ Q (.bl b) H
theorem call_isET {X : Cx} {a D : Addr} {oe : Obj} {pn : List (Addr × Obj)} (C : ExcC X.K D) (hz : Zc (.ref D) none oe) (hf : ∃ vs, oe.data = .fields vs) : CallR (X.suite a ((a, oe) :: pn)) (.builtin "isinstance") (rIsET X.K D a) := by
  intro pins s σ H xs us Q I r h
  obtain ⟨tp, cs, ws, b, rfl, hT, k, e, q⟩ := h
  cases r with
  | cons rx rr =>
    cases rr with
    | cons rt rr =>
      cases rr
      cases rx
      cases rt
      obtain ⟨hget, _⟩ := I.pin (a, oe) (List.mem_append.mpr (.inl List.mem_cons_self))
      obtain ⟨vs, hv⟩ := hf
      have J : PySem.W.InstAt s.heap a oe D none := by
        obtain ⟨oc, od, oda, osl⟩ := oe
        obtain ⟨h1, h2⟩ := hz
        dsimp only at h1 h2 hv
        subst h1 h2 hv
        exact ⟨hget, rfl, rfl, trivial⟩
      obtain ⟨_, its, rv, o, h1, h2, n, h3⟩ := (show ObjOk X.prog X.w H s.heap tp (.tup cs) from I.hok tp _ hT)
      have e3 := ClsV.all k rv
      subst e3
      obtain ⟨oc, od, dt, sl⟩ := o
      simp only at h2 h3
      subst h2 h3
      exact PySem.W.kia_tup (PySem.W.handS_kitx_exc C.hg C.hk C.hs C.hd C.ha C.hn C.ht C.hm) I.kIn J h1 e (fun z => nomatch z) fun tk => ⟨.bl b, H, I.kept (t' := tk) fun _ _ z => z, rfl, q⟩
end Rg
namespace Rg
open PySem PySem.Spec PyProof.Rows L2
theorem op_inK {X : Cx} {K : PySem.W.Frag} (hK : X.K = K := by rfl) : OpR X (compareOp .In) (rIn K false) := by
  subst hK
  exact op_in_seq
theorem pg_tupK {X : Cx} {K : PySem.W.Frag} {es : List Expr} {k n : Nat} {pos : Pos} {t : TGs} (hc : X.calm = true) (h : PGs X es t) (hn : (assignEach es X.env).length = n := by rfl) (hst : (assignEach es X.env).findIdx? (·.1) = none := by rfl) (hK : X.K = K := by rfl) : PG X (.Tuple es k pos) (gTup K n t) := by
  subst hK
  exact pg_tup hc h hn hst
def tTru (K : PySem.W.Frag) (ta : TE) : TT := fun σ H Q => ta σ H fun x H' => ∃ k, TruV K x H' k ∧ Q k H'
theorem pt_truthK {X : Cx} {K : PySem.W.Frag} {a : Expr} {ta : TE} (ha : PE X a ta) (he : ∀ whole, isTrue a X.env whole = (do let v ← whole; standAt a.pos; holding [v] (truthy v))) (hK : X.K = K := by rfl) : PT X a (tTru K ta) := by
  subst hK
  exact pt_truth ha he
theorem op_notInK {X : Cx} {K : PySem.W.Frag} (hK : X.K = K := by rfl) : OpR X (compareOp .NotIn) (rIn K true) := by
  subst hK
  exact op_notIn_seq
end Rg
namespace RT
open PySem PySem.Spec PyProof.Rows
open Builtin
section
variable {prog : Program} {w : World} {A : Around} {E : Value → Shared → Prop} {s : Shared}
theorem list_init_rev {R : Result → Shared → Prop} {it l S : Addr} {items : Array Value} (hh : A.handled = none) (hit : s.heap.IsRevIter it l ((items.size : Int) - 1)) (hl : s.heap.IsList l items) (hne : l ≠ it) (hn : items.size ≤ sizeLine) (hSi : S ≠ it) (hSl : S ≠ l)
    (hS : s.heap.get? S = some { cls := .type "list", data := .seq #[] })
    (hR : ∀ (h' : Heap) (tk : Nat) (acc' : Array Value) (c' : Nat), (∀ b o, b ≠ S → b ≠ it → s.heap.get? b = some o → h'.get? b = some o) → h'.get? S = some { cls := .type "list", dict := none, data := .seq acc' c', slots := #[] } → ItemsOf (fun i v => items[items.size - 1 - i]? = some v) acc' items.size → R (.ok (.ret .none)) { s with heap := h', toks := tk }) :
    wpAny (model prog w) A.in1 (Builtin.«list.__init__» ⟨[.ref S, .ref it], []⟩)
      (fun fin s' => match fin with | .done f => R (.ok f) s' | .again c' => c'.quiet = true ∧ codeAny (model prog w) A c' R s') (fun e s' => R (.error e) s') s := by
  have W := (Walks.listRev (prog := prog) (w := w) (A := A.in1) hh it l hne items).toS
  have hSf : S ∉ [it, l] := by simp only [List.mem_cons, List.not_mem_nil, or_false, not_or]; exact ⟨hSi, hSl⟩
  show wpAny _ A.in1 (do let old ← Builtin.List.listItems (.ref S); Builtin.List.listUpdate (.ref S) (fun _ => #[]); letGo old.toList.reverse; Builtin.List.listExtendWith (.ref S) (.ref it) .none) _ _ s
  refine wpAny_bind ?_
  unfold Builtin.List.listItems
  refine wpAny_bind (wpAny_seqItems hS rfl (wpAny_pure ?_))
  show wpAny _ A.in1 (updateSeq S (fun _ => #[]) >>= fun _ => letGo (#[] : Array Value).toList.reverse >>= fun _ => Builtin.List.listExtendWith (.ref S) (.ref it) .none) _ _ s
  refine wpAny_bind (wpAny_updateSeq hS rfl ?_)
  have hS₂ := Heap.get?_update_self (Obj.mapSeq (fun _ => (#[] : Array Value))) hS rfl
  have oth : ∀ b o, b ≠ S → s.heap.get? b = some o → (s.heap.update S (Obj.mapSeq (fun _ => (#[] : Array Value)))).get? b = some o :=
    fun b o hb e => (Heap.get?_update_other _ _ (Ne.symm hb)).trans e
  refine wpAny_bind (wpAny_letGo ?_)
  have hit1 : (s.heap.update S (Obj.mapSeq (fun _ => (#[] : Array Value)))).IsRevIter it l ((items.size : Int) - 1) := hit.at fun o e => oth _ _ (Ne.symm hSi) e
  obtain ⟨ol, hol, q1, q2⟩ := id hl
  have hl1 : (s.heap.update S (Obj.mapSeq (fun _ => (#[] : Array Value)))).IsList l items := ⟨ol, oth _ _ (Ne.symm hSl) hol, q1, q2⟩
  have hT : ({ s with heap := s.heap.update S (Obj.mapSeq (fun _ => (#[] : Array Value))) } : Shared).TypeIs (.ref it) "list_reverseiterator" := Heap.IsRevIter.typeIs (s := { s with heap := s.heap.update S (Obj.mapSeq (fun _ => (#[] : Array Value))) }) hit1
  have h1 : Builtin.List.listSameRef (.ref S) (.ref it) = false := by simp [Builtin.List.listSameRef, hSi]
  unfold Builtin.List.listExtendWith
  refine wpAny_bind (wpAny_typeOf hT ?_)
  rw [if_neg (by rw [h1]; decide)]
  refine wpAny_bind (wpAny_pyIter_revIter (s := { s with heap := s.heap.update S (Obj.mapSeq (fun _ => (#[] : Array Value))) }) hit1 ?_)
  refine wpAny_bind (wpAny_holding ?_)
  unfold Builtin.List.listLengthHint
  refine wpAny_bind (wpAny_specialOf hT nolen_lri ?_)
  show wpAny _ A.in1 (specialOf (Value.ref it) (Str.ofString "__length_hint__") >>= _) _ _ _
  refine wpAny_bind (wpAny_specialOf hT hint_lri ?_)
  generalize hid : ("list_reverseiterator.__length_hint__" : String) = id0
  wp_delta
  rw [show splitId id0 = some ("list_reverseiterator", "__length_hint__") from by subst hid; decide +kernel]
  subst hid
  refine wpAny_bind (wpAny_isInstance (b := true) hT (by rw [isSubtype_type]; kernel_rfl) ?_)
  refine wpAny_pure ?_
  rw [if_neg (by decide)]
  have e0 : ((items.size : Nat) : Int) - 1 - ((0 : Nat) : Int) = (items.size : Int) - 1 := by omega
  refine wpAny_pure ⟨plainId_quiet F.plain_extend_loop _, codeAny_extend_loopS W hn _ hSf _ items.size 0 _ _ _ rfl (Nat.zero_le _) ⟨Nat.zero_le _, by rw [e0]; exact hit1, hl1⟩ hS₂ (ItemsOf.nil _) fun s' acc' c' hm hS' hacc => ?_⟩
  rw [Moved.eq_with hm]
  refine hR s'.heap s'.toks acc' c' (fun b o hb hi e => hm.heap b o (fun hmem => ?_) (oth b o hb e)) hS' hacc
  rcases List.mem_cons.mp hmem with e' | hmem
  · exact hb e'
  · exact hi (List.mem_singleton.mp hmem)
theorem call_list_rev {it l : Addr} {items : Array Value} {Q : Value → Shared → Prop} (hh : A.handled = none) (hit : s.heap.IsRevIter it l ((items.size : Int) - 1)) (hl : s.heap.IsList l items) (hne : l ≠ it) (hn : items.size ≤ sizeLine)
    (hQ : ∀ (h' : Heap) (tk : Nat) (acc : Array Value) (c : Nat), (∀ b o, b ≠ it → s.heap.get? b = some o → h'.get? b = some o) → h'.get? s.heap.objs.size = some { cls := .type "list", dict := none, data := .seq acc c, slots := #[] } → ItemsOf (fun i v => items[items.size - 1 - i]? = some v) acc items.size → Q (.ref s.heap.objs.size) { s with heap := h', toks := tk }) :
    wpAny (model prog w) A (call (.type "list") [.ref it]) Q E s := by
  obtain ⟨oi, hoi, _⟩ := id hit
  obtain ⟨ol, hol, _⟩ := id hl
  have hSi : s.heap.objs.size ≠ it := Nat.ne_of_gt (Heap.lt_size hoi)
  have hSl : s.heap.objs.size ≠ l := Nat.ne_of_gt (Heap.lt_size hol)
  refine callType_codes (Q₁ := fun obj s₁ => obj = .ref s.heap.objs.size ∧ s₁ = { s with heap := s.heap.push { cls := .type "list", data := .seq #[] } }) F.called_list (F.typeCall_list_1 _) F.entry_list_init
    (code_list_new _ ⟨rfl, rfl⟩) fun obj s₁ h₁ => ?_
  obtain ⟨rfl, rfl⟩ := h₁
  have hS : (s.heap.push { cls := .type "list", data := .seq #[] }).get? s.heap.objs.size = some { cls := .type "list", data := .seq #[] } := Heap.get?_push_size _ rfl
  refine ⟨⟨_, hS, rfl⟩, F.args_list_init_2 _ _, list_init_rev (s := { s with heap := s.heap.push { cls := .type "list", data := .seq #[] } }) hh (hit.at fun o e => Heap.get?_push_of_some _ e) (hl.push _) hne hn hSi hSl hS fun h' tk acc' c' hk hS' hacc => ?_⟩
  exact ⟨rfl, hQ h' tk acc' c' (fun b o hb e => hk b o (Nat.ne_of_lt (Heap.lt_size e)) hb (Heap.get?_push_of_some _ e)) hS' hacc⟩
end
end RT
namespace Rg
open PySem PySem.Spec PyProof.Rows L2 RT
/-- list(reversed(x)), x a list: a new list -/
def tListRev (K : PySem.W.Frag) (te : TE) : TE := fun σ H Q => te σ H fun v H1 => ∃ (a : Addr) (xs : List V), v = .ref a ∧ SqL K H1 a xs ∧ ∀ q, H1 q = none → Q (.ref q) (upd H1 q (.lst xs.reverse))
theorem pe_listRev {X : Cx} {e : Expr} {te : TE} {p p2 pos pos2 : Pos} (hc : X.calm = true) (hg : Gl X "list") (hm : X.mg "list" = none) (hg2 : Gl X "reversed") (hm2 : X.mg "reversed" = none) (he : PE X e te)
    (hs : starEach [e] X.env = (false, eval e X.env) :: starEach [] X.env := by rfl)
    (hs2 : starEach [.Call (.Name "reversed" p2) [e] [] pos2] X.env = (false, eval (.Call (.Name "reversed" p2) [e] [] pos2) X.env) :: starEach [] X.env := by rfl) :
    PE X (.Call (.Name "list" p) [.Call (.Name "reversed" p2) [e] [] pos2] [] pos) (tListRev X.K te) := by
  refine ⟨fun pins s σ H Q I h => ?_⟩
  refine Call_ (ld_blt I hg hm boot_list (PyProof.Rows.callWith_type1 (args_cons (Call_ (ld_blt I hg2 hm2 PyProof.Rows.boot_reversed (PyProof.Rows.callWith_type1 (args_cons (thn (he.run pins s σ H _ I h) fun u s1 ⟨v, H1, I1, r1, q1⟩ => args_nil ?_) hs) hs rfl))) hs2) hs2 rfl))
  obtain ⟨a, xs, ev, hq, q⟩ := q1
  subst ev
  obtain rfl : u = Value.ref a := r1
  obtain ⟨its, rv, p', hz⟩ := I1.list hq
  refine call_reversed_list p'.isList (args_nil ?_)
  have k0 : ∀ b o, s1.heap.get? b = some o → (s1.heap.push (revObj a ((its.toArray.size : Int) - 1))).get? b = some o := fun b o e => Heap.get?_push_of_some _ e
  have I2 : Inv X pins σ H1 { s1 with heap := s1.heap.push (revObj a ((its.toArray.size : Int) - 1)) } := I1.kept (t' := s1.toks) k0
  obtain ⟨f0, f1, f2, f3, f4, f5⟩ := I1.fpOk (H' := H1) (b := s1.heap.objs.size) (Nat.le_refl _) (I1.hok.fresh (Nat.le_refl _))
  have hl := p'.isList
  obtain ⟨ol, hol, _⟩ := id hl
  have hne : a ≠ s1.heap.objs.size := Nat.ne_of_lt (Heap.lt_size hol)
  have hn : its.toArray.size ≤ sizeLine := by rw [List.size_toArray, ← rv.length]; exact hz
  have hsz : (s1.heap.push (revObj a ((its.toArray.size : Int) - 1))).objs.size = s1.heap.objs.size + 1 := Heap.size_push ..
  refine call_list_rev (s := { s1 with heap := s1.heap.push (revObj a ((its.toArray.size : Int) - 1)) }) (I1.ok.hd hc) ⟨_, Heap.get?_push_size _ rfl, rfl, rfl⟩ (hl.push _) hne hn fun h' tk acc c hk hS hi => ?_
  have hle : s1.heap.objs.size ≤ (s1.heap.push (revObj a ((its.toArray.size : Int) - 1))).objs.size := by rw [hsz]; exact Nat.le_succ _
  refine ⟨.ref (s1.heap.push (revObj a ((its.toArray.size : Int) - 1))).objs.size, upd H1 (s1.heap.push (revObj a ((its.toArray.size : Int) - 1))).objs.size (.lst xs.reverse), I1.laid (t' := tk) (fun b o e => hk b o (Nat.ne_of_lt (Heap.lt_size e)) (k0 b o e)) hle (show ObjOk X.prog X.w _ _ _ (.lst xs.reverse) from ⟨by rw [List.length_reverse]; exact hz, acc.toList, c, vals_rev rv hi, ?_⟩), rfl, q _ (I1.hok.fresh hle)⟩
  rw [Array.toArray_toList]
  exact hS
end Rg
namespace Rg
open PySem PySem.Spec PyProof.Rows L2
/-! ### {e for x in xs if ..}, e a whole number -/
/-- D the new set -/
def tScI (w : World) (wi : TI) (g : TG) (tt : TT) (te : TE) (vs : List Nat) : TE := fun σ H Q => wi σ H fun J H1 => ∀ D, H1 D = none → ∃ W : Nat → Nat → Hp → Prop, (∃ m, W 0 m (upd H1 D (SetO w D (fun _ => false) 0))) ∧ ∀ i m H, W i m H →
  (J.stop i H ∧ Q (.ref D) H) ∨ (J.go i H ∧ ∃ Nx : Hp → Prop, (∀ H', Nx H' → ∃ m', m' < m ∧ W (i + 1) m' H') ∧ ∀ x H', J.yld i H x H' → g x (wipe σ vs) H' fun σ2 H2 => wipe σ2 vs = wipe σ vs ∧ tt σ2 H2 fun b H3 =>
    if b = true then te σ2 H3 fun y H4 => ∃ (c : Int) (S : Int → Bool) (n : Nat), y = .int c ∧ H4 D = some (SetO w D S n) ∧ n + 1 < scanBound ∧ Nx (upd H4 D (SetO w D (fun j => S j || decide (j = c)) (if S c = true then n else n + 1))) else Nx H3)
theorem pe_scI {X : Cx} {elt tg iter : Expr} {ifs : List Expr} {scope : Scope} {own : List (PySem.Str × Nat)} {pos : Pos} {wi : TI} {g : TG} {tt : TT} {te : TE} (hc : X.calm = true) (hN : X.N.Nodup) (hi : PI X tg iter wi) (ok : BlkOk X.N X.env.scope scope own)
    (hg : ∀ (s : Shared) (H : Hp) (C : Addr) (cl : List (PySem.Str × Addr)) (fp : List Addr), PG (X.blk s H scope (compEnvC scope cl C X.env) fp) tg g) (ht : ∀ (s : Shared) (H : Hp) (C : Addr) (cl : List (PySem.Str × Addr)) (fp : List Addr), PTs (X.blk s H scope (compEnvC scope cl C X.env) fp) ifs tt)
    (he : ∀ (s : Shared) (H : Hp) (C : Addr) (cl : List (PySem.Str × Addr)) (fp : List Addr), PE (X.blk s H scope (compEnvC scope cl C X.env) fp) elt te) (hs : ∀ x, foldedSetIterable iter X.env x = pure x := by intro _; rfl) :
    PE X (.SetComp elt [⟨tg, iter, ifs, 0⟩] scope pos) (tScI X.w wi g tt te (own.map (·.2))) := by
  refine ⟨fun pins s σ H Q I h => ?_⟩
  rw [PpSet.eval_SetComp]
  have free : ∀ y ∈ scope.names, y.2 = .free → ∃ c, X.env.cells.lookup y.1 = some c := fun y hy e => (ok.free y hy e).elim (fun k => I.ok.has _ (.inl k)) fun k => I.ok.has _ (.inr k)
  refine wpAny_comprehension_free (use := none) rfl hs (closure_ok free) ok.kind (fun y hy e => by rw [ok.uniq y hy, e])
    (thn (hi.run pins s σ H _ I h) fun xv s1 hx => thn hx fun itv s2 h2 => ?_)
  obtain ⟨it, fp, tn, J, H2, rfl, I2, T, st2, f2, q⟩ := h2
  refine PpSet.newSet_ok (newEnv_comp ?_)
  have keep2 : ∀ (b : Addr) (o : Obj), s2.heap.get? b = some o → (s2.heap.push { cls := .type "set", dict := none, data := .set #[] 0 (.fresh 0 0 (!X.w.params.followText "set-order")) }).get? b = some o := fun b o e => Heap.get?_push_of_some _ e
  have ltF : ∀ b ∈ fp, b < s2.heap.objs.size := fun b hb => let ⟨o, e, _⟩ := T.obj _ _ st2 b hb; Heap.lt_size e
  obtain ⟨D, hD⟩ : ∃ D, D = s2.heap.objs.size := ⟨_, rfl⟩
  rw [← hD]
  have nD : H2 D = none := I2.hok.fresh (Nat.le_of_eq hD.symm)
  obtain ⟨W, ⟨m0, w0⟩, turn⟩ := q D nD
  obtain ⟨s3, e3⟩ : ∃ s3 : Shared, s3 = { s2 with heap := s2.heap.push { cls := .type "set", dict := none, data := .set #[] 0 (.fresh 0 0 (!X.w.params.followText "set-order")) } } := ⟨_, rfl⟩
  rw [← e3]
  have h3 : s3.heap = s2.heap.push { cls := .type "set", dict := none, data := .set #[] 0 (.fresh 0 0 (!X.w.params.followText "set-order")) } := by rw [e3]
  obtain ⟨H3, eH3⟩ : ∃ H3, H3 = upd H2 D (SetO X.w D (fun _ => false) 0) := ⟨_, rfl⟩
  rw [← eH3] at w0
  have I3 : Inv X pins σ H3 s3 := by
    rw [e3, eH3]
    refine I2.laid (t' := s2.toks) keep2 (Nat.le_of_eq hD.symm) ?_
    rw [hD]
    exact setO_new (setR_fresh X.w)
  have f3 : ∀ b ∈ fp, FpOk X pins H3 b ∧ b < s3.heap.objs.size := fun b hb => by
    have hlt := ltF b hb
    refine ⟨⟨?_, (f2 b hb).2⟩, by rw [h3, Heap.size_push]; exact Nat.lt_succ_of_lt hlt⟩
    rw [eH3, upd_ne (by rw [hD]; exact Nat.ne_of_lt hlt)]
    exact (f2 b hb).1
  have st3 : tn 0 s3.heap := T.keep _ _ _ st2 fun b _ o e => by rw [h3]; exact keep2 b o e
  have I4 := block_start I3 ok hN f3
  obtain ⟨cl, ecl⟩ : ∃ cl, cl = cellsFrom (s3.heap.objs.size + 1) scope.names (cloFrom X.env.cells scope.names []) := ⟨_, rfl⟩
  rw [← ecl] at I4 ⊢
  obtain ⟨ce, ece⟩ : ∃ ce, ce = compEnvC scope cl s3.heap.objs.size X.env := ⟨_, rfl⟩
  have pg := hg s3 H3 s3.heap.objs.size cl fp
  have pt := ht s3 H3 s3.heap.objs.size cl fp
  have pe := he s3 H3 s3.heap.objs.size cl fp
  rw [← ece] at I4 pg pt pe
  show codeAny _ _ (.compStart (.SetComp elt [⟨tg, iter, ifs, 0⟩] scope pos) 0 (.ref it) (.ref D) (compEnvC scope cl s3.heap.objs.size X.env)) _ { s3 with heap := pushCells (s3.heap.push { cls := .type "dict", data := .dict #[] }) scope.names }
  rw [← ece]
  have cL : ce.locals = s3.heap.objs.size := by rw [ece]; rfl
  generalize es4 : ({ s3 with heap := pushCells (s3.heap.push { cls := .type "dict", data := .dict #[] }) scope.names } : Shared) = s4 at I4 ⊢
  have st4 : tn 0 s4.heap := T.keep _ _ _ st3 fun b _ o e => by rw [← es4]; exact pushCells_keeps _ _ _ _ (Heap.get?_push_of_some _ e)
  have stat : ∀ {σ' : L2.St} {H' : Hp} {s' : Shared}, Inv (X.blk s3 H3 scope ce fp) [] σ' H' s' → (∀ b ∈ fp, H' b = none) → ∀ b ∈ fp, FpOk (X.blk s3 H3 scope ce fp) [] H' b := fun {σ' H' s'} I' hn b hb =>
    ⟨hn b hb, (I'.ok.exf b hb).1, I'.ok.exfs b hb, .inl hb, fun x c e => (I'.ok.exf b hb).2 x c e, fun p hp => absurd (show p ∈ ([] : List (Addr × Obj)) ++ [] from hp) (by simp)⟩
  have loop : codeAny (model X.prog X.w) X.A (.compLoop (.SetComp elt [⟨tg, iter, ifs, 0⟩] scope pos) 0 (.ref it) (.ref D) ce) (compPost (model X.prog X.w) X.A X.xe none (EP X pins σ Q) (.ref D) s3.heap.objs.size) s4 := by
    refine PpSet.compLoopS_any (fun n s' => ∃ i H', Inv (X.blk s3 H3 scope ce fp) [] (wipe σ (own.map (·.2))) H' s' ∧ tn i s'.heap ∧ (∀ b ∈ fp, H' b = none) ∧ W i n H') ?_ m0 ⟨0, H3, I4, st4, fun b hb => (f3 b hb).1.1, w0⟩
    rintro n s5 ⟨i, H5, I5, st5, n5, w5⟩
    rcases turn i n H5 w5 with ⟨stop, qq⟩ | ⟨go, Nx, hNx, step⟩
    · refine thnF (T.done (X.blk s3 H3 scope ce fp) rfl rfl rfl hc i [] s5 _ H5 (fun _ _ => False) I5 (stat I5 n5) st5 stop) fun r s6 ⟨hr, I6⟩ => ?_
      subst hr
      have I7 : Inv X pins σ H5 s6 := I3.call' (ch := fp) I6.os I6.base I6.hok I6.bare fun b hb => ⟨(f3 b hb).1.2.2.2.1, (f3 b hb).1.2.1, (f3 b hb).1.2.2.2.2.1, (f3 b hb).1.2.2.2.2.2⟩
      have nC : H5 s3.heap.objs.size = none := by rw [← cL]; exact I6.free
      obtain ⟨m, hn, _⟩ := I6.loc
      have hn : s6.heap.Ns ce.locals m := hn
      rw [cL] at hn
      refine ⟨m, hn, fun h'' sb => ?_⟩
      obtain ⟨a0, a1, a2, a3, a4, a5⟩ := I3.fpOk (Nat.le_refl _) nC
      exact ⟨.ref D, H5, I7.turned (t' := s6.toks) (fun b o hb e => (sb.2 b hb).trans e) a0 a1 a3 a4 a5, rfl, qq⟩
    · refine thnF (T.item (X.blk s3 H3 scope ce fp) rfl rfl rfl hc i [] s5 _ H5 (fun _ _ => False) I5 (stat I5 n5) st5 go) fun r s6 ⟨u, hr, h6⟩ => ?_
      subst hr
      refine thnF h6 fun _ s7 ⟨x, H7, I7, r7, y7, st7, n7⟩ => ?_
      have I7' := I7.pinned (stat I7 n7) (T.obj _ _ st7)
      refine thnF (pg.run _ s7 _ H7 x u _ I7' r7 (step x H7 y7)) fun _ s8 ⟨σ8, H8, I8, hw8, q8⟩ => ?_
      refine thnF (pt.run _ s8 σ8 H8 _ I8 q8) fun b s9 ⟨H9, I9, q9⟩ => ?_
      have fin : ∀ {s' : Shared} {H' : Hp}, Inv (X.blk s3 H3 scope ce fp) ([] ++ pinsAt fp s7.heap) σ8 H' s' → Nx H' → ∃ m, m < n ∧ ∃ i H', Inv (X.blk s3 H3 scope ce fp) [] (wipe σ (own.map (·.2))) H' s' ∧ tn i s'.heap ∧ (∀ b ∈ fp, H' b = none) ∧ W i m H' := fun {s' H'} I' nx => by
        obtain ⟨m', hm, w'⟩ := hNx H' nx
        have pin : ∀ b ∈ fp, ∀ o, s7.heap.get? b = some o → s'.heap.get? b = some o ∧ H' b = none := fun b hb o e =>
          let z := I'.pin (b, o) (List.mem_append_right _ (List.mem_append_right _ (mem_pinsAt hb e)))
          ⟨z.1, z.2.1⟩
        refine ⟨m', hm, i + 1, H', (I'.unpinned (pins := [])).weak (by rw [← hw8, wipe_length]) (fun j v e => by rw [← hw8] at e; exact (wipe_some e).1), T.keep _ _ _ st7 fun b hb o e => (pin b hb o e).1, fun b hb => ?_, w'⟩
        obtain ⟨o, e, _⟩ := T.obj _ _ st7 b hb
        exact (pin b hb o e).2
      cases b with
      | false =>
        simp only [Bool.false_eq_true, if_false] at q9 ⊢
        exact fin I9 q9
      | true =>
        simp only [if_true] at q9 ⊢
        refine thnF (pe.run _ s9 σ8 H9 _ I9 q9) fun z s10 ⟨yv, H10, I10, r10, c, S0, n0, ey, hD10, hz10, nx⟩ => ?_
        subst ey
        obtain ⟨tk, rfl⟩ := r10
        exact thnF (mt_sadd (X := X.blk s3 H3 scope ce fp) _ s10 σ8 H10 (.ref D) [.int c] (.ref D) [.int c tk] (fun _ H' => Nx H') I10 rfl (.cons ⟨tk, rfl⟩ .nil) ⟨D, c, S0, n0, rfl, rfl, hD10, hz10, nx⟩) fun _ s11 ⟨_, _, I11, _, nx'⟩ => fin I11 nx'
  exact PpSet.codeAny_compStart_set loop (T.self X.A 0 _ _ _ st4 loop)
end Rg
namespace Rg
open PySem PySem.Spec PyProof.Rows L2
/-! ### set(xs) of a list of whole numbers, as a set that sorted walks -/
section
variable {P : Program} {w : World} {A : Around} {E : Value → Shared → Prop} {s : Shared}
/-- the new, empty set -/
def nSet (w : World) : Obj := { cls := .type "set", dict := none, data := .set #[] 0 (.fresh 0 0 (!w.params.followText "set-order")) }
set_option maxRecDepth 100000 in
set_option maxHeartbeats 3200000 in
theorem call_set_listI {l : Addr} {items : Array Value} (ns : List Int) {Q : Value → Shared → Prop} (hh : A.handled = none) (hl : s.heap.IsList l items) (hit : IntsAre items.toList ns) (hb : ns.length + 1 < scanBound)
    (h : ∀ (h' : Heap) (tk c : Nat), SetR w h' s.heap.objs.size (fun j => decide (j ∈ ns)) c → c ≤ ns.length → (∀ b o, s.heap.get? b = some o → h'.get? b = some o) → Q (.ref s.heap.objs.size) { s with heap := h', toks := tk }) :
    wpAny (model P w) A (call (.type "set") [.ref l]) Q E s := by
  have hsz : items.size = ns.length := by have q := IntsAre.length hit; rw [Array.length_toList] at q; exact q
  obtain ⟨c, tl, hmro⟩ := F.called_set.mro
  have hmade := F.called_set.made
  have hsub := F.called_set.sub
  refine wpAny_call (codeAny_of_tree ?_)
  show wpAny _ _ (callAny (.type "set") _) _ _ _
  refine wpAny_pure ⟨Code.quiet_builtin _ (by decide +kernel), codeAny_builtin F.entry_type_call ?_⟩
  rw [Around.under_plain (weight_type_call_type "set" [.ref l] []) rfl]
  have h1 := F.called_set.notType
  have h2 := F.called_set.canCreate
  have hct := F.typeCall_set_1 (.ref l)
  repeat (any_goals (first | assumption | wp_step))
  refine codeAny_mono (code_set_led1 (.ref l) (E := E) (Q₁ := fun obj s₁ => obj = .ref s.heap.objs.size ∧ s₁ = { s with heap := s.heap.push (nSet w) }) ⟨rfl, rfl⟩) fun r s₁ hr => ?_
  match r, hr with
  | .error e, hr => exact hr
  | .ok (.ret obj), ⟨eo, es⟩ =>
    subst eo es
    have hS : (s.heap.push (nSet w)).get? s.heap.objs.size = some (nSet w) := Heap.get?_push_size _ rfl
    have hT : Shared.TypeIs { s with heap := s.heap.push (nSet w) } (.ref s.heap.objs.size) "set" := ⟨_, hS, rfl⟩
    have hli := F.called_set.init.lookup
    have hbi := F.called_set.init.bind (.ref s.heap.objs.size)
    repeat (any_goals (first | assumption | wp_step))
    refine codeAny_mono (codeAny_call_builtin (R := wants (fun r s₂ => r = .none ∧ ∃ h' tk c, s₂ = { s with heap := h', toks := tk } ∧ SetR w h' s.heap.objs.size (fun j => decide (j ∈ ns)) c ∧ c ≤ ns.length ∧
        (∀ b o, s.heap.get? b = some o → h'.get? b = some o)) E) F.called_set.init.plain F.entry_set_init (check_set_init_1 hT ?_)) fun r₂ s₂ hr₂ => ?_
    · obtain ⟨⟨ocls, odict, odata, oslots⟩, hol, hcl, nl, hdl⟩ := hl
      simp only at hcl hdl
      subst hcl; subst hdl
      have hol' : (s.heap.push (nSet w)).get? l = some { cls := .type "list", dict := odict, data := .seq items nl, slots := oslots } := Heap.get?_push_of_some _ hol
      have hsls := F.sub_list_set
      have hslf := F.sub_list_frozenset
      have hne : (Value.type "list" == Value.type "dict") = false := by decide
      have hl1 : (s.heap.push (nSet w)).IsList l items := ⟨_, hol', rfl, nl, rfl⟩
      unfold Builtin.«set.__init__» noKeywords Builtin.Frozenset.updateFrom
      generalize hPI : pyIter = PI
      wp_walk
      subst hPI
      refine wpAny_pyIter_list hl1 ?_
      refine wpAny_bind (wpAny_runValue ?_)
      have lS : l < s.heap.objs.size := Heap.lt_size hol
      have z1 : (s.heap.push (nSet w)).objs.size = s.heap.objs.size + 1 := Heap.size_push ..
      have nI : l ≠ (s.heap.push (nSet w)).objs.size := by rw [z1]; exact Nat.ne_of_lt (Nat.lt_succ_of_lt lS)
      have nS : s.heap.objs.size ∉ [(s.heap.push (nSet w)).objs.size, l] := by
        rw [z1]
        simp only [List.mem_cons, List.not_mem_nil, or_false, not_or]
        exact ⟨Nat.ne_of_lt (Nat.lt_succ_self _), Nat.ne_of_gt lS⟩
      have val : ∀ (i : Nat) (v : Value), items[i]? = some v → ∃ k t, ns[i]? = some k ∧ v = .int k t := fun i v hv => by
        have hi : i < ns.length := by rw [← hsz]; exact (Array.getElem?_eq_some_iff.mp hv).1
        obtain ⟨t, e⟩ := PyProof.Rows.IntsAre.int_at hit i v (by rw [Array.getElem?_toList]; exact hv)
        refine ⟨ns[i], t, List.getElem?_eq_getElem hi, ?_⟩
        rw [e, List.getD_eq_getElem?_getD, List.getElem?_eq_getElem hi] <;> rfl
      refine set_update_ints ((Walks.list (A := A.in1.in1.in1) (by simp [hh]) _ l nI items).toS) s.heap.objs.size nS ns hsz hb val (items.size - 0) 0 _ (by omega) (Nat.zero_le _)
        ⟨⟨_, Heap.get?_push_size _ rfl, rfl, rfl⟩, (hl1.push _)⟩ ⟨0, Nat.le_refl 0, setR_new_at (Heap.get?_push_of_some _ hS)⟩ fun s' c' hm hc' hS' => ?_
      obtain ⟨h', g2, d', tk', os'⟩ := s'
      have eg : g2 = s.gens := hm.gens
      have ed : d' = s.drawn := hm.drawn
      have eo : os' = s.os := hm.os
      subst eg; subst ed; subst eo
      rw [hsz] at hc'
      show wpAny _ _ _ _ _ _
      refine wpAny_pure ?_
      show wpAny _ _ (ret Value.none) _ _ _
      refine wpAny_pure ⟨rfl, h', tk', c', rfl, hS', hc', fun b o e => ?_⟩
      have b0 : b < s.heap.objs.size := Heap.lt_size e
      refine hm.heap b o ?_ (Heap.get?_push_of_some _ (Heap.get?_push_of_some _ e))
      simp only [List.mem_cons, List.not_mem_nil, or_false, not_or]
      exact ⟨Nat.ne_of_lt b0, by rw [z1]; exact Nat.ne_of_lt (Nat.lt_succ_of_lt b0)⟩
    · match r₂, hr₂ with
      | .error e, hr₂ => exact hr₂
      | .ok (.ret r), hr₂ =>
        obtain ⟨rfl, h', tk, c', rfl, hS', hc', hk'⟩ := hr₂
        repeat (any_goals (first | assumption | wp_step))
        exact h _ _ _ hS' hc' hk'
end
section
variable {X : Cx}
/-- set(xs) -/
def rSetLI (K : PySem.W.Frag) (w : World) : List V → Hp → VK → Prop := fun vs H Q => ∃ (a : Addr) (ns : List Int), vs = [V.ref a] ∧ SqL K H a (ns.map V.int) ∧ ns.length + 1 < scanBound ∧
  ∀ (p : Addr) (c : Nat), H p = none → c ≤ ns.length → Q (.ref p) (upd H p (SetO w p (fun j => decide (j ∈ ns)) c))
theorem call_setLI (hc : X.calm = true) : CallR X (.type "set") (rSetLI X.K X.w) := by
  intro pins s σ H vs us Q I r h
  obtain ⟨a, ns, rfl, hs, hb, q⟩ := h
  obtain ⟨its, rv, hl, _⟩ := I.list hs
  rw [Vals.ref1 r]
  refine call_set_listI (w := X.w) ns (I.ok.hd hc) hl.isList (ints_of_vals rv) hb fun h' tk c hR hle hk => ?_
  have fresh := I.hok.fresh (Nat.le_refl s.heap.objs.size)
  exact ⟨.ref s.heap.objs.size, upd H s.heap.objs.size (SetO X.w s.heap.objs.size (fun j => decide (j ∈ ns)) c), I.laid (t' := tk) hk (Nat.le_refl _) (setO_new hR), rfl, q _ c fresh hle⟩
end
end Rg
/-! ### all, any of a generator expression whose element calls one's own defs -/
namespace GxL
open PySem PySem.Spec PyProof.Rows L2
open Sem (wp)
/-- the state is the same but for the generators' table, what was drawn, the tokens -/
def Slept (s s' : Shared) : Prop := s'.os = s.os ∧ AllBare s'.gens ∧ s'.heap = s.heap
theorem Slept.trans {a b c : Shared} (x : Slept a b) (y : Slept b c) : Slept a c := ⟨y.1.trans x.1, y.2.1, y.2.2.trans x.2.2⟩
theorem bare_set {gs : Array GenState} {g : Nat} {x : GenState} (h : AllBare gs) (hx : x.bare = true) : AllBare (gs.setIfInBounds g x) := fun y hy => by
  obtain ⟨i, hi, rfl⟩ := Array.mem_iff_getElem.mp hy
  rw [Array.getElem_setIfInBounds (by simpa using hi)]
  split
  · exact hx
  · exact h _ (Array.getElem_mem _)
theorem Slept.set {s : Shared} {g : Nat} {x : GenState} (h : AllBare s.gens) (hx : x.bare = true) : Slept s (s.setGen g x) := ⟨rfl, bare_set h hx, rfl⟩
/-- the generator's frame, entered at s: its iterator's objects at fp -/
def genCx (X : Cx) (s : Shared) (H : Hp) (cenv : Env) (fp : List Addr) : Cx where
  prog := X.prog
  w := X.w
  K := X.K
  mg := X.mg
  base := X.base
  A := X.A.in1.in1.deeper cenv
  N := X.N
  s_0 := s
  H_0 := H
  env := cenv
  outer := X.stack
  stack := cenv :: X.stack
  ex := fp
  fn := fun _ => false
  calm := true
  pn := []
  xe := fun _ _ => False
/-- the generator's frame's environment over the def's -/
abbrev gEnv (X : Cx) (scope : Scope) (C : Addr) (code : Value) : Env := genEnv scope (cloFrom X.env.cells scope.names []) C code builtinsNs X.env
section
variable {X : Cx} {pins : List (Addr × Obj)} {σ : L2.St} {H H' : Hp} {s : Shared}
theorem slept_inv (I : Inv X pins σ H s) {s' : Shared} (h : Slept s s') : Inv X pins σ H s' := by
  refine I.call' (ch := []) h.1 (Un.kept fun b u e => by rw [h.2.2]; exact e) (by rw [h.2.2]; exact I.hok) h.2.1 fun b z => absurd z (by simp)
/-- a generator's scope -/
structure GSc (scope : Scope) : Prop where
  co : scope.isCoroutine = false
  cell : ∀ y ∈ scope.names, y.2 ≠ .cell
  dot : scope.names.lookup (".0" : Str) = some NameKind.local
def gscB (scope : Scope) : Bool := !scope.isCoroutine && (scope.names.all fun y => !decide (y.2 = .cell)) && decide (scope.names.lookup (".0" : Str) = some NameKind.local)
theorem gsc_by {scope : Scope} (h : gscB scope = true) : GSc scope := by
  unfold gscB at h
  simp only [Bool.and_eq_true, Bool.not_eq_true', decide_eq_true_eq, decide_eq_false_iff_not, List.all_eq_true] at h
  exact ⟨h.1.1, fun y hy => h.1.2 y hy, h.2⟩
theorem gen_start {scope : Scope} {own : List (Str × Nat)} {fp : List Addr} {code : Value} {m : Str → Option Value} {s5 : Shared} (I : Inv X pins σ H s) (ok : BlkOk X.N X.env.scope scope own) (S : GSc scope) (hN : X.N.Nodup) (hd : X.A.handled = none)
    (hfp : ∀ b ∈ fp, FpOk X pins H b ∧ b < s.heap.objs.size) (ho : s5.os = s.os) (hb : AllBare s5.gens) (hns : s5.heap.Ns s.heap.objs.size m) (kp : ∀ b o, s.heap.get? b = some o → s5.heap.get? b = some o) :
    Inv (genCx X s H (gEnv X scope s.heap.objs.size code) fp) [] (wipe σ (own.map (·.2))) H s5 := by
  have hfree : ∀ y ∈ scope.names, y.2 = .free → ∃ c, X.env.cells.lookup y.1 = some c := fun y hy e => by
    rcases ok.free y hy e with k | k
    · exact I.ok.has _ (.inl k)
    · exact I.ok.has _ (.inr k)
  have cm : ∀ {y c}, (cloFrom X.env.cells scope.names []).lookup y = some c → X.env.cells.lookup y = some c := fun {y c} e => by
    rcases cloFrom_mem (PySem.mem_of_lookup e) with hm | ⟨h1, h2⟩
    · cases hm
    · obtain ⟨c1, hc⟩ := hfree _ h1 rfl
      have hc : X.env.cells.lookup y = some c1 := hc
      have e2 : c = c1 := by
        rw [h2, hc] <;> rfl
      rw [e2]
      exact hc
  have look : ∀ {y}, scope.names.lookup y = some .free → ∃ c, (cloFrom X.env.cells scope.names []).lookup y = some c := fun {y} hl => by
    have hy : (y, NameKind.free) ∈ scope.names := PySem.mem_of_lookup hl
    exact mem_lookup (cloFrom_has (cells := X.env.cells) (acc := []) hy)
  have okB : (genCx X s H (gEnv X scope s.heap.objs.size code) fp).Ok := by
    refine ⟨I.ok.mod, ok.kind, I.ok.glob, rfl, Nat.le_refl _, fun y z c e1 e2 => I.ok.inj y z c (cm e1) (cm e2), fun y hy => ?_, fun y c z _ => ?_, fun _ => hd, Around.frames_deeper I.ok.frames, .inr ⟨rfl, rfl⟩, fun b hb => ⟨?_, fun y c e z => ?_⟩, I.bs, Nat.le_trans I.ok.bsz I.sz,
      fun b o e hb => ?_, fun b hb z => ?_, I.stack, I.stkFree⟩
    · have hy : scope.names.lookup y = some .cell ∨ scope.names.lookup y = some .free := hy
      rcases hy with hy | hy
      · exact absurd rfl (S.cell _ (PySem.mem_of_lookup hy))
      · exact look hy
    · have z : false = true := z
      cases z
    · exact Nat.ne_of_lt (hfp b hb).2
    · exact (hfp b hb).1.2.2.2.2.1 y c (cm e) z
    · rcases (hfp b hb).1.2.2.2.1 with z | z
      · exact I.ok.noex b o e z
      · exact absurd (Nat.lt_of_lt_of_le (Heap.lt_size e) (Nat.le_trans I.ok.bsz z)) (Nat.lt_irrefl _)
    · rcases List.mem_cons.mp (I.stkSub b z) with z | z
      · exact (hfp b hb).1.2.1 z
      · exact (hfp b hb).1.2.2.1 z
  refine ⟨okB, ho, hb, Un.kept kp, ⟨m, hns, fun i y av e1 e2 e3 => ?_⟩, fun y c e => ?_, I.hok.fresh (Nat.le_refl _), fun y c e => I.freeC y c (cm e), fun p hp => absurd (show p ∈ ([] : List (Addr × Obj)) ++ [] from hp) (by simp), I.hok.kept kp, by rw [wipe_length]; exact I.len⟩
  · obtain ⟨e2, hne⟩ := wipe_some e2
    have e3 : Vis scope y := e3
    have no : ∀ k, scope.names.lookup y = some k → ¬ (k = .local ∨ k = .cell) := fun k e hh => by
      rcases ok.own _ (PySem.mem_of_lookup e) hh with e' | e'
      · obtain ⟨p, hp, hpy⟩ := List.mem_map.mp e'
        have e3 := ok.ix p hp
        have : p.1 = y := hpy
        rw [this] at e3
        exact hne (List.mem_map.mpr ⟨p, hp, nodup_ix hN e3 e1⟩)
      · exact e' (List.mem_of_getElem? e1)
    rcases e3 with k | k | k
    · exact absurd (.inl rfl) (no _ k)
    · exact absurd (.inr rfl) (no _ k)
    · obtain ⟨m, hn, hl⟩ := I.loc
      have hvis : Vis X.env.scope y := (ok.free _ (PySem.mem_of_lookup k) rfl).elim (fun k => .inr (.inl k)) (fun k => .inr (.inr k))
      obtain ⟨w', r, q⟩ := hl i y av e1 e2 hvis
      obtain ⟨c2, h2⟩ := look k
      refine ⟨w', r, .inr ⟨.inr k, c2, h2, ?_⟩⟩
      have c1 := cm h2
      rcases q with ⟨k', _⟩ | ⟨_, c3, e', z⟩
      · have k' : X.env.scope.names.lookup y = some .local := k'
        rcases ok.free _ (PySem.mem_of_lookup k) rfl with k2 | k2 <;> rw [show X.env.scope.names.lookup y = _ from k2] at k' <;> cases k'
      · rw [c1] at e'
        cases e'
        exact z.keeps kp
  · obtain ⟨w', z⟩ := I.cell y c (cm e)
    exact ⟨w', z.keeps kp⟩
end
end GxL
namespace GxL
open PySem PySem.Spec PyProof.Rows L2
open Sem (wp)
theorem over_gen {A : Around} {elt tg iter : Expr} {ifs : List Expr} {scope : Scope} {pos : Pos} {it acc : Value} {env : Env} : A.over (.compLoop (.GeneratorExp elt [⟨tg, iter, ifs, 0⟩] scope pos) 0 it acc env) [] = A.deeper env := by
  first
    | rfl
    | (obtain ⟨hd, d, fr, gs, u⟩ := A; simp [Around.over, Around.deeper, marksOver, frameCount, unitsOf, envsOf, guardsOf, pushEnvs, pushGuards, Code.envs, Code.env?, Code.isFrame, Code.guards, Code.isGuard, Code.weight, Code.frames, Code.isCreation, Code.isCaller, Code.cUnits])
theorem over_gstart {A : Around} {elt tg iter : Expr} {ifs : List Expr} {scope : Scope} {pos : Pos} {it acc : Value} {env : Env} : A.over (.compStart (.GeneratorExp elt [⟨tg, iter, ifs, 0⟩] scope pos) 0 it acc env) [] = A.deeper env := by
  first
    | rfl
    | (obtain ⟨hd, d, fr, gs, u⟩ := A; simp [Around.over, Around.deeper, marksOver, frameCount, unitsOf, envsOf, guardsOf, pushEnvs, pushGuards, Code.envs, Code.env?, Code.isFrame, Code.guards, Code.isGuard, Code.weight, Code.frames, Code.isCreation, Code.isCaller, Code.cUnits])
/-- the whole turn's reading: c: all's true, any's false; W by the turn and a measure -/
def GTurn (c : Bool) (J : It) (g : TG) (tt : TT) (te : TE) (vs : List Nat) (σ : L2.St) (Q : VK) (W : Nat → Nat → Hp → Prop) : Prop :=
  ∀ i m H, W i m H → (J.stop i H ∧ Q (.bl c) H) ∨ (J.go i H ∧ ∃ Nx : Hp → Prop, (∀ H', Nx H' → ∃ m', m' < m ∧ W (i + 1) m' H') ∧ ∀ x H', J.yld i H x H' → g x (wipe σ vs) H' fun σ2 H2 => wipe σ2 vs = wipe σ vs ∧ tt σ2 H2 fun b H3 =>
    if b = true then te σ2 H3 fun y H4 => ∃ k, y = .bl k ∧ if k = c then Nx H4 else Q (.bl (!c)) H4 else Nx H3)
/-- the generator's end, its protocol -/
def gR (G : Cx) (pn : List (Addr × Obj)) (σ : L2.St) (Q : Hp → Prop) : GenEnd := fun _ _ r s₁ => r = .ok .next ∧ ∃ H', Inv G pn σ H' s₁ ∧ Q H'
def gY (G : Cx) (pn : List (Addr × Obj)) (σ : L2.St) (c : Bool) (Q : Hp → Prop) : Protocol := fun _ _ v s₁ kap => ∃ k H', v = .bool k ∧ Inv G pn σ H' s₁ ∧ if k = c then ∀ s'', Slept s₁ s'' → kap (.send .none) s'' else Q H'
section
variable {X : Cx}
theorem thnS {α : Type} {t : Sem α} {Q Q' : α → Shared → Prop} {M : Model} {A : Around} {E : Value → Shared → Prop} {s : Shared} (h : wpAny M A t Q (fun _ _ => False) s) (hQ : ∀ a s, Q a s → Q' a s) : wpAny M A t Q' E s := wpAny_mono h hQ fun _ _ z => False.elim z
theorem gen_seg {s3 : Shared} {H3 : Hp} {cenv : Env} {fp : List Addr} {it a : Addr} {ob : Obj} {tn : Nat → Heap → Prop} {J : It} {elt tg iter : Expr} {ifs : List Expr} {scope : Scope} {pos : Pos} {g : TG} {tt : TT} {te : TE} {vs : List Nat} {σ : L2.St} {c : Bool} {Q : VK} {W : Nat → Nat → Hp → Prop}
    (T : Turn X.prog X.w X.K tg J fp it tn) (hco : cenv.scope.isCoroutine = false) (ha : ∀ b ∈ fp, a ≠ b)
    (hg : PG (genCx X s3 H3 cenv fp) tg g) (ht : PTs (genCx X s3 H3 cenv fp) ifs tt) (he : PE (genCx X s3 H3 cenv fp) elt te) (turn : GTurn c J g tt te vs σ Q W) :
    ∀ (m n i : Nat) (s₀ s : Shared) (H : Hp), m < n → Inv (genCx X s3 H3 cenv fp) [(a, ob)] (wipe σ vs) H s → tn i s.heap → (∀ b ∈ fp, H b = none) → W i m H →
      Seg (model X.prog X.w) X.A.in1.in1 (gR (genCx X s3 H3 cenv fp) [(a, ob)] (wipe σ vs) (Q (.bl c))) (gY (genCx X s3 H3 cenv fp) [(a, ob)] (wipe σ vs) c (Q (.bl (!c)))) n s₀
        (.compLoop (.GeneratorExp elt [⟨tg, iter, ifs, 0⟩] scope pos) 0 (.ref it) .none cenv)
        ((model X.prog X.w).den (.compLoop (.GeneratorExp elt [⟨tg, iter, ifs, 0⟩] scope pos) 0 (.ref it) .none cenv)) [] s := by
  intro m
  induction m using Nat.strongRecOn with
  | ind m ih =>
  intro n i s₀ s H hmn I st nf w
  have stat : ∀ {σ' : L2.St} {H' : Hp} {s' : Shared}, Inv (genCx X s3 H3 cenv fp) [(a, ob)] σ' H' s' → (∀ b ∈ fp, H' b = none) → ∀ b ∈ fp, FpOk (genCx X s3 H3 cenv fp) [(a, ob)] H' b := fun {σ' H' s'} I' hn b hb =>
    ⟨hn b hb, (I'.ok.exf b hb).1, I'.ok.exfs b hb, .inl hb, fun x c e => (I'.ok.exf b hb).2 x c e, fun p hp => by
      have hp : p ∈ ([] : List (Addr × Obj)) ++ [(a, ob)] := hp
      simp at hp
      rw [hp]
      exact ha b hb⟩
  show Seg _ _ _ _ _ s₀ _ ((compTurn (.GeneratorExp elt [⟨tg, iter, ifs, 0⟩] scope pos) 0 (.ref it) .none cenv).onRaise (leaving cenv)) [] s
  rw [compTurn_gen, Sem.onRaise_eq_wrap]
  refine seg_bind_wrap (wpAny_standAt ?_)
  rcases turn i m H w with ⟨stop, qq⟩ | ⟨go, Nx, hNx, step⟩
  · have td := T.done (genCx X s3 H3 cenv fp) rfl rfl rfl rfl i [(a, ob)] s _ H (fun _ _ => False) I (stat I nf) st stop
    refine seg_bind_wrap ?_
    rw [over_gen]
    refine thnS td fun r s6 ⟨hr, I6⟩ => ?_
    subst hr
    exact seg_end (.ok .next) ⟨rfl, H, I6, qq⟩
  · have ti := T.item (genCx X s3 H3 cenv fp) rfl rfl rfl rfl i [(a, ob)] s _ H (fun _ _ => False) I (stat I nf) st go
    refine seg_bind_wrap ?_
    rw [over_gen]
    refine thnS ti fun r s6 ⟨u, hr, h6⟩ => ?_
    subst hr
    refine seg_bind_wrap ?_
    rw [over_gen]
    refine thnS h6 fun _ s7 ⟨x, H7, I7, r7, y7, st7, n7⟩ => ?_
    have I7' := I7.pinned (stat I7 n7) (T.obj _ _ st7)
    refine seg_bind_wrap ?_
    rw [over_gen]
    refine thnS (hg.run _ s7 _ H7 x u _ I7' r7 (step x H7 y7)) fun _ s8 ⟨σ8, H8, I8, hw8, q8⟩ => ?_
    refine seg_bind_wrap ?_
    rw [over_gen]
    refine thnS (ht.run _ s8 σ8 H8 _ I8 q8) fun b s9 ⟨H9, I9, q9⟩ => ?_
    -- the turn's end
    have fin : ∀ {s' : Shared} {H' : Hp}, Inv (genCx X s3 H3 cenv fp) ([(a, ob)] ++ pinsAt fp s7.heap) σ8 H' s' → Inv (genCx X s3 H3 cenv fp) [(a, ob)] (wipe σ vs) H' s' ∧ tn (i + 1) s'.heap ∧ ∀ b ∈ fp, H' b = none := fun {s' H'} I' => by
      have pin' : ∀ b ∈ fp, ∀ o, s7.heap.get? b = some o → s'.heap.get? b = some o ∧ H' b = none := fun b hb o e =>
        let z := I'.pin (b, o) (List.mem_append_right _ (List.mem_append_right _ (mem_pinsAt hb e)))
        ⟨z.1, z.2.1⟩
      have hl : (wipe σ vs).length = σ8.length := by rw [← hw8, wipe_length]
      refine ⟨(I'.unpinned (pins := [(a, ob)])).weak hl (fun j v e => ?_), T.keep _ _ _ st7 fun b hb o e => (pin' b hb o e).1, fun b hb => ?_⟩
      · rw [← hw8] at e
        exact (wipe_some e).1
      · obtain ⟨o, e, _⟩ := T.obj _ _ st7 b hb
        exact (pin' b hb o e).2
    cases b with
    | false =>
      simp only [Bool.false_eq_true, if_false] at q9 ⊢
      obtain ⟨m', hm, w'⟩ := hNx H9 q9
      obtain ⟨J1, J2, J3⟩ := fin I9
      exact seg_again rfl (ih m' hm n (i + 1) s₀ s9 H9 (by omega) J1 J2 J3 w')
    | true =>
      simp only [if_true] at q9 ⊢
      have hy : ∀ v, yieldOut cenv v = yieldValue v := fun v => by simp only [yieldOut, hco, Bool.false_eq_true, if_false]
      simp only [hy]
      rw [Sem.bind_eq_wrap', Sem.bind_eq_wrap', Sem.wrap_wrap, Sem.wrap_wrap]
      refine seg_wrap ?_
      rw [over_gen]
      refine thnS (he.run _ s9 σ8 H9 _ I9 q9) fun z s10 ⟨yv, H10, I10, r10, k, ek, q10⟩ => ?_
      subst ek
      obtain rfl : z = Value.bool k := r10
      obtain ⟨J1, J2, J3⟩ := fin I10
      obtain ⟨n', rfl⟩ : ∃ n', n = n' + 1 := by
        cases n with
        | succ n' => exact ⟨n', rfl⟩
        | zero => exact absurd hmn (Nat.not_lt_zero _)
      refine seg_at (seg_yield rfl rfl rfl ⟨k, H10, rfl, J1, ?_⟩)
      by_cases hk : k = c
      · rw [if_pos hk] at q10 ⊢
        intro s'' hs
        obtain ⟨m', hm, w'⟩ := hNx H10 q10
        exact seg_again rfl (ih m' hm n' (i + 1) s'' s'' H10 (by omega) (slept_inv J1 hs) (by rw [hs.2.2]; exact J2) J3 w')
      · rw [if_neg hk] at q10 ⊢
        exact q10
/-- the generator's start -/
theorem gen_seg0 {s3 : Shared} {H3 : Hp} {cenv : Env} {fp : List Addr} {it a : Addr} {ob : Obj} {tn : Nat → Heap → Prop} {J : It} {elt tg iter : Expr} {ifs : List Expr} {scope : Scope} {pos : Pos} {g : TG} {tt : TT} {te : TE} {vs : List Nat} {σ : L2.St} {c : Bool} {Q : VK} {W : Nat → Nat → Hp → Prop}
    (T : Turn X.prog X.w X.K tg J fp it tn) (hco : cenv.scope.isCoroutine = false) (ha : ∀ b ∈ fp, a ≠ b)
    (hg : PG (genCx X s3 H3 cenv fp) tg g) (ht : PTs (genCx X s3 H3 cenv fp) ifs tt) (he : PE (genCx X s3 H3 cenv fp) elt te) (turn : GTurn c J g tt te vs σ Q W)
    {m n : Nat} {s₀ s : Shared} {H : Hp} (hmn : m < n) (I : Inv (genCx X s3 H3 cenv fp) [(a, ob)] (wipe σ vs) H s) (st : tn 0 s.heap) (nf : ∀ b ∈ fp, H b = none) (w : W 0 m H) :
      Seg (model X.prog X.w) X.A.in1.in1 (gR (genCx X s3 H3 cenv fp) [(a, ob)] (wipe σ vs) (Q (.bl c))) (gY (genCx X s3 H3 cenv fp) [(a, ob)] (wipe σ vs) c (Q (.bl (!c)))) n s₀
        (.compStart (.GeneratorExp elt [⟨tg, iter, ifs, 0⟩] scope pos) 0 (.ref it) .none cenv)
        ((model X.prog X.w).den (.compStart (.GeneratorExp elt [⟨tg, iter, ifs, 0⟩] scope pos) 0 (.ref it) .none cenv)) [] s := by
  have loop := gen_seg (pos := pos) (iter := iter) (scope := scope) T hco ha hg ht he turn m n 0 s₀ s H hmn I st nf w
  show Seg _ _ _ _ _ s₀ _ ((compStart (.GeneratorExp elt [⟨tg, iter, ifs, 0⟩] scope pos) 0 (.ref it) .none cenv).onRaise (leaving cenv)) [] s
  unfold compStart
  rw [Sem.onRaise_eq_wrap]
  show Seg _ _ _ _ _ s₀ _ ((ask >>= _).wrap _ _ _ _) [] s
  refine seg_bind_wrap (wpAny_askSetting ?_)
  split
  · exact seg_again rfl loop
  · first
      | exact seg_bind_wrap (wpAny_rule (seg_bind_wrap (wpAny_standAt (seg_bind_wrap (T.self _ 0 s _ _ st (seg_again rfl loop))))))
      | (refine seg_bind_wrap (wpAny_rule ?_); show Seg _ _ _ _ _ s₀ _ ((standAt iter.pos >>= _).wrap _ _ _ _) [] s; exact seg_bind_wrap (wpAny_standAt (seg_bind_wrap (T.self _ 0 s _ _ st (seg_again rfl loop)))))
/-- the generator's object: its number gi -/
structure GOb (ob : Obj) (gi : Nat) : Prop where
  cls : ob.cls = .type "generator"
  data : ∃ nm qn : Value, ob.data = .fields #[.int gi 0, nm, qn]
  slots : ob.slots = #[]
theorem GOb.at {ob : Obj} {gi : Nat} (h : GOb ob gi) {hp : Heap} {a : Addr} (e : hp.get? a = some ob) : hp.IsGen a gi := by
  obtain ⟨nm, qn, hd⟩ := h.data
  exact ⟨ob, nm, qn, e, h.cls, hd, h.slots⟩
/-- the generator at a, ready to be walked: n bounds its turns -/
def GReady (X : Cx) (G : Cx) (a : Addr) (ob : Obj) (gi : Nat) (σ : L2.St) (c : Bool) (Qs Qb : Hp → Prop) (n : Nat) (s : Shared) : Prop :=
  s.heap.NoLimit ∧ AllBare s.gens ∧ s.heap.get? a = some ob ∧ ∃ gs, s.gens[gi]? = some gs ∧ ∀ s'', Slept s s'' → gs.Goes (model X.prog X.w) X.A.in1.in1 (gR G [(a, ob)] σ Qs) (gY G [(a, ob)] σ c Qb) n (.send .none) s''
/-- a turn of the consumer -/
theorem gen_next {G : Cx} {a : Addr} {ob : Obj} {gi : Nat} {σ : L2.St} {c : Bool} {Qs Qb : Hp → Prop} {n : Nat} {s : Shared} {E : Value → Shared → Prop} {Q' : Option Value → Shared → Prop} {k : Nat} (hr : Room k X.A)
    (hob : GOb ob gi) (R : GReady X G a ob gi σ c Qs Qb n s)
    (hend : ∀ s' H', Inv G [(a, ob)] σ H' s' → Qs H' → Q' none s')
    (hgo : ∀ n' s', n = n' + 1 → GReady X G a ob gi σ c Qs Qb n' s' → Q' (some (.bool c)) s')
    (hbr : ∀ s' H', Inv G [(a, ob)] σ H' s' → Qb H' → Q' (some (.bool (!c))) s') :
    wpAny (model X.prog X.w) X.A.in1 (pyNext (.ref a)) Q' E s := by
  obtain ⟨lim, bare, hG, gs, hgs, goes⟩ := R
  have hlt : gi < s.gens.size := (Array.getElem?_eq_some_iff.mp hgs).1
  refine GenW.wpAny_gsz (n := s.gens.size) (Nat.le_refl _) ?_
  refine wpAny_pyNext_genexpQ (A := X.A.in1) (P := fun _ _ s₁ => ∃ H', Inv G [(a, ob)] σ H' s₁ ∧ Qs H') hr.hd lim (by have := hr.dp; show X.A.depth < _; omega) (hob.at hG) hgs (goes _ (Slept.set bare rfl)) (fun v s₁ gs' hb hv => ?_) (fun s₁ hp h' hk => ?_)
  · intro hsz
    obtain ⟨kk, H', rfl, I', hk⟩ := hv
    by_cases e : kk = c
    · subst e
      rw [if_pos rfl] at hk
      have sl : Slept s₁ (s₁.setGen gi gs') := Slept.set I'.bare hb
      cases n with
      | zero => exact False.elim (hk s₁ ⟨rfl, I'.bare, rfl⟩)
      | succ n' =>
        have hlt' : gi < s₁.gens.size := by
          rw [GenW.setGen_size] at hsz
          exact Nat.lt_of_lt_of_le hlt hsz
        refine hgo n' _ rfl ⟨I'.nolimit, (slept_inv I' sl).bare, (I'.pin (a, ob) (List.mem_append_right _ (by simp))).1, gs', ?_, fun s'' hs => hk s'' (sl.trans hs)⟩
        simp [Shared.setGen, hlt']
    · rw [if_neg e] at hk
      have e2 : kk = !c := by cases kk <;> cases c <;> simp_all
      rw [e2]
      exact hbr _ H' (slept_inv I' (Slept.set I'.bare hb)) hk
  · intro _
    obtain ⟨H', I', q⟩ := hp
    have I2 := slept_inv I' (Slept.set (g := gi) (x := .finished) I'.bare rfl)
    exact hend _ H' (I2.kept (t' := (s₁.setGen gi .finished).toks) hk) q
/-- all's loop, any's loop -/
theorem all_loop {G : Cx} {a : Addr} {ob : Obj} {gi : Nat} {σ : L2.St} {Qs Qb : Hp → Prop} {k : Nat} {R : Result → Shared → Prop} (hr : Room k X.A) (hob : GOb ob gi)
    (hs : ∀ s' H', Inv G [(a, ob)] σ H' s' → Qs H' → R (.ok (.ret (.bool true))) s') (hb : ∀ s' H', Inv G [(a, ob)] σ H' s' → Qb H' → R (.ok (.ret (.bool false))) s') :
    ∀ (n : Nat) (s : Shared), GReady X G a ob gi σ true Qs Qb n s → codeAny (model X.prog X.w) X.A (.builtin "all.loop" ⟨[.ref a], []⟩) R s := by
  intro n
  induction n with
  | zero =>
    intro s g
    refine codeAny_builtin F.entry_all_loop ?_
    rw [Around.under_plainId F.plain_all_loop _]
    show wpAny _ X.A.in1 (pyNext (.ref a) >>= _) _ _ s
    refine wpAny_bind (gen_next hr hob g (fun s' H' I q => ?_) (fun n' s' e => by cases e) (fun s' H' I q => ?_))
    · exact wpAny_bind (wpAny_rule (wpAny_pure (hs s' H' I q)))
    · refine wpAny_bind (wpAny_holding (wpAny_truthy_bool ?_))
      refine wpAny_bind (wpAny_letGo ?_)
      simp only [Bool.not_true, Bool.false_eq_true, if_false]
      exact wpAny_bind (wpAny_rule (wpAny_pure (hb s' H' I q)))
  | succ n ih =>
    intro s g
    refine codeAny_builtin F.entry_all_loop ?_
    rw [Around.under_plainId F.plain_all_loop _]
    show wpAny _ X.A.in1 (pyNext (.ref a) >>= _) _ _ s
    refine wpAny_bind (gen_next hr hob g (fun s' H' I q => ?_) (fun n' s' e g' => ?_) (fun s' H' I q => ?_))
    · exact wpAny_bind (wpAny_rule (wpAny_pure (hs s' H' I q)))
    · cases e
      refine wpAny_bind (wpAny_holding (wpAny_truthy_bool ?_))
      refine wpAny_bind (wpAny_letGo ?_)
      simp only [if_true]
      exact wpAny_pure ⟨plainId_quiet F.plain_all_loop _, ih s' g'⟩
    · refine wpAny_bind (wpAny_holding (wpAny_truthy_bool ?_))
      refine wpAny_bind (wpAny_letGo ?_)
      simp only [Bool.not_true, Bool.false_eq_true, if_false]
      exact wpAny_bind (wpAny_rule (wpAny_pure (hb s' H' I q)))
theorem any_loop {G : Cx} {a : Addr} {ob : Obj} {gi : Nat} {σ : L2.St} {Qs Qb : Hp → Prop} {k : Nat} {R : Result → Shared → Prop} (hr : Room k X.A) (hob : GOb ob gi)
    (hs : ∀ s' H', Inv G [(a, ob)] σ H' s' → Qs H' → R (.ok (.ret (.bool false))) s') (hb : ∀ s' H', Inv G [(a, ob)] σ H' s' → Qb H' → R (.ok (.ret (.bool true))) s') :
    ∀ (n : Nat) (s : Shared), GReady X G a ob gi σ false Qs Qb n s → codeAny (model X.prog X.w) X.A (.builtin "any.loop" ⟨[.ref a], []⟩) R s := by
  intro n
  induction n with
  | zero =>
    intro s g
    refine codeAny_builtin F.entry_any_loop ?_
    rw [Around.under_plainId F.plain_any_loop _]
    show wpAny _ X.A.in1 (pyNext (.ref a) >>= _) _ _ s
    refine wpAny_bind (gen_next hr hob g (fun s' H' I q => ?_) (fun n' s' e => by cases e) (fun s' H' I q => ?_))
    · exact wpAny_bind (wpAny_rule (wpAny_pure (hs s' H' I q)))
    · refine wpAny_bind (wpAny_holding (wpAny_truthy_bool ?_))
      refine wpAny_bind (wpAny_letGo ?_)
      simp only [Bool.not_false, if_true]
      exact wpAny_bind (wpAny_rule (wpAny_pure (hb s' H' I q)))
  | succ n ih =>
    intro s g
    refine codeAny_builtin F.entry_any_loop ?_
    rw [Around.under_plainId F.plain_any_loop _]
    show wpAny _ X.A.in1 (pyNext (.ref a) >>= _) _ _ s
    refine wpAny_bind (gen_next hr hob g (fun s' H' I q => ?_) (fun n' s' e g' => ?_) (fun s' H' I q => ?_))
    · exact wpAny_bind (wpAny_rule (wpAny_pure (hs s' H' I q)))
    · cases e
      refine wpAny_bind (wpAny_holding (wpAny_truthy_bool ?_))
      refine wpAny_bind (wpAny_letGo ?_)
      simp only [Bool.false_eq_true, if_false]
      exact wpAny_pure ⟨plainId_quiet F.plain_any_loop _, ih s' g'⟩
    · refine wpAny_bind (wpAny_holding (wpAny_truthy_bool ?_))
      refine wpAny_bind (wpAny_letGo ?_)
      simp only [Bool.not_false, if_true]
      exact wpAny_bind (wpAny_rule (wpAny_pure (hb s' H' I q)))
end
end GxL
namespace GxL
open PySem PySem.Spec PyProof.Rows L2
open Sem (wp)
/-- all(..) (c: true), any(..) (c: false) of a generator expression; the def's table at P may have grown -/
def tGx (c : Bool) (P : Addr) (wi : TI) (g : TG) (tt : TT) (te : TE) (vs : List Nat) : TE := fun σ H Q => wi σ H fun J H1 => GxR.TabG H1 P ∧ ∀ H2, GxR.Tabbed P H1 H2 → ∃ W : Nat → Nat → Hp → Prop, (∃ m, W 0 m H2) ∧ GTurn c J g tt te vs σ Q W
section
variable {X : Cx}
theorem gen_made {cc P : Addr} {c : Bool} {elt tg iter : Expr} {ifs : List Expr} {scope : Scope} {own : List (Str × Nat)} {gpos : Pos} {wi : TI} {g : TG} {tt : TT} {te : TE} {k : Nat} {pins : List (Addr × Obj)} {s : Shared} {σ : L2.St} {H : Hp} {Q : VK} {Q' : Value → Shared → Prop}
    (hr : Room (k + 3) X.A) (TB : LamX.TabB X.base X.mg cc P) (hcode : X.env.code = .ref cc) (S : GSc scope) (ok : BlkOk X.N X.env.scope scope own) (hN : X.N.Nodup) (hi : PI X tg iter wi)
    (hg : ∀ (s : Shared) (H : Hp) (C : Addr) (code : Value) (fp : List Addr), PG (genCx X s H (gEnv X scope C code) fp) tg g) (ht : ∀ (s : Shared) (H : Hp) (C : Addr) (code : Value) (fp : List Addr), Room k (genCx X s H (gEnv X scope C code) fp).A → PTs (genCx X s H (gEnv X scope C code) fp) ifs tt)
    (he : ∀ (s : Shared) (H : Hp) (C : Addr) (code : Value) (fp : List Addr), Room k (genCx X s H (gEnv X scope C code) fp).A → PE (genCx X s H (gEnv X scope C code) fp) elt te) (hs : ∀ v, genFold iter X.env v = pure v)
    (I : Inv X pins σ H s) (h : tGx c P wi g tt te (own.map (·.2)) σ H Q)
    (hQ : ∀ (G : Cx) (a : Addr) (ob : Obj) (gi n : Nat) (s5 : Shared), GOb ob gi → GReady X G a ob gi (wipe σ (own.map (·.2))) c (Q (.bl c)) (Q (.bl (!c))) n s5 → (∀ s' H', Inv G [(a, ob)] (wipe σ (own.map (·.2))) H' s' → Inv X pins σ H' s') → Q' (.ref a) s5) :
    wpAny (model X.prog X.w) X.A (eval (.GeneratorExp elt [⟨tg, iter, ifs, 0⟩] scope gpos) X.env) Q' X.xe s := by
  have hfree : ∀ y ∈ scope.names, y.2 = .free → ∃ c, X.env.cells.lookup y.1 = some c := fun y hy e => by
    rcases ok.free y hy e with k | k
    · exact I.ok.has _ (.inl k)
    · exact I.ok.has _ (.inr k)
  refine wpAny_GeneratorExp_make S.co (closure_ok hfree) S.cell S.dot ok.kind (by have := hr.dp; omega) ?_ hs
  refine thn (hi.run pins s σ H _ I h) fun xv s1 h1 => thn h1 fun itv s2 h2 => ?_
  obtain ⟨it, fp, tn, J, H2, e, I2, T, st2, f2, ⟨ps, hP, hto⟩, q⟩ := h2
  subst e
  have hPs : s2.heap.get? P = some { cls := .none, data := .fields ps } := I2.hok P _ hP
  have cd : PySem.W.CodeHd s2.heap cc P := TB.code.keeps I2.bk
  have sz : ∀ b ∈ fp, b < s2.heap.objs.size := fun b hb => by
    obtain ⟨o, e, _⟩ := T.obj _ _ st2 b hb
    exact Heap.lt_size e
  have nfP : ∀ b ∈ fp, b ≠ P := fun b hb z => by
    have z1 := (f2 b hb).1
    rw [z, hP] at z1
    cases z1
  have cont : ∀ (code : Value) (h3 : Heap) (tk : Nat) (more : Array Value), Heap.ExtBut P s2.heap h3 → s2.heap.objs.size ≤ h3.objs.size → h3.get? P = some { cls := .none, data := .fields (ps ++ more) } → TriplesOk (ps ++ more).toList →
      wpAny (model X.prog X.w) X.A (builtinsFor X.env.globals X.env.builtins) (fun bi s₄ =>
        ∀ h', h'.Ns s₄.heap.objs.size (fun y => if y = ".0" then some (.ref it) else none) → Heap.SameBut s₄.heap.objs.size (s₄.heap.push { cls := .type "frame", data := .dict #[] }) h' →
          Q' (.ref h'.objs.size) { s₄ with
            gens := s₄.gens.push (.fresh (.compStart (.GeneratorExp elt [⟨tg, iter, ifs, 0⟩] scope gpos) 0 (.ref it) .none (genEnv scope (cloFrom X.env.cells scope.names []) s₄.heap.objs.size code bi X.env))),
            toks := s₄.toks + 1 + 1 + 1,
            heap := h'.push { cls := .type "generator", data := .fields #[.int s₄.gens.size 0, .str "<genexpr>" (s₄.toks + 1), .str (X.env.qual ++ "<genexpr>") (s₄.toks + 1 + 1)] } }) X.xe { s2 with heap := h3, toks := tk } := by
    intro code h3 tk more hx hsz hP3 ht3
    have I3 : Inv X pins σ (upd H2 P (.tbl (ps ++ more))) { s2 with heap := h3, gens := s2.gens, drawn := s2.drawn, toks := tk } := GxR.inv_tab I2 hP (fun b o hb e => hx b o hb e) hP3 I2.bare
    obtain ⟨bm, ob, e1, e2, e3, e4, e5, e6, e7, e8⟩ := TB.bm
    have keep3 : ∀ b u, b ≠ P → s2.heap.get? b = some u → h3.get? b = some u := fun b u hb e => hx b u hb e
    refine wpAny_builtinsFor (m := X.mg) (by rw [I2.ok.glob]; exact (I2.mod.glob.keeps I2.bk).extBut hx TB.gP) e1 e2 (keep3 _ _ e4 (I2.bk _ _ e5)) e6 e7 e8 ?_
    intro h' hns hsb
    obtain ⟨W, ⟨m0, w0⟩, turn⟩ := q (upd H2 P (.tbl (ps ++ more))) ⟨⟨ps ++ more, upd_same, ht3⟩, fun b hb => upd_ne hb⟩
    generalize hH3 : upd H2 P (.tbl (ps ++ more)) = H3 at I3 w0
    have n3 : ∀ b ∈ fp, H3 b = none := fun b hb => by rw [← hH3, upd_ne (nfP b hb)]; exact (f2 b hb).1
    generalize hs3 : ({ s2 with heap := h3, gens := s2.gens, drawn := s2.drawn, toks := tk } : Shared) = s3 at I3
    have es3 : ({ s2 with heap := h3, toks := tk } : Shared) = s3 := by rw [← hs3]
    have eh3 : h3 = s3.heap := by rw [← hs3]
    rw [show ({ s2 with heap := h3, toks := tk } : Shared).heap = s3.heap from by rw [es3]] at hns hsb
    have f3 : ∀ b ∈ fp, FpOk X pins H3 b ∧ b < s3.heap.objs.size := fun b hb => ⟨⟨n3 b hb, (f2 b hb).2⟩, by rw [← eh3]; exact Nat.lt_of_lt_of_le (sz b hb) hsz⟩
    have szh : h'.objs.size = s3.heap.objs.size + 1 := by rw [hsb.1, Heap.size_push]
    have kp' : ∀ b o, s3.heap.get? b = some o → h'.get? b = some o := fun b o e => hsb.extBut b o (Nat.ne_of_lt (Heap.lt_size e)) (Heap.get?_push_of_some _ e)
    generalize hob : ({ cls := .type "generator", data := .fields #[.int s3.gens.size 0, .str "<genexpr>" (s3.toks + 1), .str (X.env.qual ++ "<genexpr>") (s3.toks + 1 + 1)] } : Obj) = og
    have GO : GOb og s3.gens.size := by
      rw [← hob]
      exact ⟨rfl, ⟨_, _, rfl⟩, rfl⟩
    have kp5 : ∀ b o, s3.heap.get? b = some o → (h'.push og).get? b = some o := fun b o e => Heap.get?_push_of_some _ (kp' b o e)
    have ga : (h'.push og).get? h'.objs.size = some og := Heap.get?_push_size _ (by rw [← hob]; rfl)
    refine hQ (genCx X s3 H3 (gEnv X scope s3.heap.objs.size code) fp) h'.objs.size og s3.gens.size (m0 + 1) _ GO ?_ fun s' H' I' => ?_
    · generalize hs5 : ({ s3 with
            gens := s3.gens.push (.fresh (.compStart (.GeneratorExp elt [⟨tg, iter, ifs, 0⟩] scope gpos) 0 (.ref it) .none (genEnv scope (cloFrom X.env.cells scope.names []) s3.heap.objs.size code builtinsNs X.env))),
            toks := s3.toks + 1 + 1 + 1, heap := h'.push og } : Shared) = s5
      have eh5 : s5.heap = h'.push og := by rw [← hs5]
      have I5 : Inv (genCx X s3 H3 (gEnv X scope s3.heap.objs.size code) fp) [] (wipe σ (own.map (·.2))) H3 s5 :=
        gen_start I3 ok S hN hr.hd f3 (by rw [← hs5]) (by rw [← hs5]; exact I3.bare.push rfl) (by rw [eh5]; exact hns.push _) (by rw [eh5]; exact kp5)
      have I6 : Inv (genCx X s3 H3 (gEnv X scope s3.heap.objs.size code) fp) [(h'.objs.size, og)] (wipe σ (own.map (·.2))) H3 s5 := by
        refine I5.pins_of fun p hp => ?_
        have hp : p = (h'.objs.size, og) := by simpa using hp
        rw [hp]
        have hge : s3.heap.objs.size ≤ h'.objs.size := by omega
        refine ⟨by rw [eh5]; exact ga, I3.hok.fresh hge, ?_, fun z => ?_, fun v z => ?_⟩
        · show h'.objs.size ≠ s3.heap.objs.size
          omega
        · obtain ⟨_, o, ho, _⟩ := I5.ok.funs.mem z
          have ho : s3.heap.get? h'.objs.size = some o := ho
          exact absurd (Nat.lt_of_lt_of_le (Heap.lt_size ho) hge) (Nat.lt_irrefl _)
        · rw [← hob] at z
          cases z
      have st5 : tn 0 s5.heap := T.keep _ _ _ st2 fun b hb o e => by rw [eh5]; exact kp5 b o (by rw [← eh3]; exact keep3 b o (nfP b hb) e)
      have hgs : s5.gens[s3.gens.size]? = some (.fresh (.compStart (.GeneratorExp elt [⟨tg, iter, ifs, 0⟩] scope gpos) 0 (.ref it) .none (gEnv X scope s3.heap.objs.size code))) := by
        rw [← hs5]
        exact Array.getElem?_push_size ..
      refine ⟨I6.nolimit, I6.bare, by rw [eh5]; exact ga, _, hgs, fun s'' hsl => ⟨rfl, ?_⟩⟩
      have hab : ∀ b ∈ fp, h'.objs.size ≠ b := fun b hb z => by
        have h1 := (f3 b hb).2
        rw [← z] at h1
        have h1 : h'.objs.size < s3.heap.objs.size := h1
        omega
      exact gen_seg0 T S.co hab (hg _ _ _ _ _) (ht _ _ _ _ _ (hr.in1.in1.deeper _)) (he _ _ _ _ _ (hr.in1.in1.deeper _)) turn (Nat.lt_succ_self m0) (slept_inv I6 hsl) (by rw [hsl.2.2]; exact st5) n3 w0
    · exact I3.call' (ch := fp) I'.os I'.base I'.hok I'.bare fun b hb => ⟨(f3 b hb).1.2.2.2.1, (f3 b hb).1.2.1, (f3 b hb).1.2.2.2.2.1, (f3 b hb).1.2.2.2.2.2⟩
  refine ⟨I2.nolimit, ?_⟩
  cases hf : codeAmong gpos ps.toList with
  | none =>
    refine wpAny_genexprCodeX hcode (cd.code hPs hto) (cd.tab hPs) hf fun c' h' tk hx hge hlt hco' _ htab' _ => ?_
    obtain ⟨o1, vs, f1, tf, fl, tg, inF, tx, tt, op, _, _, _, _, _, _, _, _, _, htr, _⟩ := hco'
    exact cont _ h' tk _ hx (Nat.le_trans hge (Nat.le_of_lt hlt)) htab'.2 htr
  | some cv =>
    refine wpAny_genexprCode_hit hcode (cd.code hPs hto) hf ?_
    exact cont cv s2.heap s2.toks #[] (Heap.ExtBut.refl _ _) (Nat.le_refl _) (by simpa using hPs) (by simpa using hto)
/-- all(.. for .. in ..) -/
theorem pe_allG {cc P : Addr} {elt tg iter : Expr} {ifs : List Expr} {scope : Scope} {own : List (Str × Nat)} {p pos gpos : Pos} {wi : TI} {g : TG} {tt : TT} {te : TE} {k : Nat}
    (hr : Room (k + 3) X.A) (hgl : Gl X "all") (hm : X.mg "all" = none) (TB : LamX.TabB X.base X.mg cc P) (hcode : X.env.code = .ref cc) (S : GSc scope) (ok : BlkOk X.N X.env.scope scope own) (hN : X.N.Nodup) (hi : PI X tg iter wi)
    (hg : ∀ (s : Shared) (H : Hp) (C : Addr) (code : Value) (fp : List Addr), PG (genCx X s H (gEnv X scope C code) fp) tg g) (ht : ∀ (s : Shared) (H : Hp) (C : Addr) (code : Value) (fp : List Addr), Room k (genCx X s H (gEnv X scope C code) fp).A → PTs (genCx X s H (gEnv X scope C code) fp) ifs tt)
    (he : ∀ (s : Shared) (H : Hp) (C : Addr) (code : Value) (fp : List Addr), Room k (genCx X s H (gEnv X scope C code) fp).A → PE (genCx X s H (gEnv X scope C code) fp) elt te) (hb : bootBuiltins "all" = some (.builtin "all") := by rfl) (hs : ∀ v, genFold iter X.env v = pure v := by intro _; rfl)
    (hst : starEach [.GeneratorExp elt [⟨tg, iter, ifs, 0⟩] scope gpos] X.env = (false, eval (.GeneratorExp elt [⟨tg, iter, ifs, 0⟩] scope gpos) X.env) :: starEach [] X.env := by rfl) :
    PE X (.Call (.Name "all" p) [.GeneratorExp elt [⟨tg, iter, ifs, 0⟩] scope gpos] [] pos) (tGx true P wi g tt te (own.map (·.2))) := by
  refine ⟨fun pins s σ H Q I h => ?_⟩
  refine wpAny_Call_Name_kw (ld_blt I hgl hm hb ?_)
  refine PyProof.Rows.callWith_builtin1 ?_ hst (by rfl)
  rw [hst]
  show wpAny _ _ (spliced ((false, eval (.GeneratorExp elt [⟨tg, iter, ifs, 0⟩] scope gpos) X.env) :: backTo pos (starEach [] X.env))) _ _ s
  refine Calls.spliced_cons (gen_made hr TB hcode S ok hN hi hg ht he hs I h fun G a ob gi n s5 hob R back => ?_)
  refine Calls.spliced_nil ?_
  refine call_function_tree F.kind_all F.plain_all F.entry_all (F.args_all1 _) ?_
  unfold Builtin.«all»
  refine wpAny_bind (m := oneArg "all" _) (wpAny_pure ?_)
  refine wpAny_bind (wpAny_pyIter_gen (hob.at R.2.2.1) ?_)
  exact wpAny_pure ⟨plainId_quiet F.plain_all_loop _, all_loop hr hob (fun s' H' I' q => ⟨.bl true, H', back s' H' I', rfl, q⟩) (fun s' H' I' q => ⟨.bl false, H', back s' H' I', rfl, q⟩) n s5 R⟩
/-- any(.. for .. in ..) -/
theorem pe_anyG {cc P : Addr} {elt tg iter : Expr} {ifs : List Expr} {scope : Scope} {own : List (Str × Nat)} {p pos gpos : Pos} {wi : TI} {g : TG} {tt : TT} {te : TE} {k : Nat}
    (hr : Room (k + 3) X.A) (hgl : Gl X "any") (hm : X.mg "any" = none) (TB : LamX.TabB X.base X.mg cc P) (hcode : X.env.code = .ref cc) (S : GSc scope) (ok : BlkOk X.N X.env.scope scope own) (hN : X.N.Nodup) (hi : PI X tg iter wi)
    (hg : ∀ (s : Shared) (H : Hp) (C : Addr) (code : Value) (fp : List Addr), PG (genCx X s H (gEnv X scope C code) fp) tg g) (ht : ∀ (s : Shared) (H : Hp) (C : Addr) (code : Value) (fp : List Addr), Room k (genCx X s H (gEnv X scope C code) fp).A → PTs (genCx X s H (gEnv X scope C code) fp) ifs tt)
    (he : ∀ (s : Shared) (H : Hp) (C : Addr) (code : Value) (fp : List Addr), Room k (genCx X s H (gEnv X scope C code) fp).A → PE (genCx X s H (gEnv X scope C code) fp) elt te) (hs : ∀ v, genFold iter X.env v = pure v := by intro _; rfl)
    (hst : starEach [.GeneratorExp elt [⟨tg, iter, ifs, 0⟩] scope gpos] X.env = (false, eval (.GeneratorExp elt [⟨tg, iter, ifs, 0⟩] scope gpos) X.env) :: starEach [] X.env := by rfl) :
    PE X (.Call (.Name "any" p) [.GeneratorExp elt [⟨tg, iter, ifs, 0⟩] scope gpos] [] pos) (tGx false P wi g tt te (own.map (·.2))) := by
  refine ⟨fun pins s σ H Q I h => ?_⟩
  refine wpAny_Call_Name_kw (ld_blt I hgl hm boot_any ?_)
  refine PyProof.Rows.callWith_builtin1 ?_ hst (by rfl)
  rw [hst]
  show wpAny _ _ (spliced ((false, eval (.GeneratorExp elt [⟨tg, iter, ifs, 0⟩] scope gpos) X.env) :: backTo pos (starEach [] X.env))) _ _ s
  refine Calls.spliced_cons (gen_made hr TB hcode S ok hN hi hg ht he hs I h fun G a ob gi n s5 hob R back => ?_)
  refine Calls.spliced_nil ?_
  refine call_function_tree F.kind_any F.plain_any F.entry_any (F.args_any1 _) ?_
  unfold Builtin.«any»
  refine wpAny_bind (m := oneArg "any" _) (wpAny_pure ?_)
  refine wpAny_bind (wpAny_pyIter_gen (hob.at R.2.2.1) ?_)
  exact wpAny_pure ⟨plainId_quiet F.plain_any_loop _, any_loop hr hob (fun s' H' I' q => ⟨.bl false, H', back s' H' I', rfl, q⟩) (fun s' H' I' q => ⟨.bl true, H', back s' H' I', rfl, q⟩) n s5 R⟩
end
end GxL
namespace Rg
open PySem PySem.Spec PyProof.Rows L2
/-! ### tables of code objects: all the law's tables stand, all else is kept -/
def Tab (Ps : List Addr) (H : Hp) : Prop := ∀ p ∈ Ps, GxR.TabG H p
structure Tk (Ps : List Addr) (H H' : Hp) : Prop where
  tab : Tab Ps H'
  kp : Kp Ps H H'
section
variable {Ps : List Addr} {H H1 H2 : Hp} {a P : Addr} {o : HO}
theorem Tk.refl (t : Tab Ps H) : Tk Ps H H := ⟨t, .refl⟩
theorem Tk.trans (x : Tk Ps H H1) (y : Tk Ps H1 H2) : Tk Ps H H2 := ⟨y.tab, x.kp.trans y.kp⟩
theorem Tab.same (t : Tab Ps H) (s : Same H H1) : Tab Ps H1 := fun p hp => let ⟨ps, e, r⟩ := t p hp; ⟨ps, s _ _ e, r⟩
theorem Tk.of (t : Tab Ps H) (s : Same H H1) : Tk Ps H H1 := ⟨t.same s, .of s⟩
theorem Tk.same (x : Tk Ps H H1) (s : Same H1 H2) : Tk Ps H H2 := x.trans (.of x.tab s)
theorem Tab.new (t : Tab Ps H) (h : H a = none) : Tab Ps (upd H a o) := t.same (same_upd h)
theorem Tk.new (x : Tk Ps H H1) (h : H1 a = none) : Tk Ps H (upd H1 a o) := x.same (same_upd h)
theorem Tab.ne (t : Tab Ps H) (hp : P ∈ Ps) (h : H a = some o) (n : ∀ ps, o ≠ .tbl ps) : a ≠ P := fun z => by
  obtain ⟨ps, e, _⟩ := t P hp
  rw [z, e] at h
  exact n ps (Option.some.inj h).symm
theorem Tab.nin (t : Tab Ps H) (h : H a = some o) (n : ∀ ps, o ≠ .tbl ps) : a ∉ Ps := fun z => t.ne z h n rfl
theorem Tab.ninN (t : Tab Ps H) (h : H a = none) : a ∉ Ps := fun z => by
  obtain ⟨ps, e, _⟩ := t a z
  rw [h] at e
  cases e
/-- what is no table is kept -/
theorem Tk.at (x : Tk Ps H H1) (t : Tab Ps H) (h : H a = some o) (n : ∀ ps, o ≠ .tbl ps := by intro _ z; cases z) : H1 a = some o := x.kp a o h (t.nin h n)
theorem Tk.at' (x : Tk Ps H H1) (h : H a = some o) (n : a ∉ Ps) : H1 a = some o := x.kp a o h n
theorem Tk.free (x : Tk Ps H H1) (h : H1 a = none) : H a = none := x.kp.free (x.tab.ninN h) h
theorem Tab.upd (t : Tab Ps H) (h : H a = some o) (n : ∀ ps, o ≠ .tbl ps) {u : HO} : Tab Ps (upd H a u) := fun p hp => by
  obtain ⟨ps, e, r⟩ := t p hp
  exact ⟨ps, by rw [upd_ne (t.ne hp h n).symm]; exact e, r⟩
/-- one table has grown -/
theorem Tk.tabbed (t : Tab Ps H) (hp : P ∈ Ps) (h : GxR.Tabbed P H H1) : Tk Ps H H1 := by
  refine ⟨fun p q => ?_, fun x o e n => by rw [h.2 x fun z => n (z ▸ hp)]; exact e⟩
  by_cases z : p = P
  · rw [z]; exact h.1
  · obtain ⟨ps, e, r⟩ := t p q
    exact ⟨ps, by rw [h.2 p z]; exact e, r⟩
end
/-! ### all, any: the forms one uses -/
theorem gx_by {c : Bool} {J : It} {g : TG} {tt : TT} {te : TE} {vs : List Nat} {σ : L2.St} {Q : VK} {H2 : Hp} (n : Nat) (Pv : Nat → Hp → Prop) (h0 : Pv 0 H2) (hgo : ∀ i H, i < n → Pv i H → J.go i H) (hstop : ∀ H, Pv n H → J.stop n H)
    (hs : ∀ i x H H', i < n → Pv i H → J.yld i H x H' → g x (wipe σ vs) H' fun σ2 H2 => wipe σ2 vs = wipe σ vs ∧ tt σ2 H2 fun b H3 => if b = true then te σ2 H3 fun y H4 => ∃ k, y = .bl k ∧ if k = c then Pv (i + 1) H4 else Q (.bl (!c)) H4 else Pv (i + 1) H3)
    (hd : ∀ H, Pv n H → Q (.bl c) H) : ∃ W : Nat → Nat → Hp → Prop, (∃ m, W 0 m H2) ∧ GxL.GTurn c J g tt te vs σ Q W := by
  refine ⟨fun i m H => m = n - i ∧ i ≤ n ∧ Pv i H, ⟨n, by simp, Nat.zero_le _, h0⟩, ?_⟩
  rintro i m H ⟨rfl, hi, p⟩
  by_cases hlt : i < n
  · exact .inr ⟨hgo i H hlt p, Pv (i + 1), fun H' p' => ⟨n - (i + 1), by omega, rfl, hlt, p'⟩, fun x H' y => hs i x H H' hlt p y⟩
  · have e : i = n := by omega
    subst e
    exact .inl ⟨hstop H p, hd H p⟩
/-- over a list -/
theorem gx_list {K : PySem.W.Frag} {a : Addr} {xs : List V} {c : Bool} {g : TG} {tt : TT} {te : TE} {vs : List Nat} {σ : L2.St} {Q : VK} {H2 : Hp} (Pv : Nat → Hp → Prop) (h0 : Pv 0 H2) (hl : ∀ i H, i ≤ xs.length → Pv i H → SqL K H a xs)
    (hs : ∀ i x H, xs[i]? = some x → Pv i H → g x (wipe σ vs) H fun σ2 H2 => wipe σ2 vs = wipe σ vs ∧ tt σ2 H2 fun b H3 => if b = true then te σ2 H3 fun y H4 => ∃ k, y = .bl k ∧ if k = c then Pv (i + 1) H4 else Q (.bl (!c)) H4 else Pv (i + 1) H3)
    (hd : ∀ H, Pv xs.length H → Q (.bl c) H) : ∃ W : Nat → Nat → Hp → Prop, (∃ m, W 0 m H2) ∧ GxL.GTurn c (Itl K a) g tt te vs σ Q W := by
  refine gx_by xs.length Pv h0 (fun i H hi p => ⟨xs, xs[i], hl i H (Nat.le_of_lt hi) p, by simp [hi]⟩) (fun H p => ⟨xs, hl _ H (Nat.le_refl _) p, Nat.le_refl _⟩) (fun i x H H' hi p y => ?_) hd
  obtain ⟨e, y⟩ := y
  subst e
  exact hs i x _ (y xs (hl i _ (Nat.le_of_lt hi) p)) p
/-- over a tuple -/
theorem gx_tup {K : PySem.W.Frag} {a : Addr} {xs : List V} {c : Bool} {g : TG} {tt : TT} {te : TE} {vs : List Nat} {σ : L2.St} {Q : VK} {H2 : Hp} (Pv : Nat → Hp → Prop) (h0 : Pv 0 H2) (hl : ∀ i H, i ≤ xs.length → Pv i H → SqT K H a xs)
    (hs : ∀ i x H, xs[i]? = some x → Pv i H → g x (wipe σ vs) H fun σ2 H2 => wipe σ2 vs = wipe σ vs ∧ tt σ2 H2 fun b H3 => if b = true then te σ2 H3 fun y H4 => ∃ k, y = .bl k ∧ if k = c then Pv (i + 1) H4 else Q (.bl (!c)) H4 else Pv (i + 1) H3)
    (hd : ∀ H, Pv xs.length H → Q (.bl c) H) : ∃ W : Nat → Nat → Hp → Prop, (∃ m, W 0 m H2) ∧ GxL.GTurn c (Itt K a) g tt te vs σ Q W := by
  refine gx_by xs.length Pv h0 (fun i H hi p => ⟨xs, xs[i], hl i H (Nat.le_of_lt hi) p, by simp [hi]⟩) (fun H p => ⟨xs, hl _ H (Nat.le_refl _) p, Nat.le_refl _⟩) (fun i x H H' hi p y => ?_) hd
  obtain ⟨e, y⟩ := y
  subst e
  exact hs i x _ (y xs (hl i _ (Nat.le_of_lt hi) p)) p
/-- over the signs of a text -/
theorem gx_str {x : Str} {c : Bool} {g : TG} {tt : TT} {te : TE} {vs : List Nat} {σ : L2.St} {Q : VK} {H2 : Hp} (Pv : Nat → Hp → Prop) (h0 : Pv 0 H2)
    (hs : ∀ i s H, x.cps[i]? = some s → Pv i H → g (.str ⟨#[s]⟩) (wipe σ vs) H fun σ2 H2 => wipe σ2 vs = wipe σ vs ∧ tt σ2 H2 fun b H3 => if b = true then te σ2 H3 fun y H4 => ∃ k, y = .bl k ∧ if k = c then Pv (i + 1) H4 else Q (.bl (!c)) H4 else Pv (i + 1) H3)
    (hd : ∀ H, Pv x.cps.size H → Q (.bl c) H) : ∃ W : Nat → Nat → Hp → Prop, (∃ m, W 0 m H2) ∧ GxL.GTurn c (Its x) g tt te vs σ Q W := by
  refine gx_by x.cps.size Pv h0 (fun i H hi p => hi) (fun H p => Nat.le_refl _) (fun i v H H' hi p y => ?_) hd
  obtain ⟨rfl, s, e, rfl⟩ := y
  exact hs i s _ e p
/-- a test of every item by a Bool, nothing changed but the tables: all(f(x) for x in xs), any(..) -/
def allB (c : Bool) {α : Type} (f : α → Bool) (xs : List α) : Bool := if c = true then xs.all f else xs.any f
/-! ### a def whose code object is known -/
section
variable {P : Program} {w : World} {K : PySem.W.Frag} {mg : Str → Option Value} {base : Heap}
theorem fun_okC {x qual : Str} {st : Stmt} {f cc : Addr} {fd : FuncData} {N ps : List Str} {k : Nat} {sp : Sp} (F : Fun K x qual st f fd) (hc : fd.code = .ref cc) (S : FnScope N ps (defScope st)) (len : ∀ vs H Q E, sp vs H Q E → vs.length = ps.length)
    (hbody : ∀ (A : Around) (outer : List Env) (s : Shared) (H : Hp) (vs : List V) (Q : VK) (E : XK), Room k (A.deeper (envOfC qual (defScope st) s.heap.objs.size f (.ref cc))) → sp vs H Q E →
      ∃ t, PSs (cxOf CX0 P w K mg base N qual (defScope st) f (.ref cc) A outer s H E).nox (defBody st) t ∧ t { nx := fun _ H' => Q .non H', rt := Q } (start N vs) H) : FnOk P w K mg base CX0 (k + 1) f fd ps sp := by
  obtain ⟨oc, od, kV, doc, pm, an, cdv, ct, osl, rfl, lk, hcd⟩ := F.ex
  obtain rfl : cdv = .ref cc := hc
  refine fn_of lk hcd S len fun A outer s H vs Q E hr hsp => ?_
  obtain ⟨t, h, q⟩ := hbody A outer s H vs Q E hr hsp
  exact ⟨t, h.nox, q⟩
end
/-! ### the end: a top def's table is empty at the law's entry -/
def TabsOf (q : Program) (mg : Str → Option Value) (h : Heap) : Prop := ∀ d ∈ recsOf q, ∃ a o fd c P, mg d.name = some (.ref a) ∧ h.get? a = some o ∧ o.data = .func fd ∧ fd.code = .ref c ∧ h.IsCode c P #[] ∧ h.TableAt c P #[]
theorem tab_of {q : Program} {K : PySem.W.Frag} {mg : Str → Option Value} {h : Heap} {x : Str} {a c P : Addr} {oc : Value} {od : Option Addr} {osl : Array (Option Value)} {fd : FuncData} (T : TabsOf q mg h) (KX : K.In h) (hx : (recsOf q).any (fun d => d.name == x) = true)
    (hm : mg x = some (.ref a)) (lk : K.lookup a = some ⟨oc, od, .func fd, osl⟩) (hc : fd.code = .ref c) (hh : PySem.W.codeHdIn K c P = true) : h.get? P = some { cls := .none, data := .fields #[] } := by
  obtain ⟨d, hd, e⟩ := List.any_eq_true.mp hx
  have e : d.name = x := by simpa using e
  obtain ⟨a', o, fd', c', P', m1, m2, m3, m4, m5, m6⟩ := T d hd
  rw [e, hm] at m1
  cases m1
  rw [KX _ _ lk] at m2
  cases m2
  cases m3
  rw [hc] at m4
  cases m4
  obtain ⟨o1, vs, _, _, _, _, _, _, _, g1, g2, g3, g4, _⟩ := PySem.W.codeHd_of_K KX hh
  obtain ⟨⟨o2, vs2, f1, f2, f3, f4⟩, f5⟩ := m6
  rw [g1] at f1
  cases f1
  rw [g3] at f3
  cases f3
  rw [g4] at f4
  cases f4
  exact f5
theorem walk_ofG {l : PySem.W.OpenLaw} {n k : Nat} {q : Program} {loose : List Str} {XP : (Str → Option Value) → Heap → Prop} {YP : World → Heap → Prop} {d : DefRec} {K : Params → PySem.W.Frag} {CX : World → CXT} {x : Str}
    (hn : l.most = some n) (hn2 : n ≤ sizeLine) (hdf : d.params.defaults = []) (hr : Room k callerA) (hY : ∀ (w : World) (h : Heap), YP w h → (K w.params).In h)
    (F : ∀ (w : World) (mg : Str → Option Value) (fa : Addr) (h : Heap), TabsOf q mg h → YP w h → (K w.params).In h → h.Ns mainGlobals mg → mg d.name = some (.ref fa) → LamX.LawAtS l w (K w.params) (CX w) k n x mg fa h)
    (hCX : ∀ (w : World) (H : Hp) (s : Shared) (e : Value) (s' : Shared), CX w [] H s (fun _ _ _ => False) e s' → False) :
    PySem.W.WalkO q loose XP YP l.row.toRowW d [] (fun f vs => PySem.call f vs) := by
  refine Att.attach_callB hn hdf fun w s₀ s₁ mg mb fa o pm cd doc a vs ns G Y ho hd hcd hmg hobj hints hlen hbits hg => ?_
  have KX := hY w _ Y
  obtain ⟨fd, cs, sp, hT, nT, C, hb, hsp, hF⟩ := F w mg fa _ G.T.tab Y KX G.T.g hmg
  exact LamX.law_callTs KX G.T.g G.T.b G.T.builtins G.T.nolimit hg hT nT C G.T.bmain hobj hints (Nat.le_trans hlen hn2) hr hF hb (fun H hH hS => hsp H a ns hlen hbits hH hS) fun H e s' => hCX w H s₁ e s'
end Rg
namespace Rg
open PySem PySem.Spec PyProof.Rows L2
/-! ### x is True, x is not False: bools told by value -/
theorem op_isV {X : Cx} : OpR X (compareOp .Is) (fun x y H Q => ∃ a c, x = .bl a ∧ y = .bl c ∧ Q (.bl (decide (a = c))) H) := by
  intro pins s σ H x y v u Q I rx ry h
  obtain ⟨a, c, rfl, rfl, q⟩ := h
  cases rx
  cases ry
  by_cases e : a = c
  · subst e
    rw [decide_eq_true rfl] at q
    exact wpAny_is_self rfl ⟨.bl true, H, I, rfl, q⟩
  · rw [decide_eq_false e] at q
    exact wpAny_is_other rfl (fun z => e (by injection z)) ⟨.bl false, H, I, rfl, q⟩
theorem op_notV {X : Cx} : OpR X (compareOp .IsNot) (fun x y H Q => ∃ a c, x = .bl a ∧ y = .bl c ∧ Q (.bl (!decide (a = c))) H) := by
  intro pins s σ H x y v u Q I rx ry h
  obtain ⟨a, c, rfl, rfl, q⟩ := h
  cases rx
  cases ry
  by_cases e : a = c
  · subst e
    rw [decide_eq_true rfl] at q
    exact wpAny_isNot_self rfl ⟨.bl false, H, I, rfl, q⟩
  · rw [decide_eq_false e] at q
    exact wpAny_isNot_other rfl (fun z => e (by injection z)) ⟨.bl true, H, I, rfl, q⟩
theorem take_snoc {α : Type} {l : List α} {i : Nat} {c : α} (h : l[i]? = some c) : l.take (i + 1) = l.take i ++ [c] := by
  rw [List.take_succ, h]
  rfl
theorem atN {α : Type} {xs : List α} {z : Int} {j : Nat} {v : α} (e : z = (j : Int)) (h : xs[j]? = some v) : atI xs z = some v := by
  subst e
  exact atI_nat h
theorem S_at {l : List Nat} {i c : Nat} (h : (SX.S l).cps[i]? = some c) : l[i]? = some c := by simpa using h
/-! ### a loop over the signs of a text -/
theorem for_str {x : Str} {g : TG} {tb : TS} {D : Ends} {σ : L2.St} {H : Hp} (Pv : Nat → L2.St → Hp → Prop) (h0 : Pv 0 σ H)
    (hs : ∀ i s σ H, x.cps[i]? = some s → Pv i σ H → g (.str ⟨#[s]⟩) σ H fun σ2 H2 => tb { D with nx := Pv (i + 1), ct := Pv (i + 1), bk := D.nx } σ2 H2) (hd : ∀ σ H, Pv x.cps.size σ H → D.nx σ H) :
    ∃ W : Nat → Nat → L2.St → Hp → Prop, (∃ m, W 0 m σ H) ∧ ∀ i m σ H, W i m σ H →
      ((Its x).stop i H ∧ D.nx σ H) ∨ ((Its x).go i H ∧ ∃ N : L2.St → Hp → Prop, (∀ σ' H', N σ' H' → ∃ m', m' < m ∧ W (i + 1) m' σ' H') ∧ ∀ v H', (Its x).yld i H v H' → g v σ H' fun σ2 H2 => tb { D with nx := N, ct := N, bk := D.nx } σ2 H2) := by
  refine ⟨fun i m σ H => m = x.cps.size - i ∧ i ≤ x.cps.size ∧ Pv i σ H, ⟨x.cps.size, by simp, Nat.zero_le _, h0⟩, ?_⟩
  rintro i m σ H ⟨rfl, hi, p⟩
  by_cases hlt : i < x.cps.size
  · refine .inr ⟨hlt, Pv (i + 1), fun σ' H' p' => ⟨x.cps.size - (i + 1), by omega, rfl, hlt, p'⟩, fun v H' y => ?_⟩
    obtain ⟨rfl, s, e, rfl⟩ := y
    exact hs i s σ _ e p
  · have e : i = x.cps.size := by omega
    subst e
    exact .inl ⟨Nat.le_refl _, hd σ H p⟩
end Rg
namespace Rg
open PySem PySem.Spec PyProof.Rows L2
/-! ### t[lo:hi], the whole of t: t itself -/
section
variable {prog : Program} {w : World} {A : Around} {E : Value → Shared → Prop} {s : Shared}
theorem getItem_tuple_all {t sl : Addr} {items : Array Value} {vl vu : Value} {lo hi : Option Int} {Q : Value → Shared → Prop} (ht : IsTup s.heap t items) (hs : s.heap.IsSliceOf sl vl vu .none) (pl : IsPart vl lo) (pu : IsPart vu hi)
    (hw : HT.sIx items.size 0 lo = 0 ∧ HT.sIx items.size items.size hi = items.size) (h : Q (.ref t) s) : wpAny (model prog w) A (getItem (.ref t) (.ref sl)) Q E s := by
  obtain ⟨os, hos, hcs, hds⟩ := id hs
  have hTs : s.TypeIs (.ref sl) "slice" := ⟨os, hos, hcs⟩
  unfold getItem
  try with_reducible refine wpAny_holding ?_
  first | refine wpAny_bind (wpAny_pure ?_) | skip
  refine wpAny_bind (wpAny_sequenceKey ht.typeIs (by decide) ?_)
  refine wpAny_bind (wpAny_callSpecial?_slot (name := Str.ofString "__getitem__") ht.typeIs PyProof.Rows.slot_tuple_getitem
    (wpAny_call_entry PyProof.Rows.slot_tuple_getitem ht.typeIs entry_tuple_getitem ?_ (args_tuple_getitem _ _)))
  show wpAny _ _ (Builtin.Tuple.tupleItemsOf (.ref t) >>= _) _ _ s
  refine wpAny_bind (tupleItemsOf_ ht ?_)
  refine wpAny_bind (wpAny_typeOf hTs ?_)
  rw [if_pos (by decide)]
  refine wpAny_bind (HT.sliceApplied_gen hs pl pu ?_)
  have hyes : (((HT.sIx items.size 0 lo : Nat) : Int) == 0 && (1 : Int) == 1 && (HT.sIx items.size items.size hi - HT.sIx items.size 0 lo) == items.size) = true := by
    rw [hw.1, hw.2]
    simp
  show wpAny _ _ (if (((HT.sIx items.size 0 lo : Nat) : Int) == 0 && (1 : Int) == 1 && (HT.sIx items.size items.size hi - HT.sIx items.size 0 lo) == items.size) = true then _ else _) _ _ s
  rw [if_pos hyes]
  refine wpAny_bind (m := Builtin.Tuple.tupleIsExact _) ?_
  unfold Builtin.Tuple.tupleIsExact
  refine wpAny_bind (wpAny_typeOf ht.typeIs (wpAny_pure ?_))
  show wpAny _ _ (if ((Value.type "tuple" == Value.type "tuple") = true) then _ else _) _ _ s
  rw [if_pos (by decide)]
  refine wpAny_bind (wpAny_rule (wpAny_pure ?_))
  exact ⟨_, rfl, wpAny_pure h⟩
end
/-- the whole of a tuple, by values -/
def rSlTA (K : PySem.W.Frag) : V → Option Int → Option Int → Hp → VK → Prop := fun x lo hi H Q => ∃ a xs, x = .ref a ∧ SqT K H a xs ∧ HT.sIx xs.length 0 lo = 0 ∧ HT.sIx xs.length xs.length hi = xs.length ∧ Q (.ref a) H
theorem sl_tupA {X : Cx} : SlR X (rSlTA X.K) := by
  intro pins s σ H x v vl vu lo hi sl Q I rx hs pl pu h
  obtain ⟨a, xs, rfl, hx, h1, h2, q⟩ := h
  cases rx
  obtain ⟨its, r, ht, hz⟩ := I.tuple hx
  have hlen : its.toArray.size = xs.length := by rw [List.size_toArray]; exact r.length.symm
  refine ⟨"tuple", _, PyProof.Rows.slot_tuple_getitem.lookup, ht.typeIs, ?_⟩
  exact getItem_tuple_all ht hs pl pu (by rw [hlen]; exact ⟨h1, h2⟩) ⟨.ref a, H, I, rfl, q⟩
theorem ixN_at {n : Nat} {z : Int} {i : Nat} (e : z = i) (h : i < n) : ixN n z = some i := by
  subst e
  exact Evl.ixN_nat h
theorem pe_ixTK {X : Cx} {K : PySem.W.Frag} {a b : Expr} {pos : Pos} {ta tb : TE} (ha : PE X a ta) (hb : PE X b tb) (hs : PlainIx b) (hK : X.K = K := by rfl) : PE X (.Subscript a b pos) (tOp (rIxT K) ta tb) := by
  subst hK
  exact pe_ix ix_tup ha hb hs
theorem op_repTK {X : Cx} {K : PySem.W.Frag} (hK : X.K = K := by rfl) : OpR X (binaryOp .Mult) (rRepT K) := by
  subst hK
  exact op_repT
/-! ### what is kept -/
section
variable {K : PySem.W.Frag} {Ps : List Addr} {H H1 : Hp} {a : Addr} {xs : List V}
theorem sameT (e : Same H H1) (h : SqT K H a xs) : SqT K H1 a xs := by
  rcases h with (h | ⟨o, h⟩) | h
  · exact .inl (.inl (e _ _ h))
  · exact .inl (.inr ⟨o, e _ _ h⟩)
  · exact .inr h
theorem Tk.seqT (k : Tk Ps H H1) (t : Tab Ps H) (h : SqT K H a xs) : SqT K H1 a xs := by
  rcases h with (h | ⟨o, h⟩) | h
  · exact .inl (.inl (k.at t h))
  · exact .inl (.inr ⟨o, k.at t h⟩)
  · exact .inr h
theorem Tk.seqL (k : Tk Ps H H1) (t : Tab Ps H) (h : SqL K H a xs) : SqL K H1 a xs := by
  rcases h with (h | ⟨o, h⟩) | h
  · exact .inl (.inl (k.at t h))
  · exact .inl (.inr ⟨o, k.at t h⟩)
  · exact .inr h
/-- what was new is written again -/
theorem Tk.put {o u : HO} (k : Tk Ps H H1) (h : H a = none) (e : H1 a = some o) (n : ∀ ps, o ≠ .tbl ps := by intro _ z; cases z) : Tk Ps H (upd H1 a u) := ⟨k.tab.upd e n, fun b v eb nb => by
  rw [upd_ne (ne_of_none eb h)]
  exact k.kp b v eb nb⟩
theorem tyT (h : SqT K H a xs) : TyX K H (.ref a) (.type "tuple") := by
  rcases h with (h | ⟨o, h⟩) | ⟨o, its, n, e, c, _⟩
  · exact .base (.tup h)
  · exact .fTuple h
  · exact .kTuple e c
end
/-! ### all, any over zip -/
theorem gx_zipL {K : PySem.W.Frag} {a b : Addr} {xs ys : List V} {c : Bool} {g : TG} {tt : TT} {te : TE} {vs : List Nat} {σ : L2.St} {Q : VK} {H2 : Hp} (hl : ys.length ≤ xs.length) (Pv : Nat → Hp → Prop) (h0 : Pv 0 H2) (hq : ∀ i H, Pv i H → SqL K H a xs ∧ SqL K H b ys)
    (hs : ∀ i x y T H, xs[i]? = some x → ys[i]? = some y → Pv i H → H T = none → g (.ref T) (wipe σ vs) (upd H T (.tup [x, y])) fun σ2 H2 => wipe σ2 vs = wipe σ vs ∧ tt σ2 H2 fun b H3 => if b = true then te σ2 H3 fun y H4 => ∃ k, y = .bl k ∧ if k = c then Pv (i + 1) H4 else Q (.bl (!c)) H4 else Pv (i + 1) H3)
    (hd : ∀ H, Pv ys.length H → Q (.bl c) H) : ∃ W : Nat → Nat → Hp → Prop, (∃ m, W 0 m H2) ∧ GxL.GTurn c (Itz K a b) g tt te vs σ Q W := by
  refine gx_by ys.length Pv h0 (fun i H hi p => ?_) (fun H p => ⟨xs, ys, (hq _ H p).1, (hq _ H p).2, .inr (Nat.le_refl _)⟩) (fun i x H H' hi p y => ?_) hd
  · exact ⟨xs, ys, xs[i], ys[i], (hq i H p).1, (hq i H p).2, List.getElem?_eq_getElem (by omega), List.getElem?_eq_getElem hi⟩
  · obtain ⟨T, x', y', rfl, hT, rfl, f1, f2⟩ := y
    exact hs i x' y' T H (f1 xs (hq i H p).1) (f2 ys (hq i H p).2) p hT
theorem gx_zipT {K : PySem.W.Frag} {a b : Addr} {xs ys : List V} {c : Bool} {g : TG} {tt : TT} {te : TE} {vs : List Nat} {σ : L2.St} {Q : VK} {H2 : Hp} (hl : ys.length ≤ xs.length) (Pv : Nat → Hp → Prop) (h0 : Pv 0 H2) (hq : ∀ i H, Pv i H → SqT K H a xs ∧ SqT K H b ys)
    (hs : ∀ i x y T H, xs[i]? = some x → ys[i]? = some y → Pv i H → H T = none → g (.ref T) (wipe σ vs) (upd H T (.tup [x, y])) fun σ2 H2 => wipe σ2 vs = wipe σ vs ∧ tt σ2 H2 fun b H3 => if b = true then te σ2 H3 fun y H4 => ∃ k, y = .bl k ∧ if k = c then Pv (i + 1) H4 else Q (.bl (!c)) H4 else Pv (i + 1) H3)
    (hd : ∀ H, Pv ys.length H → Q (.bl c) H) : ∃ W : Nat → Nat → Hp → Prop, (∃ m, W 0 m H2) ∧ GxL.GTurn c (RZ.ItzT K a b) g tt te vs σ Q W := by
  refine gx_by ys.length Pv h0 (fun i H hi p => ?_) (fun H p => ⟨xs, ys, (hq _ H p).1, (hq _ H p).2, .inr (Nat.le_refl _)⟩) (fun i x H H' hi p y => ?_) hd
  · exact ⟨xs, ys, xs[i], ys[i], (hq i H p).1, (hq i H p).2, List.getElem?_eq_getElem (by omega), List.getElem?_eq_getElem hi⟩
  · obtain ⟨T, x', y', rfl, hT, rfl, f1, f2⟩ := y
    exact hs i x' y' T H (f1 xs (hq i H p).1) (f2 ys (hq i H p).2) p hT
end Rg
namespace K39
open PySem PySem.Spec PyProof.Rows L2 Rg
def top (i : Nat) : Stmt := PySem.Challenge.pw_lotsandties_k39_copies_that_are_struck.main.body.getD i (.Pass ⟨0, 0, 0, 0⟩)
abbrev s_is_held : Stmt := top 25
abbrev s_live_lot : Stmt := top 26
abbrev s_barred_blocks : Stmt := top 27
abbrev s_numbered_names : Stmt := top 31
abbrev s_Lfeed : Stmt := top 46
abbrev s_Lpick : Stmt := top 47
abbrev s_Lmoment : Stmt := top 48
abbrev s_Ltake : Stmt := top 49
abbrev s_Lgive : Stmt := top 50
abbrev s_Lchange : Stmt := top 51
abbrev s_Lhistory : Stmt := top 52
abbrev s_Llot : Stmt := top 53
abbrev s_Llot_good : Stmt := top 54
abbrev s_Llive : Stmt := top 55
abbrev s_Linteger : Stmt := top 56
abbrev s_Llive_good : Stmt := top 57
abbrev s_Lbarred : Stmt := top 58
abbrev s_Lhas_reuse : Stmt := top 59
abbrev s_Lhas_lapse : Stmt := top 60
abbrev s_Lhas_shelve : Stmt := top 61
abbrev s_Lbarred_good : Stmt := top 62
abbrev s_law : Stmt := top 63
abbrev s_RuleSet___init__ : Stmt := inClass (top 29) 1
abbrev s_RuleSet___contains__ : Stmt := inClass (top 29) 2
abbrev s_Plan___init__ : Stmt := inClass (top 23) 6
abbrev s_Plan_map_place : Stmt := inClass (top 23) 9
abbrev s_Plan_node_block : Stmt := inClass (top 23) 10
abbrev s_Plan_data_blocks : Stmt := inClass (top 23) 11
abbrev s_Image___init__ : Stmt := inClass (top 41) 0
abbrev s_Image_begin : Stmt := inClass (top 41) 3
abbrev s_Image_settle : Stmt := inClass (top 41) 4
abbrev s_Image_twin : Stmt := inClass (top 41) 5
abbrev s_Image_take : Stmt := inClass (top 41) 6
abbrev s_Image_give : Stmt := inClass (top 41) 7
abbrev s_Image__put_block : Stmt := inClass (top 41) 8
abbrev s_Image_free_blocks : Stmt := inClass (top 41) 9
abbrev s_Image_kind : Stmt := inClass (top 41) 10
abbrev s_Lot___init__ : Stmt := inClass (top 44) 0
abbrev s_Lot_keep_copy : Stmt := inClass (top 44) 1
abbrev s_Lot_keep_mark : Stmt := inClass (top 44) 2
abbrev s_Lot_used_slots : Stmt := inClass (top 44) 3
abbrev s_Book_of_number : Stmt := inClass (top 33) 2
abbrev s_Image_fresh : Stmt := inClass (top 41) 1
abbrev s_Image_of_cells : Stmt := inClass (top 41) 2
theorem sc_is_held : FnScope ["image", "x"] ["image", "x"] (defScope s_is_held) := ⟨rfl, rfl, rfl, by decide +kernel, rfl, by decide +kernel, by decide +kernel⟩
theorem sc_live_lot : FnScope ["window", "x", "lapse", "live", "lot", "revoked"] ["window", "x", "lapse"] (defScope s_live_lot) := ⟨rfl, rfl, rfl, by decide +kernel, rfl, by decide +kernel, by decide +kernel⟩
theorem sc_barred_blocks : FnScope ["book", "committed", "closing", "window", "blocks", "barred", "x", "lapse"] ["book", "committed", "closing", "window"] (defScope s_barred_blocks) := ⟨rfl, rfl, rfl, by decide +kernel, rfl, by decide +kernel, by decide +kernel⟩
theorem sc_numbered_names : FnScope ["number", "rules", "k", "rule"] ["number", "rules"] (defScope s_numbered_names) := ⟨rfl, rfl, rfl, by decide +kernel, rfl, by decide +kernel, by decide +kernel⟩
theorem sc_Lfeed : FnScope ["_law_script", "_law_feed_here", "_law_cell", "_law_rest", "_law_k"] ["_law_script"] (defScope s_Lfeed) := ⟨rfl, rfl, rfl, by decide +kernel, rfl, by decide +kernel, by decide +kernel⟩
theorem sc_Lpick : FnScope ["_law_feed_here", "_law_limit"] ["_law_feed_here", "_law_limit"] (defScope s_Lpick) := ⟨rfl, rfl, rfl, by decide +kernel, rfl, by decide +kernel, by decide +kernel⟩
theorem sc_Lmoment : FnScope ["_law_image", "_law_book"] ["_law_image", "_law_book"] (defScope s_Lmoment) := ⟨rfl, rfl, rfl, by decide +kernel, rfl, by decide +kernel, by decide +kernel⟩
theorem sc_Ltake : FnScope ["_law_image", "_law_book", "_law_feed_here", "_law_serial", "_law_wish", "_law_kinds", "_law_holdings", "_law_stamps", "_law_owners", "_law_free", "_law_x", "_law_kind", "_law_owner", "_law_later", "_law_due", "_law_touched"] ["_law_image", "_law_book", "_law_feed_here", "_law_serial", "_law_wish"] (defScope s_Ltake) := ⟨rfl, rfl, rfl, by decide +kernel, rfl, by decide +kernel, by decide +kernel⟩
theorem sc_Lgive : FnScope ["_law_image", "_law_book", "_law_feed_here", "_law_serial", "_law_kinds", "_law_holdings", "_law_stamps", "_law_owners", "_law_held", "_law_x", "_law_at", "_law_touched"] ["_law_image", "_law_book", "_law_feed_here", "_law_serial"] (defScope s_Lgive) := ⟨rfl, rfl, rfl, by decide +kernel, rfl, by decide +kernel, by decide +kernel⟩
theorem sc_Lchange : FnScope ["_law_image", "_law_book", "_law_feed_here", "_law_serial", "_law_kinds", "_law_holdings", "_law_stamps", "_law_owners", "_law_held", "_law_x", "_law_at", "_law_row", "_law_old"] ["_law_image", "_law_book", "_law_feed_here", "_law_serial"] (defScope s_Lchange) := ⟨rfl, rfl, rfl, by decide +kernel, rfl, by decide +kernel, by decide +kernel⟩
theorem sc_Lhistory : FnScope ["_law_feed_here", "_law_many", "_law_image", "_law_kinds", "_law_x", "_law_book", "_law_moments", "_law_k", "_law_before", "_law_wish", "_law_choice", "_law_good"] ["_law_feed_here", "_law_many"] (defScope s_Lhistory) := ⟨rfl, rfl, rfl, by decide +kernel, rfl, by decide +kernel, by decide +kernel⟩
theorem sc_Llot : FnScope ["_law_feed_here", "_law_number", "_law_first_slot", "_law_blocks", "_law_lot_here", "_law_copied", "_law_revoked", "_law_x", "_law_choice", "_law_slots", "_law_slot", "_law_handed", "_law_marked"] ["_law_feed_here", "_law_number", "_law_first_slot"] (defScope s_Llot) := ⟨rfl, rfl, rfl, by decide +kernel, rfl, by decide +kernel, by decide +kernel⟩
theorem sc_Llot_good : FnScope ["_law_told", "_law_lot_here", "_law_number", "_law_copied", "_law_revoked", "_law_slots", "_law_first_slot", "_law_marked", "_law_used", "_law_x", "_law_slot"] ["_law_told"] (defScope s_Llot_good) := ⟨rfl, rfl, rfl, by decide +kernel, rfl, by decide +kernel, by decide +kernel⟩
theorem sc_Llive : FnScope ["_law_lots", "_law_x", "_law_lapsing", "_law_k", "_law_told", "_law_struck"] ["_law_lots", "_law_x", "_law_lapsing"] (defScope s_Llive) := ⟨rfl, rfl, rfl, by decide +kernel, rfl, by decide +kernel, by decide +kernel⟩
theorem sc_Linteger : FnScope ["_law_actual", "_law_due"] ["_law_actual", "_law_due"] (defScope s_Linteger) := ⟨rfl, rfl, rfl, by decide +kernel, rfl, by decide +kernel, by decide +kernel⟩
theorem sc_Llive_good : FnScope ["_law_window", "_law_lots", "_law_x"] ["_law_window", "_law_lots"] (defScope s_Llive_good) := ⟨rfl, rfl, rfl, by decide +kernel, rfl, by decide +kernel, by decide +kernel⟩
theorem sc_Lbarred : FnScope ["_law_lots", "_law_number", "_law_base", "_law_closing", "_law_barred_here", "_law_x", "_law_held", "_law_live_here"] ["_law_lots", "_law_number", "_law_base", "_law_closing"] (defScope s_Lbarred) := ⟨rfl, rfl, rfl, by decide +kernel, rfl, by decide +kernel, by decide +kernel⟩
theorem sc_Lhas_reuse : FnScope ["_law_number"] ["_law_number"] (defScope s_Lhas_reuse) := ⟨rfl, rfl, rfl, by decide +kernel, rfl, by decide +kernel, by decide +kernel⟩
theorem sc_Lhas_lapse : FnScope ["_law_number"] ["_law_number"] (defScope s_Lhas_lapse) := ⟨rfl, rfl, rfl, by decide +kernel, rfl, by decide +kernel, by decide +kernel⟩
theorem sc_Lhas_shelve : FnScope ["_law_number"] ["_law_number"] (defScope s_Lhas_shelve) := ⟨rfl, rfl, rfl, by decide +kernel, rfl, by decide +kernel, by decide +kernel⟩
theorem sc_Lbarred_good : FnScope ["_law_window", "_law_lots", "_law_number", "_law_base", "_law_closing", "_law_image", "_law_told", "_law_x"] ["_law_window", "_law_lots", "_law_number", "_law_base", "_law_closing"] (defScope s_Lbarred_good) := ⟨rfl, rfl, rfl, by decide +kernel, rfl, by decide +kernel, by decide +kernel⟩
theorem sc_law : FnScope ["_law_script", "_law_feed_here", "_law_number", "_law_first", "_law_lots", "_law_k", "_law_moments", "_law_base", "_law_closing", "_law_window", "_law_told", "_law_lot_here"] ["_law_script"] (defScope s_law) := ⟨rfl, rfl, rfl, by decide +kernel, rfl, by decide +kernel, by decide +kernel⟩
theorem sc_RuleSet___init__ : FnScope ["self", "names", "name", "rule", "k"] ["self", "names"] (defScope s_RuleSet___init__) := ⟨rfl, rfl, rfl, by decide +kernel, rfl, by decide +kernel, by decide +kernel⟩
theorem sc_RuleSet___contains__ : FnScope ["self", "name"] ["self", "name"] (defScope s_RuleSet___contains__) := ⟨rfl, rfl, rfl, by decide +kernel, rfl, by decide +kernel, by decide +kernel⟩
theorem sc_Plan___init__ : FnScope ["self", "blocks", "nodes", "slots"] ["self", "blocks", "nodes", "slots"] (defScope s_Plan___init__) := ⟨rfl, rfl, rfl, by decide +kernel, rfl, by decide +kernel, by decide +kernel⟩
theorem sc_Plan_map_place : FnScope ["self", "x"] ["self", "x"] (defScope s_Plan_map_place) := ⟨rfl, rfl, rfl, by decide +kernel, rfl, by decide +kernel, by decide +kernel⟩
theorem sc_Plan_node_block : FnScope ["self", "n"] ["self", "n"] (defScope s_Plan_node_block) := ⟨rfl, rfl, rfl, by decide +kernel, rfl, by decide +kernel, by decide +kernel⟩
theorem sc_Plan_data_blocks : FnScope ["self"] ["self"] (defScope s_Plan_data_blocks) := ⟨rfl, rfl, rfl, by decide +kernel, rfl, by decide +kernel, by decide +kernel⟩
theorem sc_Image___init__ : FnScope ["self", "plan", "_"] ["self", "plan"] (defScope s_Image___init__) := ⟨rfl, rfl, rfl, by decide +kernel, rfl, by decide +kernel, by decide +kernel⟩
theorem sc_Image_begin : FnScope ["self", "wish", "barred"] ["self", "wish", "barred"] (defScope s_Image_begin) := ⟨rfl, rfl, rfl, by decide +kernel, rfl, by decide +kernel, by decide +kernel⟩
theorem sc_Image_settle : FnScope ["self", "before", "x", "changed"] ["self", "before"] (defScope s_Image_settle) := ⟨rfl, rfl, rfl, by decide +kernel, rfl, by decide +kernel, by decide +kernel⟩
theorem sc_Image_twin : FnScope ["self", "other", "row"] ["self"] (defScope s_Image_twin) := ⟨rfl, rfl, rfl, by decide +kernel, rfl, by decide +kernel, by decide +kernel⟩
theorem sc_Image_take : FnScope ["self", "kind", "owner", "sums", "limit", "free", "x", "wished"] ["self", "kind", "owner"] (defScope s_Image_take) := ⟨rfl, rfl, rfl, by decide +kernel, rfl, by decide +kernel, by decide +kernel⟩
theorem sc_Image_give : FnScope ["self", "x", "owner"] ["self", "x", "owner"] (defScope s_Image_give) := ⟨rfl, rfl, rfl, by decide +kernel, rfl, by decide +kernel, by decide +kernel⟩
theorem sc_Image__put_block : FnScope ["self", "x", "kind", "serial", "block", "cell"] ["self", "x", "kind", "serial"] (defScope s_Image__put_block) := ⟨rfl, rfl, rfl, by decide +kernel, rfl, by decide +kernel, by decide +kernel⟩
theorem sc_Image_free_blocks : FnScope ["self", "x"] ["self"] (defScope s_Image_free_blocks) := ⟨rfl, rfl, rfl, by decide +kernel, rfl, by decide +kernel, by decide +kernel⟩
theorem sc_Image_kind : FnScope ["self", "x", "block", "cell", "kind"] ["self", "x"] (defScope s_Image_kind) := ⟨rfl, rfl, rfl, by decide +kernel, rfl, by decide +kernel, by decide +kernel⟩
theorem sc_Lot___init__ : FnScope ["self", "number", "image"] ["self", "number", "image"] (defScope s_Lot___init__) := ⟨rfl, rfl, rfl, by decide +kernel, rfl, by decide +kernel, by decide +kernel⟩
theorem sc_Lot_keep_copy : FnScope ["self", "x", "slot", "write", "identity"] ["self", "x", "slot", "write", "identity"] (defScope s_Lot_keep_copy) := ⟨rfl, rfl, rfl, by decide +kernel, rfl, by decide +kernel, by decide +kernel⟩
theorem sc_Lot_keep_mark : FnScope ["self", "slot", "write", "revokes"] ["self", "slot", "write", "revokes"] (defScope s_Lot_keep_mark) := ⟨rfl, rfl, rfl, by decide +kernel, rfl, by decide +kernel, by decide +kernel⟩
theorem sc_Lot_used_slots : FnScope ["self", "slots", "slot", "_"] ["self"] (defScope s_Lot_used_slots) := ⟨rfl, rfl, rfl, by decide +kernel, rfl, by decide +kernel, by decide +kernel⟩
theorem sc_Book_of_number : FnScope ["number"] ["number"] (defScope s_Book_of_number) := ⟨rfl, rfl, rfl, by decide +kernel, rfl, by decide +kernel, by decide +kernel⟩
theorem sc_Image_fresh : FnScope ["plan", "image", "x", "block", "cell", "root"] ["plan"] (defScope s_Image_fresh) := ⟨rfl, rfl, rfl, by decide +kernel, rfl, by decide +kernel, by decide +kernel⟩
theorem sc_Image_of_cells : FnScope ["plan", "rows", "image", "row", "x"] ["plan", "rows"] (defScope s_Image_of_cells) := ⟨rfl, rfl, rfl, by decide +kernel, rfl, by decide +kernel, by decide +kernel⟩

structure Tx (K : PySem.W.Frag) (mg : Str → Option Value) where
  f_is_held : Addr
  fd_is_held : FuncData
  F_is_held : Fun K "_is_held" "_is_held" s_is_held f_is_held fd_is_held
  mg_is_held : mg "_is_held" = some (.ref f_is_held)
  f_live_lot : Addr
  fd_live_lot : FuncData
  F_live_lot : Fun K "live_lot" "live_lot" s_live_lot f_live_lot fd_live_lot
  mg_live_lot : mg "live_lot" = some (.ref f_live_lot)
  f_barred_blocks : Addr
  fd_barred_blocks : FuncData
  F_barred_blocks : Fun K "barred_blocks" "barred_blocks" s_barred_blocks f_barred_blocks fd_barred_blocks
  mg_barred_blocks : mg "barred_blocks" = some (.ref f_barred_blocks)
  f_numbered_names : Addr
  fd_numbered_names : FuncData
  F_numbered_names : Fun K "numbered_names" "numbered_names" s_numbered_names f_numbered_names fd_numbered_names
  mg_numbered_names : mg "numbered_names" = some (.ref f_numbered_names)
  f_Lfeed : Addr
  fd_Lfeed : FuncData
  F_Lfeed : Fun K "_law_feed" "_law_feed" s_Lfeed f_Lfeed fd_Lfeed
  mg_Lfeed : mg "_law_feed" = some (.ref f_Lfeed)
  f_Lpick : Addr
  fd_Lpick : FuncData
  F_Lpick : Fun K "_law_pick" "_law_pick" s_Lpick f_Lpick fd_Lpick
  mg_Lpick : mg "_law_pick" = some (.ref f_Lpick)
  f_Lmoment : Addr
  fd_Lmoment : FuncData
  F_Lmoment : Fun K "_law_moment" "_law_moment" s_Lmoment f_Lmoment fd_Lmoment
  mg_Lmoment : mg "_law_moment" = some (.ref f_Lmoment)
  f_Ltake : Addr
  fd_Ltake : FuncData
  F_Ltake : Fun K "_law_take" "_law_take" s_Ltake f_Ltake fd_Ltake
  mg_Ltake : mg "_law_take" = some (.ref f_Ltake)
  f_Lgive : Addr
  fd_Lgive : FuncData
  F_Lgive : Fun K "_law_give" "_law_give" s_Lgive f_Lgive fd_Lgive
  mg_Lgive : mg "_law_give" = some (.ref f_Lgive)
  f_Lchange : Addr
  fd_Lchange : FuncData
  F_Lchange : Fun K "_law_change" "_law_change" s_Lchange f_Lchange fd_Lchange
  mg_Lchange : mg "_law_change" = some (.ref f_Lchange)
  f_Lhistory : Addr
  fd_Lhistory : FuncData
  F_Lhistory : Fun K "_law_history" "_law_history" s_Lhistory f_Lhistory fd_Lhistory
  mg_Lhistory : mg "_law_history" = some (.ref f_Lhistory)
  f_Llot : Addr
  fd_Llot : FuncData
  F_Llot : Fun K "_law_lot" "_law_lot" s_Llot f_Llot fd_Llot
  mg_Llot : mg "_law_lot" = some (.ref f_Llot)
  f_Llot_good : Addr
  fd_Llot_good : FuncData
  F_Llot_good : Fun K "_law_lot_good" "_law_lot_good" s_Llot_good f_Llot_good fd_Llot_good
  mg_Llot_good : mg "_law_lot_good" = some (.ref f_Llot_good)
  f_Llive : Addr
  fd_Llive : FuncData
  F_Llive : Fun K "_law_live" "_law_live" s_Llive f_Llive fd_Llive
  mg_Llive : mg "_law_live" = some (.ref f_Llive)
  f_Linteger : Addr
  fd_Linteger : FuncData
  F_Linteger : Fun K "_law_integer" "_law_integer" s_Linteger f_Linteger fd_Linteger
  mg_Linteger : mg "_law_integer" = some (.ref f_Linteger)
  f_Llive_good : Addr
  fd_Llive_good : FuncData
  F_Llive_good : Fun K "_law_live_good" "_law_live_good" s_Llive_good f_Llive_good fd_Llive_good
  mg_Llive_good : mg "_law_live_good" = some (.ref f_Llive_good)
  f_Lbarred : Addr
  fd_Lbarred : FuncData
  F_Lbarred : Fun K "_law_barred" "_law_barred" s_Lbarred f_Lbarred fd_Lbarred
  mg_Lbarred : mg "_law_barred" = some (.ref f_Lbarred)
  f_Lhas_reuse : Addr
  fd_Lhas_reuse : FuncData
  F_Lhas_reuse : Fun K "_law_has_reuse" "_law_has_reuse" s_Lhas_reuse f_Lhas_reuse fd_Lhas_reuse
  mg_Lhas_reuse : mg "_law_has_reuse" = some (.ref f_Lhas_reuse)
  f_Lhas_lapse : Addr
  fd_Lhas_lapse : FuncData
  F_Lhas_lapse : Fun K "_law_has_lapse" "_law_has_lapse" s_Lhas_lapse f_Lhas_lapse fd_Lhas_lapse
  mg_Lhas_lapse : mg "_law_has_lapse" = some (.ref f_Lhas_lapse)
  f_Lhas_shelve : Addr
  fd_Lhas_shelve : FuncData
  F_Lhas_shelve : Fun K "_law_has_shelve" "_law_has_shelve" s_Lhas_shelve f_Lhas_shelve fd_Lhas_shelve
  mg_Lhas_shelve : mg "_law_has_shelve" = some (.ref f_Lhas_shelve)
  f_Lbarred_good : Addr
  fd_Lbarred_good : FuncData
  F_Lbarred_good : Fun K "_law_barred_good" "_law_barred_good" s_Lbarred_good f_Lbarred_good fd_Lbarred_good
  mg_Lbarred_good : mg "_law_barred_good" = some (.ref f_Lbarred_good)
  f_law : Addr
  fd_law : FuncData
  F_law : Fun K "law" "law" s_law f_law fd_law
  mg_law : mg "law" = some (.ref f_law)
  f_RuleSet___init__ : Addr
  fd_RuleSet___init__ : FuncData
  F_RuleSet___init__ : Fun K "__init__" "RuleSet.__init__" s_RuleSet___init__ f_RuleSet___init__ fd_RuleSet___init__
  f_RuleSet___contains__ : Addr
  fd_RuleSet___contains__ : FuncData
  F_RuleSet___contains__ : Fun K "__contains__" "RuleSet.__contains__" s_RuleSet___contains__ f_RuleSet___contains__ fd_RuleSet___contains__
  f_Plan___init__ : Addr
  fd_Plan___init__ : FuncData
  F_Plan___init__ : Fun K "__init__" "Plan.__init__" s_Plan___init__ f_Plan___init__ fd_Plan___init__
  f_Plan_map_place : Addr
  fd_Plan_map_place : FuncData
  F_Plan_map_place : Fun K "map_place" "Plan.map_place" s_Plan_map_place f_Plan_map_place fd_Plan_map_place
  f_Plan_node_block : Addr
  fd_Plan_node_block : FuncData
  F_Plan_node_block : Fun K "node_block" "Plan.node_block" s_Plan_node_block f_Plan_node_block fd_Plan_node_block
  f_Plan_data_blocks : Addr
  fd_Plan_data_blocks : FuncData
  F_Plan_data_blocks : Fun K "data_blocks" "Plan.data_blocks" s_Plan_data_blocks f_Plan_data_blocks fd_Plan_data_blocks
  f_Image___init__ : Addr
  fd_Image___init__ : FuncData
  F_Image___init__ : Fun K "__init__" "Image.__init__" s_Image___init__ f_Image___init__ fd_Image___init__
  f_Image_begin : Addr
  fd_Image_begin : FuncData
  F_Image_begin : Fun K "begin" "Image.begin" s_Image_begin f_Image_begin fd_Image_begin
  f_Image_settle : Addr
  fd_Image_settle : FuncData
  F_Image_settle : Fun K "settle" "Image.settle" s_Image_settle f_Image_settle fd_Image_settle
  f_Image_twin : Addr
  fd_Image_twin : FuncData
  F_Image_twin : Fun K "twin" "Image.twin" s_Image_twin f_Image_twin fd_Image_twin
  f_Image_take : Addr
  fd_Image_take : FuncData
  F_Image_take : Fun K "take" "Image.take" s_Image_take f_Image_take fd_Image_take
  f_Image_give : Addr
  fd_Image_give : FuncData
  F_Image_give : Fun K "give" "Image.give" s_Image_give f_Image_give fd_Image_give
  f_Image__put_block : Addr
  fd_Image__put_block : FuncData
  F_Image__put_block : Fun K "_put_block" "Image._put_block" s_Image__put_block f_Image__put_block fd_Image__put_block
  f_Image_free_blocks : Addr
  fd_Image_free_blocks : FuncData
  F_Image_free_blocks : Fun K "free_blocks" "Image.free_blocks" s_Image_free_blocks f_Image_free_blocks fd_Image_free_blocks
  f_Image_kind : Addr
  fd_Image_kind : FuncData
  F_Image_kind : Fun K "kind" "Image.kind" s_Image_kind f_Image_kind fd_Image_kind
  f_Lot___init__ : Addr
  fd_Lot___init__ : FuncData
  F_Lot___init__ : Fun K "__init__" "Lot.__init__" s_Lot___init__ f_Lot___init__ fd_Lot___init__
  f_Lot_keep_copy : Addr
  fd_Lot_keep_copy : FuncData
  F_Lot_keep_copy : Fun K "keep_copy" "Lot.keep_copy" s_Lot_keep_copy f_Lot_keep_copy fd_Lot_keep_copy
  f_Lot_keep_mark : Addr
  fd_Lot_keep_mark : FuncData
  F_Lot_keep_mark : Fun K "keep_mark" "Lot.keep_mark" s_Lot_keep_mark f_Lot_keep_mark fd_Lot_keep_mark
  f_Lot_used_slots : Addr
  fd_Lot_used_slots : FuncData
  F_Lot_used_slots : Fun K "used_slots" "Lot.used_slots" s_Lot_used_slots f_Lot_used_slots fd_Lot_used_slots
  f_Book_of_number : Addr
  fd_Book_of_number : FuncData
  F_Book_of_number : Fun K "of_number" "Book.of_number" s_Book_of_number f_Book_of_number fd_Book_of_number
  f_Image_fresh : Addr
  fd_Image_fresh : FuncData
  F_Image_fresh : Fun K "fresh" "Image.fresh" s_Image_fresh f_Image_fresh fd_Image_fresh
  f_Image_of_cells : Addr
  fd_Image_of_cells : FuncData
  F_Image_of_cells : Fun K "of_cells" "Image.of_cells" s_Image_of_cells f_Image_of_cells fd_Image_of_cells
  C_Plan : Addr
  mg_Plan : mg "Plan" = some (.ref C_Plan)
  cl_Plan : Cls K C_Plan
  na_Plan_blocks : NoAttr K C_Plan "blocks"
  na_Plan_nodes : NoAttr K C_Plan "nodes"
  na_Plan_slots : NoAttr K C_Plan "slots"
  na_Plan_maps : NoAttr K C_Plan "maps"
  na_Plan_first_node : NoAttr K C_Plan "first_node"
  na_Plan_first_data : NoAttr K C_Plan "first_data"
  mk_Plan : Mk K C_Plan f_Plan___init__
  mc_Plan : Value
  cr_Plan : ClX.CRead K C_Plan mc_Plan
  cv_Plan_WIDTH : ∃ u, ClX.CVal K C_Plan mc_Plan "WIDTH" (.int 8) u
  cv_Plan_OWNERS : ∃ u, ClX.CVal K C_Plan mc_Plan "OWNERS" (.int 4) u
  cv_Plan_FREE : ∃ u, ClX.CVal K C_Plan mc_Plan "FREE" (.int 0) u
  cv_Plan_LOGGED : ∃ u, ClX.CVal K C_Plan mc_Plan "LOGGED" (.int 1) u
  cv_Plan_PLAIN : ∃ u, ClX.CVal K C_Plan mc_Plan "PLAIN" (.int 2) u
  con_Plan_WIDTH : ∃ u, Con K C_Plan "WIDTH" (.int 8) u
  C_RuleSet : Addr
  mg_RuleSet : mg "RuleSet" = some (.ref C_RuleSet)
  cl_RuleSet : Cls K C_RuleSet
  mc_RuleSet : Value
  cr_RuleSet : ClX.CRead K C_RuleSet mc_RuleSet
  tA_RuleSet_RULES : Addr
  tt_RuleSet_RULES : ∀ H : Hp, SqT K H tA_RuleSet_RULES []
  tv_RuleSet_RULES : ClX.CVal K C_RuleSet mc_RuleSet "RULES" (.ref tA_RuleSet_RULES) (.ref tA_RuleSet_RULES)
  C_Book : Addr
  mg_Book : mg "Book" = some (.ref C_Book)
  cl_Book : Cls K C_Book
  na_Book_names : NoAttr K C_Book "names"
  na_Book_number : NoAttr K C_Book "number"
  mc_Book : Value
  cr_Book : ClX.CRead K C_Book mc_Book
  tA_Book_RULES : Addr
  tt_Book_RULES : ∀ H : Hp, SqT K H tA_Book_RULES [.str "copies", .str "mark", .str "words", .str "reuse", .str "late", .str "revoke", .str "lapse", .str "shelve", .str "frozen", .str "wait", .str "room", .str "told"]
  tv_Book_RULES : ClX.CVal K C_Book mc_Book "RULES" (.ref tA_Book_RULES) (.ref tA_Book_RULES)
  tc_Book_RULES : Con K C_Book "RULES" (.ref tA_Book_RULES) (.ref tA_Book_RULES)
  C_Image : Addr
  mg_Image : mg "Image" = some (.ref C_Image)
  cl_Image : Cls K C_Image
  na_Image_plan : NoAttr K C_Image "plan"
  na_Image_cells : NoAttr K C_Image "cells"
  na_Image_holdings : NoAttr K C_Image "holdings"
  na_Image_stamps : NoAttr K C_Image "stamps"
  na_Image_handles : NoAttr K C_Image "handles"
  na_Image_serial : NoAttr K C_Image "serial"
  na_Image_wish : NoAttr K C_Image "wish"
  na_Image_barred : NoAttr K C_Image "barred"
  mk_Image : Mk K C_Image f_Image___init__
  mc_Image : Value
  cr_Image : ClX.CRead K C_Image mc_Image
  C_Lot : Addr
  mg_Lot : mg "Lot" = some (.ref C_Lot)
  cl_Lot : Cls K C_Lot
  na_Lot_number : NoAttr K C_Lot "number"
  na_Lot_image : NoAttr K C_Lot "image"
  na_Lot_copies : NoAttr K C_Lot "copies"
  na_Lot_identities : NoAttr K C_Lot "identities"
  na_Lot_mark : NoAttr K C_Lot "mark"
  na_Lot_mark_slot : NoAttr K C_Lot "mark_slot"
  na_Lot_revokes : NoAttr K C_Lot "revokes"
  mk_Lot : Mk K C_Lot f_Lot___init__
  m_RuleSet___contains__ : Meth K C_RuleSet "__contains__" f_RuleSet___contains__
  m_Plan_map_place : Meth K C_Plan "map_place" f_Plan_map_place
  m_Plan_node_block : Meth K C_Plan "node_block" f_Plan_node_block
  m_Plan_data_blocks : Meth K C_Plan "data_blocks" f_Plan_data_blocks
  m_Image_begin : Meth K C_Image "begin" f_Image_begin
  m_Image_settle : Meth K C_Image "settle" f_Image_settle
  m_Image_twin : Meth K C_Image "twin" f_Image_twin
  m_Image_take : Meth K C_Image "take" f_Image_take
  m_Image_give : Meth K C_Image "give" f_Image_give
  m_Image__put_block : Meth K C_Image "_put_block" f_Image__put_block
  m_Image_free_blocks : Meth K C_Image "free_blocks" f_Image_free_blocks
  m_Image_kind : Meth K C_Image "kind" f_Image_kind
  m_Lot_keep_copy : Meth K C_Lot "keep_copy" f_Lot_keep_copy
  m_Lot_keep_mark : Meth K C_Lot "keep_mark" f_Lot_keep_mark
  m_Lot_used_slots : Meth K C_Lot "used_slots" f_Lot_used_slots
  sm_Book_of_number : SMet K C_Book mc_Book "of_number" f_Book_of_number
  sm_Image_fresh : SMet K C_Image mc_Image "fresh" f_Image_fresh
  sm_Image_of_cells : SMet K C_Image mc_Image "of_cells" f_Image_of_cells
  C_BadValue : Addr
  mg_BadValue : mg "BadValue" = some (.ref C_BadValue)
  be_BadValue : PySem.W.subIn K (.ref C_BadValue) (.type "BaseException") = some true
  te_BadValue : PySem.W.typeIn K (.ref C_BadValue) = some (.type "type")
  ie_BadValue : PySem.W.isClsIn K C_BadValue = true
  xe_BadValue : PySem.W.excIn K C_BadValue [.type "ValueError", .type "Exception", .type "BaseException", .type "object"] "ValueError.__new__" = true
  ke_BadValue : PySem.W.keepIn K (.ref C_BadValue) = true
  ec_BadValue : ExcC K C_BadValue
  C_BlocksFull : Addr
  mg_BlocksFull : mg "BlocksFull" = some (.ref C_BlocksFull)
  be_BlocksFull : PySem.W.subIn K (.ref C_BlocksFull) (.type "BaseException") = some true
  te_BlocksFull : PySem.W.typeIn K (.ref C_BlocksFull) = some (.type "type")
  ie_BlocksFull : PySem.W.isClsIn K C_BlocksFull = true
  xe_BlocksFull : PySem.W.excIn K C_BlocksFull [.type "ValueError", .type "Exception", .type "BaseException", .type "object"] "ValueError.__new__" = true
  ke_BlocksFull : PySem.W.keepIn K (.ref C_BlocksFull) = true
  ec_BlocksFull : ExcC K C_BlocksFull
  C_OverQuota : Addr
  mg_OverQuota : mg "OverQuota" = some (.ref C_OverQuota)
  be_OverQuota : PySem.W.subIn K (.ref C_OverQuota) (.type "BaseException") = some true
  te_OverQuota : PySem.W.typeIn K (.ref C_OverQuota) = some (.type "type")
  ie_OverQuota : PySem.W.isClsIn K C_OverQuota = true
  xe_OverQuota : PySem.W.excIn K C_OverQuota [.type "ValueError", .type "Exception", .type "BaseException", .type "object"] "ValueError.__new__" = true
  ke_OverQuota : PySem.W.keepIn K (.ref C_OverQuota) = true
  ec_OverQuota : ExcC K C_OverQuota
  c_LEAST_BLOCKS : ∃ t, mg "LEAST_BLOCKS" = some (.int 8 t)
  c_MOST_BLOCKS : ∃ t, mg "MOST_BLOCKS" = some (.int 64 t)
  c_LEAST_NODES : ∃ t, mg "LEAST_NODES" = some (.int 2 t)
  c_MOST_NODES : ∃ t, mg "MOST_NODES" = some (.int 16 t)
  c_MOST_SLOTS : ∃ t, mg "MOST_SLOTS" = some (.int 200 t)
  c_LEAST_DATA : ∃ t, mg "LEAST_DATA" = some (.int 2 t)
  c_FIRST_MAP : ∃ t, mg "FIRST_MAP" = some (.int 2 t)
  c_SUMS_BLOCK : ∃ t, mg "SUMS_BLOCK" = some (.int 0 t)
  c_ROOT : ∃ t, mg "ROOT" = some (.int 1 t)
  c_KIND : ∃ t, mg "KIND" = some (.int 0 t)
  c_LINKS : ∃ t, mg "LINKS" = some (.int 1 t)
  c_MAKING : ∃ t, mg "MAKING" = some (.int 7 t)
  c_FOLDER : ∃ t, mg "FOLDER" = some (.int 2 t)
  c_NO_SLOT : ∃ t, mg "NO_SLOT" = some (.int (-1) t)
  mk_Book : Mk K C_Book f_RuleSet___init__
  bm_contains : Meth K C_Book "__contains__" f_RuleSet___contains__
  sf_Book : PySem.W.selfFirst K C_Book = true
  b_abs : mg "abs" = none
  b_bool : mg "bool" = none
  b_dict : mg "dict" = none
  b_enumerate : mg "enumerate" = none
  b_int : mg "int" = none
  b_isinstance : mg "isinstance" = none
  b_len : mg "len" = none
  b_list : mg "list" = none
  b_range : mg "range" = none
  b_reversed : mg "reversed" = none
  b_set : mg "set" = none
  b_sorted : mg "sorted" = none
  b_sum : mg "sum" = none
  b_tuple : mg "tuple" = none

section
variable {P : Program} {w : World} {K : PySem.W.Frag} {mg : Str → Option Value} {base : Heap}
theorem b_is_held (T : Tx K mg) : Binds K T.fd_is_held ["image", "x"] [] := T.F_is_held.binds (ps := ["image", "x"]) fun _ _ _ _ _ _ us hl => match us, hl with | [_, _], _ => rfl
theorem b_barred_blocks (T : Tx K mg) : Binds K T.fd_barred_blocks ["book", "committed", "closing", "window"] [] := T.F_barred_blocks.binds (ps := ["book", "committed", "closing", "window"]) fun _ _ _ _ _ _ us hl => match us, hl with | [_, _, _, _], _ => rfl
theorem b_numbered_names (T : Tx K mg) : Binds K T.fd_numbered_names ["number", "rules"] [] := T.F_numbered_names.binds (ps := ["number", "rules"]) fun _ _ _ _ _ _ us hl => match us, hl with | [_, _], _ => rfl
theorem b_Lfeed (T : Tx K mg) : Binds K T.fd_Lfeed ["_law_script"] [] := T.F_Lfeed.binds (ps := ["_law_script"]) fun _ _ _ _ _ _ us hl => match us, hl with | [_], _ => rfl
theorem b_Lpick (T : Tx K mg) : Binds K T.fd_Lpick ["_law_feed_here", "_law_limit"] [] := T.F_Lpick.binds (ps := ["_law_feed_here", "_law_limit"]) fun _ _ _ _ _ _ us hl => match us, hl with | [_, _], _ => rfl
theorem b_Lmoment (T : Tx K mg) : Binds K T.fd_Lmoment ["_law_image", "_law_book"] [] := T.F_Lmoment.binds (ps := ["_law_image", "_law_book"]) fun _ _ _ _ _ _ us hl => match us, hl with | [_, _], _ => rfl
theorem b_Ltake (T : Tx K mg) : Binds K T.fd_Ltake ["_law_image", "_law_book", "_law_feed_here", "_law_serial", "_law_wish"] [] := T.F_Ltake.binds (ps := ["_law_image", "_law_book", "_law_feed_here", "_law_serial", "_law_wish"]) fun _ _ _ _ _ _ us hl => match us, hl with | [_, _, _, _, _], _ => rfl
theorem b_Lgive (T : Tx K mg) : Binds K T.fd_Lgive ["_law_image", "_law_book", "_law_feed_here", "_law_serial"] [] := T.F_Lgive.binds (ps := ["_law_image", "_law_book", "_law_feed_here", "_law_serial"]) fun _ _ _ _ _ _ us hl => match us, hl with | [_, _, _, _], _ => rfl
theorem b_Lchange (T : Tx K mg) : Binds K T.fd_Lchange ["_law_image", "_law_book", "_law_feed_here", "_law_serial"] [] := T.F_Lchange.binds (ps := ["_law_image", "_law_book", "_law_feed_here", "_law_serial"]) fun _ _ _ _ _ _ us hl => match us, hl with | [_, _, _, _], _ => rfl
theorem b_Lhistory (T : Tx K mg) : Binds K T.fd_Lhistory ["_law_feed_here", "_law_many"] [] := T.F_Lhistory.binds (ps := ["_law_feed_here", "_law_many"]) fun _ _ _ _ _ _ us hl => match us, hl with | [_, _], _ => rfl
theorem b_Llot (T : Tx K mg) : Binds K T.fd_Llot ["_law_feed_here", "_law_number", "_law_first_slot"] [] := T.F_Llot.binds (ps := ["_law_feed_here", "_law_number", "_law_first_slot"]) fun _ _ _ _ _ _ us hl => match us, hl with | [_, _, _], _ => rfl
theorem b_Llot_good (T : Tx K mg) : Binds K T.fd_Llot_good ["_law_told"] [] := T.F_Llot_good.binds (ps := ["_law_told"]) fun _ _ _ _ _ _ us hl => match us, hl with | [_], _ => rfl
theorem b_Llive (T : Tx K mg) : Binds K T.fd_Llive ["_law_lots", "_law_x", "_law_lapsing"] [] := T.F_Llive.binds (ps := ["_law_lots", "_law_x", "_law_lapsing"]) fun _ _ _ _ _ _ us hl => match us, hl with | [_, _, _], _ => rfl
theorem b_Linteger (T : Tx K mg) : Binds K T.fd_Linteger ["_law_actual", "_law_due"] [] := T.F_Linteger.binds (ps := ["_law_actual", "_law_due"]) fun _ _ _ _ _ _ us hl => match us, hl with | [_, _], _ => rfl
theorem b_Llive_good (T : Tx K mg) : Binds K T.fd_Llive_good ["_law_window", "_law_lots"] [] := T.F_Llive_good.binds (ps := ["_law_window", "_law_lots"]) fun _ _ _ _ _ _ us hl => match us, hl with | [_, _], _ => rfl
theorem b_Lbarred (T : Tx K mg) : Binds K T.fd_Lbarred ["_law_lots", "_law_number", "_law_base", "_law_closing"] [] := T.F_Lbarred.binds (ps := ["_law_lots", "_law_number", "_law_base", "_law_closing"]) fun _ _ _ _ _ _ us hl => match us, hl with | [_, _, _, _], _ => rfl
theorem b_Lhas_reuse (T : Tx K mg) : Binds K T.fd_Lhas_reuse ["_law_number"] [] := T.F_Lhas_reuse.binds (ps := ["_law_number"]) fun _ _ _ _ _ _ us hl => match us, hl with | [_], _ => rfl
theorem b_Lhas_lapse (T : Tx K mg) : Binds K T.fd_Lhas_lapse ["_law_number"] [] := T.F_Lhas_lapse.binds (ps := ["_law_number"]) fun _ _ _ _ _ _ us hl => match us, hl with | [_], _ => rfl
theorem b_Lhas_shelve (T : Tx K mg) : Binds K T.fd_Lhas_shelve ["_law_number"] [] := T.F_Lhas_shelve.binds (ps := ["_law_number"]) fun _ _ _ _ _ _ us hl => match us, hl with | [_], _ => rfl
theorem b_Lbarred_good (T : Tx K mg) : Binds K T.fd_Lbarred_good ["_law_window", "_law_lots", "_law_number", "_law_base", "_law_closing"] [] := T.F_Lbarred_good.binds (ps := ["_law_window", "_law_lots", "_law_number", "_law_base", "_law_closing"]) fun _ _ _ _ _ _ us hl => match us, hl with | [_, _, _, _, _], _ => rfl
theorem b_law (T : Tx K mg) : Binds K T.fd_law ["_law_script"] [] := T.F_law.binds (ps := ["_law_script"]) fun _ _ _ _ _ _ us hl => match us, hl with | [_], _ => rfl
theorem b_RuleSet___init__ (T : Tx K mg) : Binds K T.fd_RuleSet___init__ ["self", "names"] [] := T.F_RuleSet___init__.binds (ps := ["self", "names"]) fun _ _ _ _ _ _ us hl => match us, hl with | [_, _], _ => rfl
theorem b_RuleSet___contains__ (T : Tx K mg) : Binds K T.fd_RuleSet___contains__ ["self", "name"] [] := T.F_RuleSet___contains__.binds (ps := ["self", "name"]) fun _ _ _ _ _ _ us hl => match us, hl with | [_, _], _ => rfl
theorem b_Plan_map_place (T : Tx K mg) : Binds K T.fd_Plan_map_place ["self", "x"] [] := T.F_Plan_map_place.binds (ps := ["self", "x"]) fun _ _ _ _ _ _ us hl => match us, hl with | [_, _], _ => rfl
theorem b_Plan_node_block (T : Tx K mg) : Binds K T.fd_Plan_node_block ["self", "n"] [] := T.F_Plan_node_block.binds (ps := ["self", "n"]) fun _ _ _ _ _ _ us hl => match us, hl with | [_, _], _ => rfl
theorem b_Plan_data_blocks (T : Tx K mg) : Binds K T.fd_Plan_data_blocks ["self"] [] := T.F_Plan_data_blocks.binds (ps := ["self"]) fun _ _ _ _ _ _ us hl => match us, hl with | [_], _ => rfl
theorem b_Image___init__ (T : Tx K mg) : Binds K T.fd_Image___init__ ["self", "plan"] [] := T.F_Image___init__.binds (ps := ["self", "plan"]) fun _ _ _ _ _ _ us hl => match us, hl with | [_, _], _ => rfl
theorem b_Image_begin (T : Tx K mg) : Binds K T.fd_Image_begin ["self", "wish", "barred"] [] := T.F_Image_begin.binds (ps := ["self", "wish", "barred"]) fun _ _ _ _ _ _ us hl => match us, hl with | [_, _, _], _ => rfl
theorem b_Image_settle (T : Tx K mg) : Binds K T.fd_Image_settle ["self", "before"] [] := T.F_Image_settle.binds (ps := ["self", "before"]) fun _ _ _ _ _ _ us hl => match us, hl with | [_, _], _ => rfl
theorem b_Image_twin (T : Tx K mg) : Binds K T.fd_Image_twin ["self"] [] := T.F_Image_twin.binds (ps := ["self"]) fun _ _ _ _ _ _ us hl => match us, hl with | [_], _ => rfl
theorem b_Image_take (T : Tx K mg) : Binds K T.fd_Image_take ["self", "kind", "owner"] [] := T.F_Image_take.binds (ps := ["self", "kind", "owner"]) fun _ _ _ _ _ _ us hl => match us, hl with | [_, _, _], _ => rfl
theorem b_Image_give (T : Tx K mg) : Binds K T.fd_Image_give ["self", "x", "owner"] [] := T.F_Image_give.binds (ps := ["self", "x", "owner"]) fun _ _ _ _ _ _ us hl => match us, hl with | [_, _, _], _ => rfl
theorem b_Image__put_block (T : Tx K mg) : Binds K T.fd_Image__put_block ["self", "x", "kind", "serial"] [] := T.F_Image__put_block.binds (ps := ["self", "x", "kind", "serial"]) fun _ _ _ _ _ _ us hl => match us, hl with | [_, _, _, _], _ => rfl
theorem b_Image_free_blocks (T : Tx K mg) : Binds K T.fd_Image_free_blocks ["self"] [] := T.F_Image_free_blocks.binds (ps := ["self"]) fun _ _ _ _ _ _ us hl => match us, hl with | [_], _ => rfl
theorem b_Image_kind (T : Tx K mg) : Binds K T.fd_Image_kind ["self", "x"] [] := T.F_Image_kind.binds (ps := ["self", "x"]) fun _ _ _ _ _ _ us hl => match us, hl with | [_, _], _ => rfl
theorem b_Lot___init__ (T : Tx K mg) : Binds K T.fd_Lot___init__ ["self", "number", "image"] [] := T.F_Lot___init__.binds (ps := ["self", "number", "image"]) fun _ _ _ _ _ _ us hl => match us, hl with | [_, _, _], _ => rfl
theorem b_Lot_keep_copy (T : Tx K mg) : Binds K T.fd_Lot_keep_copy ["self", "x", "slot", "write", "identity"] [] := T.F_Lot_keep_copy.binds (ps := ["self", "x", "slot", "write", "identity"]) fun _ _ _ _ _ _ us hl => match us, hl with | [_, _, _, _, _], _ => rfl
theorem b_Lot_keep_mark (T : Tx K mg) : Binds K T.fd_Lot_keep_mark ["self", "slot", "write", "revokes"] [] := T.F_Lot_keep_mark.binds (ps := ["self", "slot", "write", "revokes"]) fun _ _ _ _ _ _ us hl => match us, hl with | [_, _, _, _], _ => rfl
theorem b_Lot_used_slots (T : Tx K mg) : Binds K T.fd_Lot_used_slots ["self"] [] := T.F_Lot_used_slots.binds (ps := ["self"]) fun _ _ _ _ _ _ us hl => match us, hl with | [_], _ => rfl
theorem b_Book_of_number (T : Tx K mg) : Binds K T.fd_Book_of_number ["number"] [] := T.F_Book_of_number.binds (ps := ["number"]) fun _ _ _ _ _ _ us hl => match us, hl with | [_], _ => rfl
theorem b_Image_fresh (T : Tx K mg) : Binds K T.fd_Image_fresh ["plan"] [] := T.F_Image_fresh.binds (ps := ["plan"]) fun _ _ _ _ _ _ us hl => match us, hl with | [_], _ => rfl
theorem b_Image_of_cells (T : Tx K mg) : Binds K T.fd_Image_of_cells ["plan", "rows"] [] := T.F_Image_of_cells.binds (ps := ["plan", "rows"]) fun _ _ _ _ _ _ us hl => match us, hl with | [_, _], _ => rfl
end
end K39
namespace K39
open PySem PySem.Spec PyProof.Rows L2 Rg
section
variable {P : Program} {w : World} {K : PySem.W.Frag} {mg : Str → Option Value} {base : Heap}
/-! ### _law_pick -/
def sp_Lpick : Sp := fun vs H Q _ => ∃ (p : Addr) (fs : List Int) (lim : Int), vs = [.ref p, .int lim] ∧ H p = some (.lst (fs.map V.int)) ∧ 0 < lim ∧
  ∀ (r : Int) (fs' : List Int), 0 ≤ r → r < lim → fs'.length ≤ fs.length → Q (.int r) (upd H p (.lst (fs'.map V.int)))
theorem ok_Lpick (T : Tx K mg) : FnOk P w K mg base CX0 1 T.f_Lpick T.fd_Lpick ["_law_feed_here", "_law_limit"] sp_Lpick := by
  refine T.F_Lpick.ok sc_Lpick (fun vs H Q E h => ?_) (fun cdv A outer s H vs Q E hr h => ?_)
  · obtain ⟨p, fs, lim, rfl, _⟩ := h
    rfl
  · obtain ⟨p, fs, lim, rfl, hp, hl, k⟩ := h
    refine ⟨_, (pss_cons (ps_if (pt_cmpR op_eq (pe_callB call_len_seq rfl T.b_len (by decide +kernel) (pa_cons (pv 0) pa_nil)) pe_int (nomark _))
        (pss_one (ps_ret pe_int))
        pss_nil)
      (pss_one (ps_ret (pe_op op_mod (pe_callTy call_int1 rfl T.b_int (by decide +kernel) (pa_cons (pe_bm PySem.F.plainAttrs_list PySem.F.slot_list_pop PySem.F.type_list_pop mt_popAt (pv 0) (pa_cons pe_int pa_nil)) pa_nil)) (pv 1))))), ?_⟩
    refine ⟨_, rfl, p, fs.map V.int, rfl, .inl (.inl (.inl hp)), rfl, _, rfl, ite2 (fun e => ?_) (fun e => ?_)⟩
    · have := k 0 fs (Int.le_refl _) hl (Nat.le_refl _)
      rw [upd_id hp] at this
      exact this
    · cases fs with
      | nil => exact absurd (decide_eq_true rfl) e
      | cons x r =>
        refine ⟨.ref p, rfl, .inl ⟨rfl, _, .inl (.inl hp)⟩, p, _, 0, 0, .int x, rfl, rfl, hp, by decide, by decide, ?_, rfl, .inl ⟨x, rfl, ?_⟩⟩
        · rw [List.length_map]; simp [seqIndex?]
        · refine ⟨.int lim, rfl, _, _, rfl, rfl, hl, ?_⟩
          exact k _ r (Int.emod_nonneg _ (by omega)) (Int.emod_lt_of_pos _ hl) (by simp)

/-! ### _law_integer: of two ints -/
def sp_Linteger : Sp := fun vs H Q _ => ∃ (a d : Int), vs = [.int a, .int d] ∧ Q (.bl (decide (a = d))) H
theorem ok_Linteger (T : Tx K mg) : FnOk P w K mg base CX0 1 T.f_Linteger T.fd_Linteger ["_law_actual", "_law_due"] sp_Linteger := by
  refine T.F_Linteger.ok sc_Linteger (fun vs H Q E h => ?_) (fun cdv A outer s H vs Q E hr h => ?_)
  · obtain ⟨_, _, rfl, _⟩ := h; rfl
  · obtain ⟨a, d, rfl, k⟩ := h
    refine ⟨_, (pss_one (ps_ret (pe_and (pe_callB call_isi rfl T.b_isinstance (by decide +kernel) (pa_cons (pv 0) (pa_cons (pe_bltn (v := .ty "int") rfl T.b_int (by decide +kernel) rfl) pa_nil)))
      (pe_and (pe_not (pe_callB call_isi rfl T.b_isinstance (by decide +kernel) (pa_cons (pv 0) (pa_cons (pe_bltn (v := .ty "bool") rfl T.b_bool (by decide +kernel) rfl) pa_nil))))
      (pe_one (pe_cmpR op_eq (pv 0) (pv 1) (nomark _))))))), ?_⟩
    refine ⟨_, rfl, _, _, _, _, true, rfl, .ty _, .base (.int _), kit_ty (by decide +kernel), _, rfl, iteT ⟨_, rfl, _, _, _, _, false, rfl, .ty _, .base (.int _), kit_ty (by decide +kernel), _, rfl, _, rfl, iteT ⟨_, rfl, _, rfl, rfl, ?_⟩⟩⟩
    have : decide (V.int a = V.int d) = decide (a = d) := by
      by_cases e : a = d
      · subst e; simp
      · rw [decide_eq_false e, decide_eq_false fun q => e (V.int.inj q)]
    rw [this]
    exact k

/-! ### _law_feed -/
def sp_Lfeed (K : PySem.W.Frag) : Sp := fun vs H Q _ => ∃ (a : Addr) (ns : List Int), vs = [.ref a] ∧ SqL K H a (ns.map V.int) ∧ ns.length ≤ 63 ∧
  ∀ (H' : Hp) (p : Addr) (fs : List Int), Same H H' → H p = none → H' p = some (.lst (fs.map V.int)) → fs.length ≤ 5000 → Q (.ref p) H'
theorem ok_Lfeed (T : Tx K mg) : FnOk P w K mg base CX0 1 T.f_Lfeed T.fd_Lfeed ["_law_script"] (sp_Lfeed K) := by
  refine T.F_Lfeed.ok sc_Lfeed (fun vs H Q E h => ?_) (fun cdv A outer s H vs Q E hr h => ?_)
  · obtain ⟨_, _, rfl, _⟩ := h; rfl
  · obtain ⟨a, ns, rfl, hS, hlen, k⟩ := h
    refine ⟨_, (pss_cons (ps_set (i := 1) sc_Lfeed.nd rfl (.inl rfl) (pe_lst pa_nil))
      (pss_cons (ps_for PassesOwn.never rfl (pi_list (pv 0)) (pg_name (i := 2) sc_Lfeed.nd rfl (.inl rfl))
        (pss_cons (ps_set (i := 3) sc_Lfeed.nd rfl (.inl rfl) (pe_callB call_abs rfl T.b_abs (by decide +kernel) (pa_cons (pv 2) pa_nil)))
        (Evl.pss_cut (ps_if (pt_cmpR op_lt (pv 3) (pe_op op_pow pe_int pe_int) (nomark _))
          (pss_cons (ps_set (i := 3) sc_Lfeed.nd rfl (.inl rfl) (pe_op op_mod (pe_callTy call_int1 rfl T.b_int (by decide +kernel) (pa_cons (pe_op op_add (pe_op op_mul (pv 3) pe_int) pe_int) pa_nil)) pe_int))
          (pss_cons (ps_expr (pe_bm PySem.F.plainAttrs_list PySem.F.slot_list_append PySem.F.type_list_append mt_append (pv 1) (pa_cons (pe_op op_mod (pe_callTy call_int1 rfl T.b_int (by decide +kernel) (pa_cons (pe_op op_add (pe_op op_mul (pv 3) pe_int) pe_int) pa_nil)) pe_int) pa_nil)))
          (pss_one (ps_set (i := 3) sc_Lfeed.nd rfl (.inl rfl) pe_int))))
          pss_nil)
        (pss_one (ps_for PassesOwn.never rfl (pi_range1 rfl T.b_range (pa_cons pe_int pa_nil)) (pg_name (i := 4) sc_Lfeed.nd rfl (.inl rfl))
          (pss_one (ps_if (pt_cmpR op_gt (pv 3) pe_int (nomark _))
            (pss_cons (ps_expr (pe_bm PySem.F.plainAttrs_list PySem.F.slot_list_append PySem.F.type_list_append mt_append (pv 1) (pa_cons (pe_op op_mod (pe_callTy call_int1 rfl T.b_int (by decide +kernel) (pa_cons (pv 3) pa_nil)) pe_int) pa_nil)))
            (pss_one (ps_set (i := 3) sc_Lfeed.nd rfl (.inl rfl) (pe_op op_fdiv (pv 3) pe_int))))
            pss_nil)))))))
      (pss_one (ps_ret (pv 1))))), ?_⟩
    refine ⟨Nat.zero_le _, fun p np => ?_⟩
    have s0 : Same H (upd H p (.lst [])) := same_upd np
    have npa : ∀ H2, SqL K H2 a (ns.map V.int) → True := fun _ _ => trivial
    refine ⟨_, rfl, a, rfl, ⟨_, s0.seq hS⟩, for_list (K := K) (a := a) (xs := ns.map V.int) (fun i σ H2 => ∃ (fs : List Int) (v2 v3 v4 : Option V), σ = [some (.ref a), some (.ref p), v2, v3, v4] ∧ H2 = upd H p (.lst (fs.map V.int)) ∧ fs.length ≤ 61 * i)
      ⟨[], none, none, none, rfl, rfl, Nat.zero_le _⟩ (fun i σ H2 _ ⟨_, _, _, _, _, e, _⟩ => by rw [e]; exact (same_upd np).seq hS) ?_ ?_⟩
    · rintro i y σ H2 hi ⟨fs, v2, v3, v4, rfl, rfl, hl⟩
      have hil : i < 63 := by
        have := (List.getElem?_eq_some_iff.mp hi).1
        rw [List.length_map] at this
        omega
      obtain ⟨z, rfl⟩ : ∃ z, y = V.int z := by
        rw [List.getElem?_map] at hi
        cases e : ns[i]? with
        | none => rw [e] at hi; cases hi
        | some z => rw [e] at hi; exact ⟨z, (Option.some.inj hi).symm⟩
      refine ⟨_, rfl, z, rfl, ?_⟩
      refine ⟨fun σ' H' => ∃ (fs : List Int) (R : Int) (v4 : Option V), σ' = [some (.ref a), some (.ref p), some (.int z), some (.int R), v4] ∧ H' = upd H p (.lst (fs.map V.int)) ∧ 0 ≤ R ∧ fs.length ≤ 61 * i + 1, ?_, ?_⟩
      · have hz : 0 ≤ (if z < 0 then -z else z) := by split <;> omega
        refine ⟨_, rfl, _, _, rfl, rfl, ⟨by decide, by decide, by decide⟩, _, _, rfl, rfl, _, rfl, ite2 (fun e => ?_) (fun e => ?_)⟩
        · have e1 : (if z < 0 then -z else z) < 10 ^ 18 := of_decide_eq_true e
          refine ⟨_, rfl, _, _, rfl, rfl, .inl ⟨by omega, by omega⟩, _, _, rfl, rfl, .inl ⟨_, rfl, _, _, rfl, rfl, (by show (0 : Int) < _; decide), ?_⟩⟩
          refine ⟨.ref p, rfl, .inl ⟨rfl, _, .inl (.inl upd_same)⟩, _, rfl, _, _, rfl, rfl, .inr ⟨by decide, by decide⟩, _, _, rfl, rfl, .inl ⟨_, rfl, _, _, rfl, rfl, (by show (0 : Int) < _; decide), p, _, _, rfl, rfl, upd_same, ?_, ?_⟩⟩
          · rw [List.length_map]; exact Nat.lt_of_lt_of_le (Nat.lt_succ_of_le hl) (by unfold sizeLine; omega)
          · exact ⟨fs ++ [_], 0, v4, rfl, upd_app, Int.le_refl _, by rw [List.length_append]; simp; omega⟩
        · exact ⟨fs, _, v4, rfl, rfl, hz, by omega⟩
      · rintro σ' H' ⟨fs, R, v4, rfl, rfl, hR, hl⟩
        refine ⟨60, rfl, by decide, by decide, for_range (lo := 0) (n := 60) (fun j σ' H' => ∃ (fs : List Int) (R : Int) (v4 : Option V), σ' = [some (.ref a), some (.ref p), some (.int z), some (.int R), v4] ∧ H' = upd H p (.lst (fs.map V.int)) ∧ 0 ≤ R ∧ fs.length ≤ 61 * i + 1 + j)
          ⟨fs, R, v4, rfl, rfl, hR, hl⟩ ?_ ?_⟩
        · rintro j σ' H' hj ⟨fs, R, v4, rfl, rfl, hR, hl⟩
          refine ⟨_, rfl, _, _, rfl, rfl, _, rfl, ite2 (fun e => ?_) (fun e => ?_)⟩
          · refine ⟨.ref p, rfl, .inl ⟨rfl, _, .inl (.inl upd_same)⟩, _, rfl, .inl ⟨_, rfl, _, _, rfl, rfl, (by show (0 : Int) < _; decide), p, _, _, rfl, rfl, upd_same, ?_, ?_⟩⟩
            · rw [List.length_map]; exact Nat.lt_of_lt_of_le (Nat.lt_succ_of_le hl) (by unfold sizeLine; omega)
            · refine ⟨_, rfl, _, _, rfl, rfl, ⟨by decide, by decide⟩, fs ++ [_], _, _, rfl, upd_app, Int.ediv_nonneg hR (by decide), by rw [List.length_append]; simp; omega⟩
          · exact ⟨fs, R, _, rfl, rfl, hR, by omega⟩
        · rintro σ' H' ⟨fs, R, v4, rfl, rfl, hR, hl⟩
          exact ⟨fs, _, _, _, rfl, rfl, by omega⟩
    · rintro σ H2 ⟨fs, v2, v3, v4, rfl, rfl, hl⟩
      rw [List.length_map] at hl
      exact ⟨_, rfl, k _ p fs (same_upd np) np upd_same (by omega)⟩
end
end K39
namespace K39
open PySem PySem.Spec PyProof.Rows L2 Rg
/-! ### books of rules, in values -/
def Rs : List Str := ["copies", "mark", "words", "reuse", "late", "revoke", "lapse", "shelve", "frozen", "wait", "room", "told"]
def nm : List Str → Nat → List Str
  | [], _ => []
  | r :: t, n => if n % 2 = 1 then r :: nm t (n / 2) else nm t (n / 2)
def ord (B : List Str) : List Str := Rs.filter fun r => decide (r ∈ B)
/-- the weights of the first i rules that B has -/
def wts (B : List Str) (i : Nat) : List Int := ((List.range i).filter fun k => Rs[k]?.any fun r => decide (r ∈ B)).map fun k => (2 : Int) ^ k
def numB (B : List Str) : Int := (wts B 12).sum
theorem Rs_len : Rs.length = 12 := rfl
theorem Rs_nodup : Rs.Nodup := by decide +kernel
theorem nm_sub : ∀ {l : List Str} {n : Nat}, (nm l n).Sublist l
  | [], _ => .slnil
  | r :: t, n => by
    unfold nm
    split
    · exact nm_sub.cons_cons r
    · exact nm_sub.cons r
theorem filt_sub : ∀ {l B : List Str}, l.Nodup → B.Sublist l → (l.filter fun r => decide (r ∈ B)) = B
  | [], B, _, h => by
    cases h
    rfl
  | r :: t, B, hn, h => by
    have hn' := List.nodup_cons.mp hn
    cases h with
    | cons _ h =>
      have : r ∉ B := fun z => hn'.1 (h.subset z)
      rw [List.filter_cons, if_neg (by simpa using this)]
      exact filt_sub hn'.2 h
    | @cons_cons B' _ _ h =>
      rw [List.filter_cons, if_pos (by simp)]
      congr 1
      refine Eq.trans (List.filter_congr fun x hx => ?_) (filt_sub hn'.2 h)
      have : x ≠ r := fun z => hn'.1 (z ▸ hx)
      simp [this]
theorem ord_sub {B : List Str} (h : B.Sublist Rs) : ord B = B := filt_sub Rs_nodup h
theorem ord_subl {B : List Str} : (ord B).Sublist Rs := List.filter_sublist
theorem nm_take_s {l : List Str} {i n : Nat} {r : Str} (h : l[i]? = some r) : nm (l.take (i + 1)) n = nm (l.take i) n ++ if (n / 2 ^ i) % 2 = 1 then [r] else [] := by
  induction l generalizing i n with
  | nil => simp at h
  | cons a t ih =>
    cases i with
    | zero =>
      have : a = r := by simpa using h
      subst this
      simp only [List.take_succ_cons, List.take_zero, Nat.pow_zero, Nat.div_one]
      unfold nm
      split <;> simp [nm]
    | succ i =>
      have h' : t[i]? = some r := by simpa using h
      simp only [List.take_succ_cons]
      unfold nm
      rw [ih h', show n / 2 / 2 ^ i = n / 2 ^ (i + 1) by rw [Nat.div_div_eq_div_mul, Nat.pow_succ, Nat.mul_comm]]
      split <;> rfl
theorem wts_s {B : List Str} {i : Nat} {r : Str} (h : Rs[i]? = some r) : wts B (i + 1) = wts B i ++ if r ∈ B then [(2 : Int) ^ i] else [] := by
  unfold wts
  rw [List.range_succ, List.filter_append, List.map_append]
  congr 1
  by_cases z : r ∈ B
  · rw [if_pos z, List.filter_cons, if_pos (by rw [h]; simpa using z)]
    rfl
  · rw [if_neg z, List.filter_cons, if_neg (by rw [h]; simpa using z)]
    rfl
theorem wts_congr {B B' : List Str} {i : Nat} (h : ∀ r ∈ Rs, r ∈ B ↔ r ∈ B') : wts B i = wts B' i := by
  unfold wts
  congr 1
  refine List.filter_congr fun k _ => ?_
  cases q : Rs[k]? with
  | none => rfl
  | some r => exact decide_eq_decide.mpr (h r (List.mem_of_getElem? q))
theorem mem_ord {B : List Str} {r : Str} : r ∈ ord B ↔ r ∈ Rs ∧ r ∈ B := by
  unfold ord
  rw [List.mem_filter, decide_eq_true_eq]
theorem numB_ord {B : List Str} : numB (ord B) = numB B := by
  unfold numB
  rw [wts_congr fun r hr => ⟨fun h => (mem_ord.mp h).2, fun h => mem_ord.mpr ⟨hr, h⟩⟩]
theorem ord_congr {B B' : List Str} (h : ∀ r ∈ Rs, r ∈ B ↔ r ∈ B') : ord B = ord B' := List.filter_congr fun r hr => decide_eq_decide.mpr (h r hr)
theorem wts_len {B : List Str} {i : Nat} : (wts B i).length ≤ i := by
  unfold wts
  rw [List.length_map]
  exact Nat.le_trans (List.length_filter_le _ _) (by rw [List.length_range]; exact Nat.le_refl _)
theorem nm_len {l : List Str} {n : Nat} : (nm l n).length ≤ l.length := nm_sub.length_le
theorem nm_take_all {n : Nat} : nm (Rs.take 12) n = nm Rs n := rfl
/-- the written form -/
def txB (B : List Str) : Str := if B = [] then "none" else Txt.join " " B
theorem sp1 : TL.tl (" " : Str) = [32] := by decide +kernel
theorem no_sp : ∀ r ∈ Rs, 32 ∉ TL.tl r := by decide +kernel
theorem split_of {L : List Str} (h : L ≠ []) (hs : ∀ p ∈ L, 32 ∉ TL.tl p) : Txt.split (Txt.join " " L) " " = L := TL.split_join sp1 (by decide +kernel) h hs
/-- a list of names that is not a book's -/
theorem not_ord {L : List Str} (h : ¬ L.Sublist Rs) : ord L ≠ L := fun e => h (by rw [← e]; exact ord_subl)
theorem not_mem {L : List Str} {x : Str} (h : x ∈ L) (hx : x ∉ Rs) : ord L ≠ L := not_ord fun z => hx (z.subset h)
theorem not_nodup {L : List Str} (h : ¬ L.Nodup) : ord L ≠ L := not_ord fun z => h (z.nodup Rs_nodup)
/-- a text that is no book's: what its parts are -/
structure BadT (t : Str) (L : List Str) : Prop where
  ne : L ≠ []
  nsp : ∀ p ∈ L, 32 ∉ TL.tl p
  eq : t = Txt.join " " L
  nord : ord L ≠ L
  nnone : L ≠ [("none" : Str)]
  len : t.length ≤ 900
theorem BadT.split {t : Str} {L : List Str} (h : BadT t L) : Txt.split t " " = L := by rw [h.eq, split_of h.ne h.nsp]
theorem BadT.not {t : Str} {L : List Str} (h : BadT t L) : t ≠ "none" := fun e => h.nnone (by rw [← h.split, e]; decide +kernel)
theorem txB_split {B : List Str} (h : B.Sublist Rs) (hn : B ≠ []) : Txt.split (txB B) " " = B := by
  unfold txB
  rw [if_neg hn]
  exact split_of hn fun p hp => no_sp p (h.subset hp)
theorem txB_ne {B : List Str} (h : B.Sublist Rs) (hn : B ≠ []) : txB B ≠ "none" := fun e => by
  have := txB_split h hn
  rw [e] at this
  have e2 : Txt.split ("none" : Str) " " = [("none" : Str)] := by decide +kernel
  rw [e2] at this
  subst this
  exact absurd (h.subset (List.mem_singleton.mpr rfl)) (by decide +kernel)
end K39
namespace K39
open PySem PySem.Spec PyProof.Rows L2 Rg TL
theorem str_ext {a b : Str} (h : tl a = tl b) : a = b := by
  have := congrArg List.toArray h
  cases a; cases b
  simpa [tl] using this
theorem joinL_snoc {y x : List Nat} : ∀ {B : List (List Nat)}, B ≠ [] → joinL y (B ++ [x]) = joinL y B ++ (y ++ x)
  | [], h => absurd rfl h
  | [b], _ => rfl
  | b :: c :: t, _ => by
    show b ++ (y ++ joinL y (c :: t ++ [x])) = b ++ (y ++ joinL y (c :: t)) ++ (y ++ x)
    rw [joinL_snoc (by simp), List.append_assoc, List.append_assoc]
theorem joinL_cons {y x : List Nat} {B : List (List Nat)} (h : B ≠ []) : joinL y (x :: B) = x ++ (y ++ joinL y B) := by
  cases B with
  | nil => exact absurd rfl h
  | cons b t => rfl
theorem tl_jn {y : Str} {B : List Str} : tl (Txt.join y B) = joinL (tl y) (B.map tl) := by rw [join_eq, tl_join]
theorem join_snoc {B : List Str} {x : Str} (h : B ≠ []) : Txt.join " " (B ++ [x]) = Txt.join " " B ++ " " ++ x := str_ext (by
  rw [tl_jn, tl_append, tl_append, tl_jn, List.map_append, show [x].map tl = [tl x] from rfl, joinL_snoc (by simpa using h), List.append_assoc])
theorem join_cons {B : List Str} {x : Str} (h : B ≠ []) : Txt.join " " (x :: B) = x ++ " " ++ Txt.join " " B := str_ext (by
  rw [tl_jn, tl_append, tl_append, tl_jn, List.map_cons, joinL_cons (by simpa using h), List.append_assoc])
theorem joinL_last {y x z : List Nat} : ∀ {B : List (List Nat)}, joinL y (B ++ [z ++ x]) = joinL y (B ++ [z]) ++ x
  | [] => rfl
  | [b] => by
    show b ++ (y ++ (z ++ x)) = b ++ (y ++ z) ++ x
    rw [List.append_assoc, List.append_assoc]
  | b :: c :: t => by
    show b ++ (y ++ joinL y (c :: t ++ [z ++ x])) = b ++ (y ++ joinL y (c :: t ++ [z])) ++ x
    rw [joinL_last, List.append_assoc, List.append_assoc]
theorem join_last {B : List Str} {z x : Str} : Txt.join " " (B ++ [z ++ x]) = Txt.join " " (B ++ [z]) ++ x := str_ext (by
  rw [tl_append, tl_jn, tl_jn, List.map_append, List.map_append, show [z ++ x].map tl = [tl z ++ tl x] by rw [List.map_singleton, tl_append], show [z].map tl = [tl z] from rfl, joinL_last])
/-- an empty part between each two -/
def inter : List Str → List Str
  | [] => []
  | [b] => [b]
  | b :: c :: t => b :: "" :: inter (c :: t)
theorem inter_ne {b : Str} {t : List Str} : inter (b :: t) ≠ [] := by cases t <;> simp [inter]
theorem join_two : ∀ {B : List Str}, Txt.join "  " B = Txt.join " " (inter B)
  | [] => rfl
  | [b] => rfl
  | b :: c :: t => str_ext (by
    have ih := join_two (B := c :: t)
    have ih2 := congrArg tl ih
    rw [tl_jn, tl_jn] at ih2
    rw [tl_jn, tl_jn]
    show tl b ++ (tl "  " ++ joinL (tl "  ") ((c :: t).map tl)) = joinL (tl " ") (tl b :: tl "" :: (inter (c :: t)).map tl)
    rw [ih2, joinL_cons (by simp), joinL_cons (by simpa using inter_ne)]
    have e1 : tl ("  " : Str) = tl (" " : Str) ++ tl (" " : Str) := by decide +kernel
    have e2 : tl ("" : Str) = [] := by decide +kernel
    rw [e1, e2, List.nil_append, List.append_assoc])
theorem inter_mem : ∀ {B : List Str} {x : Str}, x ∈ inter B → x ∈ B ∨ x = ""
  | [], _, h => by cases h
  | [b], _, h => .inl h
  | b :: c :: t, x, h => by
    rcases List.mem_cons.mp h with e | h
    · exact .inl (by simp [e])
    · rcases List.mem_cons.mp h with e | h
      · exact .inr e
      · exact (inter_mem h).imp_left (List.mem_cons_of_mem _)
theorem inter_len : ∀ {B : List Str}, (inter B).length ≤ 2 * B.length
  | [] => Nat.zero_le _
  | [b] => by simp [inter]
  | b :: c :: t => by
    have := inter_len (B := c :: t)
    simp only [inter, List.length_cons] at this ⊢
    omega
theorem joinL_len {k : Nat} : ∀ {B : List (List Nat)}, (∀ p ∈ B, p.length ≤ k) → (joinL [32] B).length ≤ B.length * (k + 1)
  | [], _ => Nat.zero_le _
  | [b], h => by
    have := h b (by simp)
    show b.length ≤ 1 * (k + 1)
    omega
  | b :: c :: t, h => by
    have h1 := h b (by simp)
    have h2 := joinL_len (B := c :: t) fun p hp => h p (List.mem_cons_of_mem _ hp)
    show (b ++ ([32] ++ joinL [32] (c :: t))).length ≤ (t.length + 1 + 1) * (k + 1)
    rw [List.length_cons, Nat.succ_mul] at h2
    rw [List.length_append, List.length_append, List.length_singleton, Nat.succ_mul, Nat.succ_mul]
    omega
theorem join_len {B : List Str} {k : Nat} (h : ∀ p ∈ B, p.length ≤ k) : (Txt.join " " B).length ≤ B.length * (k + 1) := by
  rw [len_tl, tl_jn, show tl (" " : Str) = [32] by decide +kernel]
  have := joinL_len (k := k) (B := B.map tl) fun p hp => by
    obtain ⟨x, hx, rfl⟩ := List.mem_map.mp hp
    rw [← len_tl]
    exact h x hx
  rwa [List.length_map] at this
end K39
namespace K39
open PySem PySem.Spec PyProof.Rows L2 Rg
theorem inV_str {r : Str} {B : List Str} : inV (.str r) (B.map V.str) = decide (r ∈ B) := by
  unfold inV
  rw [List.any_map, Bool.eq_iff_iff, List.any_eq_true, decide_eq_true_eq]
  constructor
  · rintro ⟨x, hx, e⟩
    have : x = r := by simpa [eqV] using e
    exact this ▸ hx
  · intro h
    exact ⟨r, h, by simp [eqV]⟩
theorem flat_str {B : List Str} : (B.map V.str).all flatV = true := by
  rw [List.all_map, List.all_eq_true]
  intro x _
  rfl
theorem str_at {l : List Str} {i : Nat} {x : V} (h : (l.map V.str)[i]? = some x) : ∃ r, x = .str r ∧ l[i]? = some r := by
  rw [List.getElem?_map] at h
  obtain ⟨r, h1, h2⟩ := Option.map_eq_some_iff.mp h
  exact ⟨r, h2.symm, h1⟩
/-- a list or a tuple of texts -/
def SqS (K : PySem.W.Frag) (H : Hp) (a : Addr) (B : List Str) : Prop := SqL K H a (B.map V.str) ∨ SqT K H a (B.map V.str)
/-- all but instances stay -/
def KI (H H' : Hp) : Prop := ∀ x o, H x = some o → (∀ C dx fs, o ≠ .ins C dx fs) → H' x = some o
theorem KI.refl {H : Hp} : KI H H := fun _ _ e _ => e
theorem KI.of {H H' : Hp} (s : Same H H') : KI H H' := fun _ _ e _ => s _ _ e
theorem KI.same {H H1 H' : Hp} (a : KI H H1) (s : Same H1 H') : KI H H' := fun x o e n => s _ _ (a x o e n)
theorem KI.fld {H H1 : Hp} {p C dx C' dx' : Addr} {fs gs : List (Str × V)} (a : KI H H1) (e : H1 p = some (.ins C dx fs)) : KI H (upd H1 p (.ins C' dx' gs)) := fun x o ex n => by
  have h1 := a x o ex n
  rw [upd_ne]
  · exact h1
  · intro z
    rw [z, e] at h1
    exact n _ _ _ (Option.some.inj h1).symm
theorem rd_ki {H H' : Hp} {a : Addr} {u : HO} (k : KI H H') (h : Rd H a u) (n : ∀ C dx fs, u ≠ .ins C dx fs) : Rd H' a u := by
  rcases h with h | ⟨o, h⟩
  · exact .inl (k _ _ h n)
  · exact .inr ⟨o, k _ _ h fun _ _ _ z => nomatch z⟩
theorem SqS.ki {K : PySem.W.Frag} {H H' : Hp} {a : Addr} {B : List Str} (k : KI H H') (h : SqS K H a B) : SqS K H' a B := by
  rcases h with (h | h) | (h | h)
  · exact .inl (.inl (rd_ki k h fun _ _ _ z => nomatch z))
  · exact .inl (.inr h)
  · exact .inr (.inl (rd_ki k h fun _ _ _ z => nomatch z))
  · exact .inr (.inr h)
theorem SqS.same {K : PySem.W.Frag} {H H' : Hp} {a : Addr} {B : List Str} (s : Same H H') (h : SqS K H a B) : SqS K H' a B := h.ki (.of s)
theorem SqL.ki {K : PySem.W.Frag} {H H' : Hp} {a : Addr} {xs : List V} (k : KI H H') (h : SqL K H a xs) : SqL K H' a xs := by
  rcases h with h | h
  · exact .inl (rd_ki k h fun _ _ _ z => nomatch z)
  · exact .inr h
theorem SqT.ki {K : PySem.W.Frag} {H H' : Hp} {a : Addr} {xs : List V} (k : KI H H') (h : SqT K H a xs) : SqT K H' a xs := by
  rcases h with h | h
  · exact .inl (rd_ki k h fun _ _ _ z => nomatch z)
  · exact .inr h
/-- a for over a list or a tuple of texts -/
def forR (g : TG) (tb : TS) (D : Ends) (σ : L2.St) (J : It) (H1 : Hp) : Prop := ∃ W : Nat → Nat → L2.St → Hp → Prop, (∃ m, W 0 m σ H1) ∧ ∀ i m σ H, W i m σ H →
  (J.stop i H ∧ D.nx σ H) ∨ (J.go i H ∧ ∃ N : L2.St → Hp → Prop, (∀ σ' H', N σ' H' → ∃ m', m' < m ∧ W (i + 1) m' σ' H') ∧ ∀ x H', J.yld i H x H' → g x σ H' fun σ2 H2 => tb { D with nx := N, ct := N, bk := D.nx } σ2 H2)
theorem for_seq {K : PySem.W.Frag} {a : Addr} {B : List Str} {g : TG} {tb : TS} {D : Ends} {σ : L2.St} {H : Hp} (hq : SqS K H a B) (Pv : Nat → L2.St → Hp → Prop) (h0 : Pv 0 σ H) (hk : ∀ i σ H', i ≤ B.length → Pv i σ H' → KI H H')
    (hs : ∀ i r σ H', B[i]? = some r → Pv i σ H' → g (.str r) σ H' fun σ2 H2 => tb { D with nx := Pv (i + 1), ct := Pv (i + 1), bk := D.nx } σ2 H2) (hd : ∀ σ H', Pv B.length σ H' → D.nx σ H') :
    ((∃ xs, SqL K H a xs) ∧ forR g tb D σ (Itl K a) H) ∨ ((∃ xs, SqT K H a xs) ∧ forR g tb D σ (Itt K a) H) := by
  rcases hq with q | q
  · refine .inl ⟨⟨_, q⟩, for_list (K := K) (a := a) (xs := B.map V.str) Pv h0 (fun i σ H' hi hp => SqL.ki (hk i σ H' (by rw [List.length_map] at hi; exact hi) hp) q) (fun i x σ H' hx hp => ?_) (fun σ H' hp => hd σ H' (by rw [List.length_map] at hp; exact hp))⟩
    obtain ⟨r, rfl, hr⟩ := str_at hx
    exact hs i r σ H' hr hp
  · refine .inr ⟨⟨_, q⟩, for_tup (K := K) (a := a) (xs := B.map V.str) Pv h0 (fun i σ H' hi hp => SqT.ki (hk i σ H' (by rw [List.length_map] at hi; exact hi) hp) q) (fun i x σ H' hx hp => ?_) (fun σ H' hp => hd σ H' (by rw [List.length_map] at hp; exact hp))⟩
    obtain ⟨r, rfl, hr⟩ := str_at hx
    exact hs i r σ H' hr hp
/-- what a comprehension with a test has made of the first i texts -/
structure PvS (H0 : Hp) (D : Addr) (l : List Str) (p : Str → Bool) (i : Nat) (H' : Hp) : Prop where
  same : Same H0 H'
  at_ : H' D = some (.lst (((l.take i).filter p).map V.str))
theorem PvS.start {H0 H1 : Hp} {D : Addr} {l : List Str} {p : Str → Bool} (s : Same H0 H1) (h : H1 D = none) : PvS H0 D l p 0 (upd H1 D (.lst [])) := ⟨s.trans (same_upd h), upd_same⟩
theorem PvS.yes {H0 H' : Hp} {D : Addr} {l : List Str} {p : Str → Bool} {i : Nat} {x : Str} (h : PvS H0 D l p i H') (n : H0 D = none) (hx : l[i]? = some x) (hp : p x = true) : PvS H0 D l p (i + 1) (upd H' D (.lst (((l.take i).filter p).map V.str ++ [.str x]))) := by
  refine ⟨fun b o e => ?_, ?_⟩
  · rw [upd_ne (ne_of_none e n)]
    exact h.same _ _ e
  · rw [upd_same, takeB hx, List.filter_append, List.map_append, List.filter_cons, if_pos hp]
    rfl
theorem PvS.no {H0 H' : Hp} {D : Addr} {l : List Str} {p : Str → Bool} {i : Nat} {x : Str} (h : PvS H0 D l p i H') (hx : l[i]? = some x) (hp : p x = false) : PvS H0 D l p (i + 1) H' := by
  refine ⟨h.same, ?_⟩
  rw [h.at_, takeB hx, List.filter_append, List.filter_cons, if_neg (by rw [hp]; exact Bool.false_ne_true), List.filter_nil, List.append_nil]
theorem PvS.grow {H0 H' H1 : Hp} {D : Addr} {l : List Str} {p : Str → Bool} {i : Nat} (h : PvS H0 D l p i H') (s : Same H' H1) : PvS H0 D l p i H1 := ⟨h.same.trans s, s _ _ h.at_⟩
theorem PvS.all {H0 H' : Hp} {D : Addr} {l : List Str} {p : Str → Bool} (h : PvS H0 D l p l.length H') : Same H0 H' ∧ H' D = some (.lst ((l.filter p).map V.str)) := by
  have := h.at_
  rw [List.take_length] at this
  exact ⟨h.same, this⟩
theorem PvS.len {l : List Str} {p : Str → Bool} {i : Nat} (h : l.length < 900) : (((l.take i).filter p).map V.str).length < sizeLine := by
  rw [List.length_map]
  have h1 := List.length_filter_le p (l.take i)
  have h2 : (l.take i).length ≤ l.length := by rw [List.length_take]; exact Nat.min_le_right _ _
  exact small1000 (by omega)
/-- a book -/
structure BookAt (C : Addr) (H : Hp) (a : Addr) (B : List Str) : Prop where
  ob : ∃ dx tn, H a = some (.ins C dx [("names", .ref tn), ("number", .int (numB B))]) ∧ H tn = some (.tup (B.map V.str))
theorem BookAt.same {C : Addr} {H H' : Hp} {a : Addr} {B : List Str} (s : Same H H') (h : BookAt C H a B) : BookAt C H' a B := by
  obtain ⟨dx, tn, h1, h2⟩ := h.ob
  exact ⟨dx, tn, s _ _ h1, s _ _ h2⟩
theorem wts_f {B : List Str} {i : Nat} : (wts B i).length < 900 + i := by
  have := wts_len (B := B) (i := i)
  omega
/-- the numbers of the first i rules that B has -/
structure PvW (H0 : Hp) (D : Addr) (B : List Str) (i : Nat) (H' : Hp) : Prop where
  same : Same H0 H'
  at_ : H' D = some (.lst ((wts B i).map V.int))
section
variable {P : Program} {w : World} {K : PySem.W.Frag} {mg : Str → Option Value} {base : Heap}
def sp_RuleSet_init (K : PySem.W.Frag) (C CV : Addr) : Sp := fun vs H Q E => ∃ (p dx q : Addr) (ns : List Str), vs = [.ref p, .ref q] ∧ H p = some (.ins C dx []) ∧ SqS K H q ns ∧ ns.length < 900 ∧ (∀ r ∈ ns, r.length ≤ 1000) ∧
  ((∀ r ∈ ns, r ∈ Rs) → ∀ H' tn, KI H H' → H' p = some (.ins C dx [("names", .ref tn), ("number", .int (numB ns))]) → H' tn = some (.tup ((ord ns).map V.str)) → (∀ x o, x ≠ p → H x = some o → H' x = some o) → Q .non H') ∧
  ((∃ r ∈ ns, r ∉ Rs) → ∀ H', Same H H' → E (.ref CV) none H')
theorem ok_RuleSet_init (T : Tx K mg) : FnOk P w K mg base (L2N.CX P w) 1 T.f_RuleSet___init__ T.fd_RuleSet___init__ ["self", "names"] (sp_RuleSet_init K T.C_Book T.C_BadValue) := by
  refine T.F_RuleSet___init__.okN sc_RuleSet___init__ (fun vs H Q E h => ?_) (fun cdv A outer s H vs Q E hr h => ?_)
  · obtain ⟨_, _, _, _, rfl, _⟩ := h; rfl
  · obtain ⟨p, dx, q, ns, rfl, hp, hq, hlen, hsz, k, kE⟩ := h
    refine ⟨_, (pss_cons (ps_for (passes_of rfl) rfl (pi_seq (pv 1)) (pg_name (i := 2) sc_RuleSet___init__.nd rfl (.inl rfl))
        (pss_one (ps_if (pt_cmpR op_notIn_seq (pv 2) (pe_con (pv 0) rfl) rfl)
          (pss_one (L2N.ps_raise rfl (L2N.takes_of rfl rfl rfl rfl) (pmk_own1N PySem.F.excBase_ValueError T.xe_BadValue T.mg_BadValue T.ke_BadValue (raises_own T.be_BadValue T.te_BadValue) rfl (pe_joined (.cons pe_str (.cons (pe_fmt (pv 2)) .nil))))))
          pss_nil)))
      (PSs.nox (pss_cons (ps_fld (pv 0) (pe_callTy call_tuple_of rfl T.b_tuple (by decide +kernel) (pa_cons (pe_lc rfl (own := [("rule", 3)]) (g := gName 3) (tt := _) sc_RuleSet___init__.nd (pi_tup (pe_con (pv 0) rfl)) (blkOk_by (N := ["self", "names", "name", "rule", "k"]) (sc := defScope s_RuleSet___init__) (by decide +kernel)) (fun _ _ _ _ _ => pg_name (i := 3) sc_RuleSet___init__.nd rfl (Or.inl rfl)) (fun _ _ _ _ _ => pts_one (pt_cmpR (op_inK (K := K)) (pv 3) (pv 1) rfl)) (fun _ _ _ _ _ => (pv 3))) pa_nil)) rfl)
      (pss_one (ps_fld (pv 0) (pe_callB (cr_sum rfl) rfl T.b_sum (by decide +kernel) (pa_cons (pe_lc rfl (own := [("k", 4), ("rule", 3)]) (g := _) (tt := _) sc_RuleSet___init__.nd (pi_enumT (by rfl) T.b_enumerate (pa_cons (pe_con (pv 0) rfl) pa_nil)) (blkOk_by (N := ["self", "names", "name", "rule", "k"]) (sc := defScope s_RuleSet___init__) (by decide +kernel)) (fun _ _ _ _ _ => (pg_tupK (K := K) (n := 2) rfl (pgs_cons (pg_name (i := 4) sc_RuleSet___init__.nd rfl (.inl rfl)) (pgs_cons (pg_name (i := 3) sc_RuleSet___init__.nd rfl (.inl rfl)) pgs_nil)))) (fun _ _ _ _ _ => pts_one (pt_cmpR (op_inK (K := K)) (pv 3) (pv 1) rfl)) (fun _ _ _ _ _ => (pe_op op_shl pe_int (pv 4)))) pa_nil)) rfl))))), ?_⟩
    have hR : ∀ H, SqT K H T.tA_Book_RULES (Rs.map V.str) := T.tt_Book_RULES
    have hfs : ∀ x : Str, x.length ≤ 1000 → (Str.empty ++ "no rule: ").length ≤ sizeLine ∧ (Str.empty ++ "no rule: " ++ x).length ≤ sizeLine := fun x hx => by
      have e : (Str.empty ++ ("no rule: " : Str)).length = 9 := by decide
      have h1 : 2000 ≤ sizeLine := by decide
      rw [strLen_append (x := Str.empty ++ "no rule: ")]
      omega
    -- the names that are none
    refine ⟨_, rfl, q, rfl, ?_⟩
    refine for_seq hq (fun i σ H' => ∃ u2 : Option V, σ = [some (.ref p), some (.ref q), u2, none, none] ∧ H' = H ∧ ∀ r ∈ ns.take i, r ∈ Rs) ⟨_, rfl, rfl, fun r h => by simp at h⟩ (fun i σ H' _ ⟨_, _, e, _⟩ => by rw [e]; exact .refl) ?_ ?_
    · rintro i r σ H' hr ⟨u2, rfl, rfl, hin⟩
      refine ⟨_, rfl, _, rfl, p, _, _, _, _, _, rfl, hp, T.cl_Book, T.tc_Book_RULES, rfl, _, _, rfl, .inr (hR _), rfl, flat_str, _, rfl, ?_⟩
      by_cases z : r ∈ Rs
      · rw [if_pos rfl, inV_str, decide_eq_true z]
        refine iteF ⟨_, rfl, rfl, fun x hx => ?_⟩
        rw [takeB hr] at hx
        rcases List.mem_append.mp hx with y | y
        · exact hin x y
        · rw [List.mem_singleton.mp y]; exact z
      · rw [if_pos rfl, inV_str, decide_eq_false z]
        have hm := List.mem_of_getElem? hr
        obtain ⟨f1, f2⟩ := hfs r (hsz r hm)
        refine iteT ⟨_, rfl, f1, _, rfl, .inl ⟨_, rfl, ?_, _, rfl, f2, ?_⟩⟩
        · have := hsz r hm
          have h1 : 2000 ≤ sizeLine := by decide
          omega
        · exact kE ⟨r, hm, z⟩ _ (Same.refl _)
    rintro σ H' ⟨u2, rfl, rfl, hin⟩
    rw [List.take_length] at hin
    -- the names
    refine ⟨_, rfl, p, _, _, _, _, _, rfl, hp, T.cl_Book, T.tc_Book_RULES, rfl, _, rfl, ⟨_, hR _⟩, fun D hD => ?_⟩
    refine lc_tup (K := K) (a := T.tA_Book_RULES) (xs := Rs.map V.str) (PvS H' D Rs fun r => decide (r ∈ ns)) (PvS.start (Same.refl _) hD) (fun _ _ _ _ => hR _) ?_ ?_
    · rintro i x H1 hx hP
      obtain ⟨r, rfl, hr⟩ := str_at hx
      refine ⟨rfl, ?_⟩
      refine ⟨_, rfl, _, rfl, q, _, rfl, hq.same hP.same, rfl, flat_str, _, rfl, ?_⟩
      rw [if_neg Bool.false_ne_true, inV_str]
      by_cases z : r ∈ ns
      · rw [decide_eq_true z]
        exact iteT ⟨_, rfl, _, hP.at_, PvS.len (by decide), hP.yes hD hr (decide_eq_true z)⟩
      · rw [decide_eq_false z]
        exact iteF (hP.no hr (decide_eq_false z))
    intro H1 hP
    obtain ⟨s1, e1⟩ := PvS.all (l := Rs) hP
    refine ⟨D, _, rfl, .inl ⟨.of e1, fun tn htn => ?_⟩⟩
    have s2 := same_upd (o := .tup ((Rs.filter fun r => decide (r ∈ ns)).map V.str)) htn
    have e2 : upd H1 tn (.tup ((Rs.filter fun r => decide (r ∈ ns)).map V.str)) tn = some (.tup ((ord ns).map V.str)) := upd_same
    generalize upd H1 tn (.tup ((Rs.filter fun r => decide (r ∈ ns)).map V.str)) = H2 at s2 e2 ⊢
    have s02 := s1.trans s2
    have hp2 := s02 _ _ hp
    refine ⟨_, rfl, p, T.C_Book, dx, _, rfl, hp2, T.cl_Book, T.na_Book_names, (by show 0 < 1000; decide), ?_⟩
    have hnt : tn ≠ p := fun z => by rw [z, hp2] at e2; cases e2
    have k3 : KI H' (upd H2 p (.ins T.C_Book dx (putF "names" (.ref tn) []))) := (KI.of s02).fld hp2
    have e3 : upd H2 p (.ins T.C_Book dx (putF "names" (.ref tn) [])) p = some (.ins T.C_Book dx [("names", .ref tn)]) := upd_same
    have f3 : upd H2 p (.ins T.C_Book dx (putF "names" (.ref tn) [])) tn = some (.tup ((ord ns).map V.str)) := by rw [upd_ne hnt]; exact e2
    have o3 : ∀ x o, x ≠ p → H' x = some o → upd H2 p (.ins T.C_Book dx (putF "names" (.ref tn) [])) x = some o := fun x o hx ex => by rw [upd_ne hx]; exact s02 _ _ ex
    generalize upd H2 p (.ins T.C_Book dx (putF "names" (.ref tn) [])) = H3 at k3 e3 f3 o3 ⊢
    -- the number
    refine ⟨_, rfl, p, _, _, _, _, _, rfl, e3, T.cl_Book, T.tc_Book_RULES, rfl, _, _, rfl, hR _, fun D2 hD2 => ?_⟩
    refine lc_it (walk_enumT (K := K) (a := T.tA_Book_RULES) (xs := Rs.map V.str)) (PvW H3 D2 ns) ⟨same_upd hD2, upd_same⟩ (fun _ _ _ _ => hR _) ?_ ?_
    · rintro i x H4 H5 hi hP2 ⟨TT, y, z, rfl, hTT, rfl, hy, hz⟩
      cases hy
      obtain ⟨r, rfl, hr⟩ := str_at hz
      have h12 : i < 12 := hi
      have s45 := same_upd (o := .tup [.int (i : Nat), .str r]) hTT
      refine ⟨TT, _, rfl, .of upd_same, rfl, ?_⟩
      refine ⟨_, _, rfl, _, _, rfl, rfl, rfl, ?_⟩
      refine ⟨_, rfl, _, rfl, q, _, rfl, (hq.ki k3).same (hP2.same.trans s45), rfl, flat_str, _, rfl, ?_⟩
      rw [if_neg Bool.false_ne_true, inV_str]
      by_cases z : r ∈ ns
      · rw [decide_eq_true z]
        refine iteT ⟨_, rfl, _, _, rfl, rfl, ⟨by omega, by omega, by decide⟩, (wts ns i).map V.int, s45 _ _ hP2.at_, ?_, ?_, ?_⟩
        · rw [List.length_map]; exact small1000 (by have := wts_len (B := ns) (i := i); omega)
        · intro b o e
          rw [upd_ne (ne_of_none e hD2)]
          exact s45 _ _ (hP2.same _ _ e)
        · rw [upd_same, wts_s hr, if_pos z, List.map_append]
          show some (HO.lst (_ ++ [V.int (1 * 2 ^ (i : Int).toNat)])) = _
          rw [Int.one_mul, Int.toNat_natCast]
          rfl
      · rw [decide_eq_false z]
        refine iteF ⟨fun b o e => s45 _ _ (hP2.same _ _ e), ?_⟩
        rw [wts_s hr, if_neg z, List.append_nil]
        exact s45 _ _ hP2.at_
    intro H4 hP2
    refine ⟨D2, _, rfl, .of hP2.at_, ?_⟩
    have e4 := hP2.same _ _ e3
    refine ⟨_, rfl, p, T.C_Book, dx, _, rfl, e4, T.cl_Book, T.na_Book_number, (by show 1 < 1000; decide), ?_⟩
    refine k hin _ tn (((k3.same hP2.same)).fld e4) upd_same ?_ fun x o hx ex => by rw [upd_ne hx]; exact hP2.same _ _ (o3 x o hx ex)
    rw [upd_ne hnt]
    exact hP2.same _ _ f3
/-! ### in, iter, text -/
def sp_contains (C : Addr) : Sp := fun vs H Q _ => ∃ (a : Addr) (B : List Str) (x : Str), vs = [.ref a, .str x] ∧ BookAt C H a B ∧ Q (.bl (decide (x ∈ B))) H
theorem ok_contains (T : Tx K mg) : FnOk P w K mg base CX0 1 T.f_RuleSet___contains__ T.fd_RuleSet___contains__ ["self", "name"] (sp_contains T.C_Book) := by
  refine T.F_RuleSet___contains__.ok sc_RuleSet___contains__ (fun vs H Q E h => ?_) (fun cdv A outer s H vs Q E hr h => ?_)
  · obtain ⟨_, _, _, rfl, _⟩ := h; rfl
  · obtain ⟨a, B, x, rfl, ⟨dx, tn, e1, e2⟩, k⟩ := h
    refine ⟨_, (pss_one (ps_ret (pe_cmpR op_in_seq (pv 1) (pe_fld (pv 0) rfl) rfl))), ?_⟩
    refine ⟨_, rfl, _, rfl, a, _, _, _, _, rfl, e1, T.cl_Book, T.na_Book_names, rfl, tn, _, rfl, .inr (.of e2), rfl, flat_str, ?_⟩
    rw [if_neg Bool.false_ne_true, inV_str]
    exact k
def sp_iter (C : Addr) : Nat → Sp := fun n vs H Q _ => ∃ (a : Addr) (B : List Str), vs = [.ref a] ∧ BookAt C H a B ∧ ∀ it tn, H it = none → n ≤ it → H tn = some (.tup (B.map V.str)) → Q (.ref it) (upd H it (ItTO tn it))
theorem join_size {B : List Str} (h : B.length ≤ 900) (hs : ∀ r ∈ B, r.length ≤ 1000) : (B.map (·.length)).sum + B.length * (" " : Str).length ≤ 16777216 := by
  have e : (" " : Str).length = 1 := by decide
  have : ∀ {B : List Str}, (∀ r ∈ B, r.length ≤ 1000) → (B.map (·.length)).sum ≤ B.length * 1000 := by
    intro B hs
    induction B with
    | nil => exact Nat.le_refl _
    | cons a t ih =>
      have h1 := hs a List.mem_cons_self
      have h2 := ih fun r hr => hs r (List.mem_cons_of_mem _ hr)
      rw [List.map_cons, List.sum_cons, List.length_cons]
      omega
  have := this hs
  rw [e]
  omega
theorem Rs_size : ∀ r ∈ Rs, r.length ≤ 10 := by decide +kernel
def sp_text (C : Addr) : Sp := fun vs H Q _ => ∃ (a : Addr) (B : List Str), vs = [.ref a] ∧ BookAt C H a B ∧ B.Sublist Rs ∧ Q (.str (txB B)) H
end
end K39
namespace K39
open PySem PySem.Spec PyProof.Rows L2 Rg
/-! ### lists of texts compared -/
def dT (l : List Str) : PyData := .list (l.map PyData.str)
theorem dpAllT {K : PySem.W.Frag} {H : Hp} : ∀ ns : List Str, DpAll K H (ns.map V.str) (ns.map PyData.str)
  | [] => .nil
  | n :: ns => .cons (.str n) (dpAllT ns)
theorem dpT {K : PySem.W.Frag} {H : Hp} {a : Addr} {ns : List Str} (h : H a = some (.lst (ns.map V.str))) : Dp K H (.ref a) (dT ns) := .lst (.of h) (dpAllT ns)
def okS (x : Str) : Bool := PyData.canLay0 (.str x)
theorem canT : ∀ ns : List Str, (∀ x ∈ ns, okS x = true) → PyData.canLayAll0 (ns.map PyData.str) = true
  | [], _ => rfl
  | n :: ns, h => by
    show (PyData.canLay0 (.str n) && PyData.canLayAll0 (ns.map PyData.str)) = true
    rw [canT ns fun x hx => h x (List.mem_cons_of_mem _ hx), show PyData.canLay0 (.str n) = true from h n List.mem_cons_self]
    rfl
theorem depT : ∀ ns : List Str, PyData.depthAll (ns.map PyData.str) = 0
  | [] => rfl
  | n :: ns => by
    show max (PyData.depth (.str n)) (PyData.depthAll (ns.map PyData.str)) = 0
    rw [depT ns]
    rfl
theorem shT (ns : List Str) (h : ∀ x ∈ ns, okS x = true) : SeqAt.shaped (dT ns) = true := by
  unfold SeqAt.shaped dT
  rw [Bool.and_eq_true]
  refine ⟨canT ns h, decide_eq_true ?_⟩
  show PyData.depthAll (ns.map PyData.str) + 1 ≤ 64
  rw [depT ns]
  decide
theorem eqvAllT : ∀ a b : List Str, PyData.eqvAll (a.map PyData.str) (b.map PyData.str) = decide (a = b)
  | [], [] => by simp [PyData.eqvAll]
  | [], _ :: _ => by simp [PyData.eqvAll]
  | _ :: _, [] => by simp [PyData.eqvAll]
  | x :: a, y :: b => by
    simp only [List.map_cons, PyData.eqvAll]
    rw [eqvAllT a b]
    by_cases h : x = y
    · subst h; simp [PyData.eqv]
    · simp [PyData.eqv, h]
theorem eqvT (a b : List Str) : PyData.eqv (dT a) (dT b) = decide (a = b) := by
  unfold dT
  simp only [PyData.eqv]
  exact eqvAllT a b
theorem Rs_ok : ∀ x ∈ Rs, okS x = true := by decide +kernel
theorem sub_ok {B : List Str} (h : B.Sublist Rs) : ∀ x ∈ B, okS x = true := fun x hx => Rs_ok x (h.subset hx)
end K39
namespace K39
open PySem PySem.Spec PyProof.Rows L2 Rg
theorem book_made {K : PySem.W.Frag} {C CV : Addr} {H : Hp} {Q : VK} {E : XK} {q : Addr} {ns : List Str} (hq : SqS K H q ns) (hl : ns.length < 900) (hs : ∀ r ∈ ns, r.length ≤ 1000)
    (k : (∀ r ∈ ns, r ∈ Rs) → ∀ H' x, Same H H' → H x = none → BookAt C H' x (ord ns) → Q (.ref x) H') (kE : (∃ r ∈ ns, r ∉ Rs) → ∀ H', Same H H' → E (.ref CV) none H') :
    ∀ x dx, H x = none → H dx = none → dx ≠ x → sp_RuleSet_init K C CV [.ref x, .ref q] (upd (upd H dx (.own x)) x (.ins C dx [])) (fun v H2 => v = .non ∧ Q (.ref x) H2) E := fun x dx nx nd ne => by
  have s1 : Same H (upd H dx (.own x)) := same_upd nd
  have nx1 : upd H dx (.own x) x = none := by rw [upd_ne ne.symm]; exact nx
  have s2 : Same H (upd (upd H dx (.own x)) x (.ins C dx [])) := s1.trans (same_upd nx1)
  have e2 : upd (upd H dx (.own x)) x (.ins C dx []) x = some (.ins C dx []) := upd_same
  generalize upd (upd H dx (.own x)) x (.ins C dx []) = H2 at s2 e2 ⊢
  refine ⟨x, dx, q, ns, rfl, e2, hq.same s2, hl, hs, fun hin H' tn ki e1 e3 ho => ⟨rfl, k hin H' x (fun b o e => ho b o (ne_of_none e nx) (s2 _ _ e)) nx ⟨dx, tn, by rw [numB_ord]; exact e1, e3⟩⟩, fun hb H' sm => kE hb H' (s2.trans sm)⟩
theorem book_madeR {K : PySem.W.Frag} {C CV : Addr} {H : Hp} {R : Addr → Hp → Prop} {E : XK} {q : Addr} {ns : List Str} (hq : SqS K H q ns) (hl : ns.length < 900) (hs : ∀ r ∈ ns, r.length ≤ 1000)
    (k : (∀ r ∈ ns, r ∈ Rs) → ∀ H' x, Same H H' → H x = none → BookAt C H' x (ord ns) → R x H') (kE : (∃ r ∈ ns, r ∉ Rs) → ∀ H', Same H H' → E (.ref CV) none H') :
    ∀ x dx, H x = none → H dx = none → dx ≠ x → sp_RuleSet_init K C CV [.ref x, .ref q] (upd (upd H dx (.own x)) x (.ins C dx [])) (fun v H2 => v = .non ∧ R x H2) E := fun x dx nx nd ne => by
  have s1 : Same H (upd H dx (.own x)) := same_upd nd
  have nx1 : upd H dx (.own x) x = none := by rw [upd_ne ne.symm]; exact nx
  have s2 : Same H (upd (upd H dx (.own x)) x (.ins C dx [])) := s1.trans (same_upd nx1)
  have e2 : upd (upd H dx (.own x)) x (.ins C dx []) x = some (.ins C dx []) := upd_same
  generalize upd (upd H dx (.own x)) x (.ins C dx []) = H2 at s2 e2 ⊢
  refine ⟨x, dx, q, ns, rfl, e2, hq.same s2, hl, hs, fun hin H' tn ki e1 e3 ho => ⟨rfl, k hin H' x (fun b o e => ho b o (ne_of_none e nx) (s2 _ _ e)) nx ⟨dx, tn, by rw [numB_ord]; exact e1, e3⟩⟩, fun hb H' sm => kE hb H' (s2.trans sm)⟩
section
variable {P : Program} {w : World} {K : PySem.W.Frag} {mg : Str → Option Value} {base : Heap}
/-- the parts of a text -/
def partsT (t : Str) : List Str := if t = "none" then [] else Txt.split t " "
def sp_written (K : PySem.W.Frag) (CT : Addr) : Sp := fun vs H Q E => ∃ (t : Str) (q : Addr), vs = [.str t, .ref q] ∧ (∀ H, SqT K H q (Rs.map V.str)) ∧ t.length ≤ 5000 ∧ (partsT t).length < 900 ∧ (∀ x ∈ partsT t, okS x = true) ∧
  (ord (partsT t) = partsT t → ∀ H' p, Same H H' → H p = none → H' p = some (.lst ((partsT t).map V.str)) → Q (.ref p) H') ∧ (ord (partsT t) ≠ partsT t → ∀ H', Same H H' → E (.ref CT) none H')
def sp_numbered (K : PySem.W.Frag) (CV : Addr) : Sp := fun vs H Q E => ∃ (n : Int) (q : Addr), vs = [.int n, .ref q] ∧ (∀ H, SqT K H q (Rs.map V.str)) ∧
  (∀ m : Nat, n = m → m < 4096 → ∀ H' p, Same H H' → H p = none → H' p = some (.lst ((nm Rs m).map V.str)) → Q (.ref p) H') ∧ (n < 0 ∨ 4096 ≤ n → ∀ H', Same H H' → E (.ref CV) none H')
/-- the names of the first i numbers -/
structure PvN (H0 : Hp) (D : Addr) (m i : Nat) (H' : Hp) : Prop where
  same : Same H0 H'
  at_ : H' D = some (.lst ((nm (Rs.take i) m).map V.str))
theorem ok_numbered (T : Tx K mg) : FnOk P w K mg base (L2N.CX P w) 1 T.f_numbered_names T.fd_numbered_names ["number", "rules"] (sp_numbered K T.C_BadValue) := by
  refine T.F_numbered_names.okN sc_numbered_names (fun vs H Q E h => ?_) (fun cdv A outer s H vs Q E hr h => ?_)
  · obtain ⟨_, _, rfl, _⟩ := h; rfl
  · obtain ⟨n, q, rfl, hq, k, kE⟩ := h
    refine ⟨_, (pss_cons (ps_if (pt_not (pt_chain op_le op_lt pe_int (pv 0) (pe_op op_shl pe_int (pe_callB call_len_seq rfl T.b_len (by decide +kernel) (pa_cons (pv 1) pa_nil)))))
        (pss_one (L2N.ps_raise rfl (L2N.takes_of rfl rfl rfl rfl) (L2N.pmk_own PySem.F.excBase_ValueError T.xe_BadValue T.mg_BadValue T.ke_BadValue (raises_own T.be_BadValue T.te_BadValue) rfl)))
        pss_nil)
      (PSs.nox (pss_one (ps_ret (pe_lc rfl (own := [("k", 2), ("rule", 3)]) (g := _) (tt := _) sc_numbered_names.nd (pi_enumT (by rfl) T.b_enumerate (pa_cons (pv 1) pa_nil)) (blkOk_by (N := ["number", "rules", "k", "rule"]) (sc := defScope s_numbered_names) (by decide +kernel)) (fun _ _ _ _ _ => (pg_tupK (K := K) (n := 2) rfl (pgs_cons (pg_name (i := 2) sc_numbered_names.nd rfl (.inl rfl)) (pgs_cons (pg_name (i := 3) sc_numbered_names.nd rfl (.inl rfl)) pgs_nil)))) (fun _ _ _ _ _ => pts_one (pt_truthK (K := K) (pe_op op_and (pe_op op_shr (pv 0) (pv 2)) pe_int) (fun _ => rfl))) (fun _ _ _ _ _ => (pv 3))))))), ?_⟩
    refine ⟨_, rfl, _, _, rfl, rfl, _, rfl, ?_⟩
    by_cases h0 : 0 ≤ n
    rotate_left
    · rw [decide_eq_false h0]
      exact iteF ⟨_, rfl, iteT (kE (.inl (by omega)) _ (Same.refl _))⟩
    rw [decide_eq_true h0]
    refine iteT ⟨_, rfl, q, _, rfl, .inr (hq _), _, _, rfl, rfl, ⟨by rw [List.length_map, Rs_len]; decide, by rw [List.length_map, Rs_len]; decide, by decide⟩, _, _, rfl, rfl, _, rfl, ?_⟩
    rw [List.length_map, Rs_len]
    have e12 : (1 : Int) * 2 ^ ((12 : Nat) : Int).toNat = 4096 := by decide
    rw [e12]
    by_cases h1 : n < 4096
    rotate_left
    · rw [decide_eq_false h1]
      exact iteT (kE (.inr (by omega)) _ (Same.refl _))
    rw [decide_eq_true h1]
    obtain ⟨m, rfl⟩ : ∃ m : Nat, n = m := ⟨n.toNat, by omega⟩
    refine iteF ⟨_, rfl, q, _, rfl, hq _, fun D hD => ?_⟩
    refine lc_it (walk_enumT (K := K) (a := q) (xs := Rs.map V.str)) (PvN H D m) ⟨same_upd hD, upd_same⟩ (fun _ _ _ _ => hq _) ?_ ?_
    · rintro i x H4 H5 hi hP2 ⟨TT, y, z, rfl, hTT, rfl, hy, hz⟩
      cases hy
      obtain ⟨r, rfl, hr⟩ := str_at hz
      have h12 : i < 12 := hi
      have s45 := same_upd (o := .tup [.int (i : Nat), .str r]) hTT
      refine ⟨TT, _, rfl, .of upd_same, rfl, ?_⟩
      refine ⟨_, _, rfl, _, _, rfl, rfl, rfl, ?_⟩
      refine ⟨_, rfl, _, rfl, _, _, rfl, rfl, by omega, _, _, rfl, rfl, _, rfl, ?_⟩
      have eb : Builtin.bitAnd ((m : Int) / 2 ^ ((i : Int)).toNat) 1 = ((m / 2 ^ i % 2 : Nat) : Int) := by
        have h := Bits.bitAnd_mask (x := (m : Int) / 2 ^ ((i : Int)).toNat) 1 (Int.ediv_nonneg (by omega) (by rw [Int.toNat_natCast]; exact Int.le_of_lt (Int.pow_pos (by decide))))
        rw [show (2 : Int) ^ 1 - 1 = 1 from rfl, show (2 : Int) ^ 1 = 2 from rfl] at h
        rw [h, Int.toNat_natCast]
        simp
      rw [eb]
      by_cases z : m / 2 ^ i % 2 = 1
      · rw [z]
        refine iteT ⟨_, rfl, (nm (Rs.take i) m).map V.str, s45 _ _ hP2.at_, ?_, ?_, ?_⟩
        · rw [List.length_map]
          have h1 := nm_len (l := Rs.take i) (n := m)
          have h2 : (Rs.take i).length ≤ 12 := by rw [List.length_take, Rs_len]; exact Nat.min_le_right _ _
          exact small1000 (by omega)
        · intro b o e
          rw [upd_ne (ne_of_none e hD)]
          exact s45 _ _ (hP2.same _ _ e)
        · rw [upd_same, nm_take_s hr, if_pos z, List.map_append]
          rfl
      · have z0 : m / 2 ^ i % 2 = 0 := by omega
        rw [z0]
        refine iteF ⟨fun b o e => s45 _ _ (hP2.same _ _ e), ?_⟩
        rw [nm_take_s hr, if_neg z, List.append_nil]
        exact s45 _ _ hP2.at_
    intro H4 hP2
    exact k m rfl (by omega) H4 D hP2.same hD hP2.at_
def sp_read (CB CT : Addr) : Sp := fun vs H Q E => ∃ (t : Str), vs = [.str t] ∧ t.length ≤ 5000 ∧ (partsT t).length < 900 ∧ (∀ x ∈ partsT t, okS x = true) ∧
  (ord (partsT t) = partsT t → ∀ H' x, Same H H' → H x = none → BookAt CB H' x (partsT t) → Q (.ref x) H') ∧ (ord (partsT t) ≠ partsT t → ∀ H', Same H H' → E (.ref CT) none H')
def sp_of_number (CB CV : Addr) : Sp := fun vs H Q E => ∃ (n : Int), vs = [.int n] ∧ (∀ m : Nat, n = m → m < 4096 → ∀ H' x, Same H H' → H x = none → BookAt CB H' x (nm Rs m) → Q (.ref x) H') ∧ (n < 0 ∨ 4096 ≤ n → ∀ H', Same H H' → E (.ref CV) none H')
theorem ok_of_number (T : Tx K mg) : FnOk P w K mg base (L2N.CX P w) 3 T.f_Book_of_number T.fd_Book_of_number ["number"] (sp_of_number T.C_Book T.C_BadValue) := by
  refine T.F_Book_of_number.okN sc_Book_of_number (fun vs H Q E h => ?_) (fun cdv A outer s H vs Q E hr h => ?_)
  · obtain ⟨_, rfl, _⟩ := h; rfl
  · obtain ⟨n, rfl, k, kE⟩ := h
    have hr1 : Room 1 _ := hr.mono (by decide)
    refine ⟨_, (pss_one (ps_ret (pe_makeS T.mk_Book (ok_RuleSet_init T) hr rfl T.mg_Book (b_RuleSet___init__ T) (fun σ => L2N.passAt (L2N.takes_of rfl rfl rfl rfl) σ) (pa_cons (pe_callS (ok_numbered T) hr1 rfl T.mg_numbered_names T.F_numbered_names.kp (b_numbered_names T) (fun σ => L2N.passAt (L2N.takes_of rfl rfl rfl rfl) σ) (pa_cons (pv 0) (pa_cons (pe_cv T.mg_Book T.cr_Book ⟨_, T.tv_Book_RULES⟩) pa_nil))) pa_nil)))), ?_⟩
    refine ⟨_, rfl, n, T.tA_Book_RULES, rfl, T.tt_Book_RULES, fun m em hm H' p s1 np e1 => ?_, fun he H' s1 => kE he H' s1⟩
    have hs : (nm Rs m).Sublist Rs := nm_sub
    refine book_made (.inl (.of e1)) (by have := hs.length_le; rw [Rs_len] at this; omega) (fun r hr => by have := Rs_size r (hs.subset hr); omega) (fun _ H2 x s2 nx B => ?_) (fun ⟨r, hr, hn⟩ => absurd (hs.subset hr) hn)
    rw [ord_sub hs] at B
    exact k m em hm H2 x (s1.trans s2) (s1.free nx) B
def sp_full (CB : Addr) : Sp := fun vs H Q _ => vs = [] ∧ ∀ H' x, Same H H' → H x = none → BookAt CB H' x Rs → Q (.ref x) H'
theorem passL0 {X : Cx} (σ : L2.St) : PassesAt (L2N.CX X.prog X.w) X σ E0 := fun pins H s e s' I c => passLN pins σ H s e s' I c
def sp_or (CB : Addr) : Sp := fun vs H Q _ => ∃ (a b : Addr) (B D : List Str), vs = [.ref a, .ref b] ∧ BookAt CB H a B ∧ BookAt CB H b D ∧ ∀ H' x, Same H H' → H x = none → BookAt CB H' x (ord (B ++ D)) → Q (.ref x) H'
def sp_sub (CB : Addr) : Sp := fun vs H Q _ => ∃ (a b : Addr) (B D : List Str), vs = [.ref a, .ref b] ∧ BookAt CB H a B ∧ BookAt CB H b D ∧ B.Sublist Rs ∧ ∀ H' x, Same H H' → H x = none → BookAt CB H' x (B.filter fun r => decide (r ∉ D)) → Q (.ref x) H'
end
end K39
namespace K39
open PySem PySem.Spec PyProof.Rows L2 Rg
section
variable {P : Program} {w : World} {K : PySem.W.Frag} {mg : Str → Option Value} {base : Heap}
/-! ### plans -/
def planF (b n s : Int) : List (Str × V) := [("blocks", .int b), ("nodes", .int n), ("slots", .int s), ("maps", .int ((b + 8 - 1) / 8)), ("first_node", .int (2 + (b + 8 - 1) / 8)), ("first_data", .int (2 + (b + 8 - 1) / 8 + n))]
structure PlanAt (C : Addr) (H : Hp) (p : Addr) (b n s : Int) : Prop where
  ob : ∃ dx, H p = some (.ins C dx (planF b n s))
  b1 : 8 ≤ b
  b2 : b ≤ 64
  n1 : 2 ≤ n
  n2 : n ≤ 16
  s1 : b < s
  s2 : s ≤ 200
  d : 2 ≤ b - (2 + (b + 8 - 1) / 8 + n)
theorem PlanAt.same {C : Addr} {H H' : Hp} {p : Addr} {b n s : Int} (e : Same H H') (h : PlanAt C H p b n s) : PlanAt C H' p b n s :=
  let ⟨dx, z⟩ := h.ob
  ⟨⟨dx, e _ _ z⟩, h.b1, h.b2, h.n1, h.n2, h.s1, h.s2, h.d⟩
theorem PlanAt.of {C : Addr} {H H' : Hp} {p : Addr} {b n s : Int} (h : PlanAt C H p b n s) (e : ∀ o, H p = some o → H' p = some o) : PlanAt C H' p b n s :=
  let ⟨dx, z⟩ := h.ob
  ⟨⟨dx, e _ z⟩, h.b1, h.b2, h.n1, h.n2, h.s1, h.s2, h.d⟩
def sp_Plan_init (C : Addr) : Sp := fun vs H Q _ => ∃ (p dx : Addr) (b n s : Int), vs = [.ref p, .int b, .int n, .int s] ∧ H p = some (.ins C dx []) ∧ 8 ≤ b ∧ b ≤ 64 ∧ 2 ≤ n ∧ n ≤ 16 ∧ b < s ∧ s ≤ 200 ∧ 2 ≤ b - (2 + (b + 8 - 1) / 8 + n) ∧
  Q .non (upd H p (.ins C dx (planF b n s)))
theorem ok_Plan_init (T : Tx K mg) : FnOk P w K mg base CX0 1 T.f_Plan___init__ T.fd_Plan___init__ ["self", "blocks", "nodes", "slots"] (sp_Plan_init T.C_Plan) := by
  refine T.F_Plan___init__.ok sc_Plan___init__ (fun vs H Q E h => ?_) (fun cdv A outer s H vs Q E hr h => ?_)
  · obtain ⟨_, _, _, _, _, rfl, _⟩ := h; rfl
  · obtain ⟨p, dx, b, n, sl, rfl, hp, h1, h2, h3, h4, h5, h6, h7, k⟩ := h
    refine ⟨_, (pss_cons (ps_if (pt_not (pt_chain op_le op_le (pe_gc T.c_LEAST_BLOCKS) (pv 1) (pe_gc T.c_MOST_BLOCKS)))
        (pss_one ps_never)
        pss_nil)
      (pss_cons (ps_if (pt_not (pt_chain op_le op_le (pe_gc T.c_LEAST_NODES) (pv 2) (pe_gc T.c_MOST_NODES)))
        (pss_one ps_never)
        pss_nil)
      (pss_cons (ps_if (pt_not (pt_chain op_lt op_le (pv 1) (pv 3) (pe_gc T.c_MOST_SLOTS)))
        (pss_one ps_never)
        pss_nil)
      (pss_cons (ps_fld (pv 0) (pv 1) rfl)
      (pss_cons (ps_fld (pv 0) (pv 2) rfl)
      (pss_cons (ps_fld (pv 0) (pv 3) rfl)
      (pss_cons (ps_fld (pv 0) (pe_op op_fdiv (pe_op op_sub (pe_op op_add (pv 1) (pe_con (pv 0) rfl)) pe_int) (pe_con (pv 0) rfl)) rfl)
      (pss_cons (ps_fld (pv 0) (pe_op op_add (pe_gc T.c_FIRST_MAP) (pe_fld (pv 0) rfl)) rfl)
      (pss_cons (ps_fld (pv 0) (pe_op op_add (pe_fld (pv 0) rfl) (pv 2)) rfl)
      (pss_one (ps_if (pt_cmpR op_lt (pe_op op_sub (pv 1) (pe_fld (pv 0) rfl)) (pe_gc T.c_LEAST_DATA) (nomark _))
        (pss_one ps_never)
        pss_nil))))))))))), ?_⟩
    obtain ⟨uW, cW⟩ := T.con_Plan_WIDTH
    refine ⟨_, rfl, _, _, rfl, rfl, _, rfl, ?_⟩
    rw [decide_eq_true h1]
    refine iteT ⟨_, _, rfl, rfl, _, rfl, ?_⟩
    rw [decide_eq_true h2]
    refine iteF ⟨_, rfl, _, _, rfl, rfl, _, rfl, ?_⟩
    rw [decide_eq_true h3]
    refine iteT ⟨_, _, rfl, rfl, _, rfl, ?_⟩
    rw [decide_eq_true h4]
    refine iteF ⟨_, rfl, _, rfl, _, _, rfl, rfl, _, rfl, ?_⟩
    rw [decide_eq_true h5]
    refine iteT ⟨_, _, rfl, rfl, _, rfl, ?_⟩
    rw [decide_eq_true h6]
    refine iteF ⟨_, rfl, _, rfl, p, _, dx, _, rfl, hp, T.cl_Plan, T.na_Plan_blocks, (by show 0 < 1000; decide), ?_⟩
    refine ⟨_, rfl, _, rfl, p, _, dx, _, rfl, upd_same, T.cl_Plan, T.na_Plan_nodes, (by show 1 < 1000; decide), ?_⟩
    refine ⟨_, rfl, _, rfl, p, _, dx, _, rfl, upd_same, T.cl_Plan, T.na_Plan_slots, (by show 2 < 1000; decide), ?_⟩
    refine ⟨_, rfl, _, rfl, p, _, dx, _, _, _, rfl, upd_same, T.cl_Plan, cW, rfl, _, _, rfl, rfl, _, _, rfl, rfl, _, rfl, p, _, dx, _, _, _, rfl, upd_same, T.cl_Plan, cW, rfl, _, _, rfl, rfl, ⟨by decide, by decide⟩, ?_⟩
    refine ⟨_, rfl, p, _, dx, _, rfl, upd_same, T.cl_Plan, T.na_Plan_maps, (by show 3 < 1000; decide), ?_⟩
    refine ⟨_, rfl, p, _, dx, _, _, rfl, upd_same, T.cl_Plan, T.na_Plan_maps, rfl, _, _, rfl, rfl, _, rfl, p, _, dx, _, rfl, upd_same, T.cl_Plan, T.na_Plan_first_node, (by show 4 < 1000; decide), ?_⟩
    refine ⟨_, rfl, p, _, dx, _, _, rfl, upd_same, T.cl_Plan, T.na_Plan_first_node, rfl, _, rfl, _, _, rfl, rfl, _, rfl, p, _, dx, _, rfl, upd_same, T.cl_Plan, T.na_Plan_first_data, (by show 5 < 1000; decide), ?_⟩
    refine ⟨_, rfl, _, rfl, p, _, dx, _, _, rfl, upd_same, T.cl_Plan, T.na_Plan_first_data, rfl, _, _, rfl, rfl, _, _, rfl, rfl, _, rfl, ?_⟩
    rw [decide_eq_false (by omega)]
    refine iteF ?_
    rw [upd_upd, upd_upd, upd_upd, upd_upd, upd_upd]
    exact k
/-- the call Plan(b, nodes=n, slots=s) -/
theorem kb_Plan (T : Tx K mg) : KBn K T.fd_Plan___init__ ["self", "blocks", "nodes", "slots"] 2 ["nodes", "slots"] (fun us ws => us ++ ws) (fun us ws => us ++ ws) := by
  obtain ⟨oc, od, kV, doc, pm, an, cdv, ct, osl, e, lk, hcd⟩ := T.F_Plan___init__.ex
  refine ⟨fun s us ws _ l1 l2 => ?_, fun r1 r2 => r1.append r2⟩
  rw [e]
  match us, ws, l1, l2 with
  | [_, _], [_, _], _, _ => exact .of_eq rfl
def sp_map_place (C : Addr) : Sp := fun vs H Q _ => ∃ (p : Addr) (b n s x : Int), vs = [.ref p, .int x] ∧ PlanAt C H p b n s ∧ ∀ t, H t = none → Q (.ref t) (upd H t (.tup [.int (2 + x / 8), .int (x % 8)]))
theorem ok_Plan_map_place (T : Tx K mg) : FnOk P w K mg base CX0 1 T.f_Plan_map_place T.fd_Plan_map_place ["self", "x"] (sp_map_place T.C_Plan) := by
  refine T.F_Plan_map_place.ok sc_Plan_map_place (fun vs H Q E h => ?_) (fun cdv A outer s H vs Q E hr h => ?_)
  · obtain ⟨_, _, _, _, _, rfl, _⟩ := h; rfl
  · obtain ⟨p, b, n, sl, x, rfl, hP, k⟩ := h
    obtain ⟨dx, hp⟩ := hP.ob
    obtain ⟨uW, cW⟩ := T.con_Plan_WIDTH
    refine ⟨_, (pss_one (ps_ret (pe_tup (pa_cons (pe_op op_add (pe_gc T.c_FIRST_MAP) (pe_op op_fdiv (pv 1) (pe_con (pv 0) rfl))) (pa_cons (pe_op op_mod (pv 1) (pe_con (pv 0) rfl)) pa_nil))))), ?_⟩
    refine ⟨_, rfl, _, rfl, p, _, dx, _, _, _, rfl, hp, T.cl_Plan, cW, rfl, _, _, rfl, rfl, ⟨by decide, by decide⟩, _, _, rfl, rfl, _, rfl, _, rfl, p, _, dx, _, _, _, rfl, hp, T.cl_Plan, cW, rfl, _, _, rfl, rfl, (by show (0 : Int) < _; decide), (by show 2 ≤ sizeLine; decide), k⟩
def sp_node_block (C : Addr) : Sp := fun vs H Q _ => ∃ (p : Addr) (b n s x : Int), vs = [.ref p, .int x] ∧ PlanAt C H p b n s ∧ Q (.int (2 + (b + 8 - 1) / 8 + x - 1)) H
theorem ok_Plan_node_block (T : Tx K mg) : FnOk P w K mg base CX0 1 T.f_Plan_node_block T.fd_Plan_node_block ["self", "n"] (sp_node_block T.C_Plan) := by
  refine T.F_Plan_node_block.ok sc_Plan_node_block (fun vs H Q E h => ?_) (fun cdv A outer s H vs Q E hr h => ?_)
  · obtain ⟨_, _, _, _, _, rfl, _⟩ := h; rfl
  · obtain ⟨p, b, n, sl, x, rfl, hP, k⟩ := h
    obtain ⟨dx, hp⟩ := hP.ob
    refine ⟨_, (pss_one (ps_ret (pe_op op_sub (pe_op op_add (pe_fld (pv 0) rfl) (pv 1)) pe_int))), ?_⟩
    exact ⟨_, rfl, p, _, dx, _, _, rfl, hp, T.cl_Plan, T.na_Plan_first_node, rfl, _, rfl, _, _, rfl, rfl, _, _, rfl, rfl, k⟩
end
end K39
namespace K39
open PySem PySem.Spec PyProof.Rows L2 Rg
/-! ### a list of lists of ints -/
structure Grid (H : Hp) (ca : Addr) (rs : List Addr) (M : List (List Int)) : Prop where
  out : H ca = some (.lst (rs.map V.ref))
  len : rs.length = M.length
  row : ∀ (i : Nat) (r : Addr) (m : List Int), rs[i]? = some r → M[i]? = some m → H r = some (.lst (m.map V.int))
  nd : rs.Nodup
  nin : ca ∉ rs
theorem Grid.held {H : Hp} {ca : Addr} {rs : List Addr} {M : List (List Int)} (G : Grid H ca rs M) {r : Addr} (h : r ∈ rs) : ∃ o, H r = some o := by
  obtain ⟨i, hi, e⟩ := List.getElem_of_mem h
  have hm : i < M.length := by rw [← G.len]; exact hi
  exact ⟨_, G.row i r M[i] (by rw [List.getElem?_eq_getElem hi, e]) (List.getElem?_eq_getElem hm)⟩
theorem Grid.same {H H' : Hp} {ca : Addr} {rs : List Addr} {M : List (List Int)} (G : Grid H ca rs M) (s : Same H H') : Grid H' ca rs M :=
  ⟨s _ _ G.out, G.len, fun i r m a b => s _ _ (G.row i r m a b), G.nd, G.nin⟩
/-- kept where it stands -/
theorem Grid.keep {H H' : Hp} {ca : Addr} {rs : List Addr} {M : List (List Int)} (G : Grid H ca rs M) (h : ∀ b o, b = ca ∨ b ∈ rs → H b = some o → H' b = some o) : Grid H' ca rs M :=
  ⟨h _ _ (.inl rfl) G.out, G.len, fun i r m a b => h _ _ (.inr (List.mem_of_getElem? a)) (G.row i r m a b), G.nd, G.nin⟩
theorem Grid.get {H : Hp} {ca : Addr} {rs : List Addr} {M : List (List Int)} (G : Grid H ca rs M) {i : Nat} {m : List Int} (h : M[i]? = some m) : ∃ r, rs[i]? = some r ∧ H r = some (.lst (m.map V.int)) ∧ r ≠ ca := by
  have hi : i < rs.length := by rw [G.len]; exact (List.getElem?_eq_some_iff.mp h).1
  refine ⟨rs[i], List.getElem?_eq_getElem hi, G.row i _ m (List.getElem?_eq_getElem hi) h, fun e => G.nin ?_⟩
  rw [← e]
  exact List.getElem_mem hi
/-- one row stored anew -/
theorem Grid.put {H : Hp} {ca : Addr} {rs : List Addr} {M : List (List Int)} (G : Grid H ca rs M) {i : Nat} {r : Addr} {m : List Int} (hr : rs[i]? = some r) : Grid (upd H r (.lst (m.map V.int))) ca rs (M.set i m) := by
  have hi : i < rs.length := (List.getElem?_eq_some_iff.mp hr).1
  have hir : rs[i] = r := (List.getElem?_eq_some_iff.mp hr).2
  have rin : r ∈ rs := List.mem_of_getElem? hr
  refine ⟨?_, by rw [List.length_set]; exact G.len, fun j q m' hj hm => ?_, G.nd, G.nin⟩
  · rw [upd_ne (fun e => G.nin (by rw [e]; exact rin))]
    exact G.out
  · by_cases e : i = j
    · subst e
      rw [hr] at hj
      cases hj
      rw [List.getElem?_set_self (by rw [← G.len]; exact hi)] at hm
      cases hm
      exact upd_same
    · rw [List.getElem?_set_ne e] at hm
      have hq : q ≠ r := fun z => by
        subst z
        have hjl : j < rs.length := (List.getElem?_eq_some_iff.mp hj).1
        have := (List.getElem?_eq_some_iff.mp hj).2
        exact e ((List.getElem_inj G.nd).mp (hir.trans this.symm))
      rw [upd_ne hq]
      exact G.row j q m' hj hm
theorem map_set {α β : Type} (f : α → β) (l : List α) (i : Nat) (x : α) : (l.map f).set i (f x) = (l.set i x).map f := by
  rw [List.map_set]
/-- a grid that is new -/
structure NewGrid (H0 H : Hp) (D : Addr) (qs : List Addr) (M : List (List Int)) : Prop where
  grid : Grid H D qs M
  fresh : ∀ q ∈ qs, H0 q = none
  freshD : H0 D = none
  same : Same H0 H
theorem NewGrid.start {H0 H : Hp} {D : Addr} (s : Same H0 H) (hD : H0 D = none) (hn : H D = none) : NewGrid H0 (upd H D (.lst [])) D [] [] :=
  ⟨⟨by rw [upd_same]; rfl, rfl, fun i r m a _ => by simp at a, List.nodup_nil, by simp⟩, fun q h => (by cases h), hD, s.trans (same_upd hn)⟩
theorem NewGrid.snoc {H0 H H1 : Hp} {D : Addr} {qs : List Addr} {M : List (List Int)} {p : Addr} {m : List Int} (G : NewGrid H0 H D qs M) (s : Same H H1) (hp : H p = none) (h1 : H1 p = some (.lst (m.map V.int))) :
    NewGrid H0 (upd H1 D (.lst (qs.map V.ref ++ [V.ref p]))) D (qs ++ [p]) (M ++ [m]) := by
  have pD : p ≠ D := fun e => by
    rw [e, G.grid.out] at hp
    cases hp
  have pq : p ∉ qs := fun h => by
    obtain ⟨o, z⟩ := G.grid.held h
    rw [hp] at z
    cases z
  refine ⟨⟨by rw [upd_same, List.map_append]; rfl, by simp [G.grid.len], fun i r m' hi hm => ?_, ?_, ?_⟩, ?_, G.freshD, ?_⟩
  · by_cases e : i < qs.length
    · rw [List.getElem?_append_left e] at hi
      rw [List.getElem?_append_left (by rw [← G.grid.len]; exact e)] at hm
      have hr : r ∈ qs := List.mem_of_getElem? hi
      rw [upd_ne (fun z => G.grid.nin (by rw [← z]; exact hr))]
      exact s _ _ (G.grid.row i r m' hi hm)
    · have hi2 : i = qs.length := by
        have := (List.getElem?_eq_some_iff.mp hi).1
        simp at this
        omega
      subst hi2
      rw [List.getElem?_append_right (Nat.le_refl _)] at hi
      rw [G.grid.len, List.getElem?_append_right (Nat.le_refl _)] at hm
      simp at hi hm
      subst hi hm
      rw [upd_ne pD]
      exact h1
  · exact List.nodup_append.mpr ⟨G.grid.nd, by simp, fun a ha b hb => by simp at hb; subst hb; exact fun e => pq (e ▸ ha)⟩
  · simp
    exact ⟨G.grid.nin, fun e => pD e.symm⟩
  · intro q hq
    rcases List.mem_append.mp hq with h | h
    · exact G.fresh q h
    · simp at h
      subst h
      exact G.same.free hp
  · intro b o e
    rw [upd_ne (ne_of_none e G.freshD)]
    exact s _ _ (G.same _ _ e)
theorem NewGrid.nin0 {H0 H : Hp} {D : Addr} {qs : List Addr} {M : List (List Int)} (G : NewGrid H0 H D qs M) {b : Addr} {o : HO} (h : H0 b = some o) : b ≠ D ∧ b ∉ qs :=
  ⟨ne_of_none h G.freshD, fun z => by rw [G.fresh b z] at h; cases h⟩
end K39
namespace K39
open PySem PySem.Spec PyProof.Rows L2 Rg
/-! ### images -/
structure IA where
  (dx pl ca : Addr) (rs : List Addr) (ho st hd ba : Addr)
structure IV where
  (M : List (List Int)) (ho st : List Int) (hd : List (Int × Int)) (se wi : Int) (ba : List Int)
def imgF (A : IA) (v : IV) : List (Str × V) := [("plan", .ref A.pl), ("cells", .ref A.ca), ("holdings", .ref A.ho), ("stamps", .ref A.st), ("handles", .ref A.hd), ("serial", .int v.se), ("wish", .int v.wi), ("barred", .ref A.ba)]
def hdK (h : List (Int × Int)) : List (Key × V) := h.map fun p => (Sum.inl p.1, V.int p.2)
structure ImgAt (CI CP : Addr) (H : Hp) (im : Addr) (A : IA) (v : IV) (b n s : Int) : Prop where
  ob : H im = some (.ins CI A.dx (imgF A v))
  pl : PlanAt CP H A.pl b n s
  gr : Grid H A.ca A.rs v.M
  ho : H A.ho = some (.lst (v.ho.map V.int))
  st : H A.st = some (.lst (v.st.map V.int))
  hd : H A.hd = some (.dK (hdK v.hd))
  ba : H A.ba = some (.tup (v.ba.map V.int))
  n1 : A.ho ∉ A.rs
  n2 : A.st ∉ A.rs
  n3 : A.ho ≠ A.st
  n4 : A.ca ≠ A.ho
  n5 : A.ca ≠ A.st
  d0 : (v.M.length : Int) = b
  d1 : ∀ m ∈ v.M, m.length = 8
  d2 : (v.ho.length : Int) = b
  d3 : (v.st.length : Int) = b
/-- where an image may be changed -/
def IA.foot (A : IA) (im : Addr) : List Addr := im :: A.ca :: A.ho :: A.st :: A.hd :: A.rs
/-- its parts are new -/
structure IA.New (A : IA) (H0 : Hp) : Prop where
  ca : H0 A.ca = none
  rs : ∀ q ∈ A.rs, H0 q = none
  ho : H0 A.ho = none
  st : H0 A.st = none
  hd : H0 A.hd = none
theorem ImgAt.keep {CI CP : Addr} {H H' : Hp} {im : Addr} {A : IA} {v : IV} {b n s : Int} (I : ImgAt CI CP H im A v b n s) (h : ∀ x o, H x = some o → H' x = some o) : ImgAt CI CP H' im A v b n s :=
  { I with ob := h _ _ I.ob, pl := I.pl.same h, gr := I.gr.same h, ho := h _ _ I.ho, st := h _ _ I.st, hd := h _ _ I.hd, ba := h _ _ I.ba }
theorem rep_flat {α : Type} (n : Nat) (x : α) : (List.replicate n [x]).flatten = List.replicate n x := by
  induction n with
  | zero => rfl
  | succ n ih => rw [List.replicate_succ, List.flatten_cons, ih, List.replicate_succ]; rfl
theorem rep_map (n : Nat) (x : Int) : (List.replicate n (V.int x)) = (List.replicate n x).map V.int := by rw [List.map_replicate]
def zeroV (b : Int) : IV := ⟨List.replicate b.toNat (List.replicate 8 0), List.replicate b.toNat 0, List.replicate b.toNat 0, [], 0, 0, []⟩
section
variable {P : Program} {w : World} {K : PySem.W.Frag} {mg : Str → Option Value} {base : Heap}
def sp_Image_init (CI CP : Addr) : Sp := fun vs H Q _ => ∃ (p dx pl : Addr) (b n s : Int), vs = [.ref p, .ref pl] ∧ H p = some (.ins CI dx []) ∧ PlanAt CP H pl b n s ∧
  ∀ (H' : Hp) (A : IA), (∀ x o, H x = some o → x ≠ p → H' x = some o) → ImgAt CI CP H' p A (zeroV b) b n s → A.New H → A.pl = pl → Q .non H'
theorem ok_Image_init (T : Tx K mg) : FnOk P w K mg base CX0 1 T.f_Image___init__ T.fd_Image___init__ ["self", "plan"] (sp_Image_init T.C_Image T.C_Plan) := by
  refine T.F_Image___init__.ok sc_Image___init__ (fun vs H Q E h => ?_) (fun cdv A outer s H vs Q E hr h => ?_)
  · obtain ⟨_, _, _, _, _, _, rfl, _⟩ := h; rfl
  · obtain ⟨p, dx, pl, b, n, sl, rfl, hp, hP, k⟩ := h
    refine ⟨_, (pss_cons (ps_fld (pv 0) (pv 1) rfl)
      (pss_cons (ps_fld (pv 0) (pe_lc rfl (own := [("_", 2)]) (g := gName 2) (tt := tYes) sc_Image___init__.nd (pi_range1 rfl T.b_range (pa_cons (pe_fld (pv 1) rfl) pa_nil)) (blkOk_by (N := ["self", "plan", "_"]) (sc := defScope s_Image___init__) (by decide +kernel)) (fun _ _ _ _ _ => pg_name (i := 2) sc_Image___init__.nd rfl (Or.inl rfl)) (fun _ _ _ _ _ => pts_nil) (fun _ _ _ _ _ => (pe_op op_rep (pe_lst (pa_cons pe_int pa_nil)) (pe_cv T.mg_Plan T.cr_Plan T.cv_Plan_WIDTH)))) rfl)
      (pss_cons (ps_fld (pv 0) (pe_op op_rep (pe_lst (pa_cons pe_int pa_nil)) (pe_fld (pv 1) rfl)) rfl)
      (pss_cons (ps_fld (pv 0) (pe_op op_rep (pe_lst (pa_cons pe_int pa_nil)) (pe_fld (pv 1) rfl)) rfl)
      (pss_cons (ps_fld (pv 0) pe_dnewK rfl)
      (pss_cons (ps_fld (pv 0) pe_int rfl)
      (pss_cons (ps_fld (pv 0) pe_int rfl)
      (pss_one (ps_fld (pv 0) (pe_tup pa_nil) rfl))))))))), ?_⟩
    obtain ⟨dxp, hpl⟩ := hP.ob
    have hb1 := hP.b1
    have hb2 := hP.b2
    have nppl : pl ≠ p := fun e => by
      rw [e, hp] at hpl
      have := HO.ins.inj (Option.some.inj hpl)
      have := this.2.2
      simp [planF] at this
    -- self.plan = plan
    refine ⟨_, rfl, _, rfl, p, _, dx, _, rfl, hp, T.cl_Image, T.na_Image_plan, (by show 0 < 1000; decide), ?_⟩
    generalize hH1 : upd H p _ = H1
    obtain ⟨e1, k1, n1⟩ := own_f hH1
    have pl1 := k1.at1 hpl nppl
    -- self.cells = [[0] * Plan.WIDTH for _ in range(plan.blocks)]
    refine ⟨_, rfl, pl, _, dxp, _, _, rfl, pl1, T.cl_Plan, T.na_Plan_blocks, rfl, b, rfl, by omega, by omega, fun D hD => ?_⟩
    refine lc_range (lo := 0) (n := b.toNat) (fun i H' => ∃ qs, NewGrid H1 H' D qs (List.replicate i (List.replicate 8 0)))
      ⟨[], NewGrid.start (Same.refl _) hD hD⟩ ?_ ?_
    · rintro i H' hi ⟨qs, G⟩
      refine ⟨rfl, ?_⟩
      refine yes_ ?_
      refine ⟨by show 1 ≤ sizeLine; decide, fun l hl => ?_⟩
      refine ⟨l, 8, _, rfl, rfl, upd_same, by decide, by decide, by show 1 * 8 ≤ sizeLine; decide, fun q hq => ?_⟩
      have hq0 : H' q = none := un hq
      have hlD : H' D = some (.lst (qs.map V.ref)) := G.grid.out
      have hq1 : (upd (upd H' l (.lst [V.int 0])) q (.lst (List.replicate (8 : Int).toNat [V.int 0]).flatten)) q = some (.lst ((List.replicate 8 (0 : Int)).map V.int)) := by rw [upd_same]; rfl
      have sm : Same H' (upd (upd H' l (.lst [V.int 0])) q (.lst (List.replicate (8 : Int).toNat [V.int 0]).flatten)) := (same_upd hl).trans (same_upd hq)
      refine ⟨_, sm _ _ hlD, ?_, qs ++ [q], ?_⟩
      · rw [List.length_map, G.grid.len, List.length_replicate]
        exact small1000 (by omega)
      · rw [List.replicate_succ']
        exact G.snoc sm hq0 hq1
    rintro H2 ⟨qs, G⟩
    have e2 := G.same _ _ e1
    have pl2 := G.same _ _ pl1
    have npD : p ≠ D := ne_of_none e1 G.freshD
    refine ⟨_, rfl, p, _, dx, _, rfl, e2, T.cl_Image, T.na_Image_cells, (by show 1 < 1000; decide), ?_⟩
    generalize hH3 : upd H2 p _ = H3
    obtain ⟨e3, k3, n3⟩ := own_f hH3
    have pl3 := k3.at1 pl2 nppl
    -- self.holdings = [0] * plan.blocks
    refine ⟨by show 1 ≤ sizeLine; decide, fun l hl => ?_⟩
    generalize hH4 : upd H3 l _ = H4
    obtain ⟨e4, s4, n4⟩ := new_f hH4 hl
    have pl4 := s4 _ _ pl3
    refine ⟨_, rfl, pl, _, dxp, _, _, rfl, pl4, T.cl_Plan, T.na_Plan_blocks, rfl, l, b, _, rfl, rfl, e4, by omega, by omega, (by show 1 * b.toNat ≤ sizeLine; exact Nat.le_of_lt (small1000 (by omega))), fun ho hho => ?_⟩
    rw [rep_flat, rep_map]
    generalize hH5 : upd H4 ho _ = H5
    obtain ⟨e5, s5, n5⟩ := new_f hH5 hho
    refine ⟨_, rfl, p, _, dx, _, rfl, s5 _ _ (s4 _ _ e3), T.cl_Image, T.na_Image_holdings, (by show 2 < 1000; decide), ?_⟩
    generalize hH6 : upd H5 p _ = H6
    obtain ⟨e6, k6, n6⟩ := own_f hH6
    have pl6 := k6.at1 (s5 _ _ pl4) nppl
    have nho : ho ≠ p := (ne_of_none (s4 _ _ e3) hho).symm
    have ho6 := k6.at1 e5 nho
    -- self.stamps = [0] * plan.blocks
    refine ⟨by show 1 ≤ sizeLine; decide, fun l2 hl2 => ?_⟩
    generalize hH7 : upd H6 l2 _ = H7
    obtain ⟨e7, s7, n7⟩ := new_f hH7 hl2
    refine ⟨_, rfl, pl, _, dxp, _, _, rfl, s7 _ _ pl6, T.cl_Plan, T.na_Plan_blocks, rfl, l2, b, _, rfl, rfl, e7, by omega, by omega, (by show 1 * b.toNat ≤ sizeLine; exact Nat.le_of_lt (small1000 (by omega))), fun st hst => ?_⟩
    rw [rep_flat, rep_map]
    generalize hH8 : upd H7 st _ = H8
    obtain ⟨e8, s8, n8⟩ := new_f hH8 hst
    refine ⟨_, rfl, p, _, dx, _, rfl, s8 _ _ (s7 _ _ e6), T.cl_Image, T.na_Image_stamps, (by show 3 < 1000; decide), ?_⟩
    generalize hH9 : upd H8 p _ = H9
    obtain ⟨e9, k9, n9⟩ := own_f hH9
    have nst : st ≠ p := (ne_of_none (s7 _ _ e6) hst).symm
    have nsth : st ≠ ho := (ne_of_none (s7 _ _ ho6) hst).symm
    have st9 := k9.at1 e8 nst
    have ho9 := k9.at1 (s8 _ _ (s7 _ _ ho6)) nho
    -- self.handles = {}; serial, wish, barred
    intro hd hhd
    generalize hH10 : upd H9 hd _ = H10
    obtain ⟨e10, s10, n10⟩ := new_f hH10 hhd
    have nhd : hd ≠ p := (ne_of_none e9 hhd).symm
    refine ⟨_, rfl, p, _, dx, _, rfl, s10 _ _ e9, T.cl_Image, T.na_Image_handles, (by show 4 < 1000; decide), ?_⟩
    generalize hH11 : upd H10 p _ = H11
    obtain ⟨e11, k11, n11⟩ := own_f hH11
    refine ⟨_, rfl, p, _, dx, _, rfl, e11, T.cl_Image, T.na_Image_serial, (by show 5 < 1000; decide), ?_⟩
    generalize hH12 : upd H11 p _ = H12
    obtain ⟨e12, k12, n12⟩ := own_f hH12
    refine ⟨_, rfl, p, _, dx, _, rfl, e12, T.cl_Image, T.na_Image_wish, (by show 6 < 1000; decide), ?_⟩
    generalize hH13 : upd H12 p _ = H13
    obtain ⟨e13, k13, n13⟩ := own_f hH13
    refine ⟨by show 0 ≤ sizeLine; decide, fun ba hba => ?_⟩
    generalize hH14 : upd H13 ba _ = H14
    obtain ⟨e14, s14, n14⟩ := new_f hH14 hba
    have nba : ba ≠ p := (ne_of_none e13 hba).symm
    refine ⟨_, rfl, p, _, dx, _, rfl, s14 _ _ e13, T.cl_Image, T.na_Image_barred, (by show 7 < 1000; decide), ?_⟩
    generalize hH15 : upd H14 p _ = H15
    obtain ⟨e15, k15, n15⟩ := own_f hH15
    -- what stands
    have k10 : Kp [p] H10 H15 := (((k11.trans k12).trans k13).same s14).trans k15
    have k2 : Kp [p] H2 H15 := ((((((k3.same s4).same s5).trans k6).same s7).same s8).trans (k9.same s10)).trans k10
    have k0 : Kp [p] H H15 := (k1.same G.same).trans k2
    have f_ho : H2 ho = none := (n3 _ (n4 _ hho).1).1
    have f_st : H2 st = none := (n3 _ (n4 _ (n5 _ (n6 _ (n7 _ hst).1).1).1).1).1
    have f_hd : H2 hd = none := (n3 _ (n4 _ (n5 _ (n6 _ (n7 _ (n8 _ (n9 _ hhd).1).1).1).1).1).1).1
    have fr : ∀ x, H2 x = none → H x = none := fun x e => (n1 _ (G.same.free e)).1
    have qp : ∀ q ∈ qs, q ≠ p := fun q hq e => by
      have := G.fresh q hq
      rw [e, e1] at this
      cases this
    have qn : ∀ x, H2 x = none → x ∉ qs := fun x e hq => by
      obtain ⟨o, z⟩ := G.grid.held hq
      rw [e] at z
      cases z
    refine k _ ⟨dx, pl, D, qs, ho, st, hd, ba⟩ (fun x o e ne => k0.at1 e ne)
      ⟨e15, hP.of fun o e => k0.at1 e nppl, G.grid.keep fun x o hx e => k2.at1 e ?_, k10.at1 (s10 _ _ ho9) nho, k10.at1 (s10 _ _ st9) nst, k10.at1 e10 nhd, k15.at1 e14 nba, qn _ f_ho, qn _ f_st, nsth.symm, ne_of_none G.grid.out f_ho, ne_of_none G.grid.out f_st, ?_, ?_, ?_, ?_⟩
      ⟨(n1 _ G.freshD).1, fun q hq => (n1 _ (G.fresh q hq)).1, fr _ f_ho, fr _ f_st, fr _ f_hd⟩ rfl
    · rcases hx with rfl | hx
      · exact npD.symm
      · exact qp x hx
    · show ((List.replicate b.toNat (List.replicate 8 (0 : Int))).length : Int) = b
      rw [List.length_replicate]
      omega
    · intro m hm
      rw [List.eq_of_mem_replicate hm]
      rfl
    · show ((List.replicate b.toNat (0 : Int)).length : Int) = b
      rw [List.length_replicate]
      omega
    · show ((List.replicate b.toNat (0 : Int)).length : Int) = b
      rw [List.length_replicate]
      omega
end
end K39
namespace K39
open PySem PySem.Spec PyProof.Rows L2 Rg
def cellAt (M : List (List Int)) (i j : Nat) : Int := ((M[i]?.getD [])[j]?).getD 0
theorem cellAt_of {M : List (List Int)} {i j : Nat} {m : List Int} {x : Int} (h : M[i]? = some m) (hj : m[j]? = some x) : cellAt M i j = x := by
  unfold cellAt
  rw [h]
  show (m[j]?).getD 0 = x
  rw [hj]
  rfl
def kindOf (b n : Int) (M : List (List Int)) (x : Int) : Int :=
  if x < 2 + (b + 8 - 1) / 8 + n then 1 else if cellAt M (2 + x / 8).toNat (x % 8).toNat = 1 ∨ cellAt M (2 + x / 8).toNat (x % 8).toNat = 2 then cellAt M (2 + x / 8).toNat (x % 8).toNat else 0
section
variable {P : Program} {w : World} {K : PySem.W.Frag} {mg : Str → Option Value} {base : Heap}
def sp_Image_kind (CI CP : Addr) : Sp := fun vs H Q _ => ∃ (im : Addr) (A : IA) (v : IV) (b n s x : Int), vs = [.ref im, .int x] ∧ ImgAt CI CP H im A v b n s ∧ 0 ≤ x ∧ x < b ∧
  ∀ H', Same H H' → Q (.int (kindOf b n v.M x)) H'
theorem ok_Image_kind (T : Tx K mg) : FnOk P w K mg base CX0 2 T.f_Image_kind T.fd_Image_kind ["self", "x"] (sp_Image_kind T.C_Image T.C_Plan) := by
  refine T.F_Image_kind.ok sc_Image_kind (fun vs H Q E h => ?_) (fun cdv A0 outer s H vs Q E hr h => ?_)
  · obtain ⟨_, _, _, _, _, _, _, rfl, _⟩ := h; rfl
  · obtain ⟨im, A, v, b, n, sl, x, rfl, I, hx0, hxb, k⟩ := h
    refine ⟨_, (pss_cons (ps_if (pt_cmpR op_lt (pv 1) (pe_fld (pe_fld (pv 0) rfl) rfl) (nomark _))
        (pss_one (ps_ret (pe_cv T.mg_Plan T.cr_Plan T.cv_Plan_LOGGED)))
        pss_nil)
      (pss_cons (ps_asg (pe_meth (pe_fld (pv 0) rfl) T.cl_Plan T.m_Plan_map_place (ok_Plan_map_place T) hr (b_Plan_map_place T) .nil pass0 (pa_cons (pv 1) pa_nil)) (pg_tup rfl (pgs_cons (pg_name (i := 2) sc_Image_kind.nd rfl (.inl rfl)) (pgs_cons (pg_name (i := 3) sc_Image_kind.nd rfl (.inl rfl)) pgs_nil))))
      (pss_cons (ps_set (i := 4) sc_Image_kind.nd rfl (.inl rfl) (pe_ix ix_list (pe_ix ix_list (pe_fld (pv 0) rfl) (pv 2) (fun _ _ => rfl)) (pv 3) (fun _ _ => rfl)))
      (pss_one (ps_ret (pe_ifExp (pt_cmpR op_in_seq (pv 4) (pe_tup (pa_cons (pe_cv T.mg_Plan T.cr_Plan T.cv_Plan_LOGGED) (pa_cons (pe_cv T.mg_Plan T.cr_Plan T.cv_Plan_PLAIN) pa_nil))) rfl) (pv 4) (pe_cv T.mg_Plan T.cr_Plan T.cv_Plan_FREE))))))), ?_⟩
    obtain ⟨dxp, hpl⟩ := I.pl.ob
    have b1 := I.pl.b1
    have b2 := I.pl.b2
    have n1 := I.pl.n1
    refine ⟨_, rfl, _, rfl, im, _, _, _, _, rfl, I.ob, T.cl_Image, T.na_Image_plan, rfl, A.pl, _, dxp, _, _, rfl, hpl, T.cl_Plan, T.na_Plan_first_data, rfl, _, _, rfl, rfl, _, rfl, ite2 (fun e => ?_) (fun e => ?_)⟩
    · have e' := of_decide_eq_true e
      have := k H (Same.refl _)
      unfold kindOf at this
      rw [if_pos e'] at this
      exact this
    · have e' : ¬ x < 2 + (b + 8 - 1) / 8 + n := fun z => e (decide_eq_true z)
      -- the cell
      have d0 := I.d0
      have hi : (2 + x / 8).toNat < v.M.length := by omega
      obtain ⟨r, hr1, hr2, _⟩ := I.gr.get (List.getElem?_eq_getElem hi)
      have hj : (x % 8).toNat < (v.M[(2 + x / 8).toNat]).length := by
        rw [I.d1 _ (List.getElem_mem hi)]
        omega
      have hc : cellAt v.M (2 + x / 8).toNat (x % 8).toNat = (v.M[(2 + x / 8).toNat])[(x % 8).toNat] := cellAt_of (List.getElem?_eq_getElem hi) (List.getElem?_eq_getElem hj)
      refine ⟨_, rfl, im, _, _, _, _, rfl, I.ob, T.cl_Image, T.na_Image_plan, rfl, A.pl, dxp, _, rfl, hpl, rfl, _, rfl, A.pl, b, n, sl, x, rfl, I.pl, fun t ht => ?_⟩
      have st := same_upd (o := .tup [.int (2 + x / 8), .int (x % 8)]) ht
      refine ⟨t, _, rfl, .inl (.inl upd_same), rfl, _, _, rfl, _, _, rfl, rfl, ?_⟩
      refine ⟨_, rfl, im, _, _, _, _, rfl, st _ _ I.ob, T.cl_Image, T.na_Image_cells, rfl, _, rfl, A.ca, _, _, .ref r, rfl, rfl, .inl (.inl (st _ _ I.gr.out)), at_of (j := (2 + x / 8).toNat) (by omega) (by rw [List.getElem?_map, hr1]; rfl), _, rfl, r, _, _, _, rfl, rfl, .inl (.inl (st _ _ hr2)), at_of (j := (x % 8).toNat) (by omega) (by rw [List.getElem?_map, List.getElem?_eq_getElem hj]; rfl), ?_⟩
      refine ⟨_, rfl, (by show 2 ≤ sizeLine; decide), fun t2 ht2 => ?_⟩
      have st2 := same_upd (o := .tup [.int 1, .int 2]) ht2
      have kk := k _ (st.trans st2)
      unfold kindOf at kk
      rw [if_neg e', hc] at kk
      generalize (v.M[(2 + x / 8).toNat])[(x % 8).toNat] = c at kk ⊢
      refine ⟨t2, _, rfl, .inr (.inl (.inl upd_same)), rfl, rfl, _, rfl, ite2 (fun q => ?_) (fun q => ?_)⟩
      · have hq : c = 1 ∨ c = 2 := by
          simp [inV, eqV] at q
          omega
        rw [if_pos hq] at kk
        exact ⟨_, rfl, kk⟩
      · have hq : ¬ (c = 1 ∨ c = 2) := fun z => q (by
          simp [inV, eqV]
          omega)
        rw [if_neg hq] at kk
        exact kk
end
end K39
namespace K39
open PySem PySem.Spec PyProof.Rows L2 Rg
theorem mem_set_of {α : Type} {l : List α} {i : Nat} {x y : α} (h : y ∈ l.set i x) : y = x ∨ y ∈ l := by
  rcases List.mem_or_eq_of_mem_set h with h | h
  · exact .inr h
  · exact .inl h
theorem nodup_set {α : Type} : ∀ {l : List α} {i : Nat} {x : α}, l.Nodup → x ∉ l → (l.set i x).Nodup
  | [], _, _, h, _ => by simp
  | y :: l, 0, x, h, n => by
    rw [List.set_cons_zero]
    rw [List.nodup_cons] at h ⊢
    exact ⟨fun z => n (List.mem_cons_of_mem _ z), h.2⟩
  | y :: l, i + 1, x, h, n => by
    rw [List.set_cons_succ]
    rw [List.nodup_cons] at h ⊢
    refine ⟨fun z => ?_, nodup_set h.2 fun z => n (List.mem_cons_of_mem _ z)⟩
    rcases mem_set_of z with e | e
    · exact n (by rw [e]; exact List.mem_cons_self)
    · exact h.1 e
/-- a row replaced by a new one -/
theorem Grid.swap {H H1 : Hp} {ca : Addr} {rs : List Addr} {M : List (List Int)} {i : Nat} {q : Addr} {m : List Int} (G : Grid H ca rs M) (s1 : Same H H1) (hq : H q = none) (h1 : H1 q = some (.lst (m.map V.int))) :
    Grid (upd H1 ca (.lst ((rs.map V.ref).set i (V.ref q)))) ca (rs.set i q) (M.set i m) := by
  have qr : q ∉ rs := fun h => by
    obtain ⟨o, z⟩ := G.held h
    rw [hq] at z
    cases z
  have qc : q ≠ ca := fun e => by
    rw [e, G.out] at hq
    cases hq
  refine ⟨by rw [upd_same, ← List.map_set], by rw [List.length_set, List.length_set]; exact G.len, fun j r m' hj hm => ?_, nodup_set G.nd qr, fun z => ?_⟩
  · by_cases e : i = j
    · subst e
      have hi : i < rs.length := by
        have := (List.getElem?_eq_some_iff.mp hj).1
        rw [List.length_set] at this
        exact this
      rw [List.getElem?_set_self hi] at hj
      rw [List.getElem?_set_self (by rw [← G.len]; exact hi)] at hm
      cases hj
      cases hm
      rw [upd_ne qc]
      exact h1
    · rw [List.getElem?_set_ne e] at hj hm
      rw [upd_ne fun z => G.nin (by rw [← z]; exact List.mem_of_getElem? hj)]
      exact s1 _ _ (G.row j r m' hj hm)
  · rcases mem_set_of z with e | e
    · exact qc e.symm
    · exact G.nin e
section
variable {CI CP : Addr} {H : Hp} {im : Addr} {A : IA} {v : IV} {b n s : Int}
theorem ImgAt.fresh_n (I : ImgAt CI CP H im A v b n s) {q : Addr} (hq : H q = none) : q ≠ im ∧ q ≠ A.ca ∧ q ≠ A.ho ∧ q ≠ A.st ∧ q ≠ A.hd ∧ q ∉ A.rs :=
  ⟨(ne_of_none I.ob hq).symm, (ne_of_none I.gr.out hq).symm, (ne_of_none I.ho hq).symm, (ne_of_none I.st hq).symm, (ne_of_none I.hd hq).symm, fun h => by
    obtain ⟨o, z⟩ := I.gr.held h
    rw [hq] at z
    cases z⟩
/-- image.cells[i] = a new row -/
theorem ImgAt.swap {H1 : Hp} {i : Nat} {q : Addr} {m : List Int} (I : ImgAt CI CP H im A v b n s) (s1 : Same H H1) (hq : H q = none) (h1 : H1 q = some (.lst (m.map V.int))) (hm : m.length = 8) :
    ImgAt CI CP (upd H1 A.ca (.lst ((A.rs.map V.ref).set i (V.ref q)))) im { A with rs := A.rs.set i q } { v with M := v.M.set i m } b n s := by
  obtain ⟨f1, f2, f3, f4, f5, f6⟩ := I.fresh_n hq
  obtain ⟨dxp, hpl⟩ := I.pl.ob
  have oc := I.gr.out
  refine { ob := ?_, pl := I.pl.of fun o e => ?_, gr := I.gr.swap s1 hq h1, ho := ?_, st := ?_, hd := ?_, ba := ?_, n1 := fun z => ?_, n2 := fun z => ?_, n3 := I.n3, n4 := I.n4, n5 := I.n5, d0 := ?_, d1 := fun m' hm' => ?_, d2 := I.d2, d3 := I.d3 }
  · rw [upd_ne (ne_of I.ob oc (by intro z; cases z))]; exact s1 _ _ I.ob
  · rw [upd_ne (ne_of hpl oc (by intro z; cases z))]; exact s1 _ _ e
  · rw [upd_ne I.n4.symm]; exact s1 _ _ I.ho
  · rw [upd_ne I.n5.symm]; exact s1 _ _ I.st
  · rw [upd_ne (ne_of I.hd oc (by intro z; cases z))]; exact s1 _ _ I.hd
  · rw [upd_ne (ne_of I.ba oc (by intro z; cases z))]; exact s1 _ _ I.ba
  · rcases mem_set_of z with e | e
    · exact f3 e.symm
    · exact I.n1 e
  · rcases mem_set_of z with e | e
    · exact f4 e.symm
    · exact I.n2 e
  · show ((v.M.set i m).length : Int) = b
    rw [List.length_set]
    exact I.d0
  · rcases mem_set_of hm' with e | e
    · rw [e]; exact hm
    · exact I.d1 _ e
/-- image.holdings[i] = x -/
theorem ImgAt.putHo {i : Nat} {x : Int} (I : ImgAt CI CP H im A v b n s) : ImgAt CI CP (upd H A.ho (.lst ((v.ho.map V.int).set i (V.int x)))) im A { v with ho := v.ho.set i x } b n s := by
  obtain ⟨dxp, hpl⟩ := I.pl.ob
  have oc := I.ho
  refine { I with ob := ?_, pl := I.pl.of fun o e => ?_, gr := I.gr.keep fun y o hy e => ?_, ho := by rw [upd_same, ← List.map_set], st := ?_, hd := ?_, ba := ?_, d2 := ?_ }
  · rw [upd_ne (ne_of I.ob oc (by intro z; cases z))]; exact I.ob
  · rw [upd_ne (ne_of hpl oc (by intro z; cases z))]; exact e
  · rw [upd_ne]
    · exact e
    · rcases hy with rfl | hy
      · exact I.n4
      · exact fun z => I.n1 (z ▸ hy)
  · rw [upd_ne I.n3.symm]; exact I.st
  · rw [upd_ne (ne_of I.hd oc (by intro z; cases z))]; exact I.hd
  · rw [upd_ne (ne_of I.ba oc (by intro z; cases z))]; exact I.ba
  · show ((v.ho.set i x).length : Int) = b
    rw [List.length_set]
    exact I.d2
/-- image.stamps[i] = x -/
theorem ImgAt.putSt {i : Nat} {x : Int} (I : ImgAt CI CP H im A v b n s) : ImgAt CI CP (upd H A.st (.lst ((v.st.map V.int).set i (V.int x)))) im A { v with st := v.st.set i x } b n s := by
  obtain ⟨dxp, hpl⟩ := I.pl.ob
  have oc := I.st
  refine { I with ob := ?_, pl := I.pl.of fun o e => ?_, gr := I.gr.keep fun y o hy e => ?_, st := by rw [upd_same, ← List.map_set], ho := ?_, hd := ?_, ba := ?_, d3 := ?_ }
  · rw [upd_ne (ne_of I.ob oc (by intro z; cases z))]; exact I.ob
  · rw [upd_ne (ne_of hpl oc (by intro z; cases z))]; exact e
  · rw [upd_ne]
    · exact e
    · rcases hy with rfl | hy
      · exact I.n5
      · exact fun z => I.n2 (z ▸ hy)
  · rw [upd_ne I.n3]; exact I.ho
  · rw [upd_ne (ne_of I.hd oc (by intro z; cases z))]; exact I.hd
  · rw [upd_ne (ne_of I.ba oc (by intro z; cases z))]; exact I.ba
  · show ((v.st.set i x).length : Int) = b
    rw [List.length_set]
    exact I.d3
/-- one row changed: image.cells[i][j] = x and the like -/
theorem ImgAt.putRow {i : Nat} {r : Addr} {m : List Int} (I : ImgAt CI CP H im A v b n s) (hr : A.rs[i]? = some r) (hm : m.length = 8) : ImgAt CI CP (upd H r (.lst (m.map V.int))) im A { v with M := v.M.set i m } b n s := by
  obtain ⟨dxp, hpl⟩ := I.pl.ob
  have rin : r ∈ A.rs := List.mem_of_getElem? hr
  have hi : i < v.M.length := by rw [← I.gr.len]; exact (List.getElem?_eq_some_iff.mp hr).1
  have oc := I.gr.row i r _ hr (List.getElem?_eq_getElem hi)
  refine { I with ob := ?_, pl := I.pl.of fun o e => ?_, gr := I.gr.put hr, st := ?_, ho := ?_, hd := ?_, ba := ?_, d0 := ?_, d1 := fun m' hm' => ?_ }
  · rw [upd_ne (ne_of I.ob oc (by intro z; cases z))]; exact I.ob
  · rw [upd_ne (ne_of hpl oc (by intro z; cases z))]; exact e
  · rw [upd_ne (fun z : A.ho = r => I.n1 (by rw [z]; exact rin))]; exact I.ho
  · rw [upd_ne (fun z : A.st = r => I.n2 (by rw [z]; exact rin))]; exact I.st
  · rw [upd_ne (ne_of I.hd oc (by intro z; cases z))]; exact I.hd
  · rw [upd_ne (ne_of I.ba oc (by intro z; cases z))]; exact I.ba
  · show ((v.M.set i m).length : Int) = b
    rw [List.length_set]
    exact I.d0
  · rcases mem_set_of hm' with e | e
    · rw [e]; exact hm
    · exact I.d1 _ e
end
end K39
namespace K39
open PySem PySem.Spec PyProof.Rows L2 Rg
/-- what of_cells makes of the rows, the blocks before i looked at -/
def ofM (b n : Int) (R : List (List Int)) (i : Nat) : List (List Int) := (List.range b.toNat).map fun x => if x < i ∧ kindOf b n R x = 0 then List.replicate 8 0 else R[x]?.getD []
def ofH (b n : Int) (R : List (List Int)) (i : Nat) : List Int := (List.range b.toNat).map fun x => if x < i ∧ ¬ kindOf b n R x = 0 then 1 else 0
def ofV (b n : Int) (R : List (List Int)) (i : Nat) : IV := ⟨ofM b n R i, ofH b n R i, ofH b n R i, [], 1, 0, []⟩
theorem kindOf_fix {b n : Int} {R : List (List Int)} {x : Int} (h : x < 2 + (b + 8 - 1) / 8 + n) : kindOf b n R x = 1 := by
  unfold kindOf
  rw [if_pos h]
theorem cellAt_congr {M R : List (List Int)} {i j : Nat} (h : M[i]? = R[i]?) : cellAt M i j = cellAt R i j := by
  unfold cellAt
  rw [h]
theorem kindOf_congr {b n : Int} {M R : List (List Int)} {x : Int} (hn : 0 ≤ n) (h0 : 0 ≤ x) (hb : x < b) (h : ∀ y : Nat, (y : Int) < 2 + (b + 8 - 1) / 8 + n → M[y]? = R[y]?) : kindOf b n M x = kindOf b n R x := by
  unfold kindOf
  rw [cellAt_congr (h (2 + x / 8).toNat (by omega))]
theorem ofM_get {b n : Int} {R : List (List Int)} {i x : Nat} (hx : x < b.toNat) : (ofM b n R i)[x]? = some (if x < i ∧ kindOf b n R x = 0 then List.replicate 8 0 else R[x]?.getD []) := by
  unfold ofM
  rw [List.getElem?_map, List.getElem?_range hx]
  rfl
theorem ofM_fix {b n : Int} {R : List (List Int)} {i y : Nat} (hR : (R.length : Int) = b) (hb : 2 + (b + 8 - 1) / 8 + n ≤ b) (hy : (y : Int) < 2 + (b + 8 - 1) / 8 + n) : (ofM b n R i)[y]? = R[y]? := by
  rw [ofM_get (by omega), kindOf_fix hy, if_neg (fun z => by simp at z), List.getElem?_eq_getElem (show y < R.length by omega)]
  rfl
theorem ofM_zero {b n : Int} {R : List (List Int)} (hR : (R.length : Int) = b) : ofM b n R 0 = R := by
  apply List.ext_getElem?
  intro x
  by_cases hx : x < b.toNat
  · rw [ofM_get hx, if_neg (fun z => by simp at z), List.getElem?_eq_getElem (show x < R.length by omega)]
    rfl
  · rw [List.getElem?_eq_none (by unfold ofM; simp; omega), List.getElem?_eq_none (by omega)]
theorem ofM_succ {b n : Int} {R : List (List Int)} {i : Nat} (hi : i < b.toNat) : ofM b n R (i + 1) = if kindOf b n R i = 0 then (ofM b n R i).set i (List.replicate 8 0) else ofM b n R i := by
  apply List.ext_getElem?
  intro x
  by_cases hx : x < b.toNat
  · rw [ofM_get hx]
    by_cases hk : kindOf b n R i = 0
    · rw [if_pos hk]
      by_cases e : i = x
      · subst e
        rw [List.getElem?_set_self (by unfold ofM; simp; omega), if_pos ⟨Nat.lt_succ_self _, hk⟩]
      · rw [List.getElem?_set_ne e, ofM_get hx]
        by_cases h : x < i
        · simp only [show (x < i + 1) ↔ (x < i) by omega]
        · simp only [show (x < i + 1) ↔ (x < i) by omega]
    · rw [if_neg hk, ofM_get hx]
      by_cases e : i = x
      · subst e
        rw [if_neg (fun z => hk z.2), if_neg (fun z => hk z.2)]
      · simp only [show (x < i + 1) ↔ (x < i) by omega]
  · have l1 : (ofM b n R (i + 1)).length = b.toNat := by unfold ofM; simp
    have l2 : (ofM b n R i).length = b.toNat := by unfold ofM; simp
    rw [List.getElem?_eq_none (by omega)]
    split
    · rw [List.getElem?_eq_none (by rw [List.length_set]; omega)]
    · rw [List.getElem?_eq_none (by omega)]
theorem ofH_get {b n : Int} {R : List (List Int)} {i x : Nat} (hx : x < b.toNat) : (ofH b n R i)[x]? = some (if x < i ∧ ¬ kindOf b n R x = 0 then 1 else 0) := by
  unfold ofH
  rw [List.getElem?_map, List.getElem?_range hx]
  rfl
theorem ofH_zero {b n : Int} {R : List (List Int)} : ofH b n R 0 = List.replicate b.toNat 0 := by
  apply List.ext_getElem?
  intro x
  by_cases hx : x < b.toNat
  · rw [ofH_get hx, if_neg (fun z => by simp at z), List.getElem?_replicate, if_pos hx]
  · rw [List.getElem?_eq_none (by unfold ofH; simp; omega), List.getElem?_eq_none (by simp; omega)]
theorem ofH_succ {b n : Int} {R : List (List Int)} {i : Nat} (hi : i < b.toNat) : ofH b n R (i + 1) = if kindOf b n R i = 0 then ofH b n R i else (ofH b n R i).set i 1 := by
  apply List.ext_getElem?
  intro x
  by_cases hx : x < b.toNat
  · rw [ofH_get hx]
    by_cases hk : kindOf b n R i = 0
    · rw [if_pos hk, ofH_get hx]
      by_cases e : i = x
      · subst e
        rw [if_neg (fun z => z.2 hk), if_neg (fun z => z.2 hk)]
      · simp only [show (x < i + 1) ↔ (x < i) by omega]
    · rw [if_neg hk]
      by_cases e : i = x
      · subst e
        rw [List.getElem?_set_self (by unfold ofH; simp; omega), if_pos ⟨Nat.lt_succ_self _, hk⟩]
      · rw [List.getElem?_set_ne e, ofH_get hx]
        simp only [show (x < i + 1) ↔ (x < i) by omega]
  · have l1 : (ofH b n R (i + 1)).length = b.toNat := by unfold ofH; simp
    have l2 : (ofH b n R i).length = b.toNat := by unfold ofH; simp
    rw [List.getElem?_eq_none (by omega)]
    split
    · rw [List.getElem?_eq_none (by omega)]
    · rw [List.getElem?_eq_none (by rw [List.length_set]; omega)]
section
variable {P : Program} {w : World} {K : PySem.W.Frag} {mg : Str → Option Value} {base : Heap}
def sp_of_cells (CI CP : Addr) : Sp := fun vs H Q _ => ∃ (pl ra : Addr) (rr : List Addr) (R : List (List Int)) (b n s : Int), vs = [.ref pl, .ref ra] ∧ PlanAt CP H pl b n s ∧ Grid H ra rr R ∧ (R.length : Int) = b ∧ (∀ m ∈ R, m.length = 8) ∧
  ∀ (H' : Hp) (im : Addr) (A : IA), Same H H' → H im = none → ImgAt CI CP H' im A (ofV b n R b.toNat) b n s → A.New H → A.pl = pl → Q (.ref im) H'
theorem ok_of_cells (T : Tx K mg) : FnOk P w K mg base CX0 3 T.f_Image_of_cells T.fd_Image_of_cells ["plan", "rows"] (sp_of_cells T.C_Image T.C_Plan) := by
  refine T.F_Image_of_cells.ok sc_Image_of_cells (fun vs H Q E h => ?_) (fun cdv A0 outer s H vs Q E hr h => ?_)
  · obtain ⟨_, _, _, _, _, _, _, rfl, _⟩ := h; rfl
  · obtain ⟨pl, ra, rr, R, b, n, sl, rfl, hP, GR, hR, hR8, k⟩ := h
    have hr2 : Room 2 _ := hr.mono (by decide)
    refine ⟨_, (pss_cons (ps_set (i := 2) sc_Image_of_cells.nd rfl (.inl rfl) (pe_make T.mk_Image (ok_Image_init T) hr2 rfl T.mg_Image (b_Image___init__ T) .nil pass0 (pa_cons (pv 0) pa_nil)))
      (pss_cons (ps_fld (pv 2) (pe_lc rfl (own := [("row", 3)]) (g := gName 3) (tt := tYes) sc_Image_of_cells.nd (pi_list (pv 1)) (blkOk_by (N := ["plan", "rows", "image", "row", "x"]) (sc := defScope s_Image_of_cells) (by decide +kernel)) (fun _ _ _ _ _ => pg_name (i := 3) sc_Image_of_cells.nd rfl (Or.inl rfl)) (fun _ _ _ _ _ => pts_nil) (fun _ _ _ _ _ => (pe_listof (K := K) (pv 3) T.b_list))) rfl)
      (pss_cons (ps_fld (pv 2) pe_int rfl)
      (pss_cons (ps_for PassesOwn.never rfl (pi_range1 rfl T.b_range (pa_cons (pe_fld (pv 0) rfl) pa_nil)) (pg_name (i := 4) sc_Image_of_cells.nd rfl (.inl rfl))
        (pss_one (ps_if (pt_cmpR op_eq (pe_meth (pv 2) T.cl_Image T.m_Image_kind (ok_Image_kind T) hr2 (b_Image_kind T) .nil pass0 (pa_cons (pv 4) pa_nil)) (pe_cv T.mg_Plan T.cr_Plan T.cv_Plan_FREE) (nomark _))
          (pss_one (ps_asg (pe_op op_rep (pe_lst (pa_cons pe_int pa_nil)) (pe_cv T.mg_Plan T.cr_Plan T.cv_Plan_WIDTH)) (pg_sub (pe_fld (pv 2) rfl) (pv 4) set_list)))
          (pss_cons (ps_asg pe_int (pg_sub (pe_fld (pv 2) rfl) (pv 4) set_list))
          (pss_one (ps_asg pe_int (pg_sub (pe_fld (pv 2) rfl) (pv 4) set_list)))))))
      (pss_one (ps_ret (pv 2))))))), ?_⟩
    obtain ⟨dxp, hpl⟩ := hP.ob
    have hb1 := hP.b1
    have hb2 := hP.b2
    have hd := hP.d
    have hn1 := hP.n1
    -- image = Image(plan)
    refine ⟨_, rfl, fun x dx nx ndx nex => ?_⟩
    have s1 : Same H (upd (upd H dx (.own x)) x (.ins T.C_Image dx [])) := (same_upd ndx).trans (same_upd (by rw [upd_ne nex.symm]; exact nx))
    refine ⟨x, dx, pl, b, n, sl, rfl, upd_same, hP.same s1, fun H1 A1 k1 I1 N1 eA => ⟨rfl, ?_⟩⟩
    have k1' : ∀ y o, H y = some o → H1 y = some o := fun y o e => k1 y o (s1 _ _ e) (ne_of_none e nx)
    have xs1 : ∀ y, (upd (upd H dx (.own x)) x (.ins T.C_Image dx [])) y = none → H y = none := fun y e => un (un e)
    -- image.cells = [list(row) for row in rows]
    refine ⟨_, rfl, ra, rfl, ⟨_, .of (k1' _ _ GR.out)⟩, fun D hD => ?_⟩
    refine lc_list (K := K) (a := ra) (xs := rr.map V.ref) (fun i H' => ∃ qs, NewGrid H1 H' D qs (R.take i))
      ⟨[], NewGrid.start (Same.refl _) hD hD⟩ (fun i H' _ ⟨qs, G⟩ => .of (G.same _ _ (k1' _ _ GR.out))) ?_ ?_
    · rintro i y H' hi ⟨qs, G⟩
      have hil : i < rr.length := by
        have := (List.getElem?_eq_some_iff.mp hi).1
        rw [List.length_map] at this
        exact this
      rw [List.getElem?_map, List.getElem?_eq_getElem hil] at hi
      have hi : V.ref rr[i] = y := Option.some.inj hi
      subst hi
      have hiR : i < R.length := by rw [← GR.len]; exact hil
      have hrow := G.same _ _ (k1' _ _ (GR.row i rr[i] R[i] (List.getElem?_eq_getElem hil) (List.getElem?_eq_getElem hiR)))
      refine ⟨rfl, ?_⟩
      refine yes_ ?_
      refine ⟨_, rfl, rr[i], _, rfl, .inl (.of hrow), fun q hq => ?_⟩
      refine ⟨_, by rw [upd_ne (ne_of_none G.grid.out hq)]; exact G.grid.out, ?_, qs ++ [q], ?_⟩
      · rw [List.length_map, G.grid.len, List.length_take]
        exact small1000 (by omega)
      · rw [List.take_succ, List.getElem?_eq_getElem hiR]
        exact G.snoc (same_upd hq) hq upd_same
    rintro H2 ⟨qs, G⟩
    rw [List.length_map, GR.len, List.take_length] at G
    have I2 : ImgAt T.C_Image T.C_Plan H2 x A1 (zeroV b) b n sl := I1.keep G.same
    refine ⟨_, rfl, x, _, _, _, rfl, I2.ob, T.cl_Image, T.na_Image_cells, (by show 8 < 1000; decide), ?_⟩
    generalize hH3 : upd H2 x _ = H3
    obtain ⟨e3, k3, n3⟩ := own_f hH3
    refine ⟨_, rfl, x, _, _, _, rfl, e3, T.cl_Image, T.na_Image_serial, (by show 8 < 1000; decide), ?_⟩
    generalize hH4 : upd H3 x _ = H4
    obtain ⟨e4, k4, n4⟩ := own_f hH4
    have k24 : Kp [x] H2 H4 := k3.trans k4
    have kx : ∀ y o, H2 y = some o → y ≠ x → H4 y = some o := fun y o e ne => k24.at1 e ne
    have npl : pl ≠ x := ne_of_none hpl nx
    have pl2 : H2 A1.pl = some (.ins T.C_Plan dxp (planF b n sl)) := by rw [eA]; exact G.same _ _ (k1' _ _ hpl)
    have xD : x ≠ D := ne_of_none I1.ob G.freshD
    have xq : x ∉ qs := (G.nin0 I1.ob).2
    have I4 : ImgAt T.C_Image T.C_Plan H4 x { A1 with ca := D, rs := qs } (ofV b n R 0) b n sl := by
      refine { ob := e4, pl := I2.pl.of fun o e => kx _ _ e (by show A1.pl ≠ x; rw [eA]; exact npl), gr := ?_, ho := ?_, st := ?_, hd := ?_, ba := ?_, n1 := (G.nin0 I1.ho).2, n2 := (G.nin0 I1.st).2, n3 := I1.n3, n4 := (G.nin0 I1.ho).1.symm, n5 := (G.nin0 I1.st).1.symm, d0 := ?_, d1 := ?_, d2 := ?_, d3 := ?_ }
      · show Grid H4 D qs (ofM b n R 0)
        rw [ofM_zero hR]
        refine G.grid.keep fun y o hy e => kx _ _ e ?_
        rcases hy with rfl | hy
        · exact xD.symm
        · exact fun z => xq (by rw [← z]; exact hy)
      · show H4 A1.ho = some (.lst ((ofH b n R 0).map V.int))
        rw [ofH_zero]
        exact kx _ _ I2.ho (ne_of I2.ho I2.ob (by intro z; cases z))
      · show H4 A1.st = some (.lst ((ofH b n R 0).map V.int))
        rw [ofH_zero]
        exact kx _ _ I2.st (ne_of I2.st I2.ob (by intro z; cases z))
      · exact kx _ _ I2.hd (ne_of I2.hd I2.ob (by intro z; cases z))
      · exact kx _ _ I2.ba (ne_of I2.ba I2.ob (by intro z; cases z))
      · show ((ofM b n R 0).length : Int) = b
        rw [ofM_zero hR]
        exact hR
      · show ∀ m ∈ ofM b n R 0, m.length = 8
        rw [ofM_zero hR]
        exact hR8
      · show ((ofH b n R 0).length : Int) = b
        rw [ofH_zero, List.length_replicate]
        omega
      · show ((ofH b n R 0).length : Int) = b
        rw [ofH_zero, List.length_replicate]
        omega
    have N0 : ∀ y, H1 y = none → H y = none := fun y e => by
      cases q : H y with
      | none => rfl
      | some o => rw [k1' y o q] at e; cases e
    have N4 : ({ A1 with ca := D, rs := qs } : IA).New H := ⟨N0 _ G.freshD, fun q hq => N0 _ (G.fresh q hq), xs1 _ N1.ho, xs1 _ N1.st, xs1 _ N1.hd⟩
    have S4 : Same H H4 := fun y o e => kx _ _ (G.same _ _ (k1' _ _ e)) (ne_of_none e nx)
    -- for x in range(plan.blocks)
    have hpl4 : H4 pl = some (.ins T.C_Plan dxp (planF b n sl)) := S4 _ _ hpl
    refine ⟨_, rfl, pl, _, dxp, _, _, rfl, hpl4, T.cl_Plan, T.na_Plan_blocks, rfl, b, rfl, by omega, by omega, for_range (lo := 0) (n := b.toNat) (fun i σ H' => ∃ (A : IA) (u3 u4 : Option V), σ = [some (.ref pl), some (.ref ra), some (.ref x), u3, u4] ∧ ImgAt T.C_Image T.C_Plan H' x A (ofV b n R i) b n sl ∧ Same H H' ∧ A.New H ∧ A.pl = pl)
      ⟨_, _, _, rfl, I4, S4, N4, eA⟩ ?_ ?_⟩
    · rintro i σ H' hi ⟨A, u3, u4, rfl, I, S, N, eA⟩
      have hib : (i : Int) < b := by omega
      refine ⟨_, rfl, x, _, _, rfl, I.ob, rfl, _, rfl, x, A, ofV b n R i, b, n, sl, _, rfl, I, by omega, by omega, fun H5 s5 => ?_⟩
      have ek : kindOf b n (ofV b n R i).M (0 + (i : Int)) = kindOf b n R i := by
        rw [show (0 : Int) + (i : Int) = i by omega]
        exact kindOf_congr (by omega) (by omega) hib fun y hy => ofM_fix hR (by omega) hy
      rw [ek]
      have I5 := I.keep s5
      have S5 := S.trans s5
      refine ⟨rfl, _, rfl, ite2 (fun e => ?_) (fun e => ?_)⟩
      · have hk : kindOf b n R i = 0 := V.int.inj (of_decide_eq_true e)
        refine ⟨by show 1 ≤ sizeLine; decide, fun l hl => ?_⟩
        refine ⟨l, 8, _, rfl, rfl, upd_same, by decide, by decide, by show 1 * 8 ≤ sizeLine; decide, fun q hq => ?_⟩
        have sm : Same H5 (upd (upd H5 l (.lst [V.int 0])) q (.lst (List.replicate (8 : Int).toNat [V.int 0]).flatten)) := (same_upd hl).trans (same_upd hq)
        have hq5 : H5 q = none := un hq
        have hq1 : (upd (upd H5 l (.lst [V.int 0])) q (.lst (List.replicate (8 : Int).toNat [V.int 0]).flatten)) q = some (.lst ((List.replicate 8 (0 : Int)).map V.int)) := by rw [upd_same]; rfl
        generalize hH6 : upd (upd H5 l (.lst [V.int 0])) q (.lst (List.replicate (8 : Int).toNat [V.int 0]).flatten) = H6 at sm hq1 ⊢
        refine ⟨_, rfl, x, _, _, _, _, rfl, sm _ _ I5.ob, T.cl_Image, T.na_Image_cells, rfl, _, rfl, A.ca, _, _, i, rfl, rfl, sm _ _ I5.gr.out, ?_, ?_⟩
        · unfold ixN
          rw [if_pos (by omega), List.length_map, if_pos (by rw [I5.gr.len]; show (0 : Int) + i < (ofM b n R i).length; unfold ofM; simp; omega)]
          congr 1
          omega
        · refine ⟨{ A with rs := A.rs.set i q }, u3, _, rfl, ?_, ?_, ⟨N.ca, fun z hz => ?_, N.ho, N.st, N.hd⟩, eA⟩
          rotate_left
          · exact fun y o e => by
              rw [upd_ne (ne_of_none e N.ca)]
              exact sm _ _ (S5 _ _ e)
          · rcases mem_set_of hz with e | e
            · rw [e]; exact S5.free hq5
            · exact N.rs z e
          · have := I5.swap (i := i) sm hq5 hq1 (by rfl)
            unfold ofV at this ⊢
            dsimp only at this ⊢
            rw [ofM_succ (by omega), if_pos hk, ofH_succ (by omega), if_pos hk]
            exact this
      · have hk : ¬ kindOf b n R i = 0 := fun z => e (by rw [z]; exact decide_eq_true rfl)
        have ix : ∀ (xs : List V), xs.length = b.toNat → ixN xs.length (0 + (i : Int)) = some i := fun xs hx => by
          unfold ixN
          rw [if_pos (by omega), if_pos (by omega)]
          congr 1
          omega
        have lh : ((ofH b n R i).map V.int).length = b.toNat := by unfold ofH; simp
        refine ⟨_, rfl, x, _, _, _, _, rfl, I5.ob, T.cl_Image, T.na_Image_holdings, rfl, _, rfl, A.ho, _, _, i, rfl, rfl, I5.ho, ix _ lh, ?_⟩
        have I6 := I5.putHo (i := i) (x := 1)
        refine ⟨_, rfl, x, _, _, _, _, rfl, I6.ob, T.cl_Image, T.na_Image_stamps, rfl, _, rfl, A.st, _, _, i, rfl, rfl, I6.st, ix _ lh, ?_⟩
        have I7 := I6.putSt (i := i) (x := 1)
        refine ⟨_, u3, _, rfl, ?_, ?_, N, eA⟩
        · unfold ofV at I7 ⊢
          dsimp only at I7 ⊢
          rw [ofM_succ (by omega), if_neg hk, ofH_succ (by omega), if_neg hk]
          exact I7
        · exact fun y o e => by
            rw [upd_ne (ne_of_none e N.st), upd_ne (ne_of_none e N.ho)]
            exact S5 _ _ e
    · rintro σ H' ⟨A, u3, u4, rfl, I, S, N, eA⟩
      exact ⟨_, rfl, k H' x A S nx I N eA⟩
end
end K39
namespace K39
open PySem PySem.Spec PyProof.Rows L2 Rg
def setC (M : List (List Int)) (i j : Nat) (x : Int) : List (List Int) := M.set i ((M[i]?.getD []).set j x)
theorem setC_len {M : List (List Int)} {i j : Nat} {x : Int} : (setC M i j x).length = M.length := by
  unfold setC
  rw [List.length_set]
theorem setC_at {M : List (List Int)} {i j : Nat} {x : Int} {m : List Int} (h : M[i]? = some m) : (setC M i j x)[i]? = some (m.set j x) := by
  have hi := (List.getElem?_eq_some_iff.mp h).1
  unfold setC
  rw [List.getElem?_set_self hi, h]
  rfl
theorem ImgAt.setC {CI CP : Addr} {H : Hp} {im : Addr} {A : IA} {v : IV} {b n s : Int} (I : ImgAt CI CP H im A v b n s) {i j : Nat} {x : Int} {r : Addr} {m : List Int} (hr : A.rs[i]? = some r) (hm : v.M[i]? = some m) :
    ImgAt CI CP (upd H r (.lst ((m.map V.int).set j (V.int x)))) im A { v with M := setC v.M i j x } b n s := by
  have h8 : m.length = 8 := I.d1 m (List.mem_of_getElem? hm)
  have := I.putRow (m := m.set j x) hr (by rw [List.length_set]; exact h8)
  rw [List.map_set] at this
  unfold K39.setC
  rw [hm]
  exact this
/-- the index i of a list of a known length -/
theorem ixN_nat {n : Nat} {z : Int} {i : Nat} (e : z = i) (h : i < n) : ixN n z = some i := by
  subst e
  unfold ixN
  rw [if_pos (by omega), if_pos (by omega)]
  rfl
def zerosM (b : Int) : List (List Int) := List.replicate b.toNat (List.replicate 8 0)
def fmM (b : Int) : Nat → List (List Int)
  | 0 => zerosM b
  | k + 1 => setC (fmM b k) (2 + k / 8) (k % 8) 1
def freshM (b n : Int) : List (List Int) :=
  let r := (2 + (b + 8 - 1) / 8).toNat
  setC (setC (setC (fmM b (r + n.toNat)) r 0 2) r 1 1) r 7 1
section
variable {P : Program} {w : World} {K : PySem.W.Frag} {mg : Str → Option Value} {base : Heap}
def sp_fresh (CI CP : Addr) : Sp := fun vs H Q _ => ∃ (pl : Addr) (b n s : Int), vs = [.ref pl] ∧ PlanAt CP H pl b n s ∧
  ∀ (H' : Hp) (im : Addr) (A : IA), Same H H' → H im = none → ImgAt CI CP H' im A (ofV b n (freshM b n) b.toNat) b n s → A.New H → A.pl = pl → Q (.ref im) H'
theorem ok_fresh (T : Tx K mg) : FnOk P w K mg base CX0 4 T.f_Image_fresh T.fd_Image_fresh ["plan"] (sp_fresh T.C_Image T.C_Plan) := by
  refine T.F_Image_fresh.ok sc_Image_fresh (fun vs H Q E h => ?_) (fun cdv A0 outer s H vs Q E hr h => ?_)
  · obtain ⟨_, _, _, _, rfl, _⟩ := h; rfl
  · obtain ⟨pl, b, n, sl, rfl, hP, k⟩ := h
    have hr1 : Room 1 _ := hr.mono (by decide)
    have hr2 : Room 2 _ := hr.mono (by decide)
    refine ⟨_, (pss_cons (ps_set (i := 1) sc_Image_fresh.nd rfl (.inl rfl) (pe_make T.mk_Image (ok_Image_init T) hr2 rfl T.mg_Image (b_Image___init__ T) .nil pass0 (pa_cons (pv 0) pa_nil)))
      (pss_cons (ps_for PassesOwn.never rfl (pi_range1 rfl T.b_range (pa_cons (pe_fld (pv 0) rfl) pa_nil)) (pg_name (i := 2) sc_Image_fresh.nd rfl (.inl rfl))
        (pss_cons (ps_asg (pe_meth (pv 0) T.cl_Plan T.m_Plan_map_place (ok_Plan_map_place T) hr1 (b_Plan_map_place T) .nil pass0 (pa_cons (pv 2) pa_nil)) (pg_tup rfl (pgs_cons (pg_name (i := 3) sc_Image_fresh.nd rfl (.inl rfl)) (pgs_cons (pg_name (i := 4) sc_Image_fresh.nd rfl (.inl rfl)) pgs_nil))))
        (pss_one (ps_asg (pe_cv T.mg_Plan T.cr_Plan T.cv_Plan_LOGGED) (pg_sub (pe_ix ix_list (pe_fld (pv 1) rfl) (pv 3) (fun _ _ => rfl)) (pv 4) set_list)))))
      (pss_cons (ps_set (i := 5) sc_Image_fresh.nd rfl (.inl rfl) (pe_ix ix_list (pe_fld (pv 1) rfl) (pe_meth (pv 0) T.cl_Plan T.m_Plan_node_block (ok_Plan_node_block T) hr1 (b_Plan_node_block T) .nil pass0 (pa_cons (pe_gc T.c_ROOT) pa_nil)) (fun _ _ => rfl)))
      (pss_cons (ps_asg (pe_gc T.c_FOLDER) (pg_sub (pv 5) (pe_gc T.c_KIND) set_list))
      (pss_cons (ps_asg pe_int (pg_sub (pv 5) (pe_gc T.c_LINKS) set_list))
      (pss_cons (ps_asg pe_int (pg_sub (pv 5) (pe_gc T.c_MAKING) set_list))
      (pss_one (ps_ret (pe_smeth T.mg_Image T.cr_Image T.sm_Image_of_cells (ok_of_cells T) hr (b_Image_of_cells T) .nil pass0 (pa_cons (pv 0) (pa_cons (pe_fld (pv 1) rfl) pa_nil))))))))))), ?_⟩
    obtain ⟨dxp, hpl⟩ := hP.ob
    have hb1 := hP.b1
    have hb2 := hP.b2
    have hd := hP.d
    have hn1 := hP.n1
    -- image = Image(plan)
    refine ⟨_, rfl, fun x dx nx ndx nex => ?_⟩
    have s1 : Same H (upd (upd H dx (.own x)) x (.ins T.C_Image dx [])) := (same_upd ndx).trans (same_upd (by rw [upd_ne nex.symm]; exact nx))
    refine ⟨x, dx, pl, b, n, sl, rfl, upd_same, hP.same s1, fun H1 A k1 I1 N1 eA => ⟨rfl, ?_⟩⟩
    have S1 : Same H H1 := fun y o e => k1 y o (s1 _ _ e) (ne_of_none e nx)
    have Nrs : ∀ q ∈ A.rs, H q = none := fun q hq => un (un (N1.rs q hq))
    have pr : pl ∉ A.rs := fun z => by rw [Nrs _ z] at hpl; cases hpl
    -- the map
    refine ⟨_, rfl, pl, _, dxp, _, _, rfl, S1 _ _ hpl, T.cl_Plan, T.na_Plan_first_data, rfl, _, rfl, by omega, by omega, for_range (lo := 0) (n := (2 + (b + 8 - 1) / 8 + n).toNat) (fun i σ H' => ∃ (u2 u3 u4 : Option V), σ = [some (.ref pl), some (.ref x), u2, u3, u4, none] ∧ ImgAt T.C_Image T.C_Plan H' x A { zeroV b with M := fmM b i } b n sl ∧ Same H H')
      ⟨_, _, _, rfl, I1, S1⟩ ?_ ?_⟩
    · rintro i σ H' hi ⟨u2, u3, u4, rfl, I, S⟩
      refine ⟨_, rfl, pl, dxp, _, rfl, S _ _ hpl, rfl, _, rfl, pl, b, n, sl, _, rfl, hP.same S, fun t ht => ?_⟩
      have st := same_upd (o := .tup [.int (2 + (0 + (i : Int)) / 8), .int ((0 + (i : Int)) % 8)]) ht
      refine ⟨t, _, rfl, .inl (.inl upd_same), rfl, _, _, rfl, _, _, rfl, rfl, ?_⟩
      have It := I.keep st
      have d0 := It.d0
      have hl : 2 + i / 8 < (fmM b i).length := by
        have : ((fmM b i).length : Int) = b := d0
        omega
      obtain ⟨r, hr1, hr2, _⟩ := It.gr.get (List.getElem?_eq_getElem hl)
      have h8 : ((fmM b i)[2 + i / 8]).length = 8 := It.d1 _ (List.getElem_mem hl)
      refine ⟨_, rfl, x, _, _, _, _, rfl, It.ob, T.cl_Image, T.na_Image_cells, rfl, _, rfl, A.ca, _, _, .ref r, rfl, rfl, .of It.gr.out, at_of (j := 2 + i / 8) (by omega) (by rw [List.getElem?_map, hr1]; rfl), _, rfl, r, _, _, i % 8, rfl, rfl, hr2, ixN_nat (by omega) (by rw [List.length_map, h8]; omega), ?_⟩
      refine ⟨_, _, _, rfl, It.setC (j := i % 8) (x := 1) hr1 (List.getElem?_eq_getElem hl), fun y o e => ?_⟩
      rw [upd_ne (ne_of_none e (Nrs r (List.mem_of_getElem? hr1)))]
      exact st _ _ (S _ _ e)
    · rintro σ H' ⟨u2, u3, u4, rfl, I, S⟩
      have d0 := I.d0
      -- root = ..
      have hl : (2 + (b + 8 - 1) / 8).toNat < (fmM b (2 + (b + 8 - 1) / 8 + n).toNat).length := by
        have : ((fmM b (2 + (b + 8 - 1) / 8 + n).toNat).length : Int) = b := d0
        omega
      obtain ⟨r, hr1, hr2, _⟩ := I.gr.get (List.getElem?_eq_getElem hl)
      generalize hm : (fmM b (2 + (b + 8 - 1) / 8 + n).toNat)[(2 + (b + 8 - 1) / 8).toNat] = m at hr2
      have hm' : (fmM b (2 + (b + 8 - 1) / 8 + n).toNat)[(2 + (b + 8 - 1) / 8).toNat]? = some m := by rw [List.getElem?_eq_getElem hl, hm]
      have h8 : m.length = 8 := I.d1 _ (List.mem_of_getElem? hm')
      refine ⟨_, rfl, x, _, _, _, _, rfl, I.ob, T.cl_Image, T.na_Image_cells, rfl, _, rfl, pl, dxp, _, rfl, S _ _ hpl, rfl, pl, b, n, sl, 1, rfl, hP.same S, A.ca, _, _, .ref r, rfl, rfl, .of I.gr.out, at_of (j := (2 + (b + 8 - 1) / 8).toNat) (by omega) (by rw [List.getElem?_map, hr1]; rfl), ?_⟩
      refine ⟨_, rfl, r, _, _, 0, rfl, rfl, hr2, ixN_nat rfl (by rw [List.length_map, h8]; omega), ?_⟩
      have I1 := I.setC (j := 0) (x := 2) hr1 hm'
      refine ⟨_, rfl, r, _, _, 1, rfl, rfl, upd_same, ixN_nat rfl (by simp [h8]), ?_⟩
      have e1 : (m.map V.int).set 0 (V.int 2) = (m.set 0 2).map V.int := List.map_set.symm
      rw [e1] at I1 ⊢
      have I2 := I1.setC (j := 1) (x := 1) hr1 (setC_at hm')
      refine ⟨_, rfl, r, _, _, 7, rfl, rfl, upd_same, ixN_nat rfl (by simp [h8]), ?_⟩
      have e2 : ((m.set 0 2).map V.int).set 1 (V.int 1) = ((m.set 0 2).set 1 1).map V.int := List.map_set.symm
      rw [e2] at I2 ⊢
      have I3 := I2.setC (j := 7) (x := 1) hr1 (setC_at (setC_at hm'))
      rw [upd_upd, upd_upd]
      rw [upd_upd, upd_upd] at I3
      generalize hHf : upd H' r (.lst ((((m.set 0 2).set 1 1).map V.int).set 7 (V.int 1))) = Hf at I3 ⊢
      have Sf : Same H Hf := fun y o e => by
        rw [← hHf, upd_ne (ne_of_none e (Nrs r (List.mem_of_getElem? hr1)))]
        exact S _ _ e
      have eM : freshM b n = setC (setC (setC (fmM b (2 + (b + 8 - 1) / 8 + n).toNat) (2 + (b + 8 - 1) / 8).toNat 0 2) (2 + (b + 8 - 1) / 8).toNat 1 1) (2 + (b + 8 - 1) / 8).toNat 7 1 := by
        unfold freshM
        rw [show (2 + (b + 8 - 1) / 8 + n).toNat = (2 + (b + 8 - 1) / 8).toNat + n.toNat by omega]
      refine ⟨_, rfl, _, rfl, x, _, _, _, _, rfl, I3.ob, T.cl_Image, T.na_Image_cells, rfl, pl, A.ca, A.rs, _, b, n, sl, rfl, hP.same Sf, I3.gr, I3.d0, I3.d1, fun H2 im A2 S2 nim I2 N2 eA2 => ?_⟩
      have fr : ∀ y, Hf y = none → H y = none := fun y e => Sf.free e
      refine k H2 im A2 (Sf.trans S2) (fr _ nim) ?_ ⟨fr _ N2.ca, fun q hq => fr _ (N2.rs q hq), fr _ N2.ho, fr _ N2.st, fr _ N2.hd⟩ eA2
      rw [eM]
      exact I2
end
end K39
namespace K39
open PySem PySem.Spec PyProof.Rows L2 Rg
section
variable {P : Program} {w : World} {K : PySem.W.Frag} {mg : Str → Option Value} {base : Heap}
def sp_twin (CI CP : Addr) : Sp := fun vs H Q _ => ∃ (im : Addr) (A : IA) (v : IV) (b n s : Int), vs = [.ref im] ∧ ImgAt CI CP H im A v b n s ∧
  ∀ (H' : Hp) (im' : Addr) (A' : IA), Same H H' → H im' = none → ImgAt CI CP H' im' A' v b n s → A'.New H → A'.pl = A.pl → A'.ba = A.ba → Q (.ref im') H'
theorem ok_twin (T : Tx K mg) : FnOk P w K mg base CX0 3 T.f_Image_twin T.fd_Image_twin ["self"] (sp_twin T.C_Image T.C_Plan) := by
  refine T.F_Image_twin.ok sc_Image_twin (fun vs H Q E h => ?_) (fun cdv A0 outer s H vs Q E hr h => ?_)
  · obtain ⟨_, _, _, _, _, _, rfl, _⟩ := h; rfl
  · obtain ⟨im, A, v, b, n, sl, rfl, I, k⟩ := h
    refine ⟨_, (pss_cons (ps_set (i := 1) sc_Image_twin.nd rfl (.inl rfl) (pe_make T.mk_Image (ok_Image_init T) hr rfl T.mg_Image (b_Image___init__ T) .nil pass0 (pa_cons (pe_fld (pv 0) rfl) pa_nil)))
      (pss_cons (ps_fld (pv 1) (pe_lc rfl (own := [("row", 2)]) (g := gName 2) (tt := tYes) sc_Image_twin.nd (pi_list (pe_fld (pv 0) rfl)) (blkOk_by (N := ["self", "other", "row"]) (sc := defScope s_Image_twin) (by decide +kernel)) (fun _ _ _ _ _ => pg_name (i := 2) sc_Image_twin.nd rfl (Or.inl rfl)) (fun _ _ _ _ _ => pts_nil) (fun _ _ _ _ _ => (pe_listof (K := K) (pv 2) T.b_list))) rfl)
      (pss_cons (ps_fld (pv 1) (pe_listof (K := K) (pe_fld (pv 0) rfl) T.b_list) rfl)
      (pss_cons (ps_fld (pv 1) (pe_listof (K := K) (pe_fld (pv 0) rfl) T.b_list) rfl)
      (pss_cons (ps_fld (pv 1) (pe_callTy call_dictD rfl T.b_dict (by decide +kernel) (pa_cons (pe_fld (pv 0) rfl) pa_nil)) rfl)
      (pss_cons (ps_fld (pv 1) (pe_fld (pv 0) rfl) rfl)
      (pss_cons (ps_fld (pv 1) (pe_fld (pv 0) rfl) rfl)
      (pss_cons (ps_fld (pv 1) (pe_fld (pv 0) rfl) rfl)
      (pss_one (ps_ret (pv 1))))))))))), ?_⟩
    obtain ⟨dxp, hpl⟩ := I.pl.ob
    have hb1 := I.pl.b1
    have hb2 := I.pl.b2
    -- other = Image(self.plan)
    refine ⟨_, rfl, im, _, _, _, _, rfl, I.ob, T.cl_Image, T.na_Image_plan, rfl, fun x dx nx ndx nex => ?_⟩
    have s1 : Same H (upd (upd H dx (.own x)) x (.ins T.C_Image dx [])) := (same_upd ndx).trans (same_upd (by rw [upd_ne nex.symm]; exact nx))
    refine ⟨x, dx, A.pl, b, n, sl, rfl, upd_same, I.pl.same s1, fun H1 A1 k1 I1 N1 eA => ⟨rfl, ?_⟩⟩
    have S1 : Same H H1 := fun y o e => k1 y o (s1 _ _ e) (ne_of_none e nx)
    have J1 := I.keep S1
    -- other.cells
    refine ⟨_, rfl, im, _, _, _, _, rfl, J1.ob, T.cl_Image, T.na_Image_cells, rfl, A.ca, rfl, ⟨_, .of J1.gr.out⟩, fun D hD => ?_⟩
    refine lc_list (K := K) (a := A.ca) (xs := A.rs.map V.ref) (fun i H' => ∃ qs, NewGrid H1 H' D qs (v.M.take i))
      ⟨[], NewGrid.start (Same.refl _) hD hD⟩ (fun i H' _ ⟨qs, G⟩ => .of (G.same _ _ J1.gr.out)) ?_ ?_
    · rintro i y H' hi ⟨qs, G⟩
      have hil : i < A.rs.length := by
        have := (List.getElem?_eq_some_iff.mp hi).1
        rw [List.length_map] at this
        exact this
      rw [List.getElem?_map, List.getElem?_eq_getElem hil] at hi
      have hi : V.ref A.rs[i] = y := Option.some.inj hi
      subst hi
      have hiR : i < v.M.length := by rw [← J1.gr.len]; exact hil
      have hrow := G.same _ _ (J1.gr.row i A.rs[i] v.M[i] (List.getElem?_eq_getElem hil) (List.getElem?_eq_getElem hiR))
      have d0 := I.d0
      refine ⟨rfl, ?_⟩
      refine yes_ ?_
      refine ⟨_, rfl, A.rs[i], _, rfl, .inl (.of hrow), fun q hq => ?_⟩
      refine ⟨_, by rw [upd_ne (ne_of_none G.grid.out hq)]; exact G.grid.out, ?_, qs ++ [q], ?_⟩
      · rw [List.length_map, G.grid.len, List.length_take]
        exact small1000 (by omega)
      · rw [List.take_succ, List.getElem?_eq_getElem hiR]
        exact G.snoc (same_upd hq) hq upd_same
    rintro H2 ⟨qs, G⟩
    rw [List.length_map, J1.gr.len, List.take_length] at G
    have I2 : ImgAt T.C_Image T.C_Plan H2 x A1 (zeroV b) b n sl := I1.keep G.same
    have J2 := J1.keep G.same
    have nix : im ≠ x := ne_of_none I.ob nx
    refine ⟨_, rfl, x, _, _, _, rfl, I2.ob, T.cl_Image, T.na_Image_cells, (by show 8 < 1000; decide), ?_⟩
    generalize hH3 : upd H2 x _ = H3
    obtain ⟨e3, k3, n3⟩ := own_f hH3
    have o3 := k3.at1 J2.ob nix
    have nxho : A.ho ≠ x := ne_of_none I.ho nx
    have nxst : A.st ≠ x := ne_of_none I.st nx
    have nxhd : A.hd ≠ x := ne_of_none I.hd nx
    -- other.holdings
    refine ⟨_, rfl, im, _, _, _, _, rfl, o3, T.cl_Image, T.na_Image_holdings, rfl, A.ho, _, rfl, .inl (.of (k3.at1 J2.ho nxho)), fun ho hho => ?_⟩
    generalize hH4 : upd H3 ho _ = H4
    obtain ⟨e4, s4, n4⟩ := new_f hH4 hho
    refine ⟨_, rfl, x, _, _, _, rfl, s4 _ _ e3, T.cl_Image, T.na_Image_holdings, (by show 8 < 1000; decide), ?_⟩
    generalize hH5 : upd H4 x _ = H5
    obtain ⟨e5, k5, n5⟩ := own_f hH5
    have o5 := k5.at1 (s4 _ _ o3) nix
    have nhox : ho ≠ x := (ne_of_none e3 hho).symm
    have ho5 := k5.at1 e4 nhox
    -- other.stamps
    refine ⟨_, rfl, im, _, _, _, _, rfl, o5, T.cl_Image, T.na_Image_stamps, rfl, A.st, _, rfl, .inl (.of (k5.at1 (s4 _ _ (k3.at1 J2.st nxst)) nxst)), fun st hst => ?_⟩
    generalize hH6 : upd H5 st _ = H6
    obtain ⟨e6, s6, n6⟩ := new_f hH6 hst
    refine ⟨_, rfl, x, _, _, _, rfl, s6 _ _ e5, T.cl_Image, T.na_Image_stamps, (by show 8 < 1000; decide), ?_⟩
    generalize hH7 : upd H6 x _ = H7
    obtain ⟨e7, k7, n7⟩ := own_f hH7
    have o7 := k7.at1 (s6 _ _ o5) nix
    have nstx : st ≠ x := (ne_of_none e5 hst).symm
    have nstho : st ≠ ho := (ne_of_none ho5 hst).symm
    have st7 := k7.at1 e6 nstx
    have ho7 := k7.at1 (s6 _ _ ho5) nhox
    -- other.handles
    have hd7 := k7.at1 (s6 _ _ (k5.at1 (s4 _ _ (k3.at1 J2.hd nxhd)) nxhd)) nxhd
    refine ⟨_, rfl, im, _, _, _, _, rfl, o7, T.cl_Image, T.na_Image_handles, rfl, A.hd, _, rfl, .inl hd7, fun hd hhd => ?_⟩
    generalize hH8 : upd H7 hd _ = H8
    obtain ⟨e8, s8, n8⟩ := new_f hH8 hhd
    refine ⟨_, rfl, x, _, _, _, rfl, s8 _ _ e7, T.cl_Image, T.na_Image_handles, (by show 8 < 1000; decide), ?_⟩
    generalize hH9 : upd H8 x _ = H9
    obtain ⟨e9, k9, n9⟩ := own_f hH9
    have nhdx : hd ≠ x := (ne_of_none e7 hhd).symm
    have o9 := k9.at1 (s8 _ _ o7) nix
    -- serial, wish, barred
    refine ⟨_, rfl, im, _, _, _, _, rfl, o9, T.cl_Image, T.na_Image_serial, rfl, _, rfl, x, _, _, _, rfl, e9, T.cl_Image, T.na_Image_serial, (by show 8 < 1000; decide), ?_⟩
    generalize hH10 : upd H9 x _ = H10
    obtain ⟨e10, k10, n10⟩ := own_f hH10
    refine ⟨_, rfl, im, _, _, _, _, rfl, k10.at1 o9 nix, T.cl_Image, T.na_Image_wish, rfl, _, rfl, x, _, _, _, rfl, e10, T.cl_Image, T.na_Image_wish, (by show 8 < 1000; decide), ?_⟩
    generalize hH11 : upd H10 x _ = H11
    obtain ⟨e11, k11, n11⟩ := own_f hH11
    refine ⟨_, rfl, im, _, _, _, _, rfl, k11.at1 (k10.at1 o9 nix) nix, T.cl_Image, T.na_Image_barred, rfl, _, rfl, x, _, _, _, rfl, e11, T.cl_Image, T.na_Image_barred, (by show 8 < 1000; decide), ?_⟩
    generalize hH12 : upd H11 x _ = H12
    obtain ⟨e12, k12, n12⟩ := own_f hH12
    have k9' : Kp [x] H9 H12 := (k10.trans k11).trans k12
    have k2' : Kp [x] H2 H12 := (((((k3.same s4).trans k5).same s6).trans k7).same s8).trans (k9.trans k9')
    have S12 : Same H H12 := fun y o e => k2'.at1 (G.same _ _ (S1 _ _ e)) (ne_of_none e nx)
    have N1' : ∀ y, H1 y = none → H y = none := fun y e => S1.free e
    have f_ho : H2 ho = none := (n3 _ hho).1
    have f_st : H2 st = none := (n3 _ (n4 _ (n5 _ hst).1).1).1
    have f_hd : H2 hd = none := (n3 _ (n4 _ (n5 _ (n6 _ (n7 _ hhd).1).1).1).1).1
    have fr : ∀ y, H2 y = none → H y = none := fun y e => N1' _ (G.same.free e)
    have xD : x ≠ D := ne_of_none I1.ob G.freshD
    have xq : x ∉ qs := (G.nin0 I1.ob).2
    have qn : ∀ y, H2 y = none → y ∉ qs := fun y e hq => by
      obtain ⟨o, z⟩ := G.grid.held hq
      rw [e] at z
      cases z
    refine ⟨_, rfl, k H12 x ⟨A1.dx, A1.pl, D, qs, ho, st, hd, A.ba⟩ S12 nx
      { ob := e12, pl := ?_, gr := G.grid.keep fun y o hy e => k2'.at1 e ?_, ho := k9'.at1 (k9.at1 (s8 _ _ ho7) nhox) nhox, st := k9'.at1 (k9.at1 (s8 _ _ st7) nstx) nstx, hd := k9'.at1 (k9.at1 e8 nhdx) nhdx, ba := S12 _ _ I.ba, n1 := qn _ f_ho, n2 := qn _ f_st, n3 := nstho.symm, n4 := ne_of_none G.grid.out f_ho, n5 := ne_of_none G.grid.out f_st, d0 := I.d0, d1 := I.d1, d2 := I.d2, d3 := I.d3 }
      ⟨N1' _ G.freshD, fun q hq => N1' _ (G.fresh q hq), fr _ f_ho, fr _ f_st, fr _ f_hd⟩ eA rfl⟩
    · show PlanAt T.C_Plan H12 A1.pl b n sl
      rw [eA]
      exact I.pl.same S12
    · rcases hy with rfl | hy
      · exact xD.symm
      · exact fun z => xq (by rw [← z]; exact hy)
end
end K39
namespace K39
open PySem PySem.Spec PyProof.Rows L2 Rg
/-- what an image is read from -/
def IA.reads (A : IA) (im : Addr) : List Addr := im :: A.pl :: A.ca :: A.ho :: A.st :: A.hd :: A.ba :: A.rs
section
variable {CI CP : Addr} {H : Hp} {im : Addr} {A : IA} {v : IV} {b n s : Int}
theorem ImgAt.keepF {H' : Hp} (I : ImgAt CI CP H im A v b n s) (h : ∀ x o, x ∈ A.reads im → H x = some o → H' x = some o) : ImgAt CI CP H' im A v b n s :=
  { I with ob := h _ _ (by simp [IA.reads]) I.ob, pl := I.pl.of fun o e => h _ _ (by simp [IA.reads]) e, gr := I.gr.keep fun x o hx e => h _ _ (by rcases hx with rfl | hx <;> simp [IA.reads, *]) e, ho := h _ _ (by simp [IA.reads]) I.ho, st := h _ _ (by simp [IA.reads]) I.st, hd := h _ _ (by simp [IA.reads]) I.hd, ba := h _ _ (by simp [IA.reads]) I.ba }
theorem ImgAt.held (I : ImgAt CI CP H im A v b n s) {x : Addr} (h : x ∈ A.reads im) : ∃ o, H x = some o := by
  obtain ⟨dxp, hpl⟩ := I.pl.ob
  simp only [IA.reads, List.mem_cons] at h
  rcases h with rfl | rfl | rfl | rfl | rfl | rfl | rfl | h
  · exact ⟨_, I.ob⟩
  · exact ⟨_, hpl⟩
  · exact ⟨_, I.gr.out⟩
  · exact ⟨_, I.ho⟩
  · exact ⟨_, I.st⟩
  · exact ⟨_, I.hd⟩
  · exact ⟨_, I.ba⟩
  · exact I.gr.held h
/-- the fields of begin -/
theorem ImgAt.beg {t : Addr} {se wi : Int} {bs : List Int} (I : ImgAt CI CP H im A v b n s) (ht : H t = some (.tup (bs.map V.int))) :
    ImgAt CI CP (upd H im (.ins CI A.dx (imgF { A with ba := t } { v with se := se, wi := wi, ba := bs }))) im { A with ba := t } { v with se := se, wi := wi, ba := bs } b n s := by
  obtain ⟨dxp, hpl⟩ := I.pl.ob
  have oc := I.ob
  refine { I with ob := upd_same, pl := I.pl.of fun o e => ?_, gr := I.gr.keep fun y o hy e => ?_, ho := ?_, st := ?_, hd := ?_, ba := ?_ }
  · rw [upd_ne (fun z : A.pl = im => ?_)]
    · exact e
    · rw [z, oc] at hpl
      have := HO.ins.inj (Option.some.inj hpl)
      have := this.2.2
      simp [planF, imgF] at this
  · rw [upd_ne]
    · exact e
    · rcases hy with rfl | hy
      · exact ne_of I.gr.out oc (by intro z; cases z)
      · rintro rfl
        obtain ⟨i, hi, e2⟩ := List.getElem_of_mem hy
        have hm : i < v.M.length := by rw [← I.gr.len]; exact hi
        have := I.gr.row i y v.M[i] (by rw [List.getElem?_eq_getElem hi, e2]) (List.getElem?_eq_getElem hm)
        rw [oc] at this
        cases this
  · rw [upd_ne (ne_of I.ho oc (by intro z; cases z))]; exact I.ho
  · rw [upd_ne (ne_of I.st oc (by intro z; cases z))]; exact I.st
  · rw [upd_ne (ne_of I.hd oc (by intro z; cases z))]; exact I.hd
  · rw [upd_ne (ne_of ht oc (by intro z; cases z))]; exact ht
end
/-- places that stand apart, each with what it holds -/
structure Fr (L : List (Addr × HO)) (H : Hp) : Prop where
  at_ : ∀ p ∈ L, H p.1 = some p.2
  nd : (L.map (·.1)).Nodup
theorem Fr.get {L : List (Addr × HO)} {H : Hp} (F : Fr L H) (i : Nat) {a : Addr} {o : HO} (h : L[i]? = some (a, o)) : H a = some o := F.at_ _ (List.mem_of_getElem? h)
theorem Fr.keep {L : List (Addr × HO)} {H H' : Hp} (F : Fr L H) (h : ∀ p ∈ L, ∀ o, H p.1 = some o → H' p.1 = some o) : Fr L H' := ⟨fun p hp => h p hp _ (F.at_ p hp), F.nd⟩
theorem Fr.same {L : List (Addr × HO)} {H H' : Hp} (F : Fr L H) (h : Same H H') : Fr L H' := F.keep fun _ _ _ e => h _ _ e
theorem Fr.put {L : List (Addr × HO)} {H : Hp} (F : Fr L H) (i : Nat) {a : Addr} {o o' : HO} (h : L[i]? = some (a, o)) : Fr (L.set i (a, o')) (upd H a o') := by
  have hi : i < L.length := (List.getElem?_eq_some_iff.mp h).1
  have e : (L.set i (a, o')).map (·.1) = L.map (·.1) := by
    apply List.ext_getElem?
    intro j
    rw [List.getElem?_map, List.getElem?_map]
    by_cases q : i = j
    · subst q
      rw [List.getElem?_set_self hi, h]
      rfl
    · rw [List.getElem?_set_ne q]
  refine ⟨fun p hp => ?_, by rw [e]; exact F.nd⟩
  obtain ⟨j, hj, ej⟩ := List.getElem_of_mem hp
  by_cases q : i = j
  · subst q
    rw [List.getElem_set_self] at ej
    rw [← ej]
    exact upd_same
  · rw [List.getElem_set_ne q] at ej
    have hjl : j < L.length := by rw [List.length_set] at hj; exact hj
    have hpL : p ∈ L := by rw [← ej]; exact List.getElem_mem hjl
    rw [upd_ne]
    · exact F.at_ p hpL
    · intro z
      have n1 : (L.map (·.1))[i]? = some a := by rw [List.getElem?_map, h]; rfl
      have n2 : (L.map (·.1))[j]? = some a := by rw [List.getElem?_map, List.getElem?_eq_getElem hjl, ej, ← z]; rfl
      have il : i < (L.map (·.1)).length := by rw [List.length_map]; exact hi
      have jl : j < (L.map (·.1)).length := by rw [List.length_map]; exact hjl
      rw [List.getElem?_eq_getElem il] at n1
      rw [List.getElem?_eq_getElem jl] at n2
      exact q ((List.getElem_inj F.nd).mp ((Option.some.inj n1).trans (Option.some.inj n2).symm))
theorem Fr.held {L : List (Addr × HO)} {H : Hp} (F : Fr L H) {a : Addr} (h : H a = none) : ∀ p ∈ L, p.1 ≠ a := fun p hp z => by
  have := F.at_ p hp
  rw [z, h] at this
  cases this
/-- one more, at a new place -/
theorem Fr.cons {L : List (Addr × HO)} {H : Hp} (F : Fr L H) {a : Addr} {o : HO} (h : H a = none) : Fr ((a, o) :: L) (upd H a o) := by
  refine ⟨fun p hp => ?_, ?_⟩
  · rcases List.mem_cons.mp hp with rfl | hp
    · exact upd_same
    · rw [upd_ne (F.held h p hp)]
      exact F.at_ p hp
  · rw [List.map_cons, List.nodup_cons]
    refine ⟨fun z => ?_, F.nd⟩
    obtain ⟨p, hp, e⟩ := List.mem_map.mp z
    exact F.held h p hp e
theorem Fr.nil {H : Hp} : Fr [] H := ⟨fun _ h => absurd h List.not_mem_nil, List.nodup_nil⟩
/-- an image, and places apart from it -/
structure SI (CI CP : Addr) (H : Hp) (im : Addr) (A : IA) (v : IV) (b n s : Int) (L : List (Addr × HO)) : Prop where
  I : ImgAt CI CP H im A v b n s
  F : Fr L H
  ap : ∀ p ∈ L, p.1 ∉ A.reads im
section
variable {CI CP : Addr} {H : Hp} {im : Addr} {A : IA} {v : IV} {b n s : Int} {L : List (Addr × HO)}
theorem SI.same {H' : Hp} (S : SI CI CP H im A v b n s L) (h : Same H H') : SI CI CP H' im A v b n s L := ⟨S.I.keep h, S.F.same h, S.ap⟩
theorem SI.put (S : SI CI CP H im A v b n s L) (i : Nat) {a : Addr} {o o' : HO} (h : L[i]? = some (a, o)) : SI CI CP (upd H a o') im A v b n s (L.set i (a, o')) := by
  have ha := S.ap _ (List.mem_of_getElem? h)
  refine ⟨S.I.keepF fun x q hx e => ?_, S.F.put i h, fun p hp => ?_⟩
  · rw [upd_ne fun z => ha (by rw [← z]; exact hx)]
    exact e
  · rcases mem_set_of hp with e | e
    · rw [e]; exact ha
    · exact S.ap p e
/-- the image changed, at its own places -/
theorem SI.img {H' : Hp} {A' : IA} {v' : IV} (S : SI CI CP H im A v b n s L) (I' : ImgAt CI CP H' im A' v' b n s) (k : Kp (A.reads im) H H') (hr : ∀ x ∈ A'.reads im, x ∈ A.reads im ∨ H x = none) : SI CI CP H' im A' v' b n s L :=
  ⟨I', S.F.keep fun p hp o e => k _ _ e (S.ap p hp), fun p hp z => by
    rcases hr _ z with e | e
    · exact S.ap p hp e
    · exact S.F.held e p hp rfl⟩
end
section
variable {X : Cx}
def rGetL (K : PySem.W.Frag) : V → V → Hp → VK → Prop := fun x y H Q => ∃ p xs j v, x = .ref p ∧ y = .int ((j : Nat) : Int) ∧ SqL K H p xs ∧ xs[j]? = some v ∧ Q v H
theorem get_list : PGet X (rGetL X.K) := by
  intro pins s σ H o i ov iv Q I ro ri h
  obtain ⟨p, xs, j, v, rfl, rfl, hq, he, q⟩ := h
  cases ro
  obtain ⟨t, rfl⟩ := ri
  obtain ⟨its, r, pl, hz⟩ := I.list hq
  obtain ⟨w, ew, rw'⟩ := r.get he
  have hn := line63
  have hl := r.length
  have hj := (List.getElem?_eq_some_iff.mp he).1
  exact wpAny_getItem_list pl.isList (by omega) (by omega) (by simpa using ew) ⟨v, H, I, rw', q⟩
end
section
variable {P : Program} {w : World} {K : PySem.W.Frag} {mg : Str → Option Value} {base : Heap}
/-! ### begin -/
def sp_begin (CI CP : Addr) : Sp := fun vs H Q _ => ∃ (im : Addr) (A : IA) (v : IV) (b n s wi : Int) (q : Addr) (bs : List Int), vs = [.ref im, .int wi, .ref q] ∧ ImgAt CI CP H im A v b n s ∧ (H q = some (.lst (bs.map V.int)) ∨ H q = some (.tup (bs.map V.int))) ∧
  ∀ (H' : Hp) (t : Addr), ImgAt CI CP H' im { A with ba := t } { v with se := v.se + 1, wi := wi, ba := bs } b n s → Kp [im] H H' → (H t = none ∨ t = q) → Q .non H'
theorem ok_begin (T : Tx K mg) : FnOk P w K mg base CX0 1 T.f_Image_begin T.fd_Image_begin ["self", "wish", "barred"] (sp_begin T.C_Image T.C_Plan) := by
  refine T.F_Image_begin.ok sc_Image_begin (fun vs H Q E h => ?_) (fun cdv A0 outer s H vs Q E hr h => ?_)
  · obtain ⟨_, _, _, _, _, _, _, _, _, rfl, _⟩ := h; rfl
  · obtain ⟨im, A, v, b, n, sl, wi, q, bs, rfl, I, hq, k⟩ := h
    refine ⟨_, (pss_cons (ps_fldaug (pv 0) pe_int in_add)
      (pss_cons (ps_fld (pv 0) (pv 1) rfl)
      (pss_one (ps_fld (pv 0) (pe_callTy call_tuple_of rfl T.b_tuple (by decide +kernel) (pa_cons (pv 2) pa_nil)) rfl)))), ?_⟩
    refine ⟨_, rfl, im, _, _, _, _, rfl, I.ob, T.cl_Image, T.na_Image_serial, rfl, _, _, rfl, rfl, _, _, I.ob, (by show 8 < 1000; decide), ?_⟩
    refine ⟨_, rfl, _, rfl, im, _, _, _, rfl, upd_same, T.cl_Image, T.na_Image_wish, (by show 8 < 1000; decide), ?_⟩
    rw [upd_upd]
    have k0 : ∀ o, Kp [im] H (upd H im o) := fun o => Kp.refl.own1
    have qn : q ≠ im := fun z => by
      rw [z, I.ob] at hq
      rcases hq with e | e <;> cases e
    refine ⟨_, rfl, q, bs.map V.int, rfl, ?_⟩
    rcases hq with hq | hq
    · refine .inl ⟨.of ((k0 _).at1 hq qn), fun t ht => ?_⟩
      refine ⟨_, rfl, im, _, A.dx, _, rfl, (by rw [upd_ne (unn' ht), upd_same]), T.cl_Image, T.na_Image_barred, (by show 8 < 1000; decide), ?_⟩
      have ti := unn' ht
      have t0 := un ht
      have e1 : ∀ o1 o2 o3, upd (upd (upd H im o1) t o2) im o3 = upd (upd H t o2) im o3 := fun o1 o2 o3 => by
        rw [upd_comm ti, upd_upd]
      rw [e1]
      exact k _ t ((I.keep (same_upd t0)).beg upd_same) ((Kp.of (same_upd t0)).own1) (.inl t0)
    · refine .inr ⟨.of ((k0 _).at1 hq qn), ?_⟩
      refine ⟨_, rfl, im, _, A.dx, _, rfl, upd_same, T.cl_Image, T.na_Image_barred, (by show 8 < 1000; decide), ?_⟩
      rw [upd_upd]
      exact k _ q (I.beg hq) (k0 _) (.inr rfl)
/-! ### data_blocks, free_blocks, identity -/
def rng (lo : Int) (n : Nat) : List Int := (List.range n).map fun i => lo + (i : Nat)
theorem rng_succ {lo : Int} {n : Nat} : rng lo (n + 1) = rng lo n ++ [lo + n] := by
  unfold rng
  rw [List.range_succ, List.map_append]
  rfl
theorem rng_len {lo : Int} {n : Nat} : (rng lo n).length = n := by unfold rng; simp
theorem rng_get {lo : Int} {n i : Nat} (h : i < n) : (rng lo n)[i]? = some (lo + i) := by
  unfold rng
  rw [List.getElem?_map, List.getElem?_range h]
  rfl
theorem rng_mem {lo x : Int} {n : Nat} (h : x ∈ rng lo n) : lo ≤ x ∧ x < lo + n := by
  unfold rng at h
  obtain ⟨i, hi, e⟩ := List.mem_map.mp h
  rw [List.mem_range] at hi
  omega
theorem rgV_rng (a b : Int) : rgV a b = (rng a (b - a).toNat).map V.int := by
  unfold rgV rng
  rw [List.map_map]
  rfl
def sp_data_blocks (CP : Addr) : Sp := fun vs H Q _ => ∃ (p : Addr) (b n s : Int), vs = [.ref p] ∧ PlanAt CP H p b n s ∧ ∀ q, H q = none → Q (.ref q) (upd H q (.lst ((rng (2 + (b + 8 - 1) / 8 + n) (b - (2 + (b + 8 - 1) / 8 + n)).toNat).map V.int)))
theorem ok_data_blocks (T : Tx K mg) : FnOk P w K mg base CX0 1 T.f_Plan_data_blocks T.fd_Plan_data_blocks ["self"] (sp_data_blocks T.C_Plan) := by
  refine T.F_Plan_data_blocks.ok sc_Plan_data_blocks (fun vs H Q E h => ?_) (fun cdv A0 outer s H vs Q E hr h => ?_)
  · obtain ⟨_, _, _, _, rfl, _⟩ := h; rfl
  · obtain ⟨p, b, n, sl, rfl, hP, k⟩ := h
    refine ⟨_, (pss_one (ps_ret (pe_listRg rfl rfl T.b_list (prg_2 rfl T.b_range (pe_fld (pv 0) rfl) (pe_fld (pv 0) rfl))))), ?_⟩
    obtain ⟨dxp, hpl⟩ := hP.ob
    have b1 := hP.b1
    have b2 := hP.b2
    have n1 := hP.n1
    have n2 := hP.n2
    refine ⟨_, rfl, p, _, dxp, _, _, rfl, hpl, T.cl_Plan, T.na_Plan_first_data, rfl, _, rfl, p, _, dxp, _, _, rfl, hpl, T.cl_Plan, T.na_Plan_blocks, rfl, _, _, rfl, rfl, ⟨by omega, by omega, by omega, by omega, by omega⟩, fun q hq => ?_⟩
    rw [rgV_rng]
    exact k q hq
def fdOf (b n : Int) : Int := 2 + (b + 8 - 1) / 8 + n
/-- the free data blocks -/
def freeL (b n : Int) (M : List (List Int)) : List Int := (rng (fdOf b n) (b - fdOf b n).toNat).filter fun x => decide (kindOf b n M x = 0)
def sp_free_blocks (CI CP : Addr) : Sp := fun vs H Q _ => ∃ (im : Addr) (A : IA) (v : IV) (b n s : Int), vs = [.ref im] ∧ ImgAt CI CP H im A v b n s ∧ ∀ H' p, Same H H' → H p = none → H' p = some (.lst ((freeL b n v.M).map V.int)) → Q (.ref p) H'
theorem filt_len {l : List Int} {p : Int → Bool} {m : Nat} (h : l.length ≤ m) : (l.filter p).length ≤ m := Nat.le_trans (List.length_filter_le _ _) h
theorem take_get {l : List Int} {i : Nat} {x : Int} (h : l[i]? = some x) : l.take (i + 1) = l.take i ++ [x] := by
  rw [List.take_succ, h]
  rfl
theorem ok_free_blocks (T : Tx K mg) : FnOk P w K mg base CX0 3 T.f_Image_free_blocks T.fd_Image_free_blocks ["self"] (sp_free_blocks T.C_Image T.C_Plan) := by
  refine T.F_Image_free_blocks.ok sc_Image_free_blocks (fun vs H Q E h => ?_) (fun cdv A0 outer s H vs Q E hr h => ?_)
  · obtain ⟨_, _, _, _, _, _, rfl, _⟩ := h; rfl
  · obtain ⟨im, A, v, b, n, sl, rfl, I, k⟩ := h
    have hr1 : Room 1 _ := hr.mono (by decide)
    refine ⟨_, (pss_one (ps_ret (pe_lc rfl (own := [("x", 1)]) (g := gName 1) (tt := _) sc_Image_free_blocks.nd (pi_list (pe_meth0 (pe_fld (pv 0) rfl) T.cl_Plan T.m_Plan_data_blocks (ok_data_blocks T) hr1 (b_Plan_data_blocks T) .nil pass0)) (blkOk_by (N := ["self", "x"]) (sc := defScope s_Image_free_blocks) (by decide +kernel)) (fun _ _ _ _ _ => pg_name (i := 1) sc_Image_free_blocks.nd rfl (Or.inl rfl)) (fun _ _ _ _ _ => pts_one (pt_cmpR op_eq (pe_meth (pv 0) T.cl_Image T.m_Image_kind (ok_Image_kind T) hr (b_Image_kind T) .nil pass0 (pa_cons (pv 1) pa_nil)) (pe_cv T.mg_Plan T.cr_Plan T.cv_Plan_FREE) (nomark _))) (fun _ _ _ _ _ => (pv 1))))), ?_⟩
    obtain ⟨dxp, hpl⟩ := I.pl.ob
    have b1 := I.pl.b1
    have b2 := I.pl.b2
    have n1 := I.pl.n1
    refine ⟨_, rfl, im, _, _, _, _, rfl, I.ob, T.cl_Image, T.na_Image_plan, rfl, A.pl, dxp, _, rfl, hpl, rfl, A.pl, b, n, sl, rfl, I.pl, fun q hq => ?_⟩
    have sq := same_upd (o := .lst ((rng (2 + (b + 8 - 1) / 8 + n) (b - (2 + (b + 8 - 1) / 8 + n)).toNat).map V.int)) hq
    refine ⟨q, rfl, ⟨_, .of upd_same⟩, fun D hD => ?_⟩
    have hD0 := un hD
    have nqD : q ≠ D := unn' hD
    refine lc_list (K := K) (a := q) (xs := (rng (2 + (b + 8 - 1) / 8 + n) (b - (2 + (b + 8 - 1) / 8 + n)).toNat).map V.int) (fun i H' => Same H H' ∧ H' q = some (.lst ((rng (2 + (b + 8 - 1) / 8 + n) (b - (2 + (b + 8 - 1) / 8 + n)).toNat).map V.int)) ∧ H' D = some (.lst ((((rng (2 + (b + 8 - 1) / 8 + n) (b - (2 + (b + 8 - 1) / 8 + n)).toNat).take i).filter fun x => decide (kindOf b n v.M x = 0)).map V.int)))
      ⟨sq.trans (same_upd hD), by rw [upd_ne nqD, upd_same], upd_same⟩ (fun i H' _ ⟨_, e, _⟩ => .of e) ?_ ?_
    · rintro i y H' hi ⟨S, e1, e2⟩
      rw [List.getElem?_map] at hi
      obtain ⟨x, hx, rfl⟩ := Option.map_eq_some_iff.mp hi
      have hm := rng_mem (List.mem_of_getElem? hx)
      refine ⟨rfl, ?_⟩
      refine ⟨_, rfl, im, _, _, rfl, S _ _ I.ob, rfl, _, rfl, im, A, v, b, n, sl, x, rfl, I.keep S, by omega, by omega, fun H2 S2 => ?_⟩
      refine ⟨rfl, _, rfl, ?_⟩
      rw [dec_iv]
      by_cases hk : kindOf b n v.M x = 0
      · rw [decide_eq_true hk]
        refine iteT ⟨_, rfl, _, S2 _ _ e2, ?_, fun a o z => ?_, ?_, ?_⟩
        · rw [List.length_map]
          have := filt_len (p := fun x => decide (kindOf b n v.M x = 0)) (List.length_take_le i (rng (2 + (b + 8 - 1) / 8 + n) (b - (2 + (b + 8 - 1) / 8 + n)).toNat))
          have hl := (List.getElem?_eq_some_iff.mp hx).1
          rw [rng_len] at hl
          exact small1000 (by omega)
        · rw [upd_ne (ne_of_none z hD0)]
          exact S2 _ _ (S _ _ z)
        · rw [upd_ne nqD]
          exact S2 _ _ e1
        · rw [upd_same, take_get hx, List.filter_append, List.map_append]
          rw [List.filter_cons, if_pos (by exact decide_eq_true hk)]
          rfl
      · rw [decide_eq_false hk]
        refine iteF ⟨S.trans S2, S2 _ _ e1, ?_⟩
        rw [take_get hx, List.filter_append, List.filter_cons, if_neg (by simpa using hk)]
        rw [List.filter_nil, List.append_nil]
        exact S2 _ _ e2
    · rintro H' ⟨S, e1, e2⟩
      rw [List.length_map, List.take_length] at e2
      exact k H' D S hD0 e2
end
end K39
namespace K39
open PySem PySem.Spec PyProof.Rows L2 Rg
/-! ### lists of ints and lists of such lists, compared -/
def dI (ns : List Int) : PyData := .list (ns.map PyData.int)
def dG (M : List (List Int)) : PyData := .list (M.map dI)
theorem dpAllI {K : PySem.W.Frag} {H : Hp} : ∀ ns : List Int, DpAll K H (ns.map V.int) (ns.map PyData.int)
  | [] => .nil
  | n :: ns => .cons (.int n) (dpAllI ns)
theorem dpI {K : PySem.W.Frag} {H : Hp} {a : Addr} {ns : List Int} (h : H a = some (.lst (ns.map V.int))) : Dp K H (.ref a) (dI ns) := .lst (.of h) (dpAllI ns)
theorem dpAllG {K : PySem.W.Frag} {H : Hp} : ∀ (rs : List Addr) (M : List (List Int)), rs.length = M.length → (∀ (i : Nat) (r : Addr) (m : List Int), rs[i]? = some r → M[i]? = some m → H r = some (.lst (m.map V.int))) → DpAll K H (rs.map V.ref) (M.map dI)
  | [], [], _, _ => .nil
  | r :: rs, m :: M, hl, h => .cons (dpI (h 0 r m rfl rfl)) (dpAllG rs M (by simpa using hl) fun i q n a b => h (i + 1) q n (by simpa using a) (by simpa using b))
  | [], _ :: _, hl, _ => by simp at hl
  | _ :: _, [], hl, _ => by simp at hl
theorem dpG {K : PySem.W.Frag} {H : Hp} {ca : Addr} {rs : List Addr} {M : List (List Int)} (G : Grid H ca rs M) : Dp K H (.ref ca) (dG M) := .lst (.of G.out) (dpAllG rs M G.len G.row)
theorem canI : ∀ ns : List Int, PyData.canLayAll0 (ns.map PyData.int) = true
  | [] => rfl
  | n :: ns => by
    show (PyData.canLay0 (.int n) && PyData.canLayAll0 (ns.map PyData.int)) = true
    rw [canI ns]
    rfl
theorem canG : ∀ M : List (List Int), PyData.canLayAll0 (M.map dI) = true
  | [] => rfl
  | m :: M => by
    show (PyData.canLayAll0 (m.map PyData.int) && PyData.canLayAll0 (M.map dI)) = true
    rw [canI, canG M]
    rfl
theorem depI : ∀ ns : List Int, PyData.depthAll (ns.map PyData.int) = 0
  | [] => rfl
  | n :: ns => by
    show max (PyData.depth (.int n)) (PyData.depthAll (ns.map PyData.int)) = 0
    rw [depI ns]
    rfl
theorem depG : ∀ M : List (List Int), PyData.depthAll (M.map dI) ≤ 1
  | [] => Nat.zero_le _
  | m :: M => by
    show max (PyData.depthAll (m.map PyData.int) + 1) (PyData.depthAll (M.map dI)) ≤ 1
    rw [depI m]
    have := depG M
    omega
theorem shI (ns : List Int) : SeqAt.shaped (dI ns) = true := by
  unfold SeqAt.shaped dI
  rw [Bool.and_eq_true]
  refine ⟨canI ns, decide_eq_true ?_⟩
  show PyData.depthAll (ns.map PyData.int) + 1 ≤ 64
  rw [depI ns]
  decide
theorem shG (M : List (List Int)) : SeqAt.shaped (dG M) = true := by
  unfold SeqAt.shaped dG
  rw [Bool.and_eq_true]
  refine ⟨canG M, decide_eq_true ?_⟩
  show PyData.depthAll (M.map dI) + 1 ≤ 64
  have := depG M
  omega
theorem eqI (ns : List Int) : PyData.eqv (dI ns) (dI ns) = true := SeqAt.eqv_refl _ (canI ns)
theorem eqvAllI : ∀ a b : List Int, PyData.eqvAll (a.map PyData.int) (b.map PyData.int) = decide (a = b)
  | [], [] => by simp [PyData.eqvAll]
  | [], _ :: _ => by simp [PyData.eqvAll]
  | _ :: _, [] => by simp [PyData.eqvAll]
  | x :: a, y :: b => by
    rw [List.map_cons, List.map_cons, PyData.eqvAll, eqvAllI a b]
    by_cases e : x = y
    · subst e
      by_cases f : a = b
      · subst f; simp [PyData.eqv]
      · simp [PyData.eqv, f]
    · simp [PyData.eqv, e]
theorem eqvI (a b : List Int) : PyData.eqv (dI a) (dI b) = decide (a = b) := by
  unfold dI
  rw [PyData.eqv]
  exact eqvAllI a b
end K39
namespace K39
open PySem PySem.Spec PyProof.Rows L2 Rg
/-! ### settle -/
/-- block x gets a new stamp -/
def Chg (b n : Int) (M M0 : List (List Int)) (ho : List Int) (se : Int) (x : Nat) : Prop := (kindOf b n M x ≠ 0 ∧ M[x]? ≠ M0[x]?) ∨ ho[x]? = some se
instance {b n : Int} {M M0 : List (List Int)} {ho : List Int} {se : Int} {x : Nat} : Decidable (Chg b n M M0 ho se x) := by unfold Chg; infer_instance
def setl (b n : Int) (M M0 : List (List Int)) (ho : List Int) (se : Int) (st : List Int) : Nat → List Int
  | 0 => st
  | i + 1 => if Chg b n M M0 ho se i then (setl b n M M0 ho se st i).set i se else setl b n M M0 ho se st i
theorem setl_len {b n : Int} {M M0 : List (List Int)} {ho : List Int} {se : Int} {st : List Int} : ∀ i, (setl b n M M0 ho se st i).length = st.length
  | 0 => rfl
  | i + 1 => by
    unfold setl
    split
    · rw [List.length_set]; exact setl_len i
    · exact setl_len i
theorem setl_succ {b n : Int} {M M0 : List (List Int)} {ho : List Int} {se : Int} {st : List Int} {i : Nat} : setl b n M M0 ho se st (i + 1) = if Chg b n M M0 ho se i then (setl b n M M0 ho se st i).set i se else setl b n M M0 ho se st i := rfl
theorem setl_get {b n : Int} {M M0 : List (List Int)} {ho : List Int} {se : Int} {st : List Int} {x : Nat} (hx : x < st.length) : ∀ i, (setl b n M M0 ho se st i)[x]? = if x < i ∧ Chg b n M M0 ho se x then some se else st[x]?
  | 0 => by rw [if_neg (by omega)]; rfl
  | i + 1 => by
    have ih := setl_get (b := b) (n := n) (M := M) (M0 := M0) (ho := ho) (se := se) hx i
    unfold setl
    by_cases c : Chg b n M M0 ho se i
    · rw [if_pos c]
      by_cases e : i = x
      · subst e
        rw [List.getElem?_set_self (by rw [setl_len]; exact hx), if_pos ⟨Nat.lt_succ_self _, c⟩]
      · rw [List.getElem?_set_ne e, ih]
        simp only [show (x < i + 1) ↔ (x < i) by omega]
    · rw [if_neg c, ih]
      by_cases e : i = x
      · subst e
        rw [if_neg (fun z => c z.2), if_neg (fun z => c z.2)]
      · simp only [show (x < i + 1) ↔ (x < i) by omega]
section
variable {P : Program} {w : World} {K : PySem.W.Frag} {mg : Str → Option Value} {base : Heap}
def sp_settle (CI CP : Addr) : Sp := fun vs H Q _ => ∃ (im : Addr) (A : IA) (v : IV) (b n s : Int) (im0 : Addr) (A0 : IA) (v0 : IV), vs = [.ref im, .ref im0] ∧ ImgAt CI CP H im A v b n s ∧ ImgAt CI CP H im0 A0 v0 b n s ∧ A.st ∉ A0.reads im0 ∧
  ∀ H', ImgAt CI CP H' im A { v with st := setl b n v.M v0.M v.ho v.se v.st b.toNat } b n s → Kp [A.st] H H' → Q .non H'
theorem ok_settle (T : Tx K mg) : FnOk P w K mg base CX0 3 T.f_Image_settle T.fd_Image_settle ["self", "before"] (sp_settle T.C_Image T.C_Plan) := by
  refine T.F_Image_settle.ok sc_Image_settle (fun vs H Q E h => ?_) (fun cdv A1 outer s H vs Q E hr h => ?_)
  · obtain ⟨_, _, _, _, _, _, _, _, _, rfl, _⟩ := h; rfl
  · obtain ⟨im, A, v, b, n, sl, im0, A0, v0, rfl, I, I0, hap, k⟩ := h
    refine ⟨_, (pss_one (ps_for PassesOwn.never rfl (pi_range1 rfl T.b_range (pa_cons (pe_fld (pe_fld (pv 0) rfl) rfl) pa_nil)) (pg_name (i := 2) sc_Image_settle.nd rfl (.inl rfl))
        (Evl.pss_cut (ps_set (i := 3) sc_Image_settle.nd rfl (.inl rfl) (pe_and (pe_cmpR op_ne (pe_meth (pv 0) T.cl_Image T.m_Image_kind (ok_Image_kind T) hr (b_Image_kind T) .nil pass0 (pa_cons (pv 2) pa_nil)) (pe_cv T.mg_Plan T.cr_Plan T.cv_Plan_FREE) (nomark _)) (pe_one (pe_cmpR (op_neD hr.units) (pe_ix ix_list (pe_fld (pv 0) rfl) (pv 2) (fun _ _ => rfl)) (pe_ix ix_list (pe_fld (pv 1) rfl) (pv 2) (fun _ _ => rfl)) (nomark _)))))
        (pss_one (ps_if (PW.pt (pw_or (pt_val (pv 3)) (pw_or1 (pt_cmpR op_eq (pe_ix ix_list (pe_fld (pv 0) rfl) (pv 2) (fun _ _ => rfl)) (pe_fld (pv 0) rfl) (nomark _)))))
          (pss_one (ps_asg (pe_fld (pv 0) rfl) (pg_sub (pe_fld (pv 0) rfl) (pv 2) set_list)))
          pss_nil))))), ?_⟩
    obtain ⟨dxp, hpl⟩ := I.pl.ob
    have b1 := I.pl.b1
    have b2 := I.pl.b2
    have d0 := I.d0
    have d00 := I0.d0
    have d2 := I.d2
    have d3 := I.d3
    refine ⟨_, rfl, im, _, _, _, _, rfl, I.ob, T.cl_Image, T.na_Image_plan, rfl, A.pl, _, dxp, _, _, rfl, hpl, T.cl_Plan, T.na_Plan_blocks, rfl, b, rfl, by omega, by omega, for_range (lo := 0) (n := b.toNat) (fun i σ H' => ∃ u2 u3 : Option V, σ = [some (.ref im), some (.ref im0), u2, u3] ∧ ImgAt T.C_Image T.C_Plan H' im A { v with st := setl b n v.M v0.M v.ho v.se v.st i } b n sl ∧ Kp [A.st] H H') ⟨_, _, rfl, I, Kp.refl⟩ ?_ ?_⟩
    · rintro i σ H' hi ⟨u2, u3, rfl, I', k'⟩
      have J0 : ImgAt T.C_Image T.C_Plan H' im0 A0 v0 b n sl := I0.keepF fun x o hx e => k'.at1 e fun z => hap (by rw [← z]; exact hx)
      have hiM : i < v.M.length := by omega
      have hiM0 : i < v0.M.length := by omega
      obtain ⟨r, r1, r2, _⟩ := I'.gr.get (List.getElem?_eq_getElem hiM)
      obtain ⟨r0, r01, r02, _⟩ := J0.gr.get (List.getElem?_eq_getElem hiM0)
      have hiH : i < v.ho.length := by omega
      have hiS : i < (setl b n v.M v0.M v.ho v.se v.st i).length := by rw [setl_len]; omega
      have ez : (0 : Int) + (i : Int) = (i : Int) := by omega
      refine ⟨fun σ H2 => Same H' H2 ∧ ∃ c : Bool, σ = [some (.ref im), some (.ref im0), some (.int (i : Int)), some (.bl c)] ∧ (c = true ↔ kindOf b n v.M i ≠ 0 ∧ v.M[i]? ≠ v0.M[i]?), ?_, ?_⟩
      · refine ⟨_, rfl, im, _, _, rfl, I'.ob, rfl, _, rfl, im, A, _, b, n, sl, _, rfl, I', by omega, by omega, fun H2 S2 => ?_⟩
        have I2 := I'.keep S2
        have J2 := J0.keep S2
        rw [ez]
        refine ⟨rfl, _, rfl, ?_⟩
        rw [dec_iv]
        by_cases hk : kindOf b n v.M i = 0
        · rw [decide_eq_true hk]
          refine iteF ⟨S2, _, rfl, ?_⟩
          constructor
          · intro z; cases z
          · intro z; exact absurd hk z.1
        · rw [decide_eq_false hk]
          refine iteT ⟨_, rfl, im, _, _, _, _, rfl, I2.ob, T.cl_Image, T.na_Image_cells, rfl, _, rfl, A.ca, _, _, .ref r, rfl, rfl, .of I2.gr.out, atI_nat (by rw [List.getElem?_map, r1]; rfl), ?_⟩
          refine ⟨_, rfl, im0, _, _, _, _, rfl, J2.ob, T.cl_Image, T.na_Image_cells, rfl, _, rfl, A0.ca, _, _, .ref r0, rfl, rfl, .of J2.gr.out, atI_nat (by rw [List.getElem?_map, r01]; rfl), dI _, dI _, dpI (S2 _ _ r2), dpI (S2 _ _ r02), shI _, shI _, S2, _, rfl, ?_⟩
          rw [eqvI, List.getElem?_eq_getElem hiM, List.getElem?_eq_getElem hiM0]
          simp [hk]
      · rintro σ H2 ⟨S2, c, rfl, hc⟩
        have I2 := I'.keep S2
        have kk := k'.same S2
        have yes : Chg b n v.M v0.M v.ho v.se i → ∃ u2 u3 : Option V, [some (V.ref im), some (V.ref im0), some (V.int (i : Int)), some (V.bl c)] = [some (.ref im), some (.ref im0), u2, u3] ∧ ImgAt T.C_Image T.C_Plan (upd H2 A.st (.lst (((setl b n v.M v0.M v.ho v.se v.st i).map V.int).set i (V.int v.se)))) im A { v with st := setl b n v.M v0.M v.ho v.se v.st (i + 1) } b n sl ∧ Kp [A.st] H (upd H2 A.st (.lst (((setl b n v.M v0.M v.ho v.se v.st i).map V.int).set i (V.int v.se)))) := fun q => by
          refine ⟨_, _, rfl, ?_, kk.own1⟩
          rw [setl_succ, if_pos q]
          exact I2.putSt
        have no : ¬ Chg b n v.M v0.M v.ho v.se i → ∃ u2 u3 : Option V, [some (V.ref im), some (V.ref im0), some (V.int (i : Int)), some (V.bl c)] = [some (.ref im), some (.ref im0), u2, u3] ∧ ImgAt T.C_Image T.C_Plan H2 im A { v with st := setl b n v.M v0.M v.ho v.se v.st (i + 1) } b n sl ∧ Kp [A.st] H H2 := fun q => by
          refine ⟨_, _, rfl, ?_, kk⟩
          rw [setl_succ, if_neg q]
          exact I2
        have ixS : ixN ((setl b n v.M v0.M v.ho v.se v.st i).map V.int).length (i : Int) = some i := ixN_nat rfl (by rw [List.length_map]; exact hiS)
        refine ⟨_, rfl, _, rfl, ?_⟩
        cases c with
        | true =>
          refine iteT ⟨_, rfl, im, _, _, _, _, rfl, I2.ob, T.cl_Image, T.na_Image_serial, rfl, _, rfl, im, _, _, _, _, rfl, I2.ob, T.cl_Image, T.na_Image_stamps, rfl, _, rfl, A.st, _, _, i, rfl, rfl, I2.st, ixS, ?_⟩
          exact yes (.inl (hc.mp rfl))
        | false =>
          refine iteF ⟨_, rfl, im, _, _, _, _, rfl, I2.ob, T.cl_Image, T.na_Image_holdings, rfl, _, rfl, A.ho, _, _, _, rfl, rfl, .of I2.ho, atI_nat (by rw [List.getElem?_map, List.getElem?_eq_getElem hiH]; rfl), ?_⟩
          refine ⟨_, rfl, im, _, _, _, _, rfl, I2.ob, T.cl_Image, T.na_Image_serial, rfl, rfl, _, rfl, ?_⟩
          rw [dec_iv]
          by_cases hs : v.ho[i] = v.se
          · rw [decide_eq_true hs]
            refine iteT ⟨_, rfl, im, _, _, _, _, rfl, I2.ob, T.cl_Image, T.na_Image_serial, rfl, _, rfl, im, _, _, _, _, rfl, I2.ob, T.cl_Image, T.na_Image_stamps, rfl, _, rfl, A.st, _, _, i, rfl, rfl, I2.st, ixS, ?_⟩
            exact yes (.inr (by rw [List.getElem?_eq_getElem hiH, hs]))
          · rw [decide_eq_false hs]
            refine iteF (no ?_)
            rintro (q | q)
            · have := hc.mpr q
              cases this
            · rw [List.getElem?_eq_getElem hiH] at q
              exact hs (Option.some.inj q)
    · rintro σ H' ⟨u2, u3, rfl, I', k'⟩
      exact k H' I' k'
end
end K39
namespace K39
open PySem PySem.Spec PyProof.Rows L2 Rg
/-! ### _put_block, give, take -/
def putB (v : IV) (x : Nat) (kind serial : Int) : IV := { v with M := (setC v.M (2 + x / 8) (x % 8) kind).set x (List.replicate 8 0), ho := v.ho.set x serial, st := v.st.set x serial }
def giveV (v : IV) (x o : Nat) : IV := { putB v x 0 0 with M := setC (putB v x 0 0).M 0 o (cellAt v.M 0 o - 1) }
def takeV (v : IV) (x : Nat) (kind : Int) (o : Nat) : IV := { putB v x kind v.se with M := setC (putB v x kind v.se).M 0 o (cellAt v.M 0 o + 1) }
def quota (v : IV) (o : Nat) : Prop := cellAt v.M 0 (4 + o) ≠ 0 ∧ cellAt v.M 0 (4 + o) ≤ cellAt v.M 0 o
instance {v : IV} {o : Nat} : Decidable (quota v o) := by unfold quota; infer_instance
def letL (b n : Int) (M : List (List Int)) (kind : Int) (ba : List Int) : List Int := if kind = 2 then (freeL b n M).filter fun x => decide (x ∉ ba) else freeL b n M
def pickL (l : List Int) (wi : Int) : Option Int := (l.filter fun x => decide (wi ≤ x)).head?.or l.head?
theorem setC_row {M : List (List Int)} {i j k : Nat} {x : Int} (h : i ≠ k) : (setC M i j x)[k]? = M[k]? := by
  unfold setC
  rw [List.getElem?_set_ne h]
theorem inV_int (x : Int) (l : List Int) : inV (.int x) (l.map V.int) = decide (x ∈ l) := by
  induction l with
  | nil => simp [inV]
  | cons y l ih =>
    have : inV (.int x) ((y :: l).map V.int) = (eqV (.int y) (.int x) || inV (.int x) (l.map V.int)) := rfl
    rw [this, ih]
    simp only [eqV]
    by_cases e : y = x
    · subst e; simp
    · have e' : x ≠ y := fun z => e z.symm
      simp [e, e']
theorem flat_ints (l : List Int) : (l.map V.int).all flatV = true := by
  rw [List.all_eq_true]
  intro y hy
  obtain ⟨i, _, rfl⟩ := List.mem_map.mp hy
  rfl
theorem foot_mem {A : IA} {im x : Addr} (h : x ∈ A.ca :: A.ho :: A.st :: A.rs) : x ∈ A.reads im := by
  simp only [IA.reads, List.mem_cons] at h ⊢
  rcases h with h | h | h | h <;> simp [h]
section
variable {P : Program} {w : World} {K : PySem.W.Frag} {mg : Str → Option Value} {base : Heap}
def sp_put_block (CI CP : Addr) : Sp := fun vs H Q _ => ∃ (im : Addr) (A : IA) (v : IV) (b n s : Int) (x : Nat) (kind serial : Int), vs = [.ref im, .int x, .int kind, .int serial] ∧ ImgAt CI CP H im A v b n s ∧ fdOf b n ≤ x ∧ (x : Int) < b ∧
  ∀ H' q, H q = none → ImgAt CI CP H' im { A with rs := A.rs.set x q } (putB v x kind serial) b n s → Kp (A.ca :: A.ho :: A.st :: A.rs) H H' → Q .non H'
theorem ok_put_block (T : Tx K mg) : FnOk P w K mg base CX0 2 T.f_Image__put_block T.fd_Image__put_block ["self", "x", "kind", "serial"] (sp_put_block T.C_Image T.C_Plan) := by
  refine T.F_Image__put_block.ok sc_Image__put_block (fun vs H Q E h => ?_) (fun cdv A0 outer s H vs Q E hr h => ?_)
  · obtain ⟨_, _, _, _, _, _, _, _, _, rfl, _⟩ := h; rfl
  · obtain ⟨im, A, v, b, n, sl, x, kind, serial, rfl, I, hx0, hxb, k⟩ := h
    refine ⟨_, (pss_cons (ps_asg (pe_meth (pe_fld (pv 0) rfl) T.cl_Plan T.m_Plan_map_place (ok_Plan_map_place T) hr (b_Plan_map_place T) .nil pass0 (pa_cons (pv 1) pa_nil)) (pg_tup rfl (pgs_cons (pg_name (i := 4) sc_Image__put_block.nd rfl (.inl rfl)) (pgs_cons (pg_name (i := 5) sc_Image__put_block.nd rfl (.inl rfl)) pgs_nil))))
      (pss_cons (ps_asg (pv 2) (pg_sub (pe_ix ix_list (pe_fld (pv 0) rfl) (pv 4) (fun _ _ => rfl)) (pv 5) set_list))
      (pss_cons (ps_asg (pe_op op_rep (pe_lst (pa_cons pe_int pa_nil)) (pe_cv T.mg_Plan T.cr_Plan T.cv_Plan_WIDTH)) (pg_sub (pe_fld (pv 0) rfl) (pv 1) set_list))
      (pss_cons (ps_asg (pv 3) (pg_sub (pe_fld (pv 0) rfl) (pv 1) set_list))
      (pss_one (ps_asg (pv 3) (pg_sub (pe_fld (pv 0) rfl) (pv 1) set_list))))))), ?_⟩
    obtain ⟨dxp, hpl⟩ := I.pl.ob
    have b1 := I.pl.b1
    have n1 := I.pl.n1
    have d0 := I.d0
    have d2 := I.d2
    have d3 := I.d3
    have hx0' : 2 + (b + 8 - 1) / 8 + n ≤ x := hx0
    have hi : 2 + x / 8 < v.M.length := by omega
    have hx : x < v.M.length := by omega
    refine ⟨_, rfl, im, _, _, _, _, rfl, I.ob, T.cl_Image, T.na_Image_plan, rfl, A.pl, dxp, _, rfl, hpl, rfl, _, rfl, A.pl, b, n, sl, x, rfl, I.pl, fun t ht => ?_⟩
    have st := same_upd (o := .tup [.int (2 + (x : Int) / 8), .int ((x : Int) % 8)]) ht
    have I1 := I.keep st
    have k1 : Kp (A.ca :: A.ho :: A.st :: A.rs) H (upd H t (.tup [.int (2 + (x : Int) / 8), .int ((x : Int) % 8)])) := .of st
    have n1' : ∀ y, upd H t (.tup [.int (2 + (x : Int) / 8), .int ((x : Int) % 8)]) y = none → H y = none := fun y e => un e
    refine ⟨t, _, rfl, .inl (.inl upd_same), rfl, _, _, rfl, _, _, rfl, rfl, ?_⟩
    generalize upd H t (.tup [.int (2 + (x : Int) / 8), .int ((x : Int) % 8)]) = H1 at I1 k1 n1' ⊢
    obtain ⟨r, r1, r2, _⟩ := I1.gr.get (List.getElem?_eq_getElem hi)
    have h8 := I1.d1 _ (List.getElem_mem hi)
    refine ⟨_, rfl, _, rfl, im, _, _, _, _, rfl, I1.ob, T.cl_Image, T.na_Image_cells, rfl, _, rfl, A.ca, _, _, .ref r, rfl, rfl, .of I1.gr.out, at_of (j := 2 + x / 8) (by omega) (by rw [List.getElem?_map, r1]; rfl), _, rfl, r, _, _, x % 8, rfl, rfl, r2, ixN_nat (by omega) (by rw [List.length_map]; omega), ?_⟩
    have I2 := I1.setC (j := x % 8) (x := kind) r1 (List.getElem?_eq_getElem hi)
    have k2 : Kp (A.ca :: A.ho :: A.st :: A.rs) H (upd H1 r (.lst ((v.M[2 + x / 8].map V.int).set (x % 8) (V.int kind)))) := k1.own (by simp [List.mem_of_getElem? r1])
    have n2' : ∀ y, upd H1 r (.lst ((v.M[2 + x / 8].map V.int).set (x % 8) (V.int kind))) y = none → H y = none := fun y e => n1' _ (un e)
    generalize upd H1 r (.lst ((v.M[2 + x / 8].map V.int).set (x % 8) (V.int kind))) = H2 at I2 k2 n2' ⊢
    -- self.cells[x] = ..
    refine ⟨by show 1 ≤ sizeLine; decide, fun l hl => ?_⟩
    refine ⟨l, 8, _, rfl, rfl, upd_same, by decide, by decide, by show 1 * 8 ≤ sizeLine; decide, fun q hq => ?_⟩
    have hq0 : H2 q = none := un hq
    have sm : Same H2 (upd (upd H2 l (.lst [V.int 0])) q (.lst (List.replicate (8 : Int).toNat [V.int 0]).flatten)) := (same_upd hl).trans (same_upd hq)
    have eq3 : upd (upd H2 l (.lst [V.int 0])) q (.lst (List.replicate (8 : Int).toNat [V.int 0]).flatten) q = some (.lst ((List.replicate 8 (0 : Int)).map V.int)) := by rw [upd_same]; rfl
    have I3 := I2.swap (i := x) sm hq0 eq3 (by simp)
    have k3 : Kp (A.ca :: A.ho :: A.st :: A.rs) H (upd (upd (upd H2 l (.lst [V.int 0])) q (.lst (List.replicate (8 : Int).toNat [V.int 0]).flatten)) A.ca (.lst ((A.rs.map V.ref).set x (V.ref q)))) := (k2.same sm).own (by simp)
    have o3 := sm _ _ I2.gr.out
    have ob3 := sm _ _ I2.ob
    refine ⟨_, rfl, im, _, _, _, _, rfl, ob3, T.cl_Image, T.na_Image_cells, rfl, _, rfl, A.ca, _, _, x, rfl, rfl, o3, ixN_nat rfl (by rw [List.length_map, I.gr.len]; exact hx), ?_⟩
    change ImgAt T.C_Image T.C_Plan (upd (upd (upd H2 l (.lst [V.int 0])) q (.lst (List.replicate (8 : Int).toNat [V.int 0]).flatten)) A.ca (.lst ((A.rs.map V.ref).set x (V.ref q)))) _ _ _ _ _ _ at I3
    have hqH : H q = none := n2' _ hq0
    generalize upd (upd (upd H2 l (.lst [V.int 0])) q (.lst (List.replicate (8 : Int).toNat [V.int 0]).flatten)) A.ca (.lst ((A.rs.map V.ref).set x (V.ref q))) = H3 at I3 k3 ⊢
    refine ⟨_, rfl, _, rfl, im, _, _, _, _, rfl, I3.ob, T.cl_Image, T.na_Image_holdings, rfl, _, rfl, A.ho, _, _, x, rfl, rfl, I3.ho, ixN_nat rfl (by rw [List.length_map]; show x < v.ho.length; omega), ?_⟩
    have I4 := I3.putHo (i := x) (x := serial)
    have k4 := k3.own (a := A.ho) (o := .lst ((v.ho.map V.int).set x (V.int serial))) (by simp)
    dsimp only at I4 ⊢
    generalize upd H3 A.ho (.lst ((v.ho.map V.int).set x (V.int serial))) = H4 at I4 k4 ⊢
    refine ⟨_, rfl, _, rfl, im, _, _, _, _, rfl, I4.ob, T.cl_Image, T.na_Image_stamps, rfl, _, rfl, A.st, _, _, x, rfl, rfl, I4.st, ixN_nat rfl (by rw [List.length_map]; show x < v.st.length; omega), ?_⟩
    exact k _ q hqH (I4.putSt (i := x) (x := serial)) (k4.own (by simp))
end
end K39
namespace K39
open PySem PySem.Spec PyProof.Rows L2 Rg
section
variable {P : Program} {w : World} {K : PySem.W.Frag} {mg : Str → Option Value} {base : Heap}
/-- the row of the sums behind a put -/
theorem putB_row0 {v : IV} {x : Nat} {kind serial : Int} (hx : x ≠ 0) : (putB v x kind serial).M[0]? = v.M[0]? := by
  show ((setC v.M (2 + x / 8) (x % 8) kind).set x (List.replicate 8 0))[0]? = v.M[0]?
  rw [List.getElem?_set_ne hx, setC_row (by omega)]
theorem ImgAt.row0 {CI CP : Addr} {H : Hp} {im : Addr} {A : IA} {v : IV} {b n s : Int} (I : ImgAt CI CP H im A v b n s) : ∃ r m, A.rs[0]? = some r ∧ v.M[0]? = some m ∧ m.length = 8 ∧ H r = some (.lst (m.map V.int)) := by
  have d0 := I.d0
  have b1 := I.pl.b1
  have hl : 0 < v.M.length := by omega
  obtain ⟨r, r1, r2, _⟩ := I.gr.get (List.getElem?_eq_getElem hl)
  exact ⟨r, _, r1, List.getElem?_eq_getElem hl, I.d1 _ (List.getElem_mem hl), r2⟩
def sp_give (CI CP : Addr) : Sp := fun vs H Q _ => ∃ (im : Addr) (A : IA) (v : IV) (b n s : Int) (x o : Nat), vs = [.ref im, .int x, .int o] ∧ ImgAt CI CP H im A v b n s ∧ fdOf b n ≤ x ∧ (x : Int) < b ∧ o < 4 ∧
  ∀ H' q, H q = none → ImgAt CI CP H' im { A with rs := A.rs.set x q } (giveV v x o) b n s → Kp (A.ca :: A.ho :: A.st :: A.rs) H H' → Q .non H'
theorem ok_give (T : Tx K mg) : FnOk P w K mg base CX0 3 T.f_Image_give T.fd_Image_give ["self", "x", "owner"] (sp_give T.C_Image T.C_Plan) := by
  refine T.F_Image_give.ok sc_Image_give (fun vs H Q E h => ?_) (fun cdv A0 outer s H vs Q E hr h => ?_)
  · obtain ⟨_, _, _, _, _, _, _, _, rfl, _⟩ := h; rfl
  · obtain ⟨im, A, v, b, n, sl, x, o, rfl, I, hx0, hxb, ho, k⟩ := h
    refine ⟨_, (pss_cons (ps_expr (pe_meth (pv 0) T.cl_Image T.m_Image__put_block (ok_put_block T) hr (b_Image__put_block T) .nil pass0 (pa_cons (pv 1) (pa_cons (pe_cv T.mg_Plan T.cr_Plan T.cv_Plan_FREE) (pa_cons pe_int pa_nil)))))
      (pss_one (ps_augS (pe_ix ix_list (pe_fld (pv 0) rfl) (pe_gc T.c_SUMS_BLOCK) (fun _ _ => rfl)) (pv 2) get_list pe_int ip_sub set_list))), ?_⟩
    have b1 := I.pl.b1
    have n1 := I.pl.n1
    have hx0' : 2 + (b + 8 - 1) / 8 + n ≤ x := hx0
    refine ⟨_, rfl, im, _, _, rfl, I.ob, rfl, _, rfl, im, A, v, b, n, sl, x, 0, 0, rfl, I, hx0, hxb, fun H1 q hq I1 k1 => ?_⟩
    obtain ⟨r, m, r1, r2, r3, r4⟩ := I1.row0
    have r2' := r2
    rw [putB_row0 (by omega)] at r2'
    have rA : A.rs[0]? = some r := by
      have : (A.rs.set x q)[0]? = some r := r1
      rw [List.getElem?_set_ne (by omega)] at this
      exact this
    have hol : o < m.length := by omega
    have e0 : cellAt v.M 0 o = m[o] := cellAt_of r2' (List.getElem?_eq_getElem hol)
    refine ⟨_, rfl, im, _, _, _, _, rfl, I1.ob, T.cl_Image, T.na_Image_cells, rfl, A.ca, _, _, .ref r, rfl, rfl, .of I1.gr.out, at_of (j := 0) rfl (by rw [List.getElem?_map, r1]; rfl), _, rfl, r, _, o, _, rfl, rfl, .of r4, by rw [List.getElem?_map, List.getElem?_eq_getElem hol]; rfl, _, _, rfl, rfl, r, _, _, o, rfl, rfl, r4, ixN_nat rfl (by rw [List.length_map]; exact hol), ?_⟩
    have I2 := I1.setC (j := o) (x := m[o] - 1) r1 r2
    refine k _ q hq ?_ (k1.own (by simp [List.mem_of_getElem? rA]))
    unfold giveV
    rw [e0]
    exact I2
def sp_take (CI CP CO CB : Addr) : Sp := fun vs H Q E => ∃ (im : Addr) (A : IA) (v : IV) (b n s kind : Int) (o : Nat), vs = [.ref im, .int kind, .int o] ∧ ImgAt CI CP H im A v b n s ∧ o < 4 ∧ (cellAt v.M 0 o).natAbs.log2 < 1920 ∧
  (quota v o → ∀ H', Same H H' → E (.ref CO) none H') ∧
  (¬ quota v o → letL b n v.M kind v.ba = [] → ∀ H', Same H H' → E (.ref CB) none H') ∧
  (¬ quota v o → ∀ x : Nat, pickL (letL b n v.M kind v.ba) v.wi = some (x : Int) → ∀ H' q, H q = none → ImgAt CI CP H' im { A with rs := A.rs.set x q } (takeV v x kind o) b n s → Kp (A.ca :: A.ho :: A.st :: A.rs) H H' → Q (.int x) H')
theorem freeL_mem {b n x : Int} {M : List (List Int)} (h : x ∈ freeL b n M) : fdOf b n ≤ x ∧ x < fdOf b n + (b - fdOf b n).toNat ∧ kindOf b n M x = 0 := by
  unfold freeL at h
  have h1 := List.mem_filter.mp h
  have h2 := rng_mem h1.1
  exact ⟨h2.1, h2.2, of_decide_eq_true h1.2⟩
theorem letL_mem {b n x kind : Int} {M : List (List Int)} {ba : List Int} (h : x ∈ letL b n M kind ba) : x ∈ freeL b n M := by
  unfold letL at h
  split at h
  · exact (List.mem_filter.mp h).1
  · exact h
theorem pickL_mem {l : List Int} {wi x : Int} (h : pickL l wi = some x) : x ∈ l := by
  unfold pickL at h
  cases e : (l.filter fun x => decide (wi ≤ x)).head? with
  | none =>
    rw [e] at h
    exact List.mem_of_head? h
  | some y =>
    rw [e] at h
    cases h
    exact (List.mem_filter.mp (List.mem_of_head? e)).1
theorem freeL_len {b n : Int} {M : List (List Int)} : (freeL b n M).length ≤ (b - fdOf b n).toNat := by
  unfold freeL
  refine filt_len ?_
  rw [rng_len]
  exact Nat.le_refl _
/-- [x for x in l if ..], l a list that stands at a -/
theorem fstr_len {a c : Int} (ha : a.natAbs.log2 < 1920) (hc : c.natAbs.log2 < 1920) : (((((Str.empty ++ ("owner " : Str)) ++ (toString a : Str)) ++ (" uses " : Str)) ++ (toString c : Str)) ++ (" blocks" : Str)).length ≤ sizeLine := by
  have e1 := PySem.int_text_length_le (k := 1920) (by decide) ha
  have e2 := PySem.int_text_length_le (k := 1920) (by decide) hc
  have l1 : (("owner " : Str)).length = 6 := by decide
  have l2 : ((" uses " : Str)).length = 6 := by decide
  have l3 : ((" blocks" : Str)).length = 7 := by decide
  have l0 : (Str.empty).length = 0 := by decide
  rw [strLen_append, strLen_append, strLen_append, strLen_append, strLen_append, l0, l1, l2, l3, sizeLine_eq]
  have f1 : ((toString a : Str)).length = (toString a).length := PySem.ofString_length _
  have f2 : ((toString c : Str)).length = (toString c).length := PySem.ofString_length _
  rw [f1, f2]
  omega
end
end K39
namespace K39
open PySem PySem.Spec PyProof.Rows L2 Rg
/-- a comprehension that keeps some of l, i looked at -/
def PvF (H0 : Hp) (D : Addr) (l : List Int) (p : Int → Bool) (i : Nat) (H' : Hp) : Prop := Same H0 H' ∧ H' D = some (.lst (((l.take i).filter p).map V.int))
theorem PvF.start {H0 : Hp} {D : Addr} {l : List Int} {p : Int → Bool} (h : H0 D = none) : PvF H0 D l p 0 (upd H0 D (.lst [])) := ⟨same_upd h, upd_same⟩
theorem PvF.yes {H0 H' H2 : Hp} {D : Addr} {l : List Int} {p : Int → Bool} {i : Nat} {x : Int} (h : PvF H0 D l p i H') (hD : H0 D = none) (S : Same H' H2) (hx : l[i]? = some x) (hl : l.length < 1000) (hp : p x = true) :
    ∃ acc, H2 D = some (.lst acc) ∧ acc.length < sizeLine ∧ PvF H0 D l p (i + 1) (upd H2 D (.lst (acc ++ [V.int x]))) := by
  refine ⟨_, S _ _ h.2, ?_, fun a o z => ?_, ?_⟩
  · rw [List.length_map]
    have := filt_len (p := p) (List.length_take_le i l)
    have hi := (List.getElem?_eq_some_iff.mp hx).1
    exact small1000 (by omega)
  · rw [upd_ne (ne_of_none z hD)]
    exact S _ _ (h.1 _ _ z)
  · rw [upd_same, take_get hx, List.filter_append, List.map_append, List.filter_cons, if_pos hp]
    rfl
theorem PvF.no {H0 H' H2 : Hp} {D : Addr} {l : List Int} {p : Int → Bool} {i : Nat} {x : Int} (h : PvF H0 D l p i H') (S : Same H' H2) (hx : l[i]? = some x) (hp : p x = false) : PvF H0 D l p (i + 1) H2 := by
  refine ⟨h.1.trans S, ?_⟩
  rw [take_get hx, List.filter_append, List.filter_cons, if_neg (by rw [hp]; decide), List.filter_nil, List.append_nil]
  exact S _ _ h.2
theorem PvF.all {H0 H' : Hp} {D : Addr} {l : List Int} {p : Int → Bool} {n : Nat} (h : PvF H0 D l p n H') (e : n = l.length) : Same H0 H' ∧ H' D = some (.lst ((l.filter p).map V.int)) := by
  subst e
  have := h.2
  rw [List.take_length] at this
  exact ⟨h.1, this⟩
theorem op_notInK {X : Cx} {K : PySem.W.Frag} (hK : X.K = K := by rfl) : OpR X (compareOp .NotIn) (rIn K true) := by
  subst hK
  exact op_notIn_seq
theorem cell0 {v : IV} {m : List Int} {j : Nat} (h : v.M[0]? = some m) (hj : j < m.length) : cellAt v.M 0 j = m[j] := cellAt_of h (List.getElem?_eq_getElem hj)
section
variable {P : Program} {w : World} {K : PySem.W.Frag} {mg : Str → Option Value} {base : Heap}
theorem ok_take (T : Tx K mg) : FnOk P w K mg base (L2N.CX P w) 4 T.f_Image_take T.fd_Image_take ["self", "kind", "owner"] (sp_take T.C_Image T.C_Plan T.C_OverQuota T.C_BlocksFull) := by
  refine T.F_Image_take.okN sc_Image_take (fun vs H Q E h => ?_) (fun cdv A0 outer s H vs Q E hr h => ?_)
  · obtain ⟨_, _, _, _, _, _, _, _, rfl, _⟩ := h; rfl
  · obtain ⟨im, A, v, b, n, sl, kind, o, rfl, I, ho, hlg, kQ, kB, k⟩ := h
    have hr2 : Room 2 _ := hr.mono (by decide)
    refine ⟨_, (pss_cons (ps_set (i := 3) sc_Image_take.nd rfl (.inl rfl) (pe_ix ix_list (pe_fld (pv 0) rfl) (pe_gc T.c_SUMS_BLOCK) (fun _ _ => rfl)))
      (pss_cons (ps_set (i := 4) sc_Image_take.nd rfl (.inl rfl) (pe_ix ix_list (pv 3) (pe_op op_add (pe_cv T.mg_Plan T.cr_Plan T.cv_Plan_OWNERS) (pv 2)) (fun _ _ => rfl)))
      (Evl.pss_cut (ps_if (PW.pt (pw_and (pt_cmpR op_ne (pv 4) pe_int (nomark _)) (pw_and1 (pt_cmpR op_ge (pe_ix ix_list (pv 3) (pv 2) (fun _ _ => rfl)) (pv 4) (nomark _)))))
        (pss_one (L2N.ps_raise rfl (L2N.takes_of rfl rfl rfl rfl) (pmk_own1N PySem.F.excBase_ValueError T.xe_OverQuota T.mg_OverQuota T.ke_OverQuota (raises_own T.be_OverQuota T.te_OverQuota) rfl (pe_joined (.cons pe_str (.cons (pe_fmt (pv 2)) (.cons pe_str (.cons (pe_fmt (pe_ix ix_list (pv 3) (pv 2) (fun _ _ => rfl))) (.cons pe_str .nil)))))))))
        pss_nil)
      (pss_cons (ps_set (i := 5) sc_Image_take.nd rfl (.inl rfl) (pe_meth0 (pv 0) T.cl_Image T.m_Image_free_blocks (ok_free_blocks T) hr (b_Image_free_blocks T) .nil pass0))
      (Evl.pss_cut (ps_if (pt_cmpR op_eq (pv 1) (pe_cv T.mg_Plan T.cr_Plan T.cv_Plan_PLAIN) (nomark _))
        (pss_one (ps_setLc (i := 5) (own := [("x", 6)]) (g := gName 6) (tt := _) rfl sc_Image_take.nd rfl rfl (sw_true rfl rfl rfl (by decide +kernel)) (pi_list (pv 5)) (blkOk_by (N := ["self", "kind", "owner", "sums", "limit", "free", "x", "wished"]) (sc := defScope s_Image_take) (by decide +kernel)) (fun _ _ _ _ _ => pg_name (i := 6) sc_Image_take.nd rfl (Or.inl rfl)) (fun _ _ _ _ _ => pts_one (pt_cmpR (op_notInK (K := K)) (pv 6) (pe_fldK (K := K) (pv 0) rfl) rfl)) (fun _ _ _ _ _ => (pv 6))))
        pss_nil)
      (pss_cons (ps_if (pt_cmpR op_eq (pe_callB call_len_seq rfl T.b_len (by decide +kernel) (pa_cons (pv 5) pa_nil)) pe_int (nomark _))
        (pss_one (L2N.ps_raise rfl (L2N.takes_of rfl rfl rfl rfl) (L2N.pmk_own PySem.F.excBase_ValueError T.xe_BlocksFull T.mg_BlocksFull T.ke_BlocksFull (raises_own T.be_BlocksFull T.te_BlocksFull) rfl)))
        pss_nil)
      (PSs.nox (pss_cons (ps_setLc (i := 7) (own := [("x", 6)]) (g := gName 6) (tt := _) rfl sc_Image_take.nd rfl rfl (sw_true rfl rfl rfl (by decide +kernel)) (pi_list (pv 5)) (blkOk_by (N := ["self", "kind", "owner", "sums", "limit", "free", "x", "wished"]) (sc := defScope s_Image_take) (by decide +kernel)) (fun _ _ _ _ _ => pg_name (i := 6) sc_Image_take.nd rfl (Or.inl rfl)) (fun _ _ _ _ _ => pts_one (pt_cmpR op_ge (pv 6) (pe_fldK (K := K) (pv 0) rfl) (nomark _))) (fun _ _ _ _ _ => (pv 6)))
      (Evl.pss_cut (ps_set (i := 6) sc_Image_take.nd rfl (.inl rfl) (pe_ifExp (pt_truth (pv 7) (fun _ => rfl)) (pe_ix ix_list (pv 7) pe_int (fun _ _ => rfl)) (pe_ix ix_list (pv 5) pe_int (fun _ _ => rfl))))
      (pss_cons (ps_expr (pe_meth (pv 0) T.cl_Image T.m_Image__put_block (ok_put_block T) hr2 (b_Image__put_block T) .nil pass0 (pa_cons (pv 6) (pa_cons (pv 1) (pa_cons (pe_fld (pv 0) rfl) pa_nil)))))
      (pss_cons (ps_augS (pv 3) (pv 2) get_list pe_int ip_add set_list)
      (pss_one (ps_ret (pv 6)))))))))))))), ?_⟩
    obtain ⟨dxp, hpl⟩ := I.pl.ob
    have b1 := I.pl.b1
    have b2 := I.pl.b2
    have n1 := I.pl.n1
    obtain ⟨r, m, r1, r2, r3, r4⟩ := I.row0
    have h4o : 4 + o < m.length := by omega
    have hol : o < m.length := by omega
    have el := cell0 r2 h4o
    have eo := cell0 r2 hol
    refine ⟨_, rfl, im, _, _, _, _, rfl, I.ob, T.cl_Image, T.na_Image_cells, rfl, A.ca, _, _, .ref r, rfl, rfl, .of I.gr.out, at_of (j := 0) rfl (by rw [List.getElem?_map, r1]; rfl), ?_⟩
    refine ⟨_, rfl, _, rfl, _, _, rfl, rfl, r, _, _, _, rfl, rfl, .of r4, at_of (j := 4 + o) (by omega) (by rw [List.getElem?_map, List.getElem?_eq_getElem h4o]; rfl), ?_⟩
    have hlen : (letL b n v.M kind v.ba).length < 1000 := by
      have h1 := freeL_len (b := b) (n := n) (M := v.M)
      have h2 : (letL b n v.M kind v.ba).length ≤ (freeL b n v.M).length := by
        unfold letL
        split
        · exact List.length_filter_le _ _
        · exact Nat.le_refl _
      have h3 : 0 ≤ fdOf b n := by unfold fdOf; omega
      omega
    have hlenF : (freeL b n v.M).length < 1000 := by
      have h1 := freeL_len (b := b) (n := n) (M := v.M)
      have h3 : 0 ≤ fdOf b n := by unfold fdOf; omega
      omega
    refine ⟨fun σ H' => σ = [some (.ref im), some (.int kind), some (.int o), some (.ref r), some (.int m[4 + o]), none, none, none] ∧ H' = H ∧ ¬ quota v o, ?_, ?_⟩
    · refine ⟨_, rfl, rfl, _, rfl, ?_⟩
      rw [dec_iv]
      by_cases e1 : m[4 + o] = 0
      · rw [decide_eq_true e1]
        exact iteF ⟨rfl, rfl, fun z => z.1 (by rw [el]; exact e1)⟩
      · rw [decide_eq_false e1]
        refine iteT ⟨_, rfl, _, rfl, r, _, _, _, rfl, rfl, .of r4, atI_nat (by rw [List.getElem?_map, List.getElem?_eq_getElem hol]; rfl), _, rfl, _, _, rfl, rfl, _, rfl, ?_⟩
        by_cases e2 : m[o] ≥ m[4 + o]
        · rw [decide_eq_true e2]
          have la : (o : Int).natAbs.log2 < 1920 := by
            have : o = 0 ∨ o = 1 ∨ o = 2 ∨ o = 3 := by omega
            rcases this with rfl | rfl | rfl | rfl <;> decide
          have lc : m[o].natAbs.log2 < 1920 := by rw [← eo]; exact hlg
          have f5 := fstr_len la lc
          have mono : ∀ (x y : Str), (x ++ y).length ≤ sizeLine → x.length ≤ sizeLine := fun x y h => by rw [strLen_append] at h; omega
          have f4 := mono _ _ f5
          have f3 := mono _ _ f4
          have f2 := mono _ _ f3
          have f1 := mono _ _ f2
          refine iteT ⟨_, rfl, f1, _, rfl, .inr ⟨_, rfl, la, _, rfl, f2, _, rfl, f3, _, rfl, _, rfl, r, _, _, _, rfl, rfl, .of r4, atI_nat (by rw [List.getElem?_map, List.getElem?_eq_getElem hol]; rfl), .inr ⟨_, rfl, lc, _, rfl, f4, _, rfl, f5, ?_⟩⟩⟩
          exact kQ ⟨by rw [el]; exact e1, by rw [el, eo]; exact e2⟩ H (Same.refl _)
        · rw [decide_eq_false e2]
          exact iteF ⟨rfl, rfl, fun z => e2 (by have := z.2; rw [el, eo] at this; exact this)⟩
    rintro σ H' ⟨rfl, rfl, nq⟩
    -- the free blocks
    refine ⟨_, rfl, im, _, _, rfl, I.ob, rfl, im, A, v, b, n, sl, rfl, I, fun H1 fa S1 nfa efa => ?_⟩
    refine ⟨fun σ H2 => ∃ fb, σ = [some (.ref im), some (.int kind), some (.int o), some (.ref r), some (.int m[4 + o]), some (.ref fb), none, none] ∧ Same H' H2 ∧ H2 fb = some (.lst ((letL b n v.M kind v.ba).map V.int)), ?_, ?_⟩
    · refine ⟨_, rfl, rfl, _, rfl, ?_⟩
      rw [dec_iv]
      by_cases hk : kind = 2
      · rw [decide_eq_true hk]
        refine iteT ⟨_, rfl, fa, rfl, ⟨_, .of efa⟩, fun D hD => ?_⟩
        refine lc_list (K := K) (a := fa) (xs := (freeL b n v.M).map V.int) (PvF H1 D (freeL b n v.M) (fun x => decide (x ∉ v.ba))) (PvF.start hD) (fun i H2 _ Pv => .of (Pv.1 _ _ efa)) ?_ ?_
        · rintro i y H2 hi Pv
          rw [List.getElem?_map] at hi
          obtain ⟨x, hx, rfl⟩ := Option.map_eq_some_iff.mp hi
          refine ⟨rfl, ?_⟩
          have I2 := I.keep (S1.trans Pv.1)
          refine ⟨_, rfl, _, rfl, im, _, _, _, _, rfl, I2.ob, T.cl_Image, T.na_Image_barred, rfl, A.ba, _, rfl, .inr (.of I2.ba), rfl, flat_ints _, _, rfl, ?_⟩
          rw [inV_int]
          by_cases hb : x ∈ v.ba
          · rw [decide_eq_true hb]
            exact iteF (Pv.no (Same.refl _) hx (by simp [hb]))
          · rw [decide_eq_false hb]
            exact iteT ⟨_, rfl, Pv.yes hD (Same.refl _) hx hlenF (by simp [hb])⟩
        · intro H2 Pv
          obtain ⟨S2, e2⟩ := Pv.all (by rw [List.length_map])
          refine ⟨D, rfl, S1.trans S2, ?_⟩
          unfold letL
          rw [if_pos hk]
          exact e2
      · rw [decide_eq_false hk]
        refine iteF ⟨fa, rfl, S1, ?_⟩
        unfold letL
        rw [if_neg hk]
        exact efa
    rintro σ H2 ⟨fb, rfl, S2, e2⟩
    refine ⟨_, rfl, fb, _, rfl, .inl (.of e2), rfl, _, rfl, ite2 (fun z => ?_) (fun z => ?_)⟩
    · have z' := V.int.inj (of_decide_eq_true z)
      rw [List.length_map] at z'
      exact kB nq (List.length_eq_zero_iff.mp (by omega)) _ S2
    · have hne : letL b n v.M kind v.ba ≠ [] := fun q => z (decide_eq_true (by rw [q]; rfl))
      have I2 := I.keep S2
      refine ⟨_, rfl, fb, rfl, ⟨_, .of e2⟩, fun D hD => ?_⟩
      refine lc_list (K := K) (a := fb) (xs := (letL b n v.M kind v.ba).map V.int) (PvF H2 D (letL b n v.M kind v.ba) (fun x => decide (v.wi ≤ x))) (PvF.start hD) (fun i H3 _ Pv => .of (Pv.1 _ _ e2)) ?_ ?_
      · rintro i y H3 hi Pv
        rw [List.getElem?_map] at hi
        obtain ⟨x, hx, rfl⟩ := Option.map_eq_some_iff.mp hi
        refine ⟨rfl, ?_⟩
        have I3 := I2.keep Pv.1
        refine ⟨_, rfl, _, rfl, im, _, _, _, _, rfl, I3.ob, T.cl_Image, T.na_Image_wish, rfl, _, _, rfl, rfl, _, rfl, ?_⟩
        by_cases hb : x ≥ v.wi
        · rw [decide_eq_true hb]
          exact iteT ⟨_, rfl, Pv.yes hD (Same.refl _) hx hlen (decide_eq_true hb)⟩
        · rw [decide_eq_false hb]
          exact iteF (Pv.no (Same.refl _) hx (decide_eq_false hb))
      · intro H3 Pv
        obtain ⟨S3, e3⟩ := Pv.all (by rw [List.length_map])
        have I3 := I2.keep S3
        have S03 := S2.trans S3
        have e2' := S3 _ _ e2
        refine ⟨fun σ H4 => ∃ x : Nat, σ = [some (.ref im), some (.int kind), some (.int o), some (.ref r), some (.int m[4 + o]), some (.ref fb), some (.int (x : Int)), some (.ref D)] ∧ H4 = H3 ∧ pickL (letL b n v.M kind v.ba) v.wi = some (x : Int), ?_, ?_⟩
        · have nat : ∀ y : Int, pickL (letL b n v.M kind v.ba) v.wi = some y → ∃ x : Nat, y = x := fun y h => by
            have h1 := freeL_mem (letL_mem (pickL_mem h))
            have h3 : 0 ≤ fdOf b n := by unfold fdOf; omega
            exact ⟨y.toNat, by omega⟩
          refine ⟨_, rfl, _, .inl ⟨_, .of e3, rfl⟩, ?_⟩
          cases q : (letL b n v.M kind v.ba).filter (fun x => decide (v.wi ≤ x)) with
          | nil =>
            cases q2 : letL b n v.M kind v.ba with
            | nil => exact absurd q2 hne
            | cons y rest =>
              have hp : pickL (letL b n v.M kind v.ba) v.wi = some y := by unfold pickL; rw [q, q2]; rfl
              obtain ⟨x, rfl⟩ := nat y hp
              rw [q2] at e2' hp
              exact iteF ⟨_, rfl, fb, _, 0, .int (x : Int), rfl, rfl, .of e2', atI_nat (j := 0) rfl, x, rfl, rfl, hp⟩
          | cons y rest =>
            have hp : pickL (letL b n v.M kind v.ba) v.wi = some y := by unfold pickL; rw [q]; rfl
            obtain ⟨x, rfl⟩ := nat y hp
            rw [q] at e3
            exact iteT ⟨_, rfl, D, _, 0, .int (x : Int), rfl, rfl, .of e3, atI_nat (j := 0) rfl, x, rfl, rfl, hp⟩
        rintro σ H4 ⟨x, rfl, rfl, hp⟩
        have hm := freeL_mem (letL_mem (pickL_mem hp))
        have hf : fdOf b n = 2 + (b + 8 - 1) / 8 + n := rfl
        have hxb : (x : Int) < b := by omega
        have hx2 : x ≠ 0 := by omega
        refine ⟨_, rfl, im, _, _, rfl, I3.ob, rfl, _, rfl, _, rfl, _, rfl, im, _, _, _, _, rfl, I3.ob, T.cl_Image, T.na_Image_serial, rfl, im, A, v, b, n, sl, x, kind, v.se, rfl, I3, hm.1, hxb, fun H5 q hq I5 k5 => ?_⟩
        obtain ⟨r', m', r1', r2', r3', r4'⟩ := I5.row0
        have rA : A.rs[0]? = some r' := by
          have : (A.rs.set x q)[0]? = some r' := r1'
          rw [List.getElem?_set_ne hx2] at this
          exact this
        obtain rfl : r = r' := Option.some.inj (r1.symm.trans rA)
        have r2'' := r2'
        rw [putB_row0 hx2, r2] at r2''
        obtain rfl : m = m' := Option.some.inj r2''
        refine ⟨_, rfl, _, rfl, r, _, o, _, rfl, rfl, .of r4', by rw [List.getElem?_map, List.getElem?_eq_getElem hol]; rfl, _, _, rfl, rfl, r, _, _, o, rfl, rfl, r4', ixN_nat rfl (by rw [List.length_map]; exact hol), ?_⟩
        have I6 := I5.setC (j := o) (x := m[o] + 1) r1' r2'
        refine ⟨_, rfl, k nq x hp _ q (S03.free hq) ?_ ((Kp.of S03).trans (k5.own (by simp [List.mem_of_getElem? rA])))⟩
        unfold takeV
        rw [eo]
        exact I6
end
end K39
namespace K39
open PySem PySem.Spec PyProof.Rows L2 Rg
/-! ### what a deed leaves of the stamps -/
theorem setl_none {M : List (List Int)} {ho st : List Int} {se1 : Int} (hs : ∀ y ∈ ho, y < se1) : ∀ i, setl 24 5 M M ho se1 st i = st
  | 0 => rfl
  | i + 1 => by
    rw [setl_succ, if_neg, setl_none hs i]
    rintro (q | q)
    · exact q.2 rfl
    · have := hs _ (List.mem_of_getElem? q)
      omega
theorem set_get {l : List Int} {i j : Nat} {x : Int} (h : j < l.length) : (l.set i x)[j]? = if i = j then some x else l[j]? := by
  by_cases e : i = j
  · subst e
    rw [if_pos rfl, List.getElem?_set_self h]
  · rw [if_neg e, List.getElem?_set_ne e]
theorem st_one {M M3 : List (List Int)} {ho st : List Int} {se1 : Int} {x : Nat} (hst : st.length = 24) (hs : ∀ y ∈ ho, y < se1) (hx : x < 24) (hk : kindOf 24 5 M3 x ≠ 0) (ho_ : ∀ y, y ≠ x → M3[y]? = M[y]?) :
    setl 24 5 M3 M ho se1 st 24 = if M3[x]? = M[x]? then st else st.set x se1 := by
  have nh : ∀ y, ho[y]? ≠ some se1 := fun y q => by
    have := hs _ (List.mem_of_getElem? q)
    omega
  apply List.ext_getElem?
  intro y
  by_cases hy : y < 24
  · rw [setl_get (by omega)]
    by_cases e : x = y
    · subst e
      by_cases q : M3[x]? = M[x]?
      · rw [if_pos q, if_neg]
        rintro ⟨_, z | z⟩
        · exact z.2 q
        · exact nh _ z
      · rw [if_neg q, if_pos ⟨hx, .inl ⟨hk, q⟩⟩, List.getElem?_set_self (by omega)]
    · have h1 := ho_ y (fun z => e z.symm)
      rw [if_neg]
      · split
        · rfl
        · rw [List.getElem?_set_ne e]
      · rintro ⟨_, z | z⟩
        · exact z.2 h1
        · exact nh _ z
  · rw [List.getElem?_eq_none (by rw [setl_len]; omega)]
    split
    · rw [List.getElem?_eq_none (by omega)]
    · rw [List.getElem?_eq_none (by rw [List.length_set]; omega)]
theorem st_step {M M3 : List (List Int)} {ho st : List Int} {se1 sr : Int} {x mr : Nat} (hst : st.length = 24) (hho : ho.length = 24) (h0 : kindOf 24 5 M3 0 ≠ 0 ∧ M3[0]? ≠ M[0]?) (hm : kindOf 24 5 M3 mr ≠ 0 ∧ M3[mr]? ≠ M[mr]?)
    (hx : sr = se1 ∨ (kindOf 24 5 M3 x = 0 ∧ sr ≠ se1)) (ho_ : ∀ y, y ≠ 0 → y ≠ mr → y ≠ x → M3[y]? = M[y]?) (hs : ∀ y ∈ ho, y < se1) (x0 : x ≠ 0) (xm : x ≠ mr) (x24 : x < 24) (m24 : mr < 24) :
    setl 24 5 M3 M (ho.set x sr) se1 (st.set x sr) 24 = ((st.set x sr).set 0 se1).set mr se1 := by
  have nh : ∀ y, ho[y]? ≠ some se1 := fun y q => by
    have := hs _ (List.mem_of_getElem? q)
    omega
  apply List.ext_getElem?
  intro y
  by_cases hy : y < 24
  · rw [setl_get (by rw [List.length_set]; omega), set_get (l := (st.set x sr).set 0 se1) (by rw [List.length_set, List.length_set]; omega), set_get (l := st.set x sr) (by rw [List.length_set]; omega), set_get (l := st) (by omega)]
    by_cases e1 : mr = y
    · subst e1
      rw [if_pos rfl, if_pos ⟨m24, .inl hm⟩]
    · rw [if_neg e1]
      by_cases e2 : 0 = y
      · subst e2
        rw [if_pos rfl, if_pos ⟨by omega, .inl h0⟩]
      · rw [if_neg e2]
        by_cases e3 : x = y
        · subst e3
          rw [if_pos rfl]
          rcases hx with q | q
          · rw [q]
            split <;> rfl
          · rw [if_neg]
            rintro ⟨_, z | z⟩
            · exact z.1 q.1
            · rw [List.getElem?_set_self (by omega)] at z
              exact q.2 (Option.some.inj z)
        · rw [if_neg e3, if_neg]
          rintro ⟨_, z | z⟩
          · exact z.2 (ho_ y (fun q => e2 q.symm) (fun q => e1 q.symm) (fun q => e3 q.symm))
          · rw [List.getElem?_set_ne e3] at z
            exact nh _ z
  · rw [List.getElem?_eq_none (by rw [setl_len, List.length_set]; omega), List.getElem?_eq_none (by rw [List.length_set, List.length_set, List.length_set]; omega)]
/-! ### the cells behind a take or a give -/
def tkM (M : List (List Int)) (x : Nat) (k : Int) (o : Nat) (d : Int) : List (List Int) := setC ((setC M (2 + x / 8) (x % 8) k).set x (List.replicate 8 0)) 0 o (cellAt M 0 o + d)
section
variable {M : List (List Int)} {x o : Nat} {k d : Int} {m : List Int}
theorem tk0 (h : M[0]? = some m) (hx : 10 ≤ x) : (tkM M x k o d)[0]? = some (m.set o (cellAt M 0 o + d)) := by
  unfold tkM
  refine setC_at ?_
  rw [List.getElem?_set_ne (by omega), setC_row (by omega)]
  exact h
theorem tkm (h : M[2 + x / 8]? = some m) (hx : 10 ≤ x) (hx2 : x < 24) : (tkM M x k o d)[2 + x / 8]? = some (m.set (x % 8) k) := by
  unfold tkM
  rw [setC_row (by omega), List.getElem?_set_ne (by omega)]
  exact setC_at h
theorem tkx (hx : 10 ≤ x) (hl : x < M.length) : (tkM M x k o d)[x]? = some (List.replicate 8 0) := by
  unfold tkM
  rw [setC_row (by omega), List.getElem?_set_self (by rw [setC_len]; exact hl)]
theorem tko {y : Nat} (h0 : y ≠ 0) (h1 : y ≠ 2 + x / 8) (h2 : y ≠ x) : (tkM M x k o d)[y]? = M[y]? := by
  unfold tkM
  rw [setC_row (fun z => h0 z.symm), List.getElem?_set_ne (fun z => h2 z.symm), setC_row (fun z => h1 z.symm)]
end
/-! ### the law's book and the image -/
structure BV where
  (kd ho st us li : List Int) (ow : List (Key × V)) (se : Int)
structure Agr (i : Nat) (v : IV) (w : BV) : Prop where
  se : w.se = v.se
  ho : w.ho = v.ho
  st : w.st = v.st
  us4 : w.us.length = 4
  li4 : w.li.length = 4
  r0 : v.M[0]? = some (w.us ++ w.li)
  kl : w.kd.length = 24
  kf : ∀ x : Nat, x < 10 → w.kd[x]? = some 1
  k3 : ∀ (x : Nat) (k : Int), w.kd[x]? = some k → k = 0 ∨ k = 1 ∨ k = 2
  mp : ∀ x : Nat, x < 24 → cellAt v.M (2 + x / 8) (x % 8) = (w.kd[x]?).getD 0
  z : ∀ x : Nat, 10 ≤ x → w.kd[x]? = some 0 → v.M[x]? = some (List.replicate 8 0)
  ow : ∀ (x : Nat) (k : Int), 10 ≤ x → w.kd[x]? = some k → k ≠ 0 → ∃ o : Nat, o < 4 ∧ valV w.ow (Sum.inl (x : Int)) = some (.int (o : Int))
  hs : ∀ y ∈ v.ho, y ≤ v.se
  s1 : 1 ≤ v.se
  ul : ∀ u ∈ w.us, u.natAbs ≤ i
  ol : w.ow.length ≤ i
  hd : v.hd = []
  hz : ∀ x : Nat, x < 24 → ((w.kd[x]?).getD 0 = 0 ↔ (w.ho[x]?).getD 0 = 0)
theorem kind_mp {M : List (List Int)} {kd : List Int} (kl : kd.length = 24) (kf : ∀ x : Nat, x < 10 → kd[x]? = some 1) (k3 : ∀ (x : Nat) (k : Int), kd[x]? = some k → k = 0 ∨ k = 1 ∨ k = 2) (mp : ∀ x : Nat, x < 24 → cellAt M (2 + x / 8) (x % 8) = (kd[x]?).getD 0) {x : Nat} (hx : x < 24) :
    kindOf 24 5 M x = (kd[x]?).getD 0 := by
  unfold kindOf
  have e10 : (2 + (24 + 8 - 1) / 8 + 5 : Int) = 10 := by decide
  rw [e10]
  by_cases h : (x : Int) < 10
  · rw [if_pos h, kf x (by omega)]
    rfl
  · rw [if_neg h, show ((2 : Int) + (x : Int) / 8).toNat = 2 + x / 8 by omega, show ((x : Int) % 8).toNat = x % 8 by omega, mp x hx]
    have hl : x < kd.length := by omega
    have := k3 x _ (List.getElem?_eq_getElem hl)
    rw [List.getElem?_eq_getElem hl]
    show (if kd[x] = 1 ∨ kd[x] = 2 then kd[x] else 0) = kd[x]
    rcases this with q | q | q <;> rw [q] <;> decide
theorem Agr.kind {i : Nat} {v : IV} {w : BV} (A : Agr i v w) {x : Nat} (hx : x < 24) : kindOf 24 5 v.M x = (w.kd[x]?).getD 0 := kind_mp A.kl A.kf A.k3 A.mp hx
theorem filt_congr {l : List Int} {p q : Int → Bool} (h : ∀ x ∈ l, p x = q x) : l.filter p = l.filter q := List.filter_congr h
theorem Agr.free {i : Nat} {v : IV} {w : BV} (A : Agr i v w) : freeL 24 5 v.M = (rng 10 14).filter fun x => decide ((w.kd[x.toNat]?).getD 0 = 0) := by
  unfold freeL
  rw [show fdOf 24 5 = 10 by decide, show ((24 : Int) - 10).toNat = 14 by decide]
  refine filt_congr fun x hx => ?_
  have := rng_mem hx
  have e : x = ((x.toNat : Nat) : Int) := by omega
  have h := A.kind (x := x.toNat) (by omega)
  rw [← e] at h
  rw [h]
end K39
namespace K39
open PySem PySem.Spec PyProof.Rows L2 Rg
def begV (v : IV) (wi : Int) (ba : List Int) : IV := { v with se := v.se + 1, wi := wi, ba := ba }
def setV (v v0 : IV) : IV := { v with st := setl 24 5 v.M v0.M v.ho v.se v.st 24 }
def cellV (v : IV) (x j : Nat) (c : Int) : IV := { v with M := setC v.M x j c }
theorem Agr.lst {i : Nat} {v : IV} {w : BV} (A : Agr i v w) {b n s : Int} {CI CP : Addr} {H : Hp} {im : Addr} {B : IA} (I : ImgAt CI CP H im B v 24 n s) : v.M.length = 24 ∧ v.ho.length = 24 ∧ v.st.length = 24 := by
  have d0 := I.d0
  have d2 := I.d2
  have d3 := I.d3
  exact ⟨by omega, by omega, by omega⟩
structure Len24 (v : IV) : Prop where
  m : v.M.length = 24
  h : v.ho.length = 24
  s : v.st.length = 24
  r : ∀ m ∈ v.M, m.length = 8
theorem ImgAt.l24 {n s : Int} {CI CP : Addr} {H : Hp} {im : Addr} {B : IA} {v : IV} (I : ImgAt CI CP H im B v 24 n s) : Len24 v := by
  have d0 := I.d0
  have d2 := I.d2
  have d3 := I.d3
  exact ⟨by omega, by omega, by omega, I.d1⟩
/-- a refused take: nothing but the begun deed -/
theorem Agr.refused {i : Nat} {v : IV} {w : BV} (A : Agr i v w) (wi : Int) (ba : List Int) : Agr (i + 1) (setV (begV v wi ba) v) { w with se := w.se + 1 } := by
  have e : setl 24 5 v.M v.M v.ho (v.se + 1) v.st 24 = v.st := setl_none (fun y hy => by have := A.hs y hy; omega) 24
  exact { A with
    se := by show w.se + 1 = v.se + 1; rw [A.se]
    st := by show w.st = setl 24 5 v.M v.M v.ho (v.se + 1) v.st 24; rw [e]; exact A.st
    hs := fun y hy => by have := A.hs y hy; show y ≤ v.se + 1; omega
    s1 := by have := A.s1; show 1 ≤ v.se + 1; omega
    ul := fun u hu => by have := A.ul u hu; omega
    ol := by have := A.ol; show w.ow.length ≤ i + 1; omega }
theorem mem_set_of' {l : List Int} {i : Nat} {x y : Int} (h : y ∈ l.set i x) : y = x ∨ y ∈ l := mem_set_of h
/-- the book behind a take or a give -/
def bookT (w : BV) (x : Nat) (k sr : Int) (o : Nat) (d : Int) : BV :=
  { w with kd := w.kd.set x k, ho := w.ho.set x sr, st := (((w.st.set x sr).set 0 (w.se + 1)).set (2 + x / 8) (w.se + 1)), ow := putK w.ow (Sum.inl (x : Int)) (.int (o : Int)), us := w.us.set o ((w.us[o]?).getD 0 + d), se := w.se + 1 }
theorem Agr.took {i : Nat} {v v3 : IV} {w : BV} (A : Agr i v w) (L : Len24 v) {x o : Nat} {k sr d : Int} (hx : 10 ≤ x) (hx2 : x < 24) (ho : o < 4) (hd : d = 1 ∨ d = -1) (hk : k = 0 ∨ k = 1 ∨ k = 2) (hkx : (w.kd[x]?).getD 0 ≠ k)
    (hsr : (k = 0 ∧ sr = 0) ∨ (k ≠ 0 ∧ sr = v.se + 1))
    (eM : ∀ y, y ≠ x → v3.M[y]? = (tkM v.M x k o d)[y]?) (eMx : k = 0 → v3.M[x]? = some (List.replicate 8 0)) (eho : v3.ho = v.ho.set x sr) (est : v3.st = v.st.set x sr) (ese : v3.se = v.se + 1) (ehd : v3.hd = v.hd) :
    Agr (i + 1) (setV v3 v) (bookT w x k sr o d) := by
  have hM := L.m
  have hr : ∀ y : Nat, y < 24 → ∃ m, v.M[y]? = some m ∧ m.length = 8 := fun y hy => ⟨_, List.getElem?_eq_getElem (by omega), L.r _ (List.getElem_mem (by omega))⟩
  obtain ⟨mm, em, lm⟩ := hr (2 + x / 8) (by omega)
  have hou : o < w.us.length := by rw [A.us4]; exact ho
  have e0 : v3.M[0]? = some (w.us.set o ((w.us[o]?).getD 0 + d) ++ w.li) := by
    rw [eM 0 (by omega), tk0 A.r0 hx]
    have : cellAt v.M 0 o = (w.us[o]?).getD 0 := by
      rw [cellAt_of A.r0 (x := w.us[o]) (by rw [List.getElem?_append_left hou]; exact List.getElem?_eq_getElem hou), List.getElem?_eq_getElem hou]
      rfl
    rw [this, List.set_append_left _ _ hou]
  have e2 : v3.M[2 + x / 8]? = some (mm.set (x % 8) k) := by
    rw [eM _ (by omega), tkm em hx hx2]
  have eo : ∀ y, y ≠ 0 → y ≠ 2 + x / 8 → y ≠ x → v3.M[y]? = v.M[y]? := fun y h0 h1 h2 => by rw [eM y h2, tko h0 h1 h2]
  have mx : mm[x % 8]? = some ((w.kd[x]?).getD 0) := by
    have h1 := A.mp x hx2
    have hl : x % 8 < mm.length := by omega
    rw [cellAt_of em (List.getElem?_eq_getElem hl)] at h1
    rw [List.getElem?_eq_getElem hl, h1]
  have mp' : ∀ y : Nat, y < 24 → cellAt v3.M (2 + y / 8) (y % 8) = ((w.kd.set x k)[y]?).getD 0 := fun y hy => by
    have hkl := A.kl
    by_cases e : y / 8 = x / 8
    · rw [e]
      have hl : y % 8 < (mm.set (x % 8) k).length := by rw [List.length_set]; omega
      rw [cellAt_of e2 (List.getElem?_eq_getElem hl)]
      by_cases q : x = y
      · subst q
        rw [List.getElem?_set_self (by omega), List.getElem_set_self]
        rfl
      · rw [List.getElem?_set_ne q, List.getElem_set_ne (by omega), ← A.mp y hy, e]
        exact (cellAt_of em (List.getElem?_eq_getElem (by rw [List.length_set] at hl; exact hl))).symm
    · rw [cellAt_congr (eo (2 + y / 8) (by omega) (by omega) (by omega)), A.mp y hy, List.getElem?_set_ne (by intro z; subst z; exact e rfl)]
  have kl' : (w.kd.set x k).length = 24 := by rw [List.length_set]; exact A.kl
  have kf' : ∀ y : Nat, y < 10 → (w.kd.set x k)[y]? = some 1 := fun y hy => by
    rw [List.getElem?_set_ne (by omega)]
    exact A.kf y hy
  have k3' : ∀ (y : Nat) (k' : Int), (w.kd.set x k)[y]? = some k' → k' = 0 ∨ k' = 1 ∨ k' = 2 := fun y k' h => by
    rcases mem_set_of (List.mem_of_getElem? h) with e | e
    · rw [e]; exact hk
    · obtain ⟨j, hj, ej⟩ := List.getElem_of_mem e
      exact A.k3 j k' (by rw [List.getElem?_eq_getElem hj, ej])
  have kk : ∀ y : Nat, y < 24 → kindOf 24 5 v3.M y = ((w.kd.set x k)[y]?).getD 0 := fun y hy => kind_mp kl' kf' k3' mp' hy
  have k0 : kindOf 24 5 v3.M 0 ≠ 0 := by
    have := kk 0 (by omega)
    rw [kf' 0 (by omega)] at this
    intro z
    have h2 : kindOf 24 5 v3.M ((0 : Nat) : Int) = 0 := z
    rw [this] at h2
    cases h2
  have km : kindOf 24 5 v3.M ((2 + x / 8 : Nat) : Int) ≠ 0 := by
    rw [kk _ (by omega), kf' _ (by omega)]
    decide
  have kx : kindOf 24 5 v3.M (x : Int) = k := by
    rw [kk x hx2, List.getElem?_set_self (by rw [A.kl]; exact hx2)]
    rfl
  have stE : setl 24 5 v3.M v.M v3.ho v3.se v3.st 24 = ((v.st.set x sr).set 0 (v.se + 1)).set (2 + x / 8) (v.se + 1) := by
    rw [eho, ese, est]
    refine st_step L.s L.h ⟨k0, ?_⟩ ⟨km, ?_⟩ ?_ eo (fun y hy => by have := A.hs y hy; omega) (by omega) (by omega) hx2 (by omega)
    · rw [e0, A.r0]
      intro z
      have h1 := congrArg (fun l => l[o]?) (Option.some.inj z)
      rw [List.getElem?_append_left (by rw [List.length_set]; exact hou), List.getElem?_append_left hou, List.getElem?_set_self hou, List.getElem?_eq_getElem hou] at h1
      have h2 := Option.some.inj h1
      have h3 : w.us[o] + d = w.us[o] := h2
      rcases hd with q | q <;> omega
    · rw [e2, em]
      intro z
      have h1 := congrArg (fun l => l[x % 8]?) (Option.some.inj z)
      rw [List.getElem?_set_self (by omega), mx] at h1
      exact hkx (Option.some.inj h1).symm
    · rcases hsr with q | q
      · refine .inr ⟨by rw [kx]; exact q.1, ?_⟩
        have := A.s1
        omega
      · exact .inl q.2
  refine { se := ?_, ho := ?_, st := ?_, us4 := ?_, li4 := A.li4, r0 := e0, kl := kl', kf := kf', k3 := k3', mp := mp', z := fun y hy h => ?_, ow := fun y k' hy h hne => ?_, hs := fun y hy => ?_, s1 := ?_, ul := fun u hu => ?_, ol := ?_, hd := ?_, hz := fun y hy => ?_ }
  · show w.se + 1 = v3.se
    rw [A.se, ese]
  · show w.ho.set x sr = v3.ho
    rw [A.ho, eho]
  · show (((w.st.set x sr).set 0 (w.se + 1)).set (2 + x / 8) (w.se + 1)) = setl 24 5 v3.M v.M v3.ho v3.se v3.st 24
    rw [stE, A.st, A.se]
  · show (w.us.set o _).length = 4
    rw [List.length_set]; exact A.us4
  · show v3.M[y]? = _
    by_cases e : x = y
    · subst e
      have h' : (w.kd.set x k)[x]? = some 0 := h
      rw [List.getElem?_set_self (by rw [A.kl]; exact hx2)] at h'
      exact eMx (Option.some.inj h')
    · have h' : (w.kd.set x k)[y]? = some 0 := h
      rw [List.getElem?_set_ne e] at h'
      rw [eo y (by omega) (by omega) (fun z => e z.symm)]
      exact A.z y hy h'
  · show ∃ o' : Nat, o' < 4 ∧ valV (putK w.ow (Sum.inl (x : Int)) (.int (o : Int))) (Sum.inl (y : Int)) = some (.int (o' : Int))
    rw [valV_put]
    by_cases e : x = y
    · subst e
      exact ⟨o, ho, by rw [if_pos rfl]⟩
    · have h' : (w.kd.set x k)[y]? = some k' := h
      rw [List.getElem?_set_ne e] at h'
      rw [if_neg (by intro z; exact e (by have := Sum.inl.inj z; omega))]
      exact A.ow y k' hy h' hne
  · have hy' : y ∈ v3.ho := hy
    show y ≤ v3.se
    rw [ese]
    rw [eho] at hy'
    have := A.s1
    rcases mem_set_of hy' with e | e
    · rcases hsr with q | q
      · have := q.2; omega
      · have := q.2; omega
    · have := A.hs y e
      omega
  · show 1 ≤ v3.se
    have := A.s1
    omega
  · have hu' : u ∈ w.us.set o ((w.us[o]?).getD 0 + d) := hu
    rcases mem_set_of hu' with e | e
    · have h1 := A.ul _ (List.getElem_mem hou)
      rw [List.getElem?_eq_getElem hou] at e
      have e' : u = w.us[o] + d := e
      rcases hd with q | q <;> omega
    · have := A.ul u e
      omega
  · show (putK w.ow (Sum.inl (x : Int)) (.int (o : Int))).length ≤ i + 1
    have h1 := length_putK w.ow (Sum.inl (x : Int) : Key) (.int (o : Int))
    have h2 := A.ol
    omega
  · show v3.hd = []
    rw [ehd]; exact A.hd
  · show ((w.kd.set x k)[y]?).getD 0 = 0 ↔ ((w.ho.set x sr)[y]?).getD 0 = 0
    have hkl := A.kl
    have hhl : w.ho.length = 24 := by rw [A.ho]; exact L.h
    have hs1 := A.s1
    by_cases e : x = y
    · subst e
      rw [List.getElem?_set_self (by omega), List.getElem?_set_self (by omega)]
      show k = 0 ↔ sr = 0
      rcases hsr with q | q
      · exact ⟨fun _ => q.2, fun _ => q.1⟩
      · exact ⟨fun z => absurd z q.1, fun z => by omega⟩
    · rw [List.getElem?_set_ne e, List.getElem?_set_ne e]
      exact A.hz y hy
/-- one cell of a held or fixed block -/
theorem Agr.changed {i : Nat} {v : IV} {w : BV} (A : Agr i v w) (L : Len24 v) {x j : Nat} {c : Int} (hx : 5 ≤ x) (hx2 : x < 24) (hj : j < 8) (hk : (w.kd[x]?).getD 0 ≠ 0) (wi : Int) (ba : List Int) :
    Agr (i + 1) (setV (cellV (begV v wi ba) x j c) v) (if c = cellAt v.M x j then { w with se := w.se + 1 } else { w with se := w.se + 1, st := w.st.set x (w.se + 1) }) := by
  have hM := L.m
  have hxl : x < v.M.length := by omega
  have em := List.getElem?_eq_getElem hxl
  have lm := L.r _ (List.getElem_mem hxl)
  have eo : ∀ y, y ≠ x → (setC v.M x j c)[y]? = v.M[y]? := fun y h => setC_row fun z => h z.symm
  have ex : (setC v.M x j c)[x]? = some (v.M[x].set j c) := setC_at em
  have ec : cellAt v.M x j = v.M[x][j] := cellAt_of em (List.getElem?_eq_getElem (by omega))
  have mp' : ∀ y : Nat, y < 24 → cellAt (setC v.M x j c) (2 + y / 8) (y % 8) = (w.kd[y]?).getD 0 := fun y hy => by
    rw [cellAt_congr (eo (2 + y / 8) (by omega))]
    exact A.mp y hy
  have kx : kindOf 24 5 (setC v.M x j c) (x : Int) ≠ 0 := by
    rw [kind_mp A.kl A.kf A.k3 mp' hx2]
    exact hk
  have hs' : ∀ y ∈ v.ho, y < v.se + 1 := fun y hy => by have := A.hs y hy; omega
  have stE := st_one (M := v.M) (M3 := setC v.M x j c) (ho := v.ho) (st := v.st) (se1 := v.se + 1) L.s hs' hx2 kx eo
  have same : (setC v.M x j c)[x]? = v.M[x]? ↔ c = v.M[x][j] := by
    rw [ex, em]
    constructor
    · intro z
      have h1 := congrArg (fun l => l[j]?) (Option.some.inj z)
      rw [List.getElem?_set_self (by omega), List.getElem?_eq_getElem (by omega)] at h1
      exact Option.some.inj h1
    · intro z
      rw [z, List.set_getElem_self]
  have base : ∀ st, st = setl 24 5 (setC v.M x j c) v.M v.ho (v.se + 1) v.st 24 → Agr (i + 1) (setV (cellV (begV v wi ba) x j c) v) { w with se := w.se + 1, st := st } := fun st hst =>
    { A with
      se := by show w.se + 1 = v.se + 1; rw [A.se]
      st := hst
      r0 := by show (setC v.M x j c)[0]? = _; rw [eo 0 (by omega)]; exact A.r0
      mp := mp'
      z := fun y hy h => by
        show (setC v.M x j c)[y]? = _
        have h' : w.kd[y]? = some 0 := h
        have e : y ≠ x := by
          rintro rfl
          rw [h'] at hk
          exact hk rfl
        rw [eo y e]
        exact A.z y hy h'
      hs := fun y hy => by have := A.hs y hy; show y ≤ v.se + 1; omega
      s1 := by have := A.s1; show 1 ≤ v.se + 1; omega
      ul := fun u hu => by have := A.ul u hu; omega
      ol := by have := A.ol; show w.ow.length ≤ i + 1; omega }
  rw [ec]
  by_cases q : c = v.M[x][j]
  · rw [if_pos q]
    exact base w.st (by rw [stE, if_pos (same.mpr q)]; exact A.st)
  · rw [if_neg q]
    exact base _ (by rw [stE, if_neg (fun z => q (same.mp z)), A.st, A.se])
/-- a limit -/
theorem Agr.limited {i : Nat} {v : IV} {w : BV} (A : Agr i v w) {o : Nat} {l : Int} (ho : o < 4) : Agr (i + 1) (cellV v 0 (4 + o) l) { w with li := w.li.set o l } := by
  exact { A with
    li4 := by show (w.li.set o l).length = 4; rw [List.length_set]; exact A.li4
    r0 := by
      show (setC v.M 0 (4 + o) l)[0]? = some (w.us ++ w.li.set o l)
      rw [setC_at A.r0, List.set_append_right _ _ (by rw [A.us4]; omega), A.us4]
      rw [show 4 + o - 4 = o by omega]
    mp := fun y hy => by
      show cellAt (setC v.M 0 (4 + o) l) (2 + y / 8) (y % 8) = _
      rw [cellAt_congr (setC_row (by omega))]
      exact A.mp y hy
    z := fun y hy h => by
      show (setC v.M 0 (4 + o) l)[y]? = _
      rw [setC_row (by omega)]
      exact A.z y hy h
    ul := fun u hu => by have := A.ul u hu; omega
    ol := by have := A.ol; show w.ow.length ≤ i + 1; omega }
end K39
namespace K39
open PySem PySem.Spec PyProof.Rows L2 Rg
/-! ### the law's book -/
structure Bk where
  (bk kd ho st ow : Addr)
def bkR (B : Bk) : List V := [.ref B.kd, .ref B.ho, .ref B.st, .ref B.ow]
def bkL (B : Bk) (w : BV) (fa : Addr) (fs : List Int) : List (Addr × HO) := [(fa, .lst (fs.map V.int)), (B.bk, .lst (bkR B)), (B.kd, .lst (w.kd.map V.int)), (B.ho, .lst (w.ho.map V.int)), (B.st, .lst (w.st.map V.int)), (B.ow, .dK w.ow)]
def bkA (B : Bk) (fa : Addr) : List Addr := [fa, B.bk, B.kd, B.ho, B.st, B.ow]
theorem bkA_eq {B : Bk} {w : BV} {fa : Addr} {fs : List Int} : (bkL B w fa fs).map (·.1) = bkA B fa := rfl
theorem bk_in {B : Bk} {w : BV} {fa : Addr} {fs : List Int} {i : Nat} {a : Addr} {o : HO} (h : (bkL B w fa fs)[i]? = some (a, o)) : a ∈ bkA B fa := by
  rw [← bkA_eq (w := w) (fs := fs)]
  exact List.mem_map.mpr ⟨_, List.mem_of_getElem? h, rfl⟩
/-- where a deed changes an image -/
def IA.ft (A : IA) (im : Addr) : List Addr := im :: A.ca :: A.ho :: A.st :: A.rs
theorem ft_mem {A : IA} {im x : Addr} (h : x ∈ A.ca :: A.ho :: A.st :: A.rs) : x ∈ A.ft im := List.mem_cons_of_mem _ h
theorem twin_out {H : Hp} {A A0 : IA} {im0 a : Addr} (N : A0.New H) (n0 : H im0 = none) (epl : A0.pl = A.pl) (eba : A0.ba = A.ba) (ha : ∃ o, H a = some o) (h1 : a ≠ A.pl) (h2 : a ≠ A.ba) : a ∉ A0.reads im0 := fun z => by
  obtain ⟨o, e⟩ := ha
  have nn : ∀ x, H x = none → a ≠ x := fun x h q => by rw [q, h] at e; cases e
  simp only [IA.reads, List.mem_cons] at z
  rcases z with z | z | z | z | z | z | z | z
  · exact nn _ n0 z
  · exact h1 (z.trans epl)
  · exact nn _ N.ca z
  · exact nn _ N.ho z
  · exact nn _ N.st z
  · exact nn _ N.hd z
  · exact h2 (z.trans eba)
  · exact nn _ (N.rs a z) rfl
theorem ImgAt.foot_ne {CI CP : Addr} {H : Hp} {im : Addr} {A : IA} {v : IV} {b n s : Int} (I : ImgAt CI CP H im A v b n s) {x : Addr} (hx : x ∈ im :: A.ca :: A.ho :: A.st :: A.rs) : (∃ o, H x = some o) ∧ x ≠ A.pl ∧ x ≠ A.ba := by
  obtain ⟨dxp, hpl⟩ := I.pl.ob
  have hba := I.ba
  simp only [List.mem_cons] at hx
  have lst : ∀ {y : Addr} {ys : List V}, H y = some (.lst ys) → (∃ o, H y = some o) ∧ y ≠ A.pl ∧ y ≠ A.ba := fun e => ⟨⟨_, e⟩, fun z => (by rw [z, hpl] at e; cases e), fun z => (by rw [z, hba] at e; cases e)⟩
  rcases hx with rfl | rfl | rfl | rfl | hx
  · refine ⟨⟨_, I.ob⟩, fun z => ?_, fun z => ?_⟩
    · have e := I.ob
      rw [z, hpl] at e
      have := HO.ins.inj (Option.some.inj e)
      have := this.2.2
      simp [planF, imgF] at this
    · have e := I.ob
      rw [z, hba] at e
      cases e
  · exact lst I.gr.out
  · exact lst I.ho
  · exact lst I.st
  · obtain ⟨i, hi, e2⟩ := List.getElem_of_mem hx
    have hm : i < v.M.length := by rw [← I.gr.len]; exact hi
    exact lst (I.gr.row i x v.M[i] (by rw [List.getElem?_eq_getElem hi, e2]) (List.getElem?_eq_getElem hm))
/-- the image changed at its own places, its new parts apart from the others -/
theorem SI.imgN {CI CP : Addr} {H H' : Hp} {im : Addr} {A A' : IA} {v v' : IV} {b n s : Int} {L : List (Addr × HO)} (S : SI CI CP H im A v b n s L) (I' : ImgAt CI CP H' im A' v' b n s) {F : List Addr} (k : Kp F H H') (hF : ∀ x ∈ F, x ∈ A.reads im) (hr : ∀ x ∈ A'.reads im, x ∈ A.reads im ∨ ∀ p ∈ L, p.1 ≠ x) : SI CI CP H' im A' v' b n s L :=
  ⟨I', S.F.keep fun p hp o e => k _ _ e fun z => S.ap p hp (hF _ z), fun p hp z => by
    rcases hr _ z with e | e
    · exact S.ap p hp e
    · exact e p hp rfl⟩
theorem SI.feed {CI CP : Addr} {H : Hp} {im : Addr} {A : IA} {v : IV} {b n s : Int} {B : Bk} {w : BV} {fa : Addr} {fs : List Int} (S : SI CI CP H im A v b n s (bkL B w fa fs)) (fs' : List Int) : SI CI CP (upd H fa (.lst (fs'.map V.int))) im A v b n s (bkL B w fa fs') := S.put 0 rfl
theorem reads_ba {A : IA} {im t x : Addr} (h : x ∈ ({ A with ba := t } : IA).reads im) : x ∈ A.reads im ∨ x = t := by
  simp only [IA.reads, List.mem_cons] at h ⊢
  rcases h with z | z | z | z | z | z | z | z
  · exact .inl (by simp [z])
  · exact .inl (by simp [z])
  · exact .inl (by simp [z])
  · exact .inl (by simp [z])
  · exact .inl (by simp [z])
  · exact .inl (by simp [z])
  · exact .inr z
  · exact .inl (by simp [z])
theorem reads_rs {A : IA} {im q x : Addr} {i : Nat} (h : x ∈ ({ A with rs := A.rs.set i q } : IA).reads im) : x ∈ A.reads im ∨ x = q := by
  simp only [IA.reads, List.mem_cons] at h ⊢
  rcases h with z | z | z | z | z | z | z | z
  · exact .inl (by simp [z])
  · exact .inl (by simp [z])
  · exact .inl (by simp [z])
  · exact .inl (by simp [z])
  · exact .inl (by simp [z])
  · exact .inl (by simp [z])
  · exact .inl (by simp [z])
  · rcases mem_set_of z with e | e
    · exact .inr e
    · exact .inl (by simp [e])
theorem Agr.mono {i : Nat} {v : IV} {w : BV} (A : Agr i v w) : Agr (i + 1) v w := { A with ul := fun u hu => by have := A.ul u hu; omega, ol := by have := A.ol; omega }
theorem mod_idx {l : List Int} {a : Int} (h0 : 0 ≤ a) (hne : l ≠ []) : ∃ (j : Nat) (x : Int), a % (l.length : Int) = j ∧ l[j]? = some x := by
  have hl : 0 < l.length := List.length_pos_iff.mpr hne
  have h1 := Int.emod_nonneg a (b := (l.length : Int)) (by omega)
  have h2 := Int.emod_lt_of_pos a (b := (l.length : Int)) (by omega)
  exact ⟨(a % (l.length : Int)).toNat, l[(a % (l.length : Int)).toNat]'(by omega), by omega, List.getElem?_eq_getElem _⟩
theorem Agr.us_at {i : Nat} {v : IV} {w : BV} (G : Agr i v w) {o : Nat} (ho : o < 4) : ∃ u l, w.us[o]? = some u ∧ w.li[o]? = some l ∧ cellAt v.M 0 o = u ∧ cellAt v.M 0 (4 + o) = l ∧ u.natAbs ≤ i := by
  have hu : o < w.us.length := by rw [G.us4]; exact ho
  have hl : o < w.li.length := by rw [G.li4]; exact ho
  refine ⟨w.us[o], w.li[o], List.getElem?_eq_getElem hu, List.getElem?_eq_getElem hl, cellAt_of G.r0 ?_, cellAt_of G.r0 ?_, G.ul _ (List.getElem_mem hu)⟩
  · rw [List.getElem?_append_left hu]
    exact List.getElem?_eq_getElem hu
  · rw [List.getElem?_append_right (by rw [G.us4]; omega), G.us4, show 4 + o - 4 = o by omega]
    exact List.getElem?_eq_getElem hl
theorem log_small {x : Int} (h : x.natAbs ≤ 1000) : x.natAbs.log2 < 1920 := by
  have : x.natAbs.log2 < 10 := by
    by_cases e : x.natAbs = 0
    · rw [e]; decide
    · rw [Nat.log2_lt e]
      omega
  omega
/-- the owners need not be told behind a give -/
theorem Agr.gave {i : Nat} {v v' : IV} {w : BV} (A : Agr i v w) {x o : Nat} {sr d : Int} (hx : x < 24) (h : Agr (i + 1) v' (bookT w x 0 sr o d)) : Agr (i + 1) v' { bookT w x 0 sr o d with ow := w.ow } :=
  { h with
    ow := fun y k' hy hk hne => by
      have hk : (w.kd.set x 0)[y]? = some k' := hk
      by_cases e : x = y
      · subst e
        rw [List.getElem?_set_self (by rw [A.kl]; exact hx)] at hk
        exact absurd (Option.some.inj hk).symm hne
      · rw [List.getElem?_set_ne e] at hk
        exact A.ow y k' hy hk hne
    ol := by have := A.ol; show w.ow.length ≤ i + 1; omega }
/-- what a deed leaves ahead of settle -/
def Deed (CI CP : Addr) (H : Hp) (im : Addr) (A : IA) (v0 : IV) (s : Int) (B : Bk) (w : BV) (fa : Addr) (i : Nat) (H' : Hp) : Prop :=
  ∃ (A' : IA) (v' : IV) (w' : BV) (fs' : List Int), SI CI CP H' im A' v' 24 5 s (bkL B w' fa fs') ∧ Agr (i + 1) (setV v' v0) w' ∧ w'.li = w.li ∧ v'.se = v0.se + 1 ∧ A'.pl = A.pl ∧ A'.ca = A.ca ∧ A'.ho = A.ho ∧ A'.st = A.st ∧ A'.ba = A.ba ∧ (∀ x ∈ A'.rs, x ∈ A.rs ∨ H x = none) ∧ Kp (A.ft im ++ bkA B fa) H H' ∧ ∀ x ∈ A'.reads im, x ∈ A.reads im ∨ H x = none
/-! ### moments -/
structure Mom where
  (im : Addr) (A : IA) (v : IV) (k h t : Addr) (kd : List Int)
def Mom.adr (M : Mom) (m : Addr) : List Addr := m :: M.k :: M.h :: M.t :: M.A.reads M.im
structure MomAt (CI CP : Addr) (H : Hp) (m : Addr) (M : Mom) (s : Int) : Prop where
  l : H m = some (.lst [.ref M.im, .ref M.k, .ref M.h, .ref M.t])
  I : ImgAt CI CP H M.im M.A M.v 24 5 s
  k : H M.k = some (.lst (M.kd.map V.int))
  h : H M.h = some (.lst (M.v.ho.map V.int))
  t : H M.t = some (.lst (M.v.st.map V.int))
  kl : M.kd.length = 24
  kk : ∀ x : Nat, x < 24 → kindOf 24 5 M.v.M x = (M.kd[x]?).getD 0
  hz : ∀ x : Nat, x < 24 → ((M.kd[x]?).getD 0 = 0 ↔ (M.v.ho[x]?).getD 0 = 0)
theorem MomAt.keep {CI CP : Addr} {H H' : Hp} {m : Addr} {M : Mom} {s : Int} (h : MomAt CI CP H m M s) (f : ∀ x o, x ∈ M.adr m → H x = some o → H' x = some o) : MomAt CI CP H' m M s :=
  ⟨f _ _ (by simp [Mom.adr]) h.l, h.I.keepF fun x o hx e => f _ _ (by simp [Mom.adr, hx]) e, f _ _ (by simp [Mom.adr]) h.k, f _ _ (by simp [Mom.adr]) h.h, f _ _ (by simp [Mom.adr]) h.t, h.kl, h.kk, h.hz⟩
theorem MomAt.same {CI CP : Addr} {H H' : Hp} {m : Addr} {M : Mom} {s : Int} (h : MomAt CI CP H m M s) (S : Same H H') : MomAt CI CP H' m M s := h.keep fun x o _ e => S x o e
theorem MomAt.held {CI CP : Addr} {H : Hp} {m : Addr} {M : Mom} {s : Int} (h : MomAt CI CP H m M s) {x : Addr} (hx : x ∈ M.adr m) : ∃ o, H x = some o := by
  simp only [Mom.adr, List.mem_cons] at hx
  rcases hx with rfl | rfl | rfl | rfl | hx
  · exact ⟨_, h.l⟩
  · exact ⟨_, h.k⟩
  · exact ⟨_, h.h⟩
  · exact ⟨_, h.t⟩
  · exact h.I.held hx
section
variable {P : Program} {w0_ : World} {K : PySem.W.Frag} {mg : Str → Option Value} {base : Heap}
def sp_Lmoment (CI CP : Addr) : Sp := fun vs H Q _ => ∃ (i : Nat) (im : Addr) (A : IA) (v : IV) (s : Int) (B : Bk) (w : BV) (fa : Addr) (fs : List Int), vs = [.ref im, .ref B.bk] ∧ SI CI CP H im A v 24 5 s (bkL B w fa fs) ∧ Agr i v w ∧
  ∀ (H' : Hp) (m : Addr) (M : Mom), Same H H' → H m = none → MomAt CI CP H' m M s → M.v = v → M.kd = w.kd → (∀ x ∈ M.adr m, H x = none ∨ x = A.pl ∨ x = A.ba) → Q (.ref m) H'
theorem ok_Lmoment (T : Tx K mg) : FnOk P w0_ K mg base CX0 4 T.f_Lmoment T.fd_Lmoment ["_law_image", "_law_book"] (sp_Lmoment T.C_Image T.C_Plan) := by
  refine T.F_Lmoment.ok sc_Lmoment (fun vs H Q E h => ?_) (fun cdv A0 outer s H vs Q E hr h => ?_)
  · obtain ⟨_, _, _, _, _, _, _, _, _, rfl, _⟩ := h; rfl
  · obtain ⟨i, im, A, v, sl, B, w, fa, fs, rfl, S, G, k⟩ := h
    refine ⟨_, (pss_one (ps_ret (pe_lst (pa_cons (pe_meth0 (pv 0) T.cl_Image T.m_Image_twin (ok_twin T) hr (b_Image_twin T) .nil pass0) (pa_cons (pe_listof (K := K) (pe_ix ix_list (pv 1) pe_int (fun _ _ => rfl)) T.b_list) (pa_cons (pe_listof (K := K) (pe_ix ix_list (pv 1) pe_int (fun _ _ => rfl)) T.b_list) (pa_cons (pe_listof (K := K) (pe_ix ix_list (pv 1) pe_int (fun _ _ => rfl)) T.b_list) pa_nil))))))), ?_⟩
    refine ⟨_, rfl, im, _, _, rfl, S.I.ob, rfl, im, A, v, 24, 5, sl, rfl, S.I, fun H1 im0 A1 s1 n1 I1 N1 epl eba => ?_⟩
    have F1 := S.F.same s1
    have b1 := F1.get 1 rfl
    have d1 := F1.get 2 rfl
    refine ⟨_, rfl, B.bk, _, 0, .ref B.kd, rfl, rfl, .of b1, rfl, B.kd, _, rfl, .inl (.of d1), ?_⟩
    (intro q1 n_q1; generalize he_q1 : upd _ q1 _ = H2; obtain ⟨e_q1, s_q1, f_q1⟩ := new_f he_q1 n_q1; clear he_q1)
    have F2 := F1.same s_q1
    have d2 := F2.get 3 rfl
    refine ⟨_, rfl, B.bk, _, 1, .ref B.ho, rfl, rfl, .of (F2.get 1 rfl), rfl, B.ho, _, rfl, .inl (.of d2), ?_⟩
    (intro q2 n_q2; generalize he_q2 : upd _ q2 _ = H3; obtain ⟨e_q2, s_q2, f_q2⟩ := new_f he_q2 n_q2; clear he_q2)
    have F3 := F2.same s_q2
    have d3 := F3.get 4 rfl
    refine ⟨_, rfl, B.bk, _, 2, .ref B.st, rfl, rfl, .of (F3.get 1 rfl), rfl, B.st, _, rfl, .inl (.of d3), ?_⟩
    (intro q3 n_q3; generalize he_q3 : upd _ q3 _ = H4; obtain ⟨e_q3, s_q3, f_q3⟩ := new_f he_q3 n_q3; clear he_q3)
    refine ⟨by show 4 ≤ sizeLine; decide, ?_⟩
    (intro m n_m; generalize he_m : upd _ m _ = H5; obtain ⟨e_m, s_m, f_m⟩ := new_f he_m n_m; clear he_m)
    have s15 := ((s_q1.trans s_q2).trans s_q3).trans s_m
    have f1 : ∀ {x}, H1 x = none → H x = none := fun h => s1.free h
    refine k H5 m ⟨im0, A1, v, q1, q2, q3, w.kd⟩ (s1.trans s15) (f1 (s_q1.free (s_q2.free (s_q3.free n_m)))) ⟨e_m, I1.keep s15, s_m _ _ (s_q3 _ _ (s_q2 _ _ e_q1)), ?_, ?_, G.kl, fun x hx => G.kind hx, fun x hx => by rw [← G.ho]; exact G.hz x hx⟩ rfl rfl fun x hx => ?_
    · rw [← G.ho]; exact s_m _ _ (s_q3 _ _ e_q2)
    · rw [← G.st]; exact s_m _ _ e_q3
    · simp only [Mom.adr, IA.reads, List.mem_cons] at hx
      rcases hx with rfl | rfl | rfl | rfl | rfl | rfl | rfl | rfl | rfl | rfl | rfl | hx
      · exact .inl (f1 (s_q1.free (s_q2.free (s_q3.free n_m))))
      · exact .inl (f1 n_q1)
      · exact .inl (f1 (s_q1.free n_q2))
      · exact .inl (f1 (s_q1.free (s_q2.free n_q3)))
      · exact .inl n1
      · exact .inr (.inl epl)
      · exact .inl N1.ca
      · exact .inl N1.ho
      · exact .inl N1.st
      · exact .inl N1.hd
      · exact .inr (.inr eba)
      · exact .inl (N1.rs x hx)
end
end K39
namespace K39
open PySem PySem.Spec PyProof.Rows L2 Rg
def freeP (kd : List Int) (x : Int) : Bool := decide ((kd[x.toNat]?).getD 0 = 0)
theorem rngk {kd : List Int} (hk : kd.length = 24) {lo : Int} {n j : Nat} (h0 : 0 ≤ lo) (hj : j < n) (hn : lo + n ≤ 24) : ∃ c, (kd[(lo + (j : Int)).toNat]?).getD 0 = c ∧ atI (kd.map V.int) (lo + (j : Int)) = some (.int c) := by
  have hl : (lo + (j : Int)).toNat < kd.length := by omega
  exact ⟨kd[(lo + (j : Int)).toNat], by rw [List.getElem?_eq_getElem hl]; rfl, at_of (j := (lo + (j : Int)).toNat) (by omega) (by rw [List.getElem?_map, List.getElem?_eq_getElem hl]; rfl)⟩
section
variable {P : Program} {w0_ : World} {K : PySem.W.Frag} {mg : Str → Option Value} {base : Heap}
def sp_Ltake (CI CP : Addr) : Sp := fun vs H Q _ => ∃ (i : Nat) (im : Addr) (A : IA) (v : IV) (wi s : Int) (B : Bk) (w : BV) (fa : Addr) (fs : List Int), vs = [.ref im, .ref B.bk, .ref fa, .int (v.se + 1), .int wi] ∧ SI CI CP H im A (begV v wi []) 24 5 s (bkL B w fa fs) ∧ Agr i v w ∧ i ≤ 100 ∧ w.li = [0, 0, 0, 0] ∧ Len24 v ∧
  ∀ H', Deed CI CP H im A v s B w fa i H' → Q (.bl true) H'
theorem ok_Ltake (T : Tx K mg) : FnOk P w0_ K mg base CX0 5 T.f_Ltake T.fd_Ltake ["_law_image", "_law_book", "_law_feed_here", "_law_serial", "_law_wish"] (sp_Ltake T.C_Image T.C_Plan) := by
  refine T.F_Ltake.ok sc_Ltake (fun vs H Q E h => ?_) (fun cdv A0 outer s H vs Q E hr h => ?_)
  · obtain ⟨_, _, _, _, _, _, _, _, _, _, rfl, _⟩ := h; rfl
  · obtain ⟨i, im, A, v, wi, sl, B, w, fa, fs, rfl, S, G, hi, hli, L, k⟩ := h
    have hr1 := hr.mono (show 1 ≤ 4 by decide)
    refine ⟨_, (pss_cons (ps_asg (pv 1) (pg_lst rfl (pgs_cons (pg_name (i := 5) sc_Ltake.nd rfl (.inr rfl)) (pgs_cons (pg_name (i := 6) sc_Ltake.nd rfl (.inl rfl)) (pgs_cons (pg_name (i := 7) sc_Ltake.nd rfl (.inl rfl)) (pgs_cons (pg_name (i := 8) sc_Ltake.nd rfl (.inl rfl)) pgs_nil))))))
      (pss_cons (ps_setLc (i := 9) (own := [("_law_x", 10)]) (g := gName 10) (tt := _) rfl sc_Ltake.nd rfl rfl (sw_true rfl rfl rfl (by decide +kernel)) (pi_range2 rfl T.b_range (pa_cons pe_int (pa_cons pe_int pa_nil))) (blkOk_by (N := ["_law_image", "_law_book", "_law_feed_here", "_law_serial", "_law_wish", "_law_kinds", "_law_holdings", "_law_stamps", "_law_owners", "_law_free", "_law_x", "_law_kind", "_law_owner", "_law_later", "_law_due", "_law_touched"]) (sc := defScope s_Ltake) (by decide +kernel)) (fun _ _ _ _ _ => pg_name (i := 10) sc_Ltake.nd rfl (Or.inl rfl)) (fun _ _ _ _ _ => pts_one (pt_cmpR op_eq (pe_ixK (K := K) (pv 5) (pv 10) (fun _ _ => rfl)) pe_int (nomark _))) (fun _ _ _ _ _ => (pv 10)))
      (pss_cons (ps_set (i := 11) sc_Ltake.nd rfl (.inl rfl) (pe_op op_add pe_int (pe_call (ok_Lpick T) hr1 rfl T.mg_Lpick T.F_Lpick.kp (b_Lpick T) .nil pass0 (pa_cons (pv 2) (pa_cons pe_int pa_nil)))))
      (pss_cons (ps_set (i := 12) sc_Ltake.nd rfl (.inl rfl) (pe_call (ok_Lpick T) hr1 rfl T.mg_Lpick T.F_Lpick.kp (b_Lpick T) .nil pass0 (pa_cons (pv 2) (pa_cons pe_int pa_nil))))
      (pss_cons (ps_if (pt_cmpR op_eq (pe_callB call_len_seq rfl T.b_len (by decide +kernel) (pa_cons (pv 9) pa_nil)) pe_int (nomark _))
        (pss_one (ps_ret pe_bl))
        pss_nil)
      (pss_cons (ps_setLc (i := 13) (own := [("_law_x", 10)]) (g := gName 10) (tt := _) rfl sc_Ltake.nd rfl rfl (sw_true rfl rfl rfl (by decide +kernel)) (pi_list (pv 9)) (blkOk_by (N := ["_law_image", "_law_book", "_law_feed_here", "_law_serial", "_law_wish", "_law_kinds", "_law_holdings", "_law_stamps", "_law_owners", "_law_free", "_law_x", "_law_kind", "_law_owner", "_law_later", "_law_due", "_law_touched"]) (sc := defScope s_Ltake) (by decide +kernel)) (fun _ _ _ _ _ => pg_name (i := 10) sc_Ltake.nd rfl (Or.inl rfl)) (fun _ _ _ _ _ => pts_one (pt_cmpR op_ge (pv 10) (pv 4) (nomark _))) (fun _ _ _ _ _ => (pv 10)))
      (pss_cons (ps_set (i := 14) sc_Ltake.nd rfl (.inl rfl) (pe_ix ix_list (pe_op op_cat (pv 13) (pv 9)) pe_int (fun _ _ => rfl)))
      (pss_cons (ps_set (i := 10) sc_Ltake.nd rfl (.inl rfl) (pe_meth (pv 0) T.cl_Image T.m_Image_take (ok_take T) hr (b_Image_take T) .nil passLN (pa_cons (pv 11) (pa_cons (pv 12) pa_nil))))
      (pss_cons (ps_asg (pv 11) (pg_sub (pv 5) (pv 14) set_list))
      (pss_cons (ps_asg (pv 3) (pg_sub (pv 6) (pv 14) set_list))
      (pss_cons (ps_asg (pv 12) (pg_sub (pv 8) (pv 14) (set_dict (Nat.lt_of_le_of_lt (Nat.add_le_add_left (by decide : 1 ≤ 64) _) hr.units))))
      (pss_cons (ps_for PassesOwn.never rfl (pi_list (pe_lst (pa_cons (pv 14) (pa_cons pe_int (pa_cons (pe_op op_add pe_int (pe_op op_fdiv (pv 14) pe_int)) pa_nil))))) (pg_name (i := 15) sc_Ltake.nd rfl (.inl rfl))
        (pss_one (ps_asg (pv 3) (pg_sub (pv 7) (pv 15) set_list))))
      (pss_one (ps_ret (pe_cmpR op_eq (pv 10) (pv 14) (nomark _)))))))))))))))), ?_⟩
    have h14 : (rng 10 14).length < 1000 := by rw [rng_len]; decide
    have hfa : fa ∈ bkA B fa := by simp [bkA]
    have gbk : H B.bk = some (.lst (bkR B)) := S.F.get 1 rfl
    have bl : SqL K H B.bk [.ref B.kd, .ref B.ho, .ref B.st, .ref B.ow] := .of gbk
    refine ⟨_, rfl, B.bk, _, rfl, bl, rfl, _, _, rfl, _, _, rfl, _, _, rfl, _, _, rfl, rfl, ?_⟩
    refine ⟨10, 24, rfl, ⟨by decide, by decide, by decide, by decide⟩, fun D hD => ?_⟩
    refine lc_range (lo := 10) (n := ((24 : Int) - 10).toNat) (PvF H D (rng 10 14) (freeP w.kd)) (PvF.start hD) ?_ ?_
    · rintro j H' hj Pv
      have hj : j < 14 := hj
      obtain ⟨c, c1, c2⟩ := rngk G.kl (lo := 10) (by decide) hj (by decide)
      have gkd : SqL K H' B.kd (w.kd.map V.int) := .of (Pv.1 _ _ (S.F.get 2 rfl))
      refine ⟨rfl, ?_⟩
      (repeat ((fail_if_success (intro _)); first | (refine And.intro ?_ ?_; focus (first | rfl | assumption | exact .of (by assumption) | exact .inl (.of (by assumption)) | exact .inr (by assumption) | exact .inr (.of (by assumption)) | exact kit_ty (by decide +kernel) | exact .ty _ | exact tyT (by assumption) | exact .base (.int _) | (show _ ≤ sizeLine; first | decide | exact Nat.le_of_ble_eq_true rfl | (simp only [List.length_cons, List.length_nil]; decide)) | exact ⟨_, .of (by assumption)⟩ | exact ⟨_, by assumption⟩ | exact DGet.k (by assumption) | (with_reducible show (_ : Int) ≤ _; omega) | (with_reducible show (_ : Int) < _; omega) | (with_reducible show (_ : Nat) ≤ _; omega) | (with_reducible show (_ : Nat) < _; omega) | exact ⟨by decide, by decide⟩ | exact CMul_l (by decide) | exact CMul_r (by decide))) | ((fail_if_success (show ∃ W : Nat → Nat → L2.St → Hp → Prop, _)); apply Exists.intro) | (refine iteT ?_) | (refine iteF ?_) | (refine wT ?_ ?_; focus omega) | (refine wF ?_ ?_; focus omega) | (refine wTv ?_ ?_; focus omega) | (refine wFv ?_ ?_; focus omega) | (refine wNT ?_ ?_; focus omega) | (refine wNF ?_ ?_; focus omega)))
      refine wI (fun e1 => ?_) fun e1 => ?_
      · exact ⟨_, rfl, Pv.yes hD (Same.refl _) (rng_get hj) h14 (by unfold freeP; rw [c1, e1]; rfl)⟩
      · exact Pv.no (Same.refl _) (rng_get hj) (by unfold freeP; rw [c1, decide_eq_false e1])
    intro H1 Pv
    obtain ⟨s1, e1⟩ := Pv.all (by rw [rng_len]; rfl)
    have efree : (rng 10 14).filter (freeP w.kd) = freeL 24 5 v.M := G.free.symm
    rw [efree] at e1
    have S1 := S.same s1
    have nDk : ∀ w' f', ∀ p ∈ bkL B w' fa f', p.1 ≠ D := fun w' f' p hp z => by
      have hm : p.1 ∈ (bkL B w' fa f').map (·.1) := List.mem_map.mpr ⟨p, hp, rfl⟩
      rw [bkA_eq, ← bkA_eq (w := w) (fs := fs)] at hm
      obtain ⟨q, hq, e⟩ := List.mem_map.mp hm
      exact S.F.held hD q hq (e.trans z)
    have nDf : D ≠ fa := fun z => nDk w fs (fa, .lst (fs.map V.int)) List.mem_cons_self z.symm
    refine ⟨_, rfl, fa, fs, 2, rfl, S1.F.get 0 rfl, by decide, fun r1 f1 r10 r11 fl1 => ?_⟩
    have S2 := S1.feed f1
    refine ⟨_, _, rfl, rfl, ?_⟩
    refine ⟨_, rfl, fa, f1, 4, rfl, S2.F.get 0 rfl, by decide, fun r2 f2 r20 r21 fl2 => ?_⟩
    rw [upd_upd]
    have S3 := S1.feed f2
    have e3 : upd H1 fa (.lst (f2.map V.int)) D = some (.lst ((freeL 24 5 v.M).map V.int)) := by rw [upd_ne nDf]; exact e1
    have k3 : Kp (A.ft im ++ bkA B fa) H (upd H1 fa (.lst (f2.map V.int))) := (Kp.of s1).own (by simp [hfa])
    have fr3 : ∀ x, upd H1 fa (.lst (f2.map V.int)) x = none → H x = none := fun x e => s1.free (un e)
    generalize upd H1 fa (.lst (f2.map V.int)) = H3 at S3 e3 k3 fr3 ⊢
    obtain ⟨o, rfl⟩ : ∃ o : Nat, r2 = o := ⟨r2.toNat, by omega⟩
    have ho : o < 4 := by omega
    have gD : SqL K H3 D ((freeL 24 5 v.M).map V.int) := .of e3
    refine ⟨_, rfl, D, _, rfl, .inl gD, rfl, _, rfl, ?_⟩
    rw [List.length_map]
    refine wI (fun z => ?_) fun z => ?_
    · exact k H3 ⟨A, begV v wi [], { w with se := w.se + 1 }, f2, S3, G.refused wi [], rfl, rfl, rfl, rfl, rfl, rfl, rfl, fun x h => .inl h, k3, fun x h => .inl h⟩
    have hne : freeL 24 5 v.M ≠ [] := fun q => z (by rw [q]; rfl)
    have fl14 : (freeL 24 5 v.M).length ≤ 14 := by rw [← efree]; exact Nat.le_trans (List.length_filter_le _ _) (by rw [rng_len]; exact Nat.le_refl _)
    -- the later ones
    refine Rg.sg (σ' := [some (.ref im), some (.ref B.bk), some (.ref fa), some (.int (v.se + 1)), some (.int wi), some (.ref B.kd), some (.ref B.ho), some (.ref B.st), some (.ref B.ow), some (.ref D), none, some (.int (1 + r1)), some (.int (o : Int)), none, none, none]) rfl ?_
    refine ⟨_, rfl, D, rfl, ⟨_, gD⟩, fun D2 hD2 => ?_⟩
    refine lc_list (K := K) (a := D) (xs := (freeL 24 5 v.M).map V.int) (PvF H3 D2 (freeL 24 5 v.M) fun x => decide (wi ≤ x)) (PvF.start hD2) (fun j H' _ Pv => Pv.1.seq gD) ?_ ?_
    · rintro j y H' hj Pv
      rw [List.getElem?_map] at hj
      obtain ⟨x, hx, rfl⟩ := Option.map_eq_some_iff.mp hj
      refine ⟨rfl, ?_⟩
      (repeat ((fail_if_success (intro _)); first | (refine And.intro ?_ ?_; focus (first | rfl | assumption | exact .of (by assumption) | exact .inl (.of (by assumption)) | exact .inr (by assumption) | exact .inr (.of (by assumption)) | exact kit_ty (by decide +kernel) | exact .ty _ | exact tyT (by assumption) | exact .base (.int _) | (show _ ≤ sizeLine; first | decide | exact Nat.le_of_ble_eq_true rfl | (simp only [List.length_cons, List.length_nil]; decide)) | exact ⟨_, .of (by assumption)⟩ | exact ⟨_, by assumption⟩ | exact DGet.k (by assumption) | (with_reducible show (_ : Int) ≤ _; omega) | (with_reducible show (_ : Int) < _; omega) | (with_reducible show (_ : Nat) ≤ _; omega) | (with_reducible show (_ : Nat) < _; omega) | exact ⟨by decide, by decide⟩ | exact CMul_l (by decide) | exact CMul_r (by decide))) | ((fail_if_success (show ∃ W : Nat → Nat → L2.St → Hp → Prop, _)); apply Exists.intro) | (refine iteT ?_) | (refine iteF ?_) | (refine wT ?_ ?_; focus omega) | (refine wF ?_ ?_; focus omega) | (refine wTv ?_ ?_; focus omega) | (refine wFv ?_ ?_; focus omega) | (refine wNT ?_ ?_; focus omega) | (refine wNF ?_ ?_; focus omega)))
      refine wD (fun e1 => ?_) fun e1 => ?_
      · exact ⟨_, rfl, Pv.yes hD2 (Same.refl _) hx (by omega) (decide_eq_true e1)⟩
      · exact Pv.no (Same.refl _) hx (decide_eq_false e1)
    intro H4 Pv
    obtain ⟨s4, e4⟩ := Pv.all (by rw [List.length_map])
    have fl4 : ((freeL 24 5 v.M).filter fun x => decide (wi ≤ x)).length ≤ 14 := Nat.le_trans (List.length_filter_le _ _) fl14
    refine ⟨_, rfl, _, rfl, D2, D, _, _, rfl, rfl, e4, s4 _ _ e3, ?_, ?_⟩
    · rw [List.length_map, List.length_map]
      exact Nat.le_of_lt (lt_line (by omega))
    (intro D3 n_D3; generalize he_D3 : upd _ D3 _ = H5; obtain ⟨e_D3, s_D3, f_D3⟩ := new_f he_D3 n_D3; clear he_D3)
    have s35 := s4.trans s_D3
    obtain ⟨x', hp⟩ : ∃ x', pickL (freeL 24 5 v.M) wi = some x' := by
      cases q : pickL (freeL 24 5 v.M) wi with
      | some x => exact ⟨x, rfl⟩
      | none =>
        unfold pickL at q
        cases q2 : freeL 24 5 v.M with
        | nil => exact absurd q2 hne
        | cons y r =>
          rw [q2] at q
          cases q3 : ((y :: r).filter fun x => decide (wi ≤ x)).head? with
          | none => rw [q3] at q; cases q
          | some y' => rw [q3] at q; cases q
    have hxm := freeL_mem (pickL_mem hp)
    have h10 : fdOf 24 5 = 10 := by decide
    obtain ⟨x, rfl⟩ : ∃ x : Nat, x' = x := ⟨x'.toNat, by omega⟩
    have hx1 : 10 ≤ x := by omega
    have hx2 : x < 24 := by omega
    have g0 : atI (((freeL 24 5 v.M).filter fun x => decide (wi ≤ x)).map V.int ++ (freeL 24 5 v.M).map V.int) 0 = some (.int (x : Int)) := by
      refine at_of (j := 0) rfl ?_
      rw [← List.map_append, List.getElem?_map, ← List.head?_eq_getElem?, List.head?_append]
      unfold pickL at hp
      rw [hp]
      rfl
    refine ⟨D3, _, _, _, rfl, rfl, .of e_D3, g0, ?_⟩
    have S5 := S3.same s35
    obtain ⟨u, l, hu, hl, cu, cl, nu⟩ := G.us_at ho
    have l0 : l = 0 := by
      rw [hli] at hl
      have : o = 0 ∨ o = 1 ∨ o = 2 ∨ o = 3 := by omega
      rcases this with rfl | rfl | rfl | rfl <;> exact (Option.some.inj hl).symm
    have nq : ¬ quota (begV v wi []) o := fun z => z.1 (by show cellAt v.M 0 (4 + o) = 0; rw [cl, l0])
    have eL : letL 24 5 v.M (1 + r1) [] = freeL 24 5 v.M := by
      unfold letL
      split
      · exact List.filter_eq_self.mpr fun x _ => by simp
      · rfl
    have hlg : (cellAt v.M 0 o).natAbs.log2 < 1920 := log_small (by rw [cu]; omega)
    refine ⟨_, rfl, im, _, _, rfl, S5.I.ob, rfl, _, rfl, _, rfl, im, A, begV v wi [], 24, 5, sl, 1 + r1, o, rfl, S5.I, ho, hlg, fun z => absurd z nq, fun _ z => absurd (show freeL 24 5 v.M = [] by rw [← eL]; exact z) hne, fun _ x2 hp2 H10 q hq I10 k10 => ?_⟩
    have ex : x2 = x := by
      have hp2 : pickL (letL 24 5 v.M (1 + r1) []) wi = some (x2 : Int) := hp2
      rw [eL, hp] at hp2
      have := Option.some.inj hp2
      omega
    subst ex
    have hq0 : H q = none := fr3 _ (s35.free hq)
    have S10 : SI T.C_Image T.C_Plan H10 im { A with rs := A.rs.set x2 q } (takeV (begV v wi []) x2 (1 + r1) o) 24 5 sl (bkL B w fa f2) := S5.imgN I10 k10 (fun y hy => foot_mem hy) fun y hy => by
      rcases reads_rs hy with e | e
      · exact .inl e
      · right
        rw [e]
        exact S5.F.held hq
    have k010 : Kp (A.ft im ++ bkA B fa) H H10 := (k3.same s35).trans (k10.mono fun y hy => List.mem_append.mpr (.inl (ft_mem hy)))
    -- the book
    have hse := G.se
    have who : w.ho.length = 24 := by rw [G.ho]; exact L.h
    have wst : w.st.length = 24 := by rw [G.st]; exact L.s
    have wol := G.ol
    have sub : ∀ y ∈ bkA B fa, y ∈ A.ft im ++ bkA B fa := fun y h => List.mem_append.mpr (.inr h)
    refine ⟨_, rfl, _, rfl, _, rfl, B.kd, _, _, x2, rfl, rfl, S10.F.get 2 rfl, ixN_nat rfl (by rw [List.length_map, G.kl]; exact hx2), ?_⟩
    have S11 := S10.put 2 (o' := .lst ((w.kd.map V.int).set x2 (V.int (1 + r1)))) rfl
    have k11 := k010.own (o := .lst ((w.kd.map V.int).set x2 (V.int (1 + r1)))) (sub B.kd (by simp [bkA]))
    rw [← List.map_set] at S11 k11 ⊢
    generalize upd H10 B.kd (.lst ((w.kd.set x2 (1 + r1)).map V.int)) = H11 at S11 k11 ⊢
    refine ⟨_, rfl, _, rfl, _, rfl, B.ho, _, _, x2, rfl, rfl, S11.F.get 3 rfl, ixN_nat rfl (by rw [List.length_map, who]; exact hx2), ?_⟩
    have S12 := S11.put 3 (o' := .lst ((w.ho.map V.int).set x2 (V.int (v.se + 1)))) rfl
    have k12 := k11.own (o := .lst ((w.ho.map V.int).set x2 (V.int (v.se + 1)))) (sub B.ho (by simp [bkA]))
    rw [← List.map_set] at S12 k12 ⊢
    generalize upd H11 B.ho (.lst ((w.ho.set x2 (v.se + 1)).map V.int)) = H12 at S12 k12 ⊢
    refine ⟨_, rfl, _, rfl, _, rfl, B.ow, _, rfl, DPut.k (k := Sum.inl (x2 : Int)) (S12.F.get 5 rfl) (lt_line (by omega)), ?_⟩
    have S13 := S12.put 5 (o' := .dK (putK w.ow (Sum.inl (x2 : Int)) (.int (o : Int)))) rfl
    have k13 := k12.own (o := .dK (putK w.ow (Sum.inl (x2 : Int)) (.int (o : Int)))) (sub B.ow (by simp [bkA]))
    generalize upd H12 B.ow (.dK (putK w.ow (Sum.inl (x2 : Int)) (.int (o : Int)))) = H13 at S13 k13 ⊢
    (repeat ((fail_if_success (intro _)); first | (refine And.intro ?_ ?_; focus (first | rfl | assumption | exact .of (by assumption) | exact .inl (.of (by assumption)) | exact .inr (by assumption) | exact .inr (.of (by assumption)) | exact kit_ty (by decide +kernel) | exact .ty _ | exact tyT (by assumption) | exact .base (.int _) | (show _ ≤ sizeLine; first | decide | exact Nat.le_of_ble_eq_true rfl | (simp only [List.length_cons, List.length_nil]; decide)) | exact ⟨_, .of (by assumption)⟩ | exact ⟨_, by assumption⟩ | exact DGet.k (by assumption) | (with_reducible show (_ : Int) ≤ _; omega) | (with_reducible show (_ : Int) < _; omega) | (with_reducible show (_ : Nat) ≤ _; omega) | (with_reducible show (_ : Nat) < _; omega) | exact ⟨by decide, by decide⟩ | exact CMul_l (by decide) | exact CMul_r (by decide))) | ((fail_if_success (show ∃ W : Nat → Nat → L2.St → Hp → Prop, _)); apply Exists.intro) | (refine iteT ?_) | (refine iteF ?_) | (refine wT ?_ ?_; focus omega) | (refine wF ?_ ?_; focus omega) | (refine wTv ?_ ?_; focus omega) | (refine wFv ?_ ?_; focus omega) | (refine wNT ?_ ?_; focus omega) | (refine wNF ?_ ?_; focus omega)))
    (intro tl n_tl; generalize he_tl : upd _ tl _ = H14; obtain ⟨e_tl, s_tl, f_tl⟩ := new_f he_tl n_tl; clear he_tl)
    have S14 := S13.same s_tl
    have k14 := k13.same s_tl
    let stj : Nat → List Int := fun j => (([x2, 0, 2 + x2 / 8] : List Nat).take j).foldl (fun s y => s.set y (v.se + 1)) w.st
    have lst : ∀ j, (stj j).length = 24 := fun j => by
      show (List.foldl _ _ _ : List Int).length = 24
      generalize (([x2, 0, 2 + x2 / 8] : List Nat).take j) = l
      have : ∀ (l : List Nat) (s : List Int), s.length = 24 → (l.foldl (fun s y => s.set y (v.se + 1)) s).length = 24 := fun l => by
        induction l with
        | nil => exact fun s h => h
        | cons y l ih => exact fun s h => ih _ (by rw [List.length_set]; exact h)
      exact this l _ wst
    have nst : ∀ j, stj j = (([x2, 0, 2 + x2 / 8] : List Nat).take j).foldl (fun s y => s.set y (v.se + 1)) w.st := fun _ => rfl
    let wj : Nat → BV := fun j => { w with kd := w.kd.set x2 (1 + r1), ho := w.ho.set x2 (v.se + 1), ow := putK w.ow (Sum.inl (x2 : Int)) (.int (o : Int)), st := stj j }
    refine ⟨_, rfl, ⟨_, .of e_tl⟩, for_list (K := K) (a := tl) (xs := [.int (x2 : Int), .int 0, .int (2 + (x2 : Int) / 8)]) (fun j σ H' => ∃ v15 : Option V, σ = [some (.ref im), some (.ref B.bk), some (.ref fa), some (.int (v.se + 1)), some (.int wi), some (.ref B.kd), some (.ref B.ho), some (.ref B.st), some (.ref B.ow), some (.ref D), some (.int (x2 : Int)), some (.int (1 + r1)), some (.int (o : Int)), some (.ref D2), some (.int (x2 : Int)), v15] ∧ SI T.C_Image T.C_Plan H' im { A with rs := A.rs.set x2 q } (takeV (begV v wi []) x2 (1 + r1) o) 24 5 sl (bkL B (wj j) fa f2) ∧ H' tl = some (.lst [.int (x2 : Int), .int 0, .int (2 + (x2 : Int) / 8)]) ∧ Kp (A.ft im ++ bkA B fa) H H')
      ⟨none, rfl, S14, e_tl, k14⟩ (fun j σ H' _ ⟨_, _, _, e, _⟩ => .of e) ?_ ?_⟩
    · rintro j y σ H' hj ⟨v15, rfl, S15, e15, k15⟩
      obtain ⟨y, rfl, hy24, ej⟩ : ∃ y' : Nat, y = V.int (y' : Int) ∧ y' < 24 ∧ stj (j + 1) = (stj j).set y' (v.se + 1) := by
        rcases j with _ | _ | _ | j
        · exact ⟨x2, (Option.some.inj hj).symm, hx2, rfl⟩
        · exact ⟨0, (Option.some.inj hj).symm, by decide, rfl⟩
        · exact ⟨2 + x2 / 8, by rw [← Option.some.inj hj]; congr 1, by omega, rfl⟩
        · simp at hj
      refine ⟨_, rfl, _, rfl, _, rfl, B.st, _, _, y, rfl, rfl, S15.F.get 4 rfl, ixN_nat rfl (by rw [List.length_map]; show y < (stj j).length; rw [lst]; exact hy24), ?_⟩
      have S16 := S15.put 4 (o' := .lst (((stj j).map V.int).set y (V.int (v.se + 1)))) rfl
      have nt : tl ≠ B.st := fun z => by
        have h1 := S13.F.get 4 (a := B.st) rfl
        rw [← z, n_tl] at h1
        cases h1
      refine ⟨_, rfl, ?_, by rw [upd_ne nt]; exact e15, k15.own (sub B.st (by simp [bkA]))⟩
      rw [← List.map_set, ← ej] at S16
      have e16 : ((wj j).st.map V.int).set y (V.int (v.se + 1)) = (stj (j + 1)).map V.int := by rw [ej, List.map_set]
      rw [e16]
      exact S16
    · rintro σ H' ⟨v15, rfl, S15, e15, k15⟩
      refine ⟨_, rfl, _, rfl, rfl, ?_⟩
      rw [dec_iv, decide_eq_true rfl]
      have fin := G.took (v3 := takeV (begV v wi []) x2 (1 + r1) o) L hx1 hx2 ho (.inl rfl) (by omega) (by have := G.kind hx2; rw [← this, hxm.2.2]; omega) (sr := v.se + 1) (.inr ⟨by omega, rfl⟩) (fun y hy => rfl) (fun z => by omega) rfl rfl rfl rfl (k := 1 + r1)
      have e3 : bkL B (wj 3) fa f2 = bkL B (bookT w x2 (1 + r1) (v.se + 1) o 1) fa f2 := by
        unfold bookT
        rw [hse]
        rfl
      have S16 : SI T.C_Image T.C_Plan H' im { A with rs := A.rs.set x2 q } (takeV (begV v wi []) x2 (1 + r1) o) 24 5 sl (bkL B (wj 3) fa f2) := S15
      rw [e3] at S16
      refine k H' ⟨{ A with rs := A.rs.set x2 q }, _, _, f2, S16, fin, rfl, rfl, rfl, rfl, rfl, rfl, rfl, fun y hy => ?_, k15, fun y hy => ?_⟩
      · rcases mem_set_of hy with e | e
        · exact .inr (by rw [e]; exact hq0)
        · exact .inl e
      · rcases reads_rs hy with e | e
        · exact .inl e
        · exact .inr (by rw [e]; exact hq0)
end
end K39
namespace K39
open PySem PySem.Spec PyProof.Rows L2 Rg
def heldP (kd : List Int) (x : Int) : Bool := !decide ((kd[x.toNat]?).getD 0 = 0)
section
variable {P : Program} {w0_ : World} {K : PySem.W.Frag} {mg : Str → Option Value} {base : Heap}
def sp_Lgive (CI CP : Addr) : Sp := fun vs H Q _ => ∃ (i : Nat) (im : Addr) (A : IA) (v : IV) (wi s : Int) (B : Bk) (w : BV) (fa : Addr) (fs : List Int), vs = [.ref im, .ref B.bk, .ref fa, .int (v.se + 1)] ∧ SI CI CP H im A (begV v wi []) 24 5 s (bkL B w fa fs) ∧ Agr i v w ∧ i ≤ 100 ∧ w.li = [0, 0, 0, 0] ∧ Len24 v ∧
  ∀ H', Deed CI CP H im A v s B w fa i H' → Q (.bl true) H'
theorem ok_Lgive (T : Tx K mg) : FnOk P w0_ K mg base CX0 4 T.f_Lgive T.fd_Lgive ["_law_image", "_law_book", "_law_feed_here", "_law_serial"] (sp_Lgive T.C_Image T.C_Plan) := by
  refine T.F_Lgive.ok sc_Lgive (fun vs H Q E h => ?_) (fun cdv A0 outer s H vs Q E hr h => ?_)
  · obtain ⟨_, _, _, _, _, _, _, _, _, _, rfl, _⟩ := h; rfl
  · obtain ⟨i, im, A, v, wi, sl, B, w, fa, fs, rfl, S, G, hi, hli, L, k⟩ := h
    have hr1 := hr.mono (show 1 ≤ 3 by decide)
    refine ⟨_, (pss_cons (ps_asg (pv 1) (pg_lst rfl (pgs_cons (pg_name (i := 4) sc_Lgive.nd rfl (.inr rfl)) (pgs_cons (pg_name (i := 5) sc_Lgive.nd rfl (.inl rfl)) (pgs_cons (pg_name (i := 6) sc_Lgive.nd rfl (.inl rfl)) (pgs_cons (pg_name (i := 7) sc_Lgive.nd rfl (.inl rfl)) pgs_nil))))))
      (pss_cons (ps_setLc (i := 8) (own := [("_law_x", 9)]) (g := gName 9) (tt := _) rfl sc_Lgive.nd rfl rfl (sw_true rfl rfl rfl (by decide +kernel)) (pi_range2 rfl T.b_range (pa_cons pe_int (pa_cons pe_int pa_nil))) (blkOk_by (N := ["_law_image", "_law_book", "_law_feed_here", "_law_serial", "_law_kinds", "_law_holdings", "_law_stamps", "_law_owners", "_law_held", "_law_x", "_law_at", "_law_touched"]) (sc := defScope s_Lgive) (by decide +kernel)) (fun _ _ _ _ _ => pg_name (i := 9) sc_Lgive.nd rfl (Or.inl rfl)) (fun _ _ _ _ _ => pts_one (pt_cmpR op_ne (pe_ixK (K := K) (pv 4) (pv 9) (fun _ _ => rfl)) pe_int (nomark _))) (fun _ _ _ _ _ => (pv 9)))
      (pss_cons (ps_set (i := 10) sc_Lgive.nd rfl (.inl rfl) (pe_call (ok_Lpick T) hr1 rfl T.mg_Lpick T.F_Lpick.kp (b_Lpick T) .nil pass0 (pa_cons (pv 2) (pa_cons pe_int pa_nil))))
      (pss_cons (ps_if (pt_cmpR op_eq (pe_callB call_len_seq rfl T.b_len (by decide +kernel) (pa_cons (pv 8) pa_nil)) pe_int (nomark _))
        (pss_one (ps_ret pe_bl))
        pss_nil)
      (pss_cons (ps_set (i := 9) sc_Lgive.nd rfl (.inl rfl) (pe_ix ix_list (pv 8) (pe_op op_mod (pv 10) (pe_callB call_len_seq rfl T.b_len (by decide +kernel) (pa_cons (pv 8) pa_nil))) (fun _ _ => rfl)))
      (pss_cons (ps_expr (pe_meth (pv 0) T.cl_Image T.m_Image_give (ok_give T) hr (b_Image_give T) .nil pass0 (pa_cons (pv 9) (pa_cons (pe_dget (Nat.lt_of_le_of_lt (Nat.add_le_add_left (by decide : 1 ≤ 64) _) hr.units) (pv 7) (pv 9) (fun _ _ => rfl)) pa_nil))))
      (pss_cons (ps_asg pe_int (pg_sub (pv 4) (pv 9) set_list))
      (pss_cons (ps_asg pe_int (pg_sub (pv 5) (pv 9) set_list))
      (pss_cons (ps_asg pe_int (pg_sub (pv 6) (pv 9) set_list))
      (pss_cons (ps_for PassesOwn.never rfl (pi_list (pe_lst (pa_cons pe_int (pa_cons (pe_op op_add pe_int (pe_op op_fdiv (pv 9) pe_int)) pa_nil)))) (pg_name (i := 11) sc_Lgive.nd rfl (.inl rfl))
        (pss_one (ps_asg (pv 3) (pg_sub (pv 6) (pv 11) set_list))))
      (pss_one (ps_ret pe_bl)))))))))))), ?_⟩
    have h14 : (rng 10 14).length < 1000 := by rw [rng_len]; decide
    have hfa : fa ∈ bkA B fa := by simp [bkA]
    have gbk : H B.bk = some (.lst (bkR B)) := S.F.get 1 rfl
    have bl : SqL K H B.bk [.ref B.kd, .ref B.ho, .ref B.st, .ref B.ow] := .of gbk
    refine ⟨_, rfl, B.bk, _, rfl, bl, rfl, _, _, rfl, _, _, rfl, _, _, rfl, _, _, rfl, rfl, ?_⟩
    refine ⟨10, 24, rfl, ⟨by decide, by decide, by decide, by decide⟩, fun D hD => ?_⟩
    refine lc_range (lo := 10) (n := ((24 : Int) - 10).toNat) (PvF H D (rng 10 14) (heldP w.kd)) (PvF.start hD) ?_ ?_
    · rintro j H' hj Pv
      have hj : j < 14 := hj
      obtain ⟨c, c1, c2⟩ := rngk G.kl (lo := 10) (by decide) hj (by decide)
      have gkd : SqL K H' B.kd (w.kd.map V.int) := .of (Pv.1 _ _ (S.F.get 2 rfl))
      refine ⟨rfl, ?_⟩
      (repeat ((fail_if_success (intro _)); first | (refine And.intro ?_ ?_; focus (first | rfl | assumption | exact .of (by assumption) | exact .inl (.of (by assumption)) | exact .inr (by assumption) | exact .inr (.of (by assumption)) | exact kit_ty (by decide +kernel) | exact .ty _ | exact tyT (by assumption) | exact .base (.int _) | (show _ ≤ sizeLine; first | decide | exact Nat.le_of_ble_eq_true rfl | (simp only [List.length_cons, List.length_nil]; decide)) | exact ⟨_, .of (by assumption)⟩ | exact ⟨_, by assumption⟩ | exact DGet.k (by assumption) | (with_reducible show (_ : Int) ≤ _; omega) | (with_reducible show (_ : Int) < _; omega) | (with_reducible show (_ : Nat) ≤ _; omega) | (with_reducible show (_ : Nat) < _; omega) | exact ⟨by decide, by decide⟩ | exact CMul_l (by decide) | exact CMul_r (by decide))) | ((fail_if_success (show ∃ W : Nat → Nat → L2.St → Hp → Prop, _)); apply Exists.intro) | (refine iteT ?_) | (refine iteF ?_) | (refine wT ?_ ?_; focus omega) | (refine wF ?_ ?_; focus omega) | (refine wTv ?_ ?_; focus omega) | (refine wFv ?_ ?_; focus omega) | (refine wNT ?_ ?_; focus omega) | (refine wNF ?_ ?_; focus omega)))
      refine wNe (fun e1 => ?_) fun e1 => ?_
      · exact ⟨_, rfl, Pv.yes hD (Same.refl _) (rng_get hj) h14 (by unfold heldP; rw [c1, decide_eq_false e1]; rfl)⟩
      · exact Pv.no (Same.refl _) (rng_get hj) (by unfold heldP; rw [c1, decide_eq_true e1]; rfl)
    intro H1 Pv
    obtain ⟨s1, e1⟩ := Pv.all (by rw [rng_len]; rfl)
    have S1 := S.same s1
    have nDk : ∀ w' f', ∀ p ∈ bkL B w' fa f', p.1 ≠ D := fun w' f' p hp z => by
      have hm : p.1 ∈ (bkL B w' fa f').map (·.1) := List.mem_map.mpr ⟨p, hp, rfl⟩
      rw [bkA_eq, ← bkA_eq (w := w) (fs := fs)] at hm
      obtain ⟨q, hq, e⟩ := List.mem_map.mp hm
      exact S.F.held hD q hq (e.trans z)
    have nDf : D ≠ fa := fun z => nDk w fs (fa, .lst (fs.map V.int)) List.mem_cons_self z.symm
    refine ⟨_, rfl, fa, fs, 14, rfl, S1.F.get 0 rfl, by decide, fun at_ f2 a0 a1 fl2 => ?_⟩
    have S3 := S1.feed f2
    have e3 : upd H1 fa (.lst (f2.map V.int)) D = some (.lst (((rng 10 14).filter (heldP w.kd)).map V.int)) := by rw [upd_ne nDf]; exact e1
    have k3 : Kp (A.ft im ++ bkA B fa) H (upd H1 fa (.lst (f2.map V.int))) := (Kp.of s1).own (by simp [hfa])
    have fr3 : ∀ x, upd H1 fa (.lst (f2.map V.int)) x = none → H x = none := fun x e => s1.free (un e)
    generalize upd H1 fa (.lst (f2.map V.int)) = H3 at S3 e3 k3 fr3 ⊢
    have gD : SqL K H3 D (((rng 10 14).filter (heldP w.kd)).map V.int) := .of e3
    refine ⟨_, rfl, D, _, rfl, .inl gD, rfl, _, rfl, ?_⟩
    rw [List.length_map]
    refine wI (fun z => ?_) fun z => ?_
    · exact k H3 ⟨A, begV v wi [], { w with se := w.se + 1 }, f2, S3, G.refused wi [], rfl, rfl, rfl, rfl, rfl, rfl, rfl, fun x h => .inl h, k3, fun x h => .inl h⟩
    have hne : (rng 10 14).filter (heldP w.kd) ≠ [] := fun q => z (by rw [q]; rfl)
    ((try dsimp only); (first | (refine Rg.sg (σ' := [some (.ref im), some (.ref B.bk), some (.ref fa), some (.int (v.se + 1)), some (.ref B.kd), some (.ref B.ho), some (.ref B.st), some (.ref B.ow), some (.ref D), none, some (.int at_), none]) ?_ ?_; focus exact rfl) | (refine Rg.sgG (σ' := [some (.ref im), some (.ref B.bk), some (.ref fa), some (.int (v.se + 1)), some (.ref B.kd), some (.ref B.ho), some (.ref B.st), some (.ref B.ow), some (.ref D), none, some (.int at_), none]) ?_ ?_; focus exact rfl)))
    obtain ⟨j, x', ej, hx'⟩ := mod_idx (l := (rng 10 14).filter (heldP w.kd)) a0 hne
    have hm := List.mem_filter.mp (List.mem_of_getElem? hx')
    have hmr := rng_mem hm.1
    obtain ⟨x2, rfl⟩ : ∃ x : Nat, x' = x := ⟨x'.toNat, by omega⟩
    have hx1 : 10 ≤ x2 := by omega
    have hx2 : x2 < 24 := by omega
    have hkx : (w.kd[x2]?).getD 0 ≠ 0 := by
      have := hm.2
      unfold heldP at this
      rw [show ((x2 : Int)).toNat = x2 by omega] at this
      intro q
      rw [q] at this
      cases this
    have hxk : x2 < w.kd.length := by rw [G.kl]; exact hx2
    obtain ⟨o, ho, eo⟩ := G.ow x2 _ hx1 (List.getElem?_eq_getElem hxk) (by rw [List.getElem?_eq_getElem hxk] at hkx; exact hkx)
    have hlen0 : 0 < ((rng 10 14).filter (heldP w.kd)).length := List.length_pos_iff.mpr hne
    have dg : DGet H3 B.ow (.int (x2 : Int)) (some (.int (o : Int))) := by rw [← eo]; exact DGet.k (k := Sum.inl (x2 : Int)) (S3.F.get 5 rfl)
    refine ⟨_, rfl, _, rfl, _, rfl, D, _, rfl, .inl gD, _, _, rfl, rfl, by rw [List.length_map]; omega, D, _, _, _, rfl, rfl, gD, at_of (j := j) (by rw [List.length_map]; exact ej) (by rw [List.getElem?_map, hx']; rfl), ?_⟩
    refine ⟨_, rfl, im, _, _, rfl, S3.I.ob, rfl, _, rfl, _, rfl, _, rfl, B.ow, _, rfl, dg, im, A, begV v wi [], 24, 5, sl, x2, o, rfl, S3.I, by rw [show fdOf 24 5 = 10 by decide]; omega, by omega, ho, fun H10 q hq I10 k10 => ?_⟩
    have hq0 : H q = none := fr3 _ hq
    have S10 : SI T.C_Image T.C_Plan H10 im { A with rs := A.rs.set x2 q } (giveV (begV v wi []) x2 o) 24 5 sl (bkL B w fa f2) := S3.imgN I10 k10 (fun y hy => foot_mem hy) fun y hy => by
      rcases reads_rs hy with e | e
      · exact .inl e
      · right
        rw [e]
        exact S3.F.held hq
    have k010 : Kp (A.ft im ++ bkA B fa) H H10 := k3.trans (k10.mono fun y hy => List.mem_append.mpr (.inl (ft_mem hy)))
    have hse := G.se
    have who : w.ho.length = 24 := by rw [G.ho]; exact L.h
    have wst : w.st.length = 24 := by rw [G.st]; exact L.s
    have sub : ∀ y ∈ bkA B fa, y ∈ A.ft im ++ bkA B fa := fun y h => List.mem_append.mpr (.inr h)
    ((try dsimp only); (first | (refine Rg.sg (σ' := [some (.ref im), some (.ref B.bk), some (.ref fa), some (.int (v.se + 1)), some (.ref B.kd), some (.ref B.ho), some (.ref B.st), some (.ref B.ow), some (.ref D), some (.int (x2 : Int)), some (.int at_), none]) ?_ ?_; focus exact rfl) | (refine Rg.sgG (σ' := [some (.ref im), some (.ref B.bk), some (.ref fa), some (.int (v.se + 1)), some (.ref B.kd), some (.ref B.ho), some (.ref B.st), some (.ref B.ow), some (.ref D), some (.int (x2 : Int)), some (.int at_), none]) ?_ ?_; focus exact rfl)))
    refine ⟨_, rfl, _, rfl, B.kd, _, _, x2, rfl, rfl, S10.F.get 2 rfl, ixN_nat rfl (by rw [List.length_map, G.kl]; exact hx2), ?_⟩
    have S11 := S10.put 2 (o' := .lst ((w.kd.map V.int).set x2 (V.int 0))) rfl
    have k11 := k010.own (o := .lst ((w.kd.map V.int).set x2 (V.int 0))) (sub B.kd (by simp [bkA]))
    rw [← List.map_set] at S11 k11 ⊢
    generalize upd H10 B.kd (.lst ((w.kd.set x2 0).map V.int)) = H11 at S11 k11 ⊢
    refine ⟨_, rfl, _, rfl, B.ho, _, _, x2, rfl, rfl, S11.F.get 3 rfl, ixN_nat rfl (by rw [List.length_map, who]; exact hx2), ?_⟩
    have S12 := S11.put 3 (o' := .lst ((w.ho.map V.int).set x2 (V.int 0))) rfl
    have k12 := k11.own (o := .lst ((w.ho.map V.int).set x2 (V.int 0))) (sub B.ho (by simp [bkA]))
    rw [← List.map_set] at S12 k12 ⊢
    generalize upd H11 B.ho (.lst ((w.ho.set x2 0).map V.int)) = H12 at S12 k12 ⊢
    refine ⟨_, rfl, _, rfl, B.st, _, _, x2, rfl, rfl, S12.F.get 4 rfl, ixN_nat rfl (by rw [List.length_map, wst]; exact hx2), ?_⟩
    have S13 := S12.put 4 (o' := .lst ((w.st.map V.int).set x2 (V.int 0))) rfl
    have k13 := k12.own (o := .lst ((w.st.map V.int).set x2 (V.int 0))) (sub B.st (by simp [bkA]))
    rw [← List.map_set] at S13 k13 ⊢
    generalize upd H12 B.st (.lst ((w.st.set x2 0).map V.int)) = H13 at S13 k13 ⊢
    (repeat ((fail_if_success (intro _)); first | (refine And.intro ?_ ?_; focus (first | rfl | assumption | exact .of (by assumption) | exact .inl (.of (by assumption)) | exact .inr (by assumption) | exact .inr (.of (by assumption)) | exact kit_ty (by decide +kernel) | exact .ty _ | exact tyT (by assumption) | exact .base (.int _) | (show _ ≤ sizeLine; first | decide | exact Nat.le_of_ble_eq_true rfl | (simp only [List.length_cons, List.length_nil]; decide)) | exact ⟨_, .of (by assumption)⟩ | exact ⟨_, by assumption⟩ | exact DGet.k (by assumption) | (with_reducible show (_ : Int) ≤ _; omega) | (with_reducible show (_ : Int) < _; omega) | (with_reducible show (_ : Nat) ≤ _; omega) | (with_reducible show (_ : Nat) < _; omega) | exact ⟨by decide, by decide⟩ | exact CMul_l (by decide) | exact CMul_r (by decide))) | ((fail_if_success (show ∃ W : Nat → Nat → L2.St → Hp → Prop, _)); apply Exists.intro) | (refine iteT ?_) | (refine iteF ?_) | (refine wT ?_ ?_; focus omega) | (refine wF ?_ ?_; focus omega) | (refine wTv ?_ ?_; focus omega) | (refine wFv ?_ ?_; focus omega) | (refine wNT ?_ ?_; focus omega) | (refine wNF ?_ ?_; focus omega)))
    (intro tl n_tl; generalize he_tl : upd _ tl _ = H14; obtain ⟨e_tl, s_tl, f_tl⟩ := new_f he_tl n_tl; clear he_tl)
    have S14 := S13.same s_tl
    have k14 := k13.same s_tl
    let stj : Nat → List Int := fun j => (([0, 2 + x2 / 8] : List Nat).take j).foldl (fun s y => s.set y (v.se + 1)) (w.st.set x2 0)
    have lst : ∀ j, (stj j).length = 24 := fun j => by
      show (List.foldl _ _ _ : List Int).length = 24
      generalize (([0, 2 + x2 / 8] : List Nat).take j) = l
      have : ∀ (l : List Nat) (s : List Int), s.length = 24 → (l.foldl (fun s y => s.set y (v.se + 1)) s).length = 24 := fun l => by
        induction l with
        | nil => exact fun s h => h
        | cons y l ih => exact fun s h => ih _ (by rw [List.length_set]; exact h)
      exact this l _ (by rw [List.length_set]; exact wst)
    let wj : Nat → BV := fun j => { w with kd := w.kd.set x2 0, ho := w.ho.set x2 0, st := stj j }
    refine ⟨_, rfl, ⟨_, .of e_tl⟩, for_list (K := K) (a := tl) (xs := [.int 0, .int (2 + (x2 : Int) / 8)]) (fun j σ H' => ∃ v11 : Option V, σ = [some (.ref im), some (.ref B.bk), some (.ref fa), some (.int (v.se + 1)), some (.ref B.kd), some (.ref B.ho), some (.ref B.st), some (.ref B.ow), some (.ref D), some (.int (x2 : Int)), some (.int at_), v11] ∧ SI T.C_Image T.C_Plan H' im { A with rs := A.rs.set x2 q } (giveV (begV v wi []) x2 o) 24 5 sl (bkL B (wj j) fa f2) ∧ H' tl = some (.lst [.int 0, .int (2 + (x2 : Int) / 8)]) ∧ Kp (A.ft im ++ bkA B fa) H H')
      ⟨none, rfl, S14, e_tl, k14⟩ (fun j σ H' _ ⟨_, _, _, e, _⟩ => .of e) ?_ ?_⟩
    · rintro j y σ H' hj ⟨v11, rfl, S15, e15, k15⟩
      obtain ⟨y, rfl, hy24, ej⟩ : ∃ y' : Nat, y = V.int (y' : Int) ∧ y' < 24 ∧ stj (j + 1) = (stj j).set y' (v.se + 1) := by
        rcases j with _ | _ | j
        · exact ⟨0, (Option.some.inj hj).symm, by decide, rfl⟩
        · exact ⟨2 + x2 / 8, by rw [← Option.some.inj hj]; congr 1, by omega, rfl⟩
        · simp at hj
      refine ⟨_, rfl, _, rfl, _, rfl, B.st, _, _, y, rfl, rfl, S15.F.get 4 rfl, ixN_nat rfl (by rw [List.length_map]; show y < (stj j).length; rw [lst]; exact hy24), ?_⟩
      have S16 := S15.put 4 (o' := .lst (((stj j).map V.int).set y (V.int (v.se + 1)))) rfl
      have nt : tl ≠ B.st := fun z => by
        have h1 := S13.F.get 4 (a := B.st) rfl
        rw [← z, n_tl] at h1
        cases h1
      refine ⟨_, rfl, ?_, by rw [upd_ne nt]; exact e15, k15.own (sub B.st (by simp [bkA]))⟩
      rw [← List.map_set, ← ej] at S16
      have e16 : ((wj j).st.map V.int).set y (V.int (v.se + 1)) = (stj (j + 1)).map V.int := by rw [ej, List.map_set]
      rw [e16]
      exact S16
    · rintro σ H' ⟨v11, rfl, S15, e15, k15⟩
      have fin := G.gave hx2 (G.took (v3 := giveV (begV v wi []) x2 o) L hx1 hx2 ho (d := -1) (.inr rfl) (.inl rfl) hkx (sr := 0) (.inl ⟨rfl, rfl⟩) (fun y hy => rfl) (fun _ => tkx (d := -1) hx1 (by show x2 < v.M.length; rw [L.m]; exact hx2)) rfl rfl rfl rfl)
      have e3 : bkL B (wj 2) fa f2 = bkL B { bookT w x2 0 0 o (-1) with ow := w.ow } fa f2 := by
        unfold bookT
        rw [hse]
        rfl
      have S16 : SI T.C_Image T.C_Plan H' im { A with rs := A.rs.set x2 q } (giveV (begV v wi []) x2 o) 24 5 sl (bkL B (wj 2) fa f2) := S15
      rw [e3] at S16
      refine k H' ⟨{ A with rs := A.rs.set x2 q }, _, _, f2, S16, fin, rfl, rfl, rfl, rfl, rfl, rfl, rfl, fun y hy => ?_, k15, fun y hy => ?_⟩
      · rcases mem_set_of hy with e | e
        · exact .inr (by rw [e]; exact hq0)
        · exact .inl e
      · rcases reads_rs hy with e | e
        · exact .inl e
        · exact .inr (by rw [e]; exact hq0)
end
end K39
namespace K39
open PySem PySem.Spec PyProof.Rows L2 Rg
section
variable {P : Program} {w0_ : World} {K : PySem.W.Frag} {mg : Str → Option Value} {base : Heap}
def sp_Lchange (CI CP : Addr) : Sp := fun vs H Q _ => ∃ (i : Nat) (im : Addr) (A : IA) (v : IV) (wi s : Int) (B : Bk) (w : BV) (fa : Addr) (fs : List Int), vs = [.ref im, .ref B.bk, .ref fa, .int (v.se + 1)] ∧ SI CI CP H im A (begV v wi []) 24 5 s (bkL B w fa fs) ∧ Agr i v w ∧ i ≤ 100 ∧ w.li = [0, 0, 0, 0] ∧ Len24 v ∧
  ∀ H', Deed CI CP H im A v s B w fa i H' → Q (.bl true) H'
theorem ok_Lchange (T : Tx K mg) : FnOk P w0_ K mg base CX0 2 T.f_Lchange T.fd_Lchange ["_law_image", "_law_book", "_law_feed_here", "_law_serial"] (sp_Lchange T.C_Image T.C_Plan) := by
  refine T.F_Lchange.ok sc_Lchange (fun vs H Q E h => ?_) (fun cdv A0 outer s H vs Q E hr h => ?_)
  · obtain ⟨_, _, _, _, _, _, _, _, _, _, rfl, _⟩ := h; rfl
  · obtain ⟨i, im, A, v, wi, sl, B, w, fa, fs, rfl, S, G, hi, hli, L, k⟩ := h
    refine ⟨_, (pss_cons (ps_asg (pv 1) (pg_lst rfl (pgs_cons (pg_name (i := 4) sc_Lchange.nd rfl (.inr rfl)) (pgs_cons (pg_name (i := 5) sc_Lchange.nd rfl (.inl rfl)) (pgs_cons (pg_name (i := 6) sc_Lchange.nd rfl (.inl rfl)) (pgs_cons (pg_name (i := 7) sc_Lchange.nd rfl (.inl rfl)) pgs_nil))))))
      (pss_cons (ps_setLc (i := 8) (own := [("_law_x", 9)]) (g := gName 9) (tt := _) rfl sc_Lchange.nd rfl rfl (sw_true rfl rfl rfl (by decide +kernel)) (pi_range2 rfl T.b_range (pa_cons pe_int (pa_cons pe_int pa_nil))) (blkOk_by (N := ["_law_image", "_law_book", "_law_feed_here", "_law_serial", "_law_kinds", "_law_holdings", "_law_stamps", "_law_owners", "_law_held", "_law_x", "_law_at", "_law_row", "_law_old"]) (sc := defScope s_Lchange) (by decide +kernel)) (fun _ _ _ _ _ => pg_name (i := 9) sc_Lchange.nd rfl (Or.inl rfl)) (fun _ _ _ _ _ => pts_one (pt_cmpR op_ne (pe_ixK (K := K) (pv 4) (pv 9) (fun _ _ => rfl)) pe_int (nomark _))) (fun _ _ _ _ _ => (pv 9)))
      (pss_cons (ps_set (i := 9) sc_Lchange.nd rfl (.inl rfl) (pe_ix ix_list (pv 8) (pe_op op_mod (pe_call (ok_Lpick T) hr rfl T.mg_Lpick T.F_Lpick.kp (b_Lpick T) .nil pass0 (pa_cons (pv 2) (pa_cons pe_int pa_nil))) (pe_callB call_len_seq rfl T.b_len (by decide +kernel) (pa_cons (pv 8) pa_nil))) (fun _ _ => rfl)))
      (pss_cons (ps_set (i := 10) sc_Lchange.nd rfl (.inl rfl) (pe_call (ok_Lpick T) hr rfl T.mg_Lpick T.F_Lpick.kp (b_Lpick T) .nil pass0 (pa_cons (pv 2) (pa_cons pe_int pa_nil))))
      (pss_cons (ps_set (i := 11) sc_Lchange.nd rfl (.inl rfl) (pe_ix ix_list (pe_fld (pv 0) rfl) (pv 9) (fun _ _ => rfl)))
      (pss_cons (ps_set (i := 12) sc_Lchange.nd rfl (.inl rfl) (pe_ix ix_list (pv 11) (pv 10) (fun _ _ => rfl)))
      (pss_cons (ps_asg (pe_call (ok_Lpick T) hr rfl T.mg_Lpick T.F_Lpick.kp (b_Lpick T) .nil pass0 (pa_cons (pv 2) (pa_cons pe_int pa_nil))) (pg_sub (pv 11) (pv 10) set_list))
      (pss_cons (ps_if (pt_cmpR op_ne (pe_ix ix_list (pv 11) (pv 10) (fun _ _ => rfl)) (pv 12) (nomark _))
        (pss_one (ps_asg (pv 3) (pg_sub (pv 6) (pv 9) set_list)))
        pss_nil)
      (pss_one (ps_ret pe_bl)))))))))), ?_⟩
    have h19 : (rng 5 19).length < 1000 := by rw [rng_len]; decide
    have hfa : fa ∈ bkA B fa := by simp [bkA]
    have gbk : H B.bk = some (.lst (bkR B)) := S.F.get 1 rfl
    have bl : SqL K H B.bk [.ref B.kd, .ref B.ho, .ref B.st, .ref B.ow] := .of gbk
    refine ⟨_, rfl, B.bk, _, rfl, bl, rfl, _, _, rfl, _, _, rfl, _, _, rfl, _, _, rfl, rfl, ?_⟩
    refine ⟨5, 24, rfl, ⟨by decide, by decide, by decide, by decide⟩, fun D hD => ?_⟩
    refine lc_range (lo := 5) (n := ((24 : Int) - 5).toNat) (PvF H D (rng 5 19) (heldP w.kd)) (PvF.start hD) ?_ ?_
    · rintro j H' hj Pv
      have hj : j < 19 := hj
      obtain ⟨c, c1, c2⟩ := rngk G.kl (lo := 5) (by decide) hj (by decide)
      have gkd : SqL K H' B.kd (w.kd.map V.int) := .of (Pv.1 _ _ (S.F.get 2 rfl))
      refine ⟨rfl, ?_⟩
      (repeat ((fail_if_success (intro _)); first | (refine And.intro ?_ ?_; focus (first | rfl | assumption | exact .of (by assumption) | exact .inl (.of (by assumption)) | exact .inr (by assumption) | exact .inr (.of (by assumption)) | exact kit_ty (by decide +kernel) | exact .ty _ | exact tyT (by assumption) | exact .base (.int _) | (show _ ≤ sizeLine; first | decide | exact Nat.le_of_ble_eq_true rfl | (simp only [List.length_cons, List.length_nil]; decide)) | exact ⟨_, .of (by assumption)⟩ | exact ⟨_, by assumption⟩ | exact DGet.k (by assumption) | (with_reducible show (_ : Int) ≤ _; omega) | (with_reducible show (_ : Int) < _; omega) | (with_reducible show (_ : Nat) ≤ _; omega) | (with_reducible show (_ : Nat) < _; omega) | exact ⟨by decide, by decide⟩ | exact CMul_l (by decide) | exact CMul_r (by decide))) | ((fail_if_success (show ∃ W : Nat → Nat → L2.St → Hp → Prop, _)); apply Exists.intro) | (refine iteT ?_) | (refine iteF ?_) | (refine wT ?_ ?_; focus omega) | (refine wF ?_ ?_; focus omega) | (refine wTv ?_ ?_; focus omega) | (refine wFv ?_ ?_; focus omega) | (refine wNT ?_ ?_; focus omega) | (refine wNF ?_ ?_; focus omega)))
      refine wNe (fun e1 => ?_) fun e1 => ?_
      · exact ⟨_, rfl, Pv.yes hD (Same.refl _) (rng_get hj) h19 (by unfold heldP; rw [c1, decide_eq_false e1]; rfl)⟩
      · exact Pv.no (Same.refl _) (rng_get hj) (by unfold heldP; rw [c1, decide_eq_true e1]; rfl)
    intro H1 Pv
    obtain ⟨s1, e1⟩ := Pv.all (by rw [rng_len]; rfl)
    have S1 := S.same s1
    have nDk : ∀ w' f', ∀ p ∈ bkL B w' fa f', p.1 ≠ D := fun w' f' p hp z => by
      have hm : p.1 ∈ (bkL B w' fa f').map (·.1) := List.mem_map.mpr ⟨p, hp, rfl⟩
      rw [bkA_eq, ← bkA_eq (w := w) (fs := fs)] at hm
      obtain ⟨q, hq, e⟩ := List.mem_map.mp hm
      exact S.F.held hD q hq (e.trans z)
    have nDf : D ≠ fa := fun z => nDk w fs (fa, .lst (fs.map V.int)) List.mem_cons_self z.symm
    have hne : (rng 5 19).filter (heldP w.kd) ≠ [] := fun q => by
      have : (5 : Int) ∈ (rng 5 19).filter (heldP w.kd) := List.mem_filter.mpr ⟨List.mem_of_getElem? (rng_get (lo := 5) (i := 0) (n := 19) (by decide)), by
        unfold heldP
        rw [show ((5 : Int)).toNat = 5 by decide, G.kf 5 (by decide)]
        rfl⟩
      rw [q] at this
      cases this
    have hlen0 : 0 < ((rng 5 19).filter (heldP w.kd)).length := List.length_pos_iff.mpr hne
    refine ⟨_, rfl, _, rfl, fa, fs, 19, rfl, S1.F.get 0 rfl, by decide, fun at_ f2 a0 a1 fl2 => ?_⟩
    have S3 := S1.feed f2
    have e3 : upd H1 fa (.lst (f2.map V.int)) D = some (.lst (((rng 5 19).filter (heldP w.kd)).map V.int)) := by rw [upd_ne nDf]; exact e1
    have k3 : Kp (A.ft im ++ bkA B fa) H (upd H1 fa (.lst (f2.map V.int))) := (Kp.of s1).own (by simp [hfa])
    have fr3 : ∀ x, upd H1 fa (.lst (f2.map V.int)) x = none → H x = none := fun x e => s1.free (un e)
    generalize upd H1 fa (.lst (f2.map V.int)) = H3 at S3 e3 k3 fr3 ⊢
    have gD : SqL K H3 D (((rng 5 19).filter (heldP w.kd)).map V.int) := .of e3
    obtain ⟨j, x', ej, hx'⟩ := mod_idx (l := (rng 5 19).filter (heldP w.kd)) a0 hne
    have hm := List.mem_filter.mp (List.mem_of_getElem? hx')
    have hmr := rng_mem hm.1
    obtain ⟨x2, rfl⟩ : ∃ x : Nat, x' = x := ⟨x'.toNat, by omega⟩
    have hx1 : 5 ≤ x2 := by omega
    have hx2 : x2 < 24 := by omega
    have hkx : (w.kd[x2]?).getD 0 ≠ 0 := by
      have := hm.2
      unfold heldP at this
      rw [show ((x2 : Int)).toNat = x2 by omega] at this
      intro q
      rw [q] at this
      cases this
    refine ⟨_, rfl, D, _, rfl, .inl gD, _, _, rfl, rfl, by rw [List.length_map]; omega, D, _, _, _, rfl, rfl, gD, at_of (j := j) (by rw [List.length_map]; exact ej) (by rw [List.getElem?_map, hx']; rfl), ?_⟩
    refine ⟨_, rfl, fa, f2, 8, rfl, S3.F.get 0 rfl, by decide, fun r2 f3 r20 r21 fl3 => ?_⟩
    have S4 := S3.feed f3
    have k4 := k3.own (o := .lst (f3.map V.int)) (List.mem_append.mpr (.inr hfa))
    generalize upd H3 fa (.lst (f3.map V.int)) = H4 at S4 k4 ⊢
    obtain ⟨jn, rfl⟩ : ∃ jn : Nat, r2 = jn := ⟨r2.toNat, by omega⟩
    have hjn : jn < 8 := by omega
    have hxM : x2 < v.M.length := by rw [L.m]; exact hx2
    have em : (begV v wi []).M[x2]? = some v.M[x2] := List.getElem?_eq_getElem hxM
    have h8 := L.r _ (List.getElem_mem hxM)
    have hjr : jn < (v.M[x2]).length := by omega
    obtain ⟨r, r1', r2', _⟩ := S4.I.gr.get em
    have gca : atI (A.rs.map V.ref) (x2 : Int) = some (.ref r) := atI_nat (by rw [List.getElem?_map, r1']; rfl)
    have gce : atI (v.M[x2].map V.int) (jn : Int) = some (.int v.M[x2][jn]) := atI_nat (by rw [List.getElem?_map, List.getElem?_eq_getElem hjr]; rfl)
    ((try dsimp only); (first | (refine Rg.sg (σ' := [some (.ref im), some (.ref B.bk), some (.ref fa), some (.int (v.se + 1)), some (.ref B.kd), some (.ref B.ho), some (.ref B.st), some (.ref B.ow), some (.ref D), some (.int (x2 : Int)), some (.int (jn : Int)), none, none]) ?_ ?_; focus exact rfl) | (refine Rg.sgG (σ' := [some (.ref im), some (.ref B.bk), some (.ref fa), some (.int (v.se + 1)), some (.ref B.kd), some (.ref B.ho), some (.ref B.st), some (.ref B.ow), some (.ref D), some (.int (x2 : Int)), some (.int (jn : Int)), none, none]) ?_ ?_; focus exact rfl)))
    refine ⟨_, rfl, im, _, _, _, _, rfl, S4.I.ob, T.cl_Image, T.na_Image_cells, rfl, _, rfl, A.ca, _, _, _, rfl, rfl, .of S4.I.gr.out, gca, ?_⟩
    refine ⟨_, rfl, _, rfl, r, _, _, _, rfl, rfl, .of r2', gce, ?_⟩
    refine ⟨_, rfl, fa, f3, 3, rfl, S4.F.get 0 rfl, by decide, fun c f4 c0 c1 fl4 => ?_⟩
    have S5 := S4.feed f4
    have k5 := k4.own (o := .lst (f4.map V.int)) (List.mem_append.mpr (.inr hfa))
    have hr_ : r ∈ A.rs := List.mem_of_getElem? r1'
    have nrf : r ≠ fa := fun z => S4.ap (fa, .lst (f3.map V.int)) List.mem_cons_self (by rw [← z]; simp [IA.reads, hr_])
    have r5 : upd H4 fa (.lst (f4.map V.int)) r = some (.lst (v.M[x2].map V.int)) := by rw [upd_ne nrf]; exact r2'
    generalize upd H4 fa (.lst (f4.map V.int)) = H5 at S5 k5 r5 ⊢
    refine ⟨_, rfl, _, rfl, r, _, _, jn, rfl, rfl, r5, ixN_nat rfl (by rw [List.length_map]; exact hjr), ?_⟩
    have I9 := S5.I.setC (j := jn) (x := c) r1' em
    have S9 : SI T.C_Image T.C_Plan (upd H5 r (.lst ((v.M[x2].map V.int).set jn (V.int c)))) im A (cellV (begV v wi []) x2 jn c) 24 5 sl (bkL B w fa f4) := S5.imgN (F := [r]) I9 Kp.refl.own1 (fun y hy => by rw [List.mem_singleton.mp hy]; simp [IA.reads, hr_]) fun y hy => .inl hy
    have k9 := k5.own (o := .lst ((v.M[x2].map V.int).set jn (V.int c))) (by simp [IA.ft, hr_] : r ∈ A.ft im ++ bkA B fa)
    have e9 : upd H5 r (.lst ((v.M[x2].map V.int).set jn (V.int c))) r = some (.lst ((v.M[x2].map V.int).set jn (V.int c))) := upd_same
    have g9 : atI ((v.M[x2].map V.int).set jn (V.int c)) (jn : Int) = some (.int c) := atI_nat (by rw [List.getElem?_set_self (by rw [List.length_map]; exact hjr)])
    generalize upd H5 r (.lst ((v.M[x2].map V.int).set jn (V.int c))) = H9 at S9 k9 e9 ⊢
    have fin := G.changed (c := c) L hx1 hx2 hjn hkx wi []
    have ec : cellAt v.M x2 jn = v.M[x2][jn] := cellAt_of (List.getElem?_eq_getElem hxM) (List.getElem?_eq_getElem hjr)
    rw [ec] at fin
    have hse := G.se
    have wst : w.st.length = 24 := by rw [G.st]; exact L.s
    refine ⟨_, rfl, _, rfl, r, _, _, _, rfl, rfl, .of e9, g9, _, rfl, rfl, _, rfl, ?_⟩
    refine wNe (fun q => ?_) fun q => ?_
    · rw [if_neg q] at fin
      refine ⟨_, rfl, _, rfl, _, rfl, B.st, _, _, x2, rfl, rfl, S9.F.get 4 rfl, ixN_nat rfl (by rw [List.length_map, wst]; exact hx2), ?_⟩
      have S10 := S9.put 4 (o' := .lst ((w.st.map V.int).set x2 (V.int (v.se + 1)))) rfl
      have k10 := k9.own (o := .lst ((w.st.map V.int).set x2 (V.int (v.se + 1)))) (List.mem_append.mpr (.inr (by simp [bkA])) : B.st ∈ A.ft im ++ bkA B fa)
      rw [← List.map_set] at S10 k10 ⊢
      rw [hse] at fin
      exact k _ ⟨A, _, _, f4, S10, fin, rfl, rfl, rfl, rfl, rfl, rfl, rfl, fun y h => .inl h, k10, fun y h => .inl h⟩
    · rw [if_pos q] at fin
      exact k _ ⟨A, _, { w with se := w.se + 1 }, f4, S9, fin, rfl, rfl, rfl, rfl, rfl, rfl, rfl, fun y h => .inl h, k9, fun y h => .inl h⟩
end
end K39
namespace K39
open PySem PySem.Spec PyProof.Rows L2 Rg
def k0L : List Int := [1, 1, 1, 1, 1, 1, 1, 1, 1, 1, 0, 0, 0, 0, 0, 0, 0, 0, 0, 0, 0, 0, 0, 0]
def w0 : BV := ⟨k0L, k0L, k0L, [0, 0, 0, 0], [0, 0, 0, 0], [], 1⟩
theorem k0_get {i : Nat} (hi : i < 24) : k0L[i]? = some (if decide ((i : Int) < 10) = true then (1 : Int) else 0) := by
  have h : ∀ i ∈ List.range 24, k0L[i]? = some (if decide ((i : Int) < 10) = true then (1 : Int) else 0) := by decide +kernel
  exact h i (by rw [List.mem_range]; exact hi)
theorem start_M : (freshM 24 5).length = 24 := by decide +kernel
def v0I : IV := ofV 24 5 (freshM 24 5) (24 : Int).toNat
theorem agr0 : Agr 0 v0I w0 := by
  refine { se := rfl, ho := by decide +kernel, st := by decide +kernel, us4 := rfl, li4 := rfl, r0 := by decide +kernel, kl := rfl, kf := fun x hx => ?_, k3 := fun x k h => ?_, mp := fun x hx => ?_, z := fun x hx h => ?_, ow := fun x k hx h hk => ?_, hs := ?_, s1 := by decide, ul := ?_, ol := by decide, hd := rfl, hz := by decide +kernel }
  · have h : ∀ x ∈ List.range 10, k0L[x]? = some 1 := by decide +kernel
    exact h x (by rw [List.mem_range]; exact hx)
  · have h' : k0L[x]? = some k := h
    have hm : k ∈ k0L := List.mem_of_getElem? h'
    have hh : ∀ k ∈ k0L, k = 0 ∨ k = 1 ∨ k = 2 := by decide +kernel
    exact hh k hm
  · have h : ∀ x ∈ List.range 24, cellAt v0I.M (2 + x / 8) (x % 8) = (w0.kd[x]?).getD 0 := by decide +kernel
    exact h x (by rw [List.mem_range]; exact hx)
  · have h24 : x < 24 := (List.getElem?_eq_some_iff.mp h).1
    have hh : ∀ x ∈ List.range 24, 10 ≤ x → v0I.M[x]? = some (List.replicate 8 0) := by decide +kernel
    exact hh x (by rw [List.mem_range]; exact h24) hx
  · have h24 : x < 24 := (List.getElem?_eq_some_iff.mp h).1
    have hh : ∀ x ∈ List.range 24, 10 ≤ x → w0.kd[x]? = some 0 := by decide +kernel
    rw [hh x (by rw [List.mem_range]; exact h24) hx] at h
    exact absurd (Option.some.inj h).symm hk
  · show ∀ y ∈ v0I.ho, y ≤ 1
    decide +kernel
  · show ∀ u ∈ ([0, 0, 0, 0] : List Int), u.natAbs ≤ 0
    decide
/-- what is changed at places that are new stays unseen -/
theorem _root_.Rg.Kp.hid {S : List Addr} {p : Addr} {H Hc Hn : Hp} (k : Kp [p] H Hc) (k2 : Kp S Hc Hn) (h : ∀ x ∈ S, x = p ∨ H x = none) : Kp [p] H Hn := fun x o e n => k2 x o (k x o e n) fun z => by
  rcases h x z with q | q
  · exact n (by rw [q]; exact List.mem_singleton.mpr rfl)
  · rw [q] at e; cases e
structure MomsAt (CI CP : Addr) (H : Hp) (C : List Addr) (mas : List Addr) (Ms : List Mom) (s : Int) : Prop where
  l : mas.length = Ms.length
  m : ∀ (i : Nat) (m : Addr) (M : Mom), mas[i]? = some m → Ms[i]? = some M → MomAt CI CP H m M s ∧ ∀ x ∈ M.adr m, x ∉ C
theorem MomsAt.kp {CI CP : Addr} {H H' : Hp} {C C' S : List Addr} {mas : List Addr} {Ms : List Mom} {s : Int} (h : MomsAt CI CP H C mas Ms s) (k : Kp S H H') (hS : ∀ x ∈ S, x ∈ C) (hC : ∀ x ∈ C', x ∈ C ∨ H x = none) : MomsAt CI CP H' C' mas Ms s :=
  ⟨h.l, fun i m M e1 e2 => by
    obtain ⟨a, b⟩ := h.m i m M e1 e2
    refine ⟨a.keep fun x o hx e => k x o e fun z => b x hx (hS x z), fun x hx z => ?_⟩
    rcases hC x z with q | q
    · exact b x hx q
    · obtain ⟨o, e⟩ := a.held hx
      rw [q] at e; cases e⟩
theorem MomsAt.snoc {CI CP : Addr} {H : Hp} {C : List Addr} {mas : List Addr} {Ms : List Mom} {s : Int} {m : Addr} {M : Mom} (h : MomsAt CI CP H C mas Ms s) (a : MomAt CI CP H m M s) (b : ∀ x ∈ M.adr m, x ∉ C) : MomsAt CI CP H C (mas ++ [m]) (Ms ++ [M]) s := by
  refine ⟨by simp [h.l], fun i m' M' e1 e2 => ?_⟩
  by_cases hi : i < mas.length
  · rw [List.getElem?_append_left hi] at e1
    rw [List.getElem?_append_left (by rw [← h.l]; exact hi)] at e2
    exact h.m i m' M' e1 e2
  · have h0 : mas.length ≤ i := Nat.le_of_not_lt hi
    rw [List.getElem?_append_right h0] at e1
    rw [List.getElem?_append_right (by rw [← h.l]; exact h0), ← h.l] at e2
    cases hk : i - mas.length with
    | zero =>
      rw [hk] at e1 e2
      cases e1
      cases e2
      exact ⟨a, b⟩
    | succ n =>
      rw [hk] at e1
      simp at e1
theorem SI.outL {CI CP : Addr} {H : Hp} {im mo fa : Addr} {A : IA} {v : IV} {b n s : Int} {B : Bk} {w : BV} {fs : List Int} {xs : List V} (X : SI CI CP H im A v b n s (bkL B w fa fs)) (e : H mo = some (.lst xs)) (h : mo ∉ A.ft im ++ bkA B fa) (o : HO) : SI CI CP (upd H mo o) im A v b n s (bkL B w fa fs) := by
  obtain ⟨dxp, hpl⟩ := X.I.pl.ob
  have nr : mo ∉ A.reads im := fun z => by
    simp only [IA.reads, List.mem_cons] at z
    rcases z with z | z | z | z | z | z | z | z
    · exact h (by simp [IA.ft, z])
    · rw [z, hpl] at e; cases e
    · exact h (by simp [IA.ft, z])
    · exact h (by simp [IA.ft, z])
    · exact h (by simp [IA.ft, z])
    · rw [z, X.I.hd] at e; cases e
    · rw [z, X.I.ba] at e; cases e
    · exact h (by simp [IA.ft, z])
  refine ⟨X.I.keepF fun x o' hx e' => ?_, X.F.keep fun p hp o' e' => ?_, X.ap⟩
  · rw [upd_ne fun z => nr (by rw [← z]; exact hx)]
    exact e'
  · rw [upd_ne fun z => h (List.mem_append.mpr (.inr ?_))]
    · exact e'
    · rw [← z, ← bkA_eq (w := w) (fs := fs)]
      exact List.mem_map.mpr ⟨p, hp, rfl⟩
section
variable {P : Program} {w0_ : World} {K : PySem.W.Frag} {mg : Str → Option Value} {base : Heap}
def sp_Lhistory (CI CP : Addr) : Sp := fun vs H Q _ => ∃ (p : Addr) (fs : List Int) (many : Int), vs = [.ref p, .int many] ∧ H p = some (.lst (fs.map V.int)) ∧ 0 ≤ many ∧ many ≤ 18 ∧
  ∀ (H' : Hp) (mo : Addr) (mas : List Addr) (Ms : List Mom) (fs' : List Int), Kp [p] H H' → H' p = some (.lst (fs'.map V.int)) → H' mo = some (.lst (mas.map V.ref)) → H mo = none → mas ≠ [] → mas.length ≤ 19 → MomsAt CI CP H' [p, mo] mas Ms 30 → Q (.ref mo) H'
theorem ok_Lhistory (T : Tx K mg) : FnOk P w0_ K mg base CX0 6 T.f_Lhistory T.fd_Lhistory ["_law_feed_here", "_law_many"] (sp_Lhistory T.C_Image T.C_Plan) := by
  refine T.F_Lhistory.ok sc_Lhistory (fun vs H Q E h => ?_) (fun cdv A0_ outer s H vs Q E hr h => ?_)
  · obtain ⟨_, _, _, rfl, _⟩ := h; rfl
  · obtain ⟨fa, f1, many, rfl, efa, m1, m18, k⟩ := h
    have hr1 := hr.mono (show 1 ≤ 5 by decide)
    have hr2 := hr.mono (show 2 ≤ 5 by decide)
    have hr3 := hr.mono (show 3 ≤ 5 by decide)
    have hr4 := hr.mono (show 4 ≤ 5 by decide)
    refine ⟨_, (pss_cons (ps_set (i := 2) sc_Lhistory.nd rfl (.inl rfl) (pe_smeth T.mg_Image T.cr_Image T.sm_Image_fresh (ok_fresh T) hr4 (b_Image_fresh T) .nil pass0 (pa_cons (pe_makeK T.mk_Plan (ok_Plan_init T) hr2 rfl T.mg_Plan (kb_Plan T) pass0 (pa_cons pe_int pa_nil) (pk_cons pe_int (pk_cons pe_int pk_nil))) pa_nil)))
      (pss_cons (ps_setLc (i := 3) (own := [("_law_x", 4)]) (g := gName 4) (tt := tYes) rfl sc_Lhistory.nd rfl rfl (sw_true rfl rfl rfl (by decide +kernel)) (pi_range1 rfl T.b_range (pa_cons pe_int pa_nil)) (blkOk_by (N := ["_law_feed_here", "_law_many", "_law_image", "_law_kinds", "_law_x", "_law_book", "_law_moments", "_law_k", "_law_before", "_law_wish", "_law_choice", "_law_good"]) (sc := defScope s_Lhistory) (by decide +kernel)) (fun _ _ _ _ _ => pg_name (i := 4) sc_Lhistory.nd rfl (Or.inl rfl)) (fun _ _ _ _ _ => pts_nil) (fun _ _ _ _ _ => (pe_callTy call_int1 rfl T.b_int (by decide +kernel) (pa_cons (pe_cmpR op_lt (pv 4) pe_int (nomark _)) pa_nil))))
      (pss_cons (ps_set (i := 5) sc_Lhistory.nd rfl (.inl rfl) (pe_lst (pa_cons (pv 3) (pa_cons (pe_listof (K := K) (pv 3) T.b_list) (pa_cons (pe_listof (K := K) (pv 3) T.b_list) (pa_cons pe_dnewK pa_nil))))))
      (pss_cons (ps_set (i := 6) sc_Lhistory.nd rfl (.inl rfl) (pe_lst (pa_cons (pe_call (ok_Lmoment T) hr4 rfl T.mg_Lmoment T.F_Lmoment.kp (b_Lmoment T) .nil pass0 (pa_cons (pv 2) (pa_cons (pv 5) pa_nil))) pa_nil)))
      (pss_cons (ps_for PassesOwn.never rfl (pi_range1 rfl T.b_range (pa_cons (pv 1) pa_nil)) (pg_name (i := 7) sc_Lhistory.nd rfl (.inl rfl))
        (pss_cons (ps_set (i := 8) sc_Lhistory.nd rfl (.inl rfl) (pe_meth0 (pv 2) T.cl_Image T.m_Image_twin (ok_twin T) hr3 (b_Image_twin T) .nil pass0))
        (pss_cons (ps_set (i := 9) sc_Lhistory.nd rfl (.inl rfl) (pe_call (ok_Lpick T) hr1 rfl T.mg_Lpick T.F_Lpick.kp (b_Lpick T) .nil pass0 (pa_cons (pv 0) (pa_cons pe_int pa_nil))))
        (pss_cons (ps_expr (pe_meth (pv 2) T.cl_Image T.m_Image_begin (ok_begin T) hr1 (b_Image_begin T) .nil pass0 (pa_cons (pv 9) (pa_cons (pe_tup pa_nil) pa_nil))))
        (pss_cons (ps_set (i := 10) sc_Lhistory.nd rfl (.inl rfl) (pe_call (ok_Lpick T) hr1 rfl T.mg_Lpick T.F_Lpick.kp (b_Lpick T) .nil pass0 (pa_cons (pv 0) (pa_cons pe_int pa_nil))))
        (Evl.pss_cut (ps_if (pt_cmpR op_lt (pv 10) pe_int (nomark _))
          (pss_one (ps_set (i := 11) sc_Lhistory.nd rfl (.inl rfl) (pe_call (ok_Ltake T) hr rfl T.mg_Ltake T.F_Ltake.kp (b_Ltake T) .nil pass0 (pa_cons (pv 2) (pa_cons (pv 5) (pa_cons (pv 0) (pa_cons (pe_op op_add pe_int (pv 7)) (pa_cons (pv 9) pa_nil))))))))
          (pss_one (ps_if (pt_cmpR op_lt (pv 10) pe_int (nomark _))
            (pss_one (ps_set (i := 11) sc_Lhistory.nd rfl (.inl rfl) (pe_call (ok_Lgive T) hr4 rfl T.mg_Lgive T.F_Lgive.kp (b_Lgive T) .nil pass0 (pa_cons (pv 2) (pa_cons (pv 5) (pa_cons (pv 0) (pa_cons (pe_op op_add pe_int (pv 7)) pa_nil)))))))
            (pss_one (ps_set (i := 11) sc_Lhistory.nd rfl (.inl rfl) (pe_call (ok_Lchange T) hr2 rfl T.mg_Lchange T.F_Lchange.kp (b_Lchange T) .nil pass0 (pa_cons (pv 2) (pa_cons (pv 5) (pa_cons (pv 0) (pa_cons (pe_op op_add pe_int (pv 7)) pa_nil))))))))))
        (pss_cons (ps_expr (pe_meth (pv 2) T.cl_Image T.m_Image_settle (ok_settle T) hr3 (b_Image_settle T) .nil pass0 (pa_cons (pv 8) pa_nil)))
        (pss_cons (ps_if (pt_not (pt_val (pv 11)))
          (pss_one (ps_ret (pe_lst pa_nil)))
          pss_nil)
        (pss_one (ps_expr (pe_bm PySem.F.plainAttrs_list PySem.F.slot_list_append PySem.F.type_list_append mt_append (pv 6) (pa_cons (pe_call (ok_Lmoment T) hr4 rfl T.mg_Lmoment T.F_Lmoment.kp (b_Lmoment T) .nil pass0 (pa_cons (pv 2) (pa_cons (pv 5) pa_nil))) pa_nil))))))))))))
      (pss_one (ps_ret (pv 6)))))))), ?_⟩
    -- Plan(24, nodes=5, slots=30), Image.fresh
    refine ⟨rfl, rfl, fun px pdx npx npdx ned => ?_⟩
    refine ⟨px, pdx, 24, 5, 30, rfl, upd_same, by decide, by decide, by decide, by decide, by decide, by decide, by decide, rfl, ?_⟩
    have Pl : PlanAt T.C_Plan (upd (upd (upd H pdx (.own px)) px (.ins T.C_Plan pdx [])) px (.ins T.C_Plan pdx (planF 24 5 30))) px 24 5 30 :=
      ⟨⟨pdx, upd_same⟩, by decide, by decide, by decide, by decide, by decide, by decide, by decide⟩
    have s02 : Same H (upd (upd (upd H pdx (.own px)) px (.ins T.C_Plan pdx [])) px (.ins T.C_Plan pdx (planF 24 5 30))) := fun x o e => by
      rw [upd_ne (ne_of_none e npx), upd_ne (ne_of_none e npx), upd_ne (ne_of_none e npdx)]
      exact e
    generalize upd (upd (upd H pdx (.own px)) px (.ins T.C_Plan pdx [])) px (.ins T.C_Plan pdx (planF 24 5 30)) = H2 at Pl s02 ⊢
    refine ⟨px, 24, 5, 30, rfl, Pl, fun H3 im A S3 nim I3 N3 eA => ?_⟩
    have I3 : ImgAt T.C_Image T.C_Plan H3 im A v0I 24 5 30 := I3
    have s03 := s02.trans S3
    -- the kinds
    refine ⟨24, rfl, by decide, by decide, fun D hD => ?_⟩
    refine lc_range (lo := 0) (n := (24 : Int).toNat) (fun i H' => H' = upd H3 D (.lst ((k0L.take i).map V.int))) rfl ?_ ?_
    · rintro i H' hi rfl
      have hi : i < 24 := hi
      refine ⟨rfl, yes_ ⟨_, rfl, _, _, rfl, rfl, .inr ⟨_, rfl, _, upd_same, ?_, ?_⟩⟩⟩
      · rw [List.length_map]
        exact lt_line (by have := List.length_take_le i k0L; omega)
      · rw [upd_upd, show (0 : Int) + (i : Int) = i by omega, take_get (k0_get hi), List.map_append]
        rfl
    rintro H4 rfl
    have e00 : k0L.take (24 : Int).toNat = k0L := rfl
    rw [e00]
    have F1 : Fr [(fa, HO.lst (f1.map V.int))] H3 := ⟨fun p hp => by rw [List.mem_singleton.mp hp]; exact s03 _ _ efa, by simp⟩
    have FD := F1.cons (o := .lst (k0L.map V.int)) hD
    have sD := same_upd (o := .lst (k0L.map V.int)) hD
    generalize upd H3 D (.lst (k0L.map V.int)) = H4 at FD sD ⊢
    have gD := FD.get 0 rfl
    refine ⟨_, rfl, _, rfl, D, _, rfl, .inl (.of gD), fun b nb => ?_⟩
    have Fb := FD.cons (o := .lst (k0L.map V.int)) nb
    have sb := sD.trans (same_upd (o := .lst (k0L.map V.int)) nb)
    generalize upd H4 b (.lst (k0L.map V.int)) = H5 at Fb sb ⊢
    refine ⟨_, rfl, D, _, rfl, .inl (.of (Fb.get 1 rfl)), fun c nc => ?_⟩
    have Fc := Fb.cons (o := .lst (k0L.map V.int)) nc
    have sc := sb.trans (same_upd (o := .lst (k0L.map V.int)) nc)
    generalize upd H5 c (.lst (k0L.map V.int)) = H6 at Fc sc ⊢
    intro f nf
    have Ff := Fc.cons (o := .dK []) nf
    have sf := sc.trans (same_upd (o := .dK []) nf)
    generalize upd H6 f (.dK []) = H7 at Ff sf ⊢
    refine ⟨by show 4 ≤ sizeLine; decide, fun l nl => ?_⟩
    have Fl := Ff.cons (o := .lst [V.ref D, .ref b, .ref c, .ref f]) nl
    have sl' := sf.trans (same_upd (o := .lst [V.ref D, .ref b, .ref c, .ref f]) nl)
    have g3 : ∀ x, H3 x = none → H x = none := fun x e => s03.free e
    have nbH := g3 _ (sD.free nb)
    have ncH := g3 _ (sb.free nc)
    have nfH := g3 _ (sc.free nf)
    have nlH := g3 _ (sf.free nl)
    have nb3 := sD.free nb
    have nc3 := sb.free nc
    have nf3 := sc.free nf
    have nl3 := sf.free nl
    generalize upd H7 l (.lst [V.ref D, .ref b, .ref c, .ref f]) = H8 at Fl sl' ⊢
    obtain ⟨B, eB⟩ : ∃ B : Bk, B = ⟨l, D, b, c, f⟩ := ⟨_, rfl⟩
    have F8 : Fr (bkL B w0 fa f1) H8 := by
      rw [eB]
      refine ⟨fun p hp => Fl.at_ p ?_, ?_⟩
      · simp only [bkL, bkR, w0, List.mem_cons, List.not_mem_nil, or_false] at hp ⊢
        rcases hp with h | h | h | h | h | h <;> simp [h]
      · have nd := Fl.nd
        simp only [bkL, List.map_cons, List.map_nil, List.nodup_cons, List.mem_cons, List.not_mem_nil, or_false, not_or, not_false_eq_true, List.nodup_nil, and_true] at nd ⊢
        obtain ⟨⟨a1, a2, a3, a4, a5⟩, ⟨b1, b2, b3, b4⟩, ⟨c1, c2, c3⟩, ⟨d1, d2⟩, g1⟩ := nd
        exact ⟨⟨Ne.symm a5, Ne.symm g1, Ne.symm d2, Ne.symm c3, Ne.symm b4⟩, ⟨a4, a3, a2, a1⟩, ⟨Ne.symm d1, Ne.symm c2, Ne.symm b3⟩, ⟨Ne.symm c1, Ne.symm b2⟩, Ne.symm b1⟩
    have I8 : ImgAt T.C_Image T.C_Plan H8 im A v0I 24 5 30 := I3.keep sl'
    have X8 : SI T.C_Image T.C_Plan H8 im A v0I 24 5 30 (bkL B w0 fa f1) := by
      refine ⟨I8, F8, fun p hp z => ?_⟩
      rw [eB] at hp
      obtain ⟨o, e⟩ := I3.held z
      simp only [bkL, List.mem_cons, List.not_mem_nil, or_false] at hp
      rcases hp with rfl | rfl | rfl | rfl | rfl | rfl
      · have hfa : ∀ y, H2 y = none → fa ≠ y := fun y e => ne_of_none (s02 _ _ efa) e
        obtain ⟨dxp, hpl⟩ := I3.pl.ob
        simp only [IA.reads, List.mem_cons] at z
        rcases z with z | z | z | z | z | z | z | z
        · exact hfa _ nim z
        · rw [← z, s03 _ _ efa] at hpl
          cases hpl
        · exact hfa _ N3.ca z
        · exact hfa _ N3.ho z
        · exact hfa _ N3.st z
        · exact hfa _ N3.hd z
        · have := I3.ba
          rw [← z, s03 _ _ efa] at this
          cases this
        · exact hfa _ (N3.rs _ z) rfl
      all_goals (dsimp only at e; first | (rw [nl3] at e; cases e) | (rw [hD] at e; cases e) | (rw [nb3] at e; cases e) | (rw [nc3] at e; cases e) | (rw [nf3] at e; cases e))
    have out8 : ∀ x ∈ A.ft im ++ bkA B fa, x = fa ∨ H x = none := fun x hx => by
      rcases List.mem_append.mp hx with h | h
      · simp only [IA.ft, List.mem_cons] at h
        rcases h with rfl | rfl | rfl | rfl | h
        · exact .inr (s02.free nim)
        · exact .inr (s02.free N3.ca)
        · exact .inr (s02.free N3.ho)
        · exact .inr (s02.free N3.st)
        · exact .inr (s02.free (N3.rs _ h))
      · rw [eB] at h
        simp only [bkA, List.mem_cons, List.not_mem_nil, or_false] at h
        rcases h with rfl | rfl | rfl | rfl | rfl | rfl
        · exact .inl rfl
        · exact .inr nlH
        · exact .inr (g3 _ hD)
        · exact .inr nbH
        · exact .inr ncH
        · exact .inr nfH
    have kH8 : Kp [fa] H H8 := (Kp.of s03).same sl'
    rw [show V.ref l = V.ref B.bk by rw [eB]]
    clear eB F8 Fl Ff Fc Fb FD F1 nl nf nc nb nlH nfH ncH nbH nl3 nf3 nc3 nb3 sf sc sb sD sl' gD g3 I3 I8 Pl N3
    have G0 := agr0
    -- the first moment
    refine ⟨_, rfl, _, rfl, 0, im, A, v0I, 30, B, w0, fa, f1, rfl, X8, G0, fun H9 m0 M0 s9 nm0 am0 vm0 km0 om0 => ?_⟩
    have X9 := X8.same s9
    refine ⟨by show 1 ≤ sizeLine; decide, ?_⟩
    (intro mo n_mo; generalize he_mo : upd _ mo _ = H10; obtain ⟨e_mo, s_mo, f_mo⟩ := new_f he_mo n_mo; clear he_mo)
    have X10 := X9.same s_mo
    have outm : ∀ {Hc : Hp} {A : IA} {v : IV} {w : BV} {f : List Int}, SI T.C_Image T.C_Plan Hc im A v 24 5 30 (bkL B w fa f) → ∀ {x}, (Hc x = none ∨ x = A.pl ∨ x = A.ba) → x ∉ A.ft im ++ bkA B fa := fun {Hc A v w f} X {x} h z => by
      rcases List.mem_append.mp z with q | q
      · obtain ⟨⟨o, e⟩, n1, n2⟩ := X.I.foot_ne q
        rcases h with h | h | h
        · rw [h] at e; cases e
        · exact n1 h
        · exact n2 h
      · rw [← bkA_eq (w := w) (fs := f)] at q
        obtain ⟨p, hp, rfl⟩ := List.mem_map.mp q
        rcases h with h | h | h
        · have := X.F.at_ p hp
          rw [h] at this
          cases this
        · exact X.ap p hp (by rw [h]; simp [IA.reads])
        · exact X.ap p hp (by rw [h]; simp [IA.reads])
    have nmo : mo ∉ A.ft im ++ bkA B fa := outm X9 (.inl n_mo)
    have M10 : MomsAt T.C_Image T.C_Plan H10 (mo :: (A.ft im ++ bkA B fa)) [m0] [M0] 30 := ⟨rfl, fun i m M e1 e2 => by
      cases i with
      | succ i => simp at e1
      | zero =>
        cases e1
        cases e2
        refine ⟨am0.same s_mo, fun x hx z => ?_⟩
        rcases List.mem_cons.mp z with z | z
        · obtain ⟨o, e⟩ := am0.held hx
          rw [z, n_mo] at e
          cases e
        · exact outm X8 (om0 x hx) z⟩
    have nmoH : H mo = none := by
      cases q : H mo with
      | none => rfl
      | some o =>
        have nf : mo ≠ fa := fun z => nmo (by rw [z]; simp [bkA])
        have := (kH8.same s9) _ _ q (by simp [nf])
        rw [n_mo] at this
        cases this
    have k10 : Kp [fa] H H10 := (kH8.same s9).same s_mo
    have se0 : v0I.se = 1 := rfl
    refine ⟨_, rfl, many, rfl, by omega, by omega, ?_⟩
    generalize v0I = v0 at X8 X9 X10 G0 vm0 se0 ⊢
    refine for_range (lo := 0) (n := many.toNat) (fun i σ H' => ∃ (A : IA) (v : IV) (w : BV) (fs : List Int) (mas : List Addr) (Ms : List Mom) (v7 v8 v9 v10 v11 : Option V), σ = [some (.ref fa), some (.int many), some (.ref im), some (.ref D), none, some (.ref B.bk), some (.ref mo), v7, v8, v9, v10, v11] ∧ SI T.C_Image T.C_Plan H' im A v 24 5 30 (bkL B w fa fs) ∧ Agr i v w ∧ w.li = [0, 0, 0, 0] ∧ v.se = 1 + (i : Int) ∧ Kp [fa] H H' ∧ (∀ x ∈ A.ft im ++ bkA B fa, x = fa ∨ H x = none) ∧ H' mo = some (.lst (mas.map V.ref)) ∧ mo ∉ A.ft im ++ bkA B fa ∧ MomsAt T.C_Image T.C_Plan H' (mo :: (A.ft im ++ bkA B fa)) mas Ms 30 ∧ mas.length = i + 1)
      ⟨A, v0, w0, f1, [m0], [M0], none, none, none, none, none, rfl, X10, G0, rfl, by omega, k10, out8, e_mo, nmo, M10, rfl⟩ ?_ ?_
    · clear X8 X9 X10 G0 se0 vm0 km0 am0 om0 M10 nmo out8 k10 kH8 e_mo n_mo s_mo f_mo s9 nm0
      rintro i σ H11 hi ⟨A, v, w, fs, mas, Ms, v7, v8, v9, v10, v11, rfl, X, G, hli, hse, kk, out, emo, nmo, MM, lmas⟩
      have L := X.I.l24
      have hfa : fa ∈ bkA B fa := by simp [bkA]
      have nmf : mo ≠ fa := fun z => nmo (by rw [z]; simp [bkA])
      -- the twin
      refine ⟨_, rfl, im, _, _, rfl, X.I.ob, rfl, im, A, v, 24, 5, 30, rfl, X.I, fun H12 im0 A0 s12 n12 I12 N12 epl eba => ?_⟩
      have X12 := X.same s12
      have out0 : ∀ a ∈ A.ft im ++ bkA B fa, a ∉ A0.reads im0 := fun a ha => by
        rcases List.mem_append.mp ha with ha | ha
        · have f := X.I.foot_ne ha
          exact twin_out N12 n12 epl eba f.1 f.2.1 f.2.2
        · rw [← bkA_eq (w := w) (fs := fs)] at ha
          obtain ⟨p, hp, rfl⟩ := List.mem_map.mp ha
          exact twin_out N12 n12 epl eba ⟨_, X.F.at_ p hp⟩ (fun z => X.ap p hp (by rw [z]; simp [IA.reads])) (fun z => X.ap p hp (by rw [z]; simp [IA.reads]))
      have emo12 := s12 _ _ emo
      have MM12 : MomsAt T.C_Image T.C_Plan H12 (mo :: (A.ft im ++ bkA B fa)) mas Ms 30 := MM.kp (S := []) (Kp.of s12) (fun x h => nomatch h) fun x h => .inl h
      have kk12 := kk.same s12
      -- the wish
      refine ⟨_, rfl, fa, fs, 64, rfl, X12.F.get 0 rfl, by decide, fun wi fs2 wi0 wi64 _ => ?_⟩
      have X13 := X12.feed fs2
      have k13 : Kp [fa] H12 (upd H12 fa (.lst (fs2.map V.int))) := Kp.refl.own1
      have emo13 := k13.at1 emo12 nmf
      have MM13 := MM12.kp k13 (fun x h => by rw [List.mem_singleton.mp h]; simp [hfa]) fun x h => .inl h
      have I13 : ImgAt T.C_Image T.C_Plan (upd H12 fa (.lst (fs2.map V.int))) im0 A0 v 24 5 30 := I12.keepF fun x o' hx e => k13.at1 e fun z => out0 fa (by simp [hfa]) (by rw [← z]; exact hx)
      have kk13 := kk12.trans k13
      generalize upd H12 fa (.lst (fs2.map V.int)) = H13 at X13 k13 emo13 MM13 I13 kk13 ⊢
      clear X12 MM12 I12 emo12 kk12 k13
      -- begin
      refine ⟨_, rfl, im, _, _, rfl, X13.I.ob, rfl, _, rfl, by show 0 ≤ sizeLine; decide, ?_⟩
      (intro tq n_tq; generalize he_tq : upd _ tq _ = H14; obtain ⟨e_tq, s_tq, f_tq⟩ := new_f he_tq n_tq; clear he_tq)
      have X14 := X13.same s_tq
      refine ⟨im, A, v, 24, 5, 30, wi, tq, [], rfl, X14.I, .inr e_tq, fun H15 t I15 k15 nt => ?_⟩
      have t13 : H13 t = none := by
        rcases nt with q | q
        · exact s_tq.free q
        · rw [q]; exact n_tq
      have X15 : SI T.C_Image T.C_Plan H15 im { A with ba := t } (begV v wi []) 24 5 30 (bkL B w fa fs2) := X14.imgN I15 k15 (by simp [IA.reads]) fun x hx => by
        rcases reads_ba hx with z | z
        · exact .inl z
        · right
          rw [z]
          exact X13.F.held t13
      have nmi : mo ≠ im := fun z => nmo (by rw [z]; simp [IA.ft])
      have emo15 := k15.at1 (s_tq _ _ emo13) nmi
      have im_in : im ∈ A.ft im ++ bkA B fa := by simp [IA.ft]
      have MM15 := (MM13.kp (C' := mo :: (A.ft im ++ bkA B fa)) (S := []) (Kp.of s_tq) (fun x h => nomatch h) fun x h => .inl h).kp (C' := mo :: (A.ft im ++ bkA B fa)) k15 (fun x h => by rw [List.mem_singleton.mp h]; exact List.mem_cons_of_mem _ im_in) fun x h => .inl h
      have I015 : ImgAt T.C_Image T.C_Plan H15 im0 A0 v 24 5 30 := (I13.keep s_tq).keepF fun x o' hx e => k15.at1 e fun z => out0 im im_in (by rw [← z]; exact hx)
      have kk15 : Kp [fa] H H15 := (kk13.same s_tq).hid k15 fun x h => by rw [List.mem_singleton.mp h]; exact out im im_in
      clear X13 X14 MM13 I13 emo13 kk13
      -- the choice
      refine ⟨_, rfl, fa, fs2, 8, rfl, X15.F.get 0 rfl, by decide, fun ch fs3 ch0 ch8 _ => ?_⟩
      have X16 := X15.feed fs3
      have k16 : Kp [fa] H15 (upd H15 fa (.lst (fs3.map V.int))) := Kp.refl.own1
      have emo16 := k16.at1 emo15 nmf
      have MM16 := MM15.kp (C' := mo :: (A.ft im ++ bkA B fa)) k16 (fun x h => by rw [List.mem_singleton.mp h]; simp [hfa]) fun x h => .inl h
      have I016 : ImgAt T.C_Image T.C_Plan (upd H15 fa (.lst (fs3.map V.int))) im0 A0 v 24 5 30 := I015.keepF fun x o' hx e => k16.at1 e fun z => out0 fa (by simp [hfa]) (by rw [← z]; exact hx)
      have kk16 := kk15.trans k16
      generalize upd H15 fa (.lst (fs3.map V.int)) = H16 at X16 k16 emo16 MM16 I016 kk16 ⊢
      clear X15 MM15 I015 emo15 kk15 k16
      have se2 : 2 + (0 + (i : Int)) = v.se + 1 := by omega
      have hi100 : i ≤ 100 := by omega
      refine ⟨fun σ H' => σ = [some (.ref fa), some (.int many), some (.ref im), some (.ref D), none, some (.ref B.bk), some (.ref mo), some (.int (0 + (i : Int))), some (.ref im0), some (.int wi), some (.int ch), some (.bl true)] ∧ Deed T.C_Image T.C_Plan H16 im { A with ba := t } v 30 B w fa i H', ?_, ?_⟩
      · ((try dsimp only); (first | (refine Rg.sg (σ' := [some (.ref fa), some (.int many), some (.ref im), some (.ref D), none, some (.ref B.bk), some (.ref mo), some (.int (0 + (i : Int))), some (.ref im0), some (.int wi), some (.int ch), v11]) ?_ ?_; focus exact rfl) | (refine Rg.sgG (σ' := [some (.ref fa), some (.int many), some (.ref im), some (.ref D), none, some (.ref B.bk), some (.ref mo), some (.int (0 + (i : Int))), some (.ref im0), some (.int wi), some (.int ch), v11]) ?_ ?_; focus exact rfl)))
        refine ⟨_, rfl, _, _, rfl, rfl, _, rfl, wD (fun c4 => ?_) fun c4 => ?_⟩
        · refine ⟨_, rfl, _, rfl, _, rfl, _, rfl, _, _, rfl, rfl, _, rfl, i, im, _, v, wi, 30, B, w, fa, fs3, ?_, X16, G, hi100, hli, L, fun H17 d17 => ⟨rfl, d17⟩⟩
          rw [← se2]; rfl
        · refine ⟨_, rfl, _, _, rfl, rfl, _, rfl, wD (fun c6 => ?_) fun c6 => ?_⟩
          · refine ⟨_, rfl, _, rfl, _, rfl, _, rfl, _, _, rfl, rfl, i, im, _, v, wi, 30, B, w, fa, fs3, ?_, X16, G, hi100, hli, L, fun H17 d17 => ⟨rfl, d17⟩⟩
            rw [← se2]; rfl
          · refine ⟨_, rfl, _, rfl, _, rfl, _, rfl, _, _, rfl, rfl, i, im, _, v, wi, 30, B, w, fa, fs3, ?_, X16, G, hi100, hli, L, fun H17 d17 => ⟨rfl, d17⟩⟩
            rw [← se2]; rfl
      · rintro σ' H17 ⟨rfl, A', v', w', fs', X17, G17, hli', hse', hpl, hca, hho, hst, hba, hrs, k17, hrd⟩
        have ftA : ∀ {x}, x ∈ A'.ft im ++ bkA B fa → x ∈ A.ft im ++ bkA B fa ∨ H16 x = none := fun {x} h => by
          rcases List.mem_append.mp h with h | h
          · simp only [IA.ft, List.mem_cons] at h
            rcases h with z | z | z | z | z
            · exact .inl (by simp [IA.ft, z])
            · exact .inl (by rw [z, hca]; simp [IA.ft])
            · exact .inl (by rw [z, hho]; simp [IA.ft])
            · exact .inl (by rw [z, hst]; simp [IA.ft])
            · rcases hrs x z with q | q
              · exact .inl (by simp [IA.ft]; simp [show x ∈ A.rs from q])
              · exact .inr q
          · exact .inl (List.mem_append.mpr (.inr h))
        have k17 : Kp (A.ft im ++ bkA B fa) H16 H17 := k17
        have emo17 := k17 _ _ emo16 nmo
        have I017 : ImgAt T.C_Image T.C_Plan H17 im0 A0 v 24 5 30 := I016.keepF fun x o' hx e => k17 _ _ e fun z => out0 x z hx
        have MM17 := MM16.kp (C' := mo :: (A'.ft im ++ bkA B fa)) k17 (fun x h => List.mem_cons_of_mem _ h) fun x h => by
          rcases List.mem_cons.mp h with z | z
          · exact .inl (by rw [z]; exact List.mem_cons_self)
          · rcases ftA z with q | q
            · exact .inl (List.mem_cons_of_mem _ q)
            · exact .inr q
        have kk17 : Kp [fa] H H17 := kk16.hid k17 out
        have out17 : ∀ x ∈ A'.ft im ++ bkA B fa, x = fa ∨ H x = none := fun x h => by
          rcases ftA h with q | q
          · exact out x q
          · by_cases z : x = fa
            · exact .inl z
            · exact .inr (kk16.free (by simp [z]) q)
        have nmo17 : mo ∉ A'.ft im ++ bkA B fa := fun z => by
          rcases ftA z with q | q
          · exact nmo q
          · rw [q] at emo16; cases emo16
        clear X16 MM16 I016 kk16 emo16
        -- settle
        refine ⟨_, rfl, im, _, _, rfl, X17.I.ob, rfl, _, rfl, im, _, _, 24, 5, 30, im0, A0, v, rfl, X17.I, I017, by rw [hst]; exact out0 A.st (by simp [IA.ft]), fun H18 I18 k18 => ?_⟩
        have X18 : SI T.C_Image T.C_Plan H18 im A' (setV v' v) 24 5 30 (bkL B w' fa fs') := X17.imgN I18 k18 (by simp [IA.reads]) fun y hy => .inl hy
        have st_in : A'.st ∈ A'.ft im ++ bkA B fa := by simp [IA.ft]
        have emo18 := k18.at1 emo17 fun z => nmo17 (by rw [z]; exact st_in)
        have MM18 := MM17.kp (C' := mo :: (A'.ft im ++ bkA B fa)) k18 (fun x h => by rw [List.mem_singleton.mp h]; exact List.mem_cons_of_mem _ st_in) fun x h => .inl h
        have kk18 : Kp [fa] H H18 := kk17.hid k18 fun x h => by rw [List.mem_singleton.mp h]; exact out17 _ st_in
        clear X17 MM17 kk17 I017 k17
        refine ⟨_, rfl, true, rfl, iteF ?_⟩
        refine ⟨_, rfl, .inl ⟨rfl, _, .inl (.inl emo18)⟩, _, rfl, _, rfl, i + 1, im, A', setV v' v, 30, B, w', fa, fs', rfl, X18, G17, fun H19 m M s19 nm am vm km om => ?_⟩
        have emo19 := s19 _ _ emo18
        have X19 := X18.same s19
        have MM19 := MM18.kp (C' := mo :: (A'.ft im ++ bkA B fa)) (S := []) (Kp.of s19) (fun x h => nomatch h) fun x h => .inl h
        have km2 : Kp [mo] H19 (upd H19 mo (.lst (mas.map V.ref ++ [.ref m]))) := Kp.refl.own1
        have omo : ∀ x ∈ M.adr m, x ≠ mo := fun x hx z => by
          obtain ⟨dxp, hpl⟩ := X18.I.pl.ob
          rcases om x hx with q | q | q
          · rw [z, emo18] at q; cases q
          · rw [z] at q; rw [← q, emo18] at hpl; cases hpl
          · have := X18.I.ba
            rw [z] at q; rw [← q, emo18] at this; cases this
        refine ⟨mo, _, _, rfl, rfl, emo19, lt_line (by rw [List.length_map, lmas]; omega), A', setV v' v, w', fs', mas ++ [m], Ms ++ [M], _, _, _, _, _, rfl, X19.outL emo19 nmo17 _, G17, by rw [hli', hli], ?_, ?_, out17, ?_, nmo17, ?_, by simp [lmas]⟩
        · show v'.se = 1 + ((i + 1 : Nat) : Int)
          rw [hse', hse]; omega
        · exact (kk18.same s19).hid km2 fun x h => by rw [List.mem_singleton.mp h]; exact .inr nmoH
        · rw [upd_same, List.map_append]; rfl
        · refine (MM19.kp (C' := mo :: (A'.ft im ++ bkA B fa)) km2 (fun x h => by rw [List.mem_singleton.mp h]; exact List.mem_cons_self) fun x h => .inl h).snoc (am.keep fun x o hx e => km2.at1 e (omo x hx)) fun x hx z => ?_
          rcases List.mem_cons.mp z with z | z
          · exact omo x hx z
          · exact outm X18 (om x hx) z
    · rintro σ H11 ⟨A, v, w, fs, mas, Ms, v7, v8, v9, v10, v11, rfl, X, G, hli, hse, kk, out, emo, nmo, MM, lmas⟩
      refine ⟨_, rfl, k H11 mo mas Ms fs kk (X.F.get 0 rfl) emo nmoH (fun z => by rw [z] at lmas; simp at lmas) (by omega) (MM.kp (S := []) Kp.refl (fun x h => nomatch h) fun x h => .inl ?_)⟩
      simp only [List.mem_cons, List.not_mem_nil, or_false] at h
      rcases h with z | z
      · rw [z]; simp [bkA]
      · rw [z]; exact List.mem_cons_self
end
end K39
namespace K39
open PySem PySem.Spec PyProof.Rows L2 Rg
/-! ### numbers that are looked for, identities at home -/
def InsAt (H : Hp) (b : Addr) (L : List Int) : Prop := H b = some (.lst (L.map V.int)) ∨ H b = some (.tup (L.map V.int))
theorem InsAt.keep {H H' : Hp} {b : Addr} {L : List Int} (h : InsAt H b L) (f : ∀ o, H b = some o → H' b = some o) : InsAt H' b L := h.imp (f _) (f _)
theorem InsAt.same {H H' : Hp} {b : Addr} {L : List Int} (h : InsAt H b L) (S : Same H H') : InsAt H' b L := h.keep fun o e => S _ _ e
theorem InsAt.sq {K : PySem.W.Frag} {H : Hp} {b : Addr} {L : List Int} (h : InsAt H b L) : SqL K H b (L.map V.int) ∨ SqT K H b (L.map V.int) := h.imp .of .of
structure IdsAt (H : Hp) (a : Addr) (as : List Addr) (L : List (Int × Int)) : Prop where
  l : H a = some (.lst (as.map V.ref))
  n : as.length = 24
  m : L.length = 24
  e : ∀ (i : Nat) (t : Addr) (p : Int × Int), as[i]? = some t → L[i]? = some p → H t = some (.tup [.int p.1, .int p.2])
theorem IdsAt.keep {H H' : Hp} {a : Addr} {as : List Addr} {L : List (Int × Int)} (h : IdsAt H a as L) (f : ∀ x o, x = a ∨ x ∈ as → H x = some o → H' x = some o) : IdsAt H' a as L :=
  ⟨f _ _ (.inl rfl) h.l, h.n, h.m, fun i t p e1 e2 => f _ _ (.inr (List.mem_of_getElem? e1)) (h.e i t p e1 e2)⟩
theorem IdsAt.same {H H' : Hp} {a : Addr} {as : List Addr} {L : List (Int × Int)} (h : IdsAt H a as L) (S : Same H H') : IdsAt H' a as L := h.keep fun x o _ e => S x o e
def idV (L : List (Int × Int)) (x : Int) : Int × Int := (L[x.toNat]?).getD (0, 0)
theorem IdsAt.at {H : Hp} {a : Addr} {as : List Addr} {L : List (Int × Int)} (h : IdsAt H a as L) {x : Int} (h0 : 0 ≤ x) (h1 : x < 24) : ∃ t, atI (as.map V.ref) x = some (.ref t) ∧ H t = some (.tup [.int (idV L x).1, .int (idV L x).2]) := by
  have hn := h.n
  have hm := h.m
  have ha : x.toNat < as.length := by omega
  have hl : x.toNat < L.length := by omega
  refine ⟨as[x.toNat], at_of (j := x.toNat) (by omega) (by rw [List.getElem?_map, List.getElem?_eq_getElem ha]; rfl), ?_⟩
  unfold idV
  rw [List.getElem?_eq_getElem hl]
  exact h.e _ _ _ (List.getElem?_eq_getElem ha) (List.getElem?_eq_getElem hl)
section
variable {P : Program} {w0_ : World} {K : PySem.W.Frag} {mg : Str → Option Value} {base : Heap}
def sp_is_held (CI CP : Addr) : Sp := fun vs H Q _ => ∃ (x : Int), 0 ≤ x ∧ x < 24 ∧ ((vs = [.non, .int x] ∧ Q (.bl false) H) ∨ ∃ (im : Addr) (A : IA) (v : IV) (s : Int), vs = [.ref im, .int x] ∧ ImgAt CI CP H im A v 24 5 s ∧
  ∀ H' : Hp, Same H H' → Q (.bl (!decide (kindOf 24 5 v.M x = 0))) H')
theorem ok_is_held (T : Tx K mg) : FnOk P w0_ K mg base CX0 3 T.f_is_held T.fd_is_held ["image", "x"] (sp_is_held T.C_Image T.C_Plan) := by
  refine T.F_is_held.ok sc_is_held (fun vs H Q E h => ?_) (fun cdv A0 outer s H vs Q E hr h => ?_)
  · obtain ⟨_, _, _, ⟨rfl, _⟩ | ⟨_, _, _, _, rfl, _⟩⟩ := h <;> rfl
  · refine ⟨_, (pss_one (ps_ret (pe_and (pe_cmpR op_notN (pv 0) pe_non (nomark _)) (pe_one (pe_cmpR op_ne (pe_meth (pv 0) T.cl_Image T.m_Image_kind (ok_Image_kind T) hr (b_Image_kind T) .nil pass0 (pa_cons (pv 1) pa_nil)) (pe_cv T.mg_Plan T.cr_Plan T.cv_Plan_FREE) (nomark _)))))), ?_⟩
    rcases h with ⟨x, x0, x24, ⟨rfl, k⟩ | ⟨im, A, v, sl, rfl, I, k⟩⟩
    · skip
      (repeat ((fail_if_success (intro _)); first | (refine And.intro ?_ ?_; focus (first | rfl | assumption | exact .of (by assumption) | exact .inl (.of (by assumption)) | exact .inr (by assumption) | exact .inr (.of (by assumption)) | exact kit_ty (by decide +kernel) | exact .ty _ | exact tyT (by assumption) | exact .base (.int _) | (show _ ≤ sizeLine; first | decide | exact Nat.le_of_ble_eq_true rfl | (simp only [List.length_cons, List.length_nil]; decide)) | exact ⟨_, .of (by assumption)⟩ | exact ⟨_, by assumption⟩ | exact DGet.k (by assumption) | (with_reducible show (_ : Int) ≤ _; omega) | (with_reducible show (_ : Int) < _; omega) | (with_reducible show (_ : Nat) ≤ _; omega) | (with_reducible show (_ : Nat) < _; omega) | exact ⟨by decide, by decide⟩ | exact CMul_l (by decide) | exact CMul_r (by decide))) | ((fail_if_success (show ∃ W : Nat → Nat → L2.St → Hp → Prop, _)); apply Exists.intro) | (refine iteT ?_) | (refine iteF ?_) | (refine wT ?_ ?_; focus omega) | (refine wF ?_ ?_; focus omega) | (refine wTv ?_ ?_; focus omega) | (refine wFv ?_ ?_; focus omega) | (refine wNT ?_ ?_; focus omega) | (refine wNF ?_ ?_; focus omega)))
      exact k
    · obtain ⟨xn, rfl⟩ : ∃ xn : Nat, x = xn := ⟨x.toNat, by omega⟩
      have io := I.ob
      have cI := T.cl_Image
      skip
      (repeat ((fail_if_success (intro _)); first | (refine And.intro ?_ ?_; focus (first | rfl | assumption | exact .of (by assumption) | exact .inl (.of (by assumption)) | exact .inr (by assumption) | exact .inr (.of (by assumption)) | exact kit_ty (by decide +kernel) | exact .ty _ | exact tyT (by assumption) | exact .base (.int _) | (show _ ≤ sizeLine; first | decide | exact Nat.le_of_ble_eq_true rfl | (simp only [List.length_cons, List.length_nil]; decide)) | exact ⟨_, .of (by assumption)⟩ | exact ⟨_, by assumption⟩ | exact DGet.k (by assumption) | (with_reducible show (_ : Int) ≤ _; omega) | (with_reducible show (_ : Int) < _; omega) | (with_reducible show (_ : Nat) ≤ _; omega) | (with_reducible show (_ : Nat) < _; omega) | exact ⟨by decide, by decide⟩ | exact CMul_l (by decide) | exact CMul_r (by decide))) | ((fail_if_success (show ∃ W : Nat → Nat → L2.St → Hp → Prop, _)); apply Exists.intro) | (refine iteT ?_) | (refine iteF ?_) | (refine wT ?_ ?_; focus omega) | (refine wF ?_ ?_; focus omega) | (refine wTv ?_ ?_; focus omega) | (refine wFv ?_ ?_; focus omega) | (refine wNT ?_ ?_; focus omega) | (refine wNF ?_ ?_; focus omega)))
      refine fun H' S => ?_
      (repeat ((fail_if_success (intro _)); first | (refine And.intro ?_ ?_; focus (first | rfl | assumption | exact .of (by assumption) | exact .inl (.of (by assumption)) | exact .inr (by assumption) | exact .inr (.of (by assumption)) | exact kit_ty (by decide +kernel) | exact .ty _ | exact tyT (by assumption) | exact .base (.int _) | (show _ ≤ sizeLine; first | decide | exact Nat.le_of_ble_eq_true rfl | (simp only [List.length_cons, List.length_nil]; decide)) | exact ⟨_, .of (by assumption)⟩ | exact ⟨_, by assumption⟩ | exact DGet.k (by assumption) | (with_reducible show (_ : Int) ≤ _; omega) | (with_reducible show (_ : Int) < _; omega) | (with_reducible show (_ : Nat) ≤ _; omega) | (with_reducible show (_ : Nat) < _; omega) | exact ⟨by decide, by decide⟩ | exact CMul_l (by decide) | exact CMul_r (by decide))) | ((fail_if_success (show ∃ W : Nat → Nat → L2.St → Hp → Prop, _)); apply Exists.intro) | (refine iteT ?_) | (refine iteF ?_) | (refine wT ?_ ?_; focus omega) | (refine wF ?_ ?_; focus omega) | (refine wTv ?_ ?_; focus omega) | (refine wFv ?_ ?_; focus omega) | (refine wNT ?_ ?_; focus omega) | (refine wNF ?_ ?_; focus omega)))
      show Q _ _
      rw [dec_iv]
      exact k H' S
end
end K39
namespace K39
open PySem PySem.Spec PyProof.Rows L2 Rg
/-- a comprehension that keeps some of l, i looked at -/
def PvG {α : Type} (f : α → V) (H0 : Hp) (D : Addr) (l : List α) (p : α → Bool) (i : Nat) (H' : Hp) : Prop := Same H0 H' ∧ H' D = some (.lst (((l.take i).filter p).map f))
theorem PvG.start {α : Type} {f : α → V} {H0 : Hp} {D : Addr} {l : List α} {p : α → Bool} (h : H0 D = none) : PvG f H0 D l p 0 (upd H0 D (.lst [])) := ⟨same_upd h, upd_same⟩
theorem take_getG {α : Type} {l : List α} {i : Nat} {x : α} (h : l[i]? = some x) : l.take (i + 1) = l.take i ++ [x] := by
  rw [List.take_add_one, h]
  rfl
theorem PvG.yes {α : Type} {f : α → V} {H0 H' H2 : Hp} {D : Addr} {l : List α} {p : α → Bool} {i : Nat} {x : α} (h : PvG f H0 D l p i H') (hD : H0 D = none) (S : Same H' H2) (hx : l[i]? = some x) (hl : l.length < 1000) (hp : p x = true) :
    ∃ acc, H2 D = some (.lst acc) ∧ acc.length < sizeLine ∧ PvG f H0 D l p (i + 1) (upd H2 D (.lst (acc ++ [f x]))) := by
  refine ⟨_, S _ _ h.2, ?_, fun a o z => ?_, ?_⟩
  · rw [List.length_map]
    have h1 := List.length_filter_le p (l.take i)
    have h2 := List.length_take_le i l
    have hi := (List.getElem?_eq_some_iff.mp hx).1
    exact lt_line (by omega)
  · rw [upd_ne (ne_of_none z hD)]
    exact S _ _ (h.1 _ _ z)
  · rw [upd_same, take_getG hx, List.filter_append, List.map_append, List.filter_cons, if_pos hp]
    rfl
theorem PvG.no {α : Type} {f : α → V} {H0 H' H2 : Hp} {D : Addr} {l : List α} {p : α → Bool} {i : Nat} {x : α} (h : PvG f H0 D l p i H') (S : Same H' H2) (hx : l[i]? = some x) (hp : p x = false) : PvG f H0 D l p (i + 1) H2 := by
  refine ⟨h.1.trans S, ?_⟩
  rw [take_getG hx, List.filter_append, List.filter_cons, if_neg (by rw [hp]; decide), List.filter_nil, List.append_nil]
  exact S _ _ h.2
theorem PvG.all {α : Type} {f : α → V} {H0 H' : Hp} {D : Addr} {l : List α} {p : α → Bool} {n : Nat} (h : PvG f H0 D l p n H') (e : n = l.length) : Same H0 H' ∧ H' D = some (.lst ((l.filter p).map f)) := by
  subst e
  have := h.2
  rw [List.take_length] at this
  exact ⟨h.1, this⟩
end K39
namespace K39
open PySem PySem.Spec PyProof.Rows L2 Rg
/-! ### lots with marks -/
/-- a place in a dict of a lot: the place, the tuple, what it holds -/
abbrev Ent := Int × Addr × (Int × Int)
def idsK (G : List Ent) : List (Key × V) := G.map fun g => (Sum.inl g.1, .ref g.2.1)
theorem any_keys {kc : List (Key × V)} {G : List Ent} (h : kc.map (·.1) = G.map fun g => Sum.inl g.1) (x : Int) : (valV kc (Sum.inl x)).isSome = G.any fun g => decide (g.1 = x) := by
  rw [← valV_any]
  have e1 : (kc.any fun kv => decide (kv.1 = Sum.inl x)) = (kc.map (·.1)).any fun k => decide (k = Sum.inl x) := by rw [List.any_map]; rfl
  rw [e1, h, List.any_map]
  congr 1
  funext g
  show decide ((Sum.inl g.1 : Key) = Sum.inl x) = decide (g.1 = x)
  by_cases e : g.1 = x
  · rw [e]; simp
  · rw [decide_eq_false e, decide_eq_false (fun z => e (Sum.inl.inj z))]
theorem idsK_get : ∀ {G : List Ent}, (G.map (·.1)).Nodup → ∀ {g : Ent}, g ∈ G → valV (idsK G) (Sum.inl g.1) = some (.ref g.2.1)
  | [], _, g, hg => by cases hg
  | p :: G, hn, g, hg => by
    rw [List.map_cons, List.nodup_cons] at hn
    rcases List.mem_cons.mp hg with rfl | hg
    · exact valV_pos rfl
    · have ne : ¬ p.1 = g.1 := fun z => hn.1 (by rw [z]; exact List.mem_map.mpr ⟨g, hg, rfl⟩)
      exact (valV_neg fun z => ne (Sum.inl.inj z)).trans (idsK_get hn.2 hg)
theorem idsK_none {G : List Ent} {x : Int} (h : ∀ g ∈ G, g.1 ≠ x) : valV (idsK G) (Sum.inl x) = none := by
  have e := any_keys (kc := idsK G) (G := G) (by unfold idsK; rw [List.map_map]; rfl) x
  have f : (G.any fun g => decide (g.1 = x)) = false := by
    rw [List.any_eq_false]
    intro g hg
    rw [decide_eq_false (h g hg)]
    decide
  rw [f] at e
  cases hv : valV (idsK G) (Sum.inl x) with
  | none => rfl
  | some v => rw [hv] at e; cases e
theorem idsK_keys (G : List Ent) : (idsK G).map (·.1) = G.map fun g => (Sum.inl g.1 : Key) := by unfold idsK; rw [List.map_map]; rfl
theorem idsK_len (G : List Ent) : (idsK G).length = G.length := by unfold idsK; rw [List.length_map]
theorem idsK_snoc (G : List Ent) (x : Int) (t : Addr) (p : Int × Int) : idsK G ++ [(Sum.inl x, V.ref t)] = idsK (G ++ [(x, t, p)]) := by unfold idsK; rw [List.map_append]; rfl
structure LoM where
  (o dx c d r : Addr) (n wk ms : Int) (rv : List Int) (C D : List Ent)
def loF (M : LoM) : List (Str × V) := [("number", .int M.n), ("image", .non), ("copies", .ref M.c), ("identities", .ref M.d), ("mark", .int M.wk), ("mark_slot", .int M.ms), ("revokes", .ref M.r)]
structure LoAt (CL : Addr) (H : Hp) (M : LoM) : Prop where
  ob : H M.o = some (.ins CL M.dx (loF M))
  co : H M.c = some (.dK (idsK M.C))
  id : H M.d = some (.dK (idsK M.D))
  re : H M.r = some (.tup (M.rv.map V.int))
  ec : ∀ g ∈ M.C, H g.2.1 = some (.tup [.int g.2.2.1, .int g.2.2.2])
  ed : ∀ g ∈ M.D, H g.2.1 = some (.tup [.int g.2.2.1, .int g.2.2.2])
  cd : M.c ≠ M.d
def LoM.adr (M : LoM) : List Addr := M.o :: M.c :: M.d :: M.r :: (M.C.map (·.2.1) ++ M.D.map (·.2.1))
theorem LoAt.keep {CL : Addr} {H H' : Hp} {M : LoM} (h : LoAt CL H M) (f : ∀ x o, x ∈ M.adr → H x = some o → H' x = some o) : LoAt CL H' M :=
  ⟨f _ _ (by simp [LoM.adr]) h.ob, f _ _ (by simp [LoM.adr]) h.co, f _ _ (by simp [LoM.adr]) h.id, f _ _ (by simp [LoM.adr]) h.re, fun g hg => f _ _ (by simp only [LoM.adr, List.mem_cons, List.mem_append]; exact .inr (.inr (.inr (.inr (.inl (List.mem_map.mpr ⟨g, hg, rfl⟩)))))) (h.ec g hg),
    fun g hg => f _ _ (by simp only [LoM.adr, List.mem_cons, List.mem_append]; exact .inr (.inr (.inr (.inr (.inr (List.mem_map.mpr ⟨g, hg, rfl⟩)))))) (h.ed g hg), h.cd⟩
theorem LoAt.same {CL : Addr} {H H' : Hp} {M : LoM} (h : LoAt CL H M) (S : Same H H') : LoAt CL H' M := h.keep fun x o _ e => S x o e
section
variable {P : Program} {w0_ : World} {K : PySem.W.Frag} {mg : Str → Option Value} {base : Heap}
def sp_Lot_init (CL : Addr) : Sp := fun vs H Q _ => ∃ (o dx : Addr) (n : Int), vs = [.ref o, .int n, .non] ∧ H o = some (.ins CL dx []) ∧
  ∀ (H' : Hp) (c d r : Addr), Kp [o] H H' → LoAt CL H' ⟨o, dx, c, d, r, n, 0, -1, [], [], []⟩ → H c = none → H d = none → H r = none → Q .non H'
theorem ok_Lot_init (T : Tx K mg) : FnOk P w0_ K mg base CX0 1 T.f_Lot___init__ T.fd_Lot___init__ ["self", "number", "image"] (sp_Lot_init T.C_Lot) := by
  refine T.F_Lot___init__.ok sc_Lot___init__ (fun vs H Q E h => ?_) (fun cdv A0 outer s H vs Q E hr h => ?_)
  · obtain ⟨_, _, _, rfl, _⟩ := h; rfl
  · obtain ⟨o, dx, n, rfl, ho, k⟩ := h
    refine ⟨_, (pss_cons (ps_fld (pv 0) (pv 1) rfl)
      (pss_cons (ps_fld (pv 0) (pv 2) rfl)
      (pss_cons (ps_fld (pv 0) pe_dnewK rfl)
      (pss_cons (ps_fld (pv 0) pe_dnewK rfl)
      (pss_cons (ps_fld (pv 0) pe_int rfl)
      (pss_cons (ps_fld (pv 0) (pe_gc T.c_NO_SLOT) rfl)
      (pss_one (ps_fld (pv 0) (pe_tup pa_nil) rfl)))))))), ?_⟩
    have k0 : Kp [o] H H := Kp.refl
    refine ⟨_, rfl, _, rfl, o, _, _, _, rfl, ho, T.cl_Lot, T.na_Lot_number, by show 0 < 1000; decide, ?_⟩
    generalize e1 : upd _ o _ = H1
    have o1 : H1 o = some (.ins T.C_Lot dx [("number", .int n)]) := by rw [← e1]; exact upd_same
    have k1 : Kp [o] H H1 := by rw [← e1]; exact k0.own1
    refine ⟨_, rfl, _, rfl, o, _, _, _, rfl, o1, T.cl_Lot, T.na_Lot_image, by show 1 < 1000; decide, ?_⟩
    generalize e2 : upd _ o _ = H2
    have o2 : H2 o = some (.ins T.C_Lot dx [("number", .int n), ("image", .non)]) := by rw [← e2]; exact upd_same
    have k2 : Kp [o] H H2 := by rw [← e2]; exact k1.own1
    (intro c n_c; generalize he_c : upd _ c _ = H3; obtain ⟨e_c, s_c, f_c⟩ := new_f he_c n_c; clear he_c)
    have o2_3 := s_c _ _ o2
    have z_c : c ≠ o := (ne_of_none o2 n_c).symm
    have k3 := k2.same s_c
    have kc3 : Kp [o] H3 H3 := Kp.refl
    refine ⟨_, rfl, o, _, _, _, rfl, o2_3, T.cl_Lot, T.na_Lot_copies, by show 2 < 1000; decide, ?_⟩
    generalize e4 : upd _ o _ = H4
    have o4 : H4 o = some (.ins T.C_Lot dx [("number", .int n), ("image", .non), ("copies", .ref c)]) := by rw [← e4]; exact upd_same
    have k4 : Kp [o] H H4 := by rw [← e4]; exact k3.own1
    have kc4 : Kp [o] H3 H4 := by rw [← e4]; exact kc3.own1
    (intro d n_d; generalize he_d : upd _ d _ = H5; obtain ⟨e_d, s_d, f_d⟩ := new_f he_d n_d; clear he_d)
    have o4_5 := s_d _ _ o4
    have z_d : d ≠ o := (ne_of_none o4 n_d).symm
    have k5 := k4.same s_d
    have kc5 := kc4.same s_d
    have kd5 : Kp [o] H5 H5 := Kp.refl
    refine ⟨_, rfl, o, _, _, _, rfl, o4_5, T.cl_Lot, T.na_Lot_identities, by show 3 < 1000; decide, ?_⟩
    generalize e6 : upd _ o _ = H6
    have o6 : H6 o = some (.ins T.C_Lot dx [("number", .int n), ("image", .non), ("copies", .ref c), ("identities", .ref d)]) := by rw [← e6]; exact upd_same
    have k6 : Kp [o] H H6 := by rw [← e6]; exact k5.own1
    have kc6 : Kp [o] H3 H6 := by rw [← e6]; exact kc5.own1
    have kd6 : Kp [o] H5 H6 := by rw [← e6]; exact kd5.own1
    refine ⟨_, rfl, o, _, _, _, rfl, o6, T.cl_Lot, T.na_Lot_mark, by show 4 < 1000; decide, ?_⟩
    generalize e7 : upd _ o _ = H7
    have o7 : H7 o = some (.ins T.C_Lot dx [("number", .int n), ("image", .non), ("copies", .ref c), ("identities", .ref d), ("mark", .int 0)]) := by rw [← e7]; exact upd_same
    have k7 : Kp [o] H H7 := by rw [← e7]; exact k6.own1
    have kc7 : Kp [o] H3 H7 := by rw [← e7]; exact kc6.own1
    have kd7 : Kp [o] H5 H7 := by rw [← e7]; exact kd6.own1
    refine ⟨_, rfl, o, _, _, _, rfl, o7, T.cl_Lot, T.na_Lot_mark_slot, by show 5 < 1000; decide, ?_⟩
    generalize e8 : upd _ o _ = H8
    have o8 : H8 o = some (.ins T.C_Lot dx [("number", .int n), ("image", .non), ("copies", .ref c), ("identities", .ref d), ("mark", .int 0), ("mark_slot", .int (-1))]) := by rw [← e8]; exact upd_same
    have k8 : Kp [o] H H8 := by rw [← e8]; exact k7.own1
    have kc8 : Kp [o] H3 H8 := by rw [← e8]; exact kc7.own1
    have kd8 : Kp [o] H5 H8 := by rw [← e8]; exact kd7.own1
    refine ⟨by show 0 ≤ sizeLine; decide, ?_⟩
    (intro r n_r; generalize he_r : upd _ r _ = H9; obtain ⟨e_r, s_r, f_r⟩ := new_f he_r n_r; clear he_r)
    have o8_9 := s_r _ _ o8
    have z_r : r ≠ o := (ne_of_none o8 n_r).symm
    have k9 := k8.same s_r
    have kc9 := kc8.same s_r
    have kd9 := kd8.same s_r
    have kr9 : Kp [o] H9 H9 := Kp.refl
    refine ⟨_, rfl, o, _, _, _, rfl, o8_9, T.cl_Lot, T.na_Lot_revokes, by show 6 < 1000; decide, ?_⟩
    generalize e10 : upd _ o _ = H10
    have o10 : H10 o = some (.ins T.C_Lot dx [("number", .int n), ("image", .non), ("copies", .ref c), ("identities", .ref d), ("mark", .int 0), ("mark_slot", .int (-1)), ("revokes", .ref r)]) := by rw [← e10]; exact upd_same
    have k10 : Kp [o] H H10 := by rw [← e10]; exact k9.own1
    have kc10 : Kp [o] H3 H10 := by rw [← e10]; exact kc9.own1
    have kd10 : Kp [o] H5 H10 := by rw [← e10]; exact kd9.own1
    have kr10 : Kp [o] H9 H10 := by rw [← e10]; exact kr9.own1
    have f3 : ∀ {x}, x ≠ o → H2 x = none → H x = none := fun z e => k2.free (by simp [z]) e
    have f5 : ∀ {x}, x ≠ o → H4 x = none → H x = none := fun z e => k4.free (by simp [z]) e
    have f9 : ∀ {x}, x ≠ o → H8 x = none → H x = none := fun z e => k8.free (by simp [z]) e
    have ec := kc10 _ _ e_c (by simp [z_c])
    have ed := kd10 _ _ e_d (by simp [z_d])
    have er := kr10 _ _ e_r (by simp [z_r])
    have ec4 := kc4 _ _ e_c (by simp [z_c])
    exact k H10 c d r k10 ⟨o10, ec, ed, er, by simp, by simp, ne_of_none ec4 n_d⟩ (f3 z_c n_c) (f5 z_d n_d) (f9 z_r n_r)
def LoM.add (M : LoM) (x : Int) (q t : Addr) (sl wr : Int) (p : Int × Int) : LoM := { M with C := M.C ++ [(x, q, (sl, wr))], D := M.D ++ [(x, t, p)] }
def sp_keep_copy (CL : Addr) : Sp := fun vs H Q _ => ∃ (x sl wr : Int) (t : Addr) (p : Int × Int) (M : LoM), vs = [.ref M.o, .int x, .int sl, .int wr, .ref t] ∧ LoAt CL H M ∧ M.C.length < 1000 ∧ M.D.length < 1000 ∧ (∀ g ∈ M.C, g.1 ≠ x) ∧ (∀ g ∈ M.D, g.1 ≠ x) ∧ H t = some (.tup [.int p.1, .int p.2]) ∧
  ∀ (H' : Hp) (q : Addr), Kp [M.c, M.d] H H' → H q = none → LoAt CL H' (M.add x q t sl wr p) → Q .non H'
theorem ok_keep_copy (T : Tx K mg) : FnOk P w0_ K mg base CX0 1 T.f_Lot_keep_copy T.fd_Lot_keep_copy ["self", "x", "slot", "write", "identity"] (sp_keep_copy T.C_Lot) := by
  refine T.F_Lot_keep_copy.ok sc_Lot_keep_copy (fun vs H Q E h => ?_) (fun cdv A0 outer s H vs Q E hr h => ?_)
  · obtain ⟨_, _, _, _, _, _, rfl, _⟩ := h; rfl
  · obtain ⟨x, sl, wr, t, p, M, rfl, L, hl, hl2, hx, hx2, et, k⟩ := h
    refine ⟨_, (pss_cons (ps_dput (hu_of hr) (pe_fld (pv 0) rfl) (pv 1) (pe_tup (pa_cons (pv 2) (pa_cons (pv 3) pa_nil))) rfl)
      (pss_one (ps_dput (hu_of hr) (pe_fld (pv 0) rfl) (pv 1) (pv 4) rfl))), ?_⟩
    refine ⟨_, rfl, _, rfl, by show 2 ≤ sizeLine; decide, ?_⟩
    (intro q n_q; generalize he_q : upd _ q _ = H1; obtain ⟨e_q, s_q, f_q⟩ := new_f he_q n_q; clear he_q)
    have L1 := L.same s_q
    refine ⟨_, rfl, M.o, _, _, _, _, rfl, L1.ob, T.cl_Lot, T.na_Lot_copies, rfl, _, rfl, M.c, _, rfl, DPut.k (k := Sum.inl x) L1.co (lt_line (by rw [idsK_len]; omega)), ?_⟩
    rw [putK_new _ (idsK_none hx), idsK_snoc M.C x q (sl, wr)]
    have noc : M.o ≠ M.c := ne_of L1.ob L1.co (by intro z; cases z)
    refine ⟨_, rfl, _, rfl, M.o, _, _, _, _, rfl, (by rw [upd_ne noc]; exact L1.ob), T.cl_Lot, T.na_Lot_identities, rfl, _, rfl, M.d, _, rfl, DPut.k (k := Sum.inl x) (by rw [upd_ne L.cd.symm]; exact L1.id) (lt_line (by rw [idsK_len]; omega)), ?_⟩
    rw [putK_new _ (idsK_none hx2), idsK_snoc M.D x t p]
    have tk : ∀ y u, H1 y = some u → (∀ kvs, u ≠ .dK kvs) → upd (upd H1 M.c (.dK (idsK (M.C ++ [(x, q, (sl, wr))])))) M.d (.dK (idsK (M.D ++ [(x, t, p)]))) y = some u := fun y u e n => by
      rw [upd_ne (fun z => by rw [z, L1.id] at e; exact n _ (Option.some.inj e).symm), upd_ne (fun z => by rw [z, L1.co] at e; exact n _ (Option.some.inj e).symm)]
      exact e
    have kp : Kp [M.c, M.d] H (upd (upd H1 M.c (.dK (idsK (M.C ++ [(x, q, (sl, wr))])))) M.d (.dK (idsK (M.D ++ [(x, t, p)])))) := ((Kp.of s_q).own (by simp)).own (by simp)
    refine k _ q kp n_q ⟨tk _ _ L1.ob (by intro _ z; cases z), by show upd _ _ _ M.c = _; rw [upd_ne L.cd]; exact upd_same, upd_same, tk _ _ L1.re (by intro _ z; cases z), fun g hg => ?_, fun g hg => ?_, L.cd⟩
    · rcases List.mem_append.mp hg with h | h
      · exact tk _ _ (L1.ec g h) (by intro _ z; cases z)
      · have : g = (x, q, (sl, wr)) := by simpa using h
        subst this
        exact tk _ _ e_q (by intro _ z; cases z)
    · rcases List.mem_append.mp hg with h | h
      · exact tk _ _ (L1.ed g h) (by intro _ z; cases z)
      · have : g = (x, t, p) := by simpa using h
        subst this
        exact tk _ _ (s_q _ _ et) (by intro _ z; cases z)
end
end K39
namespace K39
open PySem PySem.Spec PyProof.Rows L2 Rg
/-! ### walks over a dict's values, a set of whole numbers -/
theorem lc_vals {d : Addr} {od : Obj} {kvs : List (Key × V)} {g : TG} {tt : TT} {te : TE} {vs : List Nat} {σ : L2.St} {H1 : Hp} {D : Addr} {Qd : Hp → Prop} (Pv : Nat → Hp → Prop) (h0 : Pv 0 (upd H1 D (.lst []))) (hl : ∀ i H, i ≤ kvs.length → Pv i H → H d = some (.frz od (.dK kvs)))
    (hs : ∀ i k x H, kvs[i]? = some (k, x) → Pv i H → g x (wipe σ vs) H fun σ2 H2 => wipe σ2 vs = wipe σ vs ∧ tt σ2 H2 fun b H3 =>
      if b = true then te σ2 H3 fun y H4 => ∃ acc, H4 D = some (.lst acc) ∧ acc.length < sizeLine ∧ Pv (i + 1) (upd H4 D (.lst (acc ++ [y]))) else Pv (i + 1) H3) (hd : ∀ H, Pv kvs.length H → Qd H) :
    ∃ W : Nat → Nat → Hp → Prop, (∃ m, W 0 m (upd H1 D (.lst []))) ∧ ∀ i m H, W i m H →
      ((Itd d od kvs).stop i H ∧ Qd H) ∨ ((Itd d od kvs).go i H ∧ ∃ Nx : Hp → Prop, (∀ H', Nx H' → ∃ m', m' < m ∧ W (i + 1) m' H') ∧ ∀ x H', (Itd d od kvs).yld i H x H' → g x (wipe σ vs) H' fun σ2 H2 => wipe σ2 vs = wipe σ vs ∧ tt σ2 H2 fun b H3 =>
        if b = true then te σ2 H3 fun y H4 => ∃ acc, H4 D = some (.lst acc) ∧ acc.length < sizeLine ∧ Nx (upd H4 D (.lst (acc ++ [y]))) else Nx H3) := by
  refine ⟨fun i m H => m = kvs.length - i ∧ i ≤ kvs.length ∧ Pv i H, ⟨kvs.length, by simp, Nat.zero_le _, h0⟩, ?_⟩
  rintro i m H ⟨rfl, hi, p⟩
  have q := hl i H hi p
  by_cases hlt : i < kvs.length
  · refine .inr ⟨⟨q, hlt⟩, Pv (i + 1), fun H' p' => ⟨kvs.length - (i + 1), by omega, rfl, hlt, p'⟩, fun x H' y => ?_⟩
    obtain ⟨e, k, ek⟩ := y
    subst e
    exact hs i k x _ ek p
  · have e : i = kvs.length := by omega
    subst e
    exact .inl ⟨⟨q, Nat.le_refl _⟩, hd H p⟩
theorem sc_listI {w : World} {K : PySem.W.Frag} {a : Addr} {xs : List V} {g : TG} {tt : TT} {te : TE} {vs : List Nat} {σ : L2.St} {H1 : Hp} {D : Addr} {Qd : Hp → Prop} (Pv : Nat → Hp → Prop) (h0 : Pv 0 (upd H1 D (SetO w D (fun _ => false) 0))) (hl : ∀ i H, i ≤ xs.length → Pv i H → SqL K H a xs)
    (hs : ∀ i x H, xs[i]? = some x → Pv i H → g x (wipe σ vs) H fun σ2 H2 => wipe σ2 vs = wipe σ vs ∧ tt σ2 H2 fun b H3 =>
      if b = true then te σ2 H3 fun y H4 => ∃ (c : Int) (S : Int → Bool) (n : Nat), y = .int c ∧ H4 D = some (SetO w D S n) ∧ n + 1 < scanBound ∧ Pv (i + 1) (upd H4 D (SetO w D (fun j => S j || decide (j = c)) (if S c = true then n else n + 1))) else Pv (i + 1) H3) (hd : ∀ H, Pv xs.length H → Qd H) :
    ∃ W : Nat → Nat → Hp → Prop, (∃ m, W 0 m (upd H1 D (SetO w D (fun _ => false) 0))) ∧ ∀ i m H, W i m H →
      ((Itl K a).stop i H ∧ Qd H) ∨ ((Itl K a).go i H ∧ ∃ Nx : Hp → Prop, (∀ H', Nx H' → ∃ m', m' < m ∧ W (i + 1) m' H') ∧ ∀ x H', (Itl K a).yld i H x H' → g x (wipe σ vs) H' fun σ2 H2 => wipe σ2 vs = wipe σ vs ∧ tt σ2 H2 fun b H3 =>
        if b = true then te σ2 H3 fun y H4 => ∃ (c : Int) (S : Int → Bool) (n : Nat), y = .int c ∧ H4 D = some (SetO w D S n) ∧ n + 1 < scanBound ∧ Nx (upd H4 D (SetO w D (fun j => S j || decide (j = c)) (if S c = true then n else n + 1))) else Nx H3) := by
  refine ⟨fun i m H => m = xs.length - i ∧ i ≤ xs.length ∧ Pv i H, ⟨xs.length, by simp, Nat.zero_le _, h0⟩, ?_⟩
  rintro i m H ⟨rfl, hi, p⟩
  have q := hl i H hi p
  by_cases hlt : i < xs.length
  · refine .inr ⟨⟨xs, xs[i], q, by simp [hlt]⟩, Pv (i + 1), fun H' p' => ⟨xs.length - (i + 1), by omega, rfl, hlt, p'⟩, fun x H' y => ?_⟩
    obtain ⟨e, y⟩ := y
    subst e
    exact hs i x _ (y xs q) p
  · have e : i = xs.length := by omega
    subst e
    exact .inl ⟨⟨xs, q, Nat.le_refl _⟩, hd H p⟩
/-- the set that a comprehension over l gathers, i looked at -/
def PvZ (w : World) (H0 : Hp) (D : Addr) (l : List Int) (p : Int → Bool) (i : Nat) (H' : Hp) : Prop := Same H0 H' ∧ ∃ (S : Int → Bool) (n : Nat), H' D = some (SetO w D S n) ∧ (∀ k, S k = true ↔ k ∈ (l.take i).filter p) ∧ n ≤ i
theorem PvZ.start {w : World} {H0 : Hp} {D : Addr} {l : List Int} {p : Int → Bool} (h : H0 D = none) : PvZ w H0 D l p 0 (upd H0 D (SetO w D (fun _ => false) 0)) := ⟨same_upd h, _, 0, upd_same, by simp, Nat.le_refl _⟩
theorem PvZ.yes {w : World} {H0 H' : Hp} {D : Addr} {l : List Int} {p : Int → Bool} {i : Nat} {x : Int} (h : PvZ w H0 D l p i H') (hD : H0 D = none) (hx : l[i]? = some x) (hl : l.length < 1000) (hp : p x = true) :
    ∃ (c : Int) (S : Int → Bool) (n : Nat), V.int x = .int c ∧ H' D = some (SetO w D S n) ∧ n + 1 < scanBound ∧ PvZ w H0 D l p (i + 1) (upd H' D (SetO w D (fun j => S j || decide (j = c)) (if S c = true then n else n + 1))) := by
  obtain ⟨s, S, n, e, hS, hn⟩ := h
  have hi := (List.getElem?_eq_some_iff.mp hx).1
  refine ⟨x, S, n, rfl, e, by unfold scanBound; omega, fun a o z => ?_, _, _, upd_same, fun k => ?_, ?_⟩
  · rw [upd_ne (ne_of_none z hD)]
    exact s _ _ z
  · rw [take_getG hx, List.filter_append, List.mem_append, ← hS k, List.filter_cons, if_pos hp]
    simp
  · split <;> omega
theorem PvZ.no {w : World} {H0 H' : Hp} {D : Addr} {l : List Int} {p : Int → Bool} {i : Nat} {x : Int} (h : PvZ w H0 D l p i H') (hx : l[i]? = some x) (hp : p x = false) : PvZ w H0 D l p (i + 1) H' := by
  obtain ⟨s, S, n, e, hS, hn⟩ := h
  refine ⟨s, S, n, e, fun k => ?_, by omega⟩
  rw [take_getG hx, List.filter_append, List.filter_cons, if_neg (by rw [hp]; decide), List.filter_nil, List.append_nil]
  exact hS k
/-- two lists that rise are one, if they hold the same -/
theorem asc_ext : ∀ {a b : List Int}, a.Pairwise (· < ·) → b.Pairwise (· < ·) → (∀ k, k ∈ a ↔ k ∈ b) → a = b
  | [], [], _, _, _ => rfl
  | [], y :: b, _, _, h => by have := (h y).mpr (by simp); cases this
  | x :: a, [], _, _, h => by have := (h x).mp (by simp); cases this
  | x :: a, y :: b, ha, hb, h => by
    obtain ⟨a1, a2⟩ := List.pairwise_cons.mp ha
    obtain ⟨b1, b2⟩ := List.pairwise_cons.mp hb
    have exy : x = y := by
      have p1 : x ∈ y :: b := (h x).mp (by simp)
      have p2 : y ∈ x :: a := (h y).mpr (by simp)
      rcases List.mem_cons.mp p1 with q | q
      · exact q
      · rcases List.mem_cons.mp p2 with r | r
        · exact r.symm
        · have := a1 y r
          have := b1 x q
          omega
    subst exy
    rw [asc_ext a2 b2 fun k => ?_]
    constructor
    · intro z
      rcases List.mem_cons.mp ((h k).mp (by simp [z])) with q | q
      · have := a1 k z; omega
      · exact q
    · intro z
      rcases List.mem_cons.mp ((h k).mpr (by simp [z])) with q | q
      · have := b1 k z; omega
      · exact q
end K39
namespace K39
open PySem PySem.Spec PyProof.Rows L2 Rg
def hasC (x : Int) (M : LoM) : Bool := M.C.any fun g => decide (g.1 = x)
theorem LoAt.has {CL : Addr} {H : Hp} {M : LoM} (_ : LoAt CL H M) (x : Int) : (valV (idsK M.C) (Sum.inl x)).isSome = hasC x M := any_keys (idsK_keys M.C) x
/-- the number of the lot whose copy of x lives -/
def liveS (g : Bool) (x : Int) (live : Int) (M : LoM) : Int := if (hasC x M && (g || !decide (x ∈ M.rv))) = true then M.n else if decide (x ∈ M.rv) = true then 0 else live
def liveN (g : Bool) (x : Int) (Ms : List LoM) : Int := Ms.foldl (liveS g x) 0
section
variable {P : Program} {w0_ : World} {K : PySem.W.Frag} {mg : Str → Option Value} {base : Heap}
def sp_keep_mark (CL : Addr) : Sp := fun vs H Q _ => ∃ (sl wr : Int) (q : Addr) (rv : List Int) (M : LoM), vs = [.ref M.o, .int sl, .int wr, .ref q] ∧ LoAt CL H M ∧ H q = some (.lst (rv.map V.int)) ∧
  ∀ (H' : Hp) (r : Addr), Kp [M.o] H H' → H r = none → LoAt CL H' { M with wk := wr, ms := sl, r := r, rv := rv } → Q .non H'
theorem ok_keep_mark (T : Tx K mg) : FnOk P w0_ K mg base CX0 1 T.f_Lot_keep_mark T.fd_Lot_keep_mark ["self", "slot", "write", "revokes"] (sp_keep_mark T.C_Lot) := by
  refine T.F_Lot_keep_mark.ok sc_Lot_keep_mark (fun vs H Q E h => ?_) (fun cdv A0 outer s H vs Q E hr h => ?_)
  · obtain ⟨_, _, _, _, _, rfl, _⟩ := h; rfl
  · obtain ⟨sl, wr, q, rv, M, rfl, L, eq, k⟩ := h
    refine ⟨_, (pss_cons (ps_fld (pv 0) (pv 2) rfl)
      (pss_cons (ps_fld (pv 0) (pv 1) rfl)
      (pss_one (ps_fld (pv 0) (pe_tupleOf rfl T.b_tuple (pv 3)) rfl)))), ?_⟩
    have qo : q ≠ M.o := ne_of eq L.ob (by intro z; cases z)
    refine ⟨_, rfl, _, rfl, M.o, _, _, _, rfl, L.ob, T.cl_Lot, T.na_Lot_mark, by show 7 < 1000; decide, ?_⟩
    generalize e1 : upd _ M.o _ = H1
    have o1 : H1 M.o = some (.ins T.C_Lot M.dx (loF { M with wk := wr })) := by rw [← e1]; exact upd_same
    have k1 : Kp [M.o] H H1 := by rw [← e1]; exact Kp.refl.own1
    refine ⟨_, rfl, _, rfl, M.o, _, _, _, rfl, o1, T.cl_Lot, T.na_Lot_mark_slot, by show 7 < 1000; decide, ?_⟩
    generalize e2 : upd _ M.o _ = H2
    have o2 : H2 M.o = some (.ins T.C_Lot M.dx (loF { M with wk := wr, ms := sl })) := by rw [← e2]; exact upd_same
    have k2 : Kp [M.o] H H2 := by rw [← e2]; exact k1.own1
    have q2 := k2.at1 eq qo
    refine ⟨_, rfl, .inl ⟨q, _, rfl, .of q2, ?_⟩⟩
    (intro r n_r; generalize he_r : upd _ r _ = H3; obtain ⟨e_r, s_r, f_r⟩ := new_f he_r n_r; clear he_r)
    have o3 := s_r _ _ o2
    have k3 := k2.same s_r
    have nr : H r = none := k2.free (by simp [(ne_of_none o2 n_r).symm]) n_r
    refine ⟨_, rfl, M.o, _, _, _, rfl, o3, T.cl_Lot, T.na_Lot_revokes, by show 7 < 1000; decide, ?_⟩
    generalize e4 : upd _ M.o _ = H4
    have o4 : H4 M.o = some (.ins T.C_Lot M.dx (loF { M with wk := wr, ms := sl, r := r, rv := rv })) := by rw [← e4]; exact upd_same
    have k4 : Kp [M.o] H H4 := by rw [← e4]; exact k3.own1
    have r4 : H4 r = some (.tup (rv.map V.int)) := by rw [← e4, upd_ne (ne_of_none o2 n_r).symm]; exact e_r
    have kt : ∀ {x : Addr} {u : HO}, H x = some u → (∀ C dx fs, u ≠ .ins C dx fs) → H4 x = some u := fun {x u} e n => k4.at1 e fun z => by rw [z, L.ob] at e; exact n _ _ _ (Option.some.inj e).symm
    exact k H4 r k4 nr ⟨o4, kt L.co (by intro _ _ _ z; cases z), kt L.id (by intro _ _ _ z; cases z), r4, fun g hg => kt (L.ec g hg) (by intro _ _ _ z; cases z), fun g hg => kt (L.ed g hg) (by intro _ _ _ z; cases z), L.cd⟩
def sp_used_slots (CL : Addr) : Sp := fun vs H Q _ => ∃ (M : LoM), vs = [.ref M.o] ∧ LoAt CL H M ∧ M.C.length < 60 ∧
  ∀ (H' : Hp) (p : Addr) (ns : List Int), Same H H' → H p = none → ns.Pairwise (· < ·) → (∀ k, k ∈ ns ↔ k ∈ (M.C.map (fun g => g.2.2.1) ++ [M.ms]).filter fun k => !decide (k = -1)) → H' p = some (.lst (ns.map V.int)) → Q (.ref p) H'
theorem ok_used_slots (T : Tx K mg) : FnOk P w0_ K mg base CX0 1 T.f_Lot_used_slots T.fd_Lot_used_slots ["self"] (sp_used_slots T.C_Lot) := by
  refine T.F_Lot_used_slots.ok sc_Lot_used_slots (fun vs H Q E h => ?_) (fun cdv A0 outer s H vs Q E hr h => ?_)
  · obtain ⟨_, rfl, _⟩ := h; rfl
  · obtain ⟨M, rfl, L, hl, k⟩ := h
    refine ⟨_, (pss_cons (ps_set (i := 1) sc_Lot_used_slots.nd rfl (.inl rfl) (pe_op op_cat (pe_lock (pe_lc rfl (own := [("slot", 2), ("_", 3)]) (g := _) (tt := tYes) sc_Lot_used_slots.nd (pi_values (pe_fld (pv 0) rfl)) (blkOk_by (N := ["self", "slots", "slot", "_"]) (sc := defScope s_Lot_used_slots) (by decide +kernel)) (fun _ _ _ _ _ => (pg_tupK (K := K) (n := 2) rfl (pgs_cons (pg_name (i := 2) sc_Lot_used_slots.nd rfl (.inl rfl)) (pgs_cons (pg_name (i := 3) sc_Lot_used_slots.nd rfl (.inl rfl)) pgs_nil)))) (fun _ _ _ _ _ => pts_nil) (fun _ _ _ _ _ => (pv 2)))) (pe_lst (pa_cons (pe_fld (pv 0) rfl) pa_nil))))
      (pss_one (ps_ret (pe_callB (cr_sortedSet rfl) rfl T.b_sorted (by decide +kernel) (pa_cons (pe_scI rfl (own := [("slot", 2)]) (g := gName 2) (tt := _) sc_Lot_used_slots.nd (pi_list (pv 1)) (blkOk_by (N := ["self", "slots", "slot", "_"]) (sc := defScope s_Lot_used_slots) (by decide +kernel)) (fun _ _ _ _ _ => pg_name (i := 2) sc_Lot_used_slots.nd rfl (Or.inl rfl)) (fun _ _ _ _ _ => pts_one (pt_cmpR op_ne (pv 2) (pe_gc T.c_NO_SLOT) (nomark _))) (fun _ _ _ _ _ => pv 2)) pa_nil))))), ?_⟩
    have cL := T.cl_Lot
    have nc := T.na_Lot_copies
    refine ⟨M.c, _, L.co, trivial, fun od => ?_⟩
    have lo : upd H M.c (.frz od (.dK (idsK M.C))) M.o = some (.ins T.C_Lot M.dx (loF M)) := by
      rw [upd_ne (ne_of L.ob L.co (by intro z; cases z))]
      exact L.ob
    have lk : upd H M.c (.frz od (.dK (idsK M.C))) M.c = some (.frz od (.dK (idsK M.C))) := upd_same
    have oth : ∀ {x : Addr} {u : HO}, H x = some u → x ≠ M.c → upd H M.c (.frz od (.dK (idsK M.C))) x = some u := fun e n => by rw [upd_ne n]; exact e
    have fr : ∀ {x : Addr}, upd H M.c (.frz od (.dK (idsK M.C))) x = none → H x = none := fun {x} e => by
      by_cases z : x = M.c
      · rw [z, upd_same] at e; cases e
      · rw [upd_ne z] at e; exact e
    generalize upd H M.c (.frz od (.dK (idsK M.C))) = H1 at lo lk oth fr ⊢
    refine ⟨_, rfl, M.o, _, _, _, _, rfl, lo, cL, nc, rfl, M.c, od, _, rfl, lk, fun D hD => ?_⟩
    refine lc_vals (d := M.c) (od := od) (kvs := idsK M.C) (PvG (fun g : Ent => V.int g.2.2.1) H1 D M.C (fun _ => true)) (PvG.start hD) (fun j H' _ Pv => Pv.1 _ _ lk) ?_ ?_
    · rintro j kx y H' hj Pv
      have hj : (M.C.map fun g => ((Sum.inl g.1 : Key), V.ref g.2.1))[j]? = some (kx, y) := hj
      rw [List.getElem?_map] at hj
      obtain ⟨g, hx, eg⟩ := Option.map_eq_some_iff.mp hj
      cases eg
      have et := L.ec g (List.mem_of_getElem? hx)
      have et' := Pv.1 _ _ (oth et (ne_of et L.co (by intro z; cases z)))
      refine ⟨g.2.1, _, rfl, .of et', rfl, _, _, rfl, _, _, rfl, rfl, rfl, yes_ ⟨_, rfl, ?_⟩⟩
      exact Pv.yes hD (Same.refl _) hx (by omega) rfl
    intro H2 Pv
    obtain ⟨s2, e2⟩ := Pv.all (by rw [idsK_len])
    rw [List.filter_eq_self.mpr (by simp)] at e2
    refine ⟨s2 _ _ lk, ?_⟩
    have nDc : D ≠ M.c := (ne_of_none lk hD).symm
    have S3 : Same H (upd H2 M.c (.dK (idsK M.C))) := fun x u e => by
      by_cases z : x = M.c
      · rw [z, L.co] at e
        rw [z, upd_same]
        exact e
      · rw [upd_ne z]
        exact s2 _ _ (oth e z)
    have e3 : upd H2 M.c (.dK (idsK M.C)) D = some (.lst (M.C.map fun g => V.int g.2.2.1)) := by rw [upd_ne nDc]; exact e2
    generalize upd H2 M.c (.dK (idsK M.C)) = H3 at S3 e3 ⊢
    have L3 := L.same S3
    refine ⟨_, rfl, M.o, _, _, _, _, rfl, L3.ob, cL, T.na_Lot_mark_slot, rfl, by show 1 ≤ sizeLine; decide, ?_⟩
    (intro q n_q; generalize he_q : upd _ q _ = H4; obtain ⟨e_q, s_q, f_q⟩ := new_f he_q n_q; clear he_q)
    refine ⟨D, q, _, _, rfl, rfl, s_q _ _ e3, e_q, by rw [List.length_map]; exact Nat.le_of_lt (lt_line (by show M.C.length + 1 ≤ 10000; omega)), ?_⟩
    (intro r n_r; generalize he_r : upd _ r _ = H5; obtain ⟨e_r, s_r, f_r⟩ := new_f he_r n_r; clear he_r)
    have er : H5 r = some (.lst ((M.C.map (fun g => g.2.2.1) ++ [M.ms]).map V.int)) := by
      rw [e_r, List.map_append, List.map_map]
      rfl
    have S5 := (S3.trans s_q).trans s_r
    ((try dsimp only); (first | (refine Rg.sg (σ' := [some (.ref M.o), some (.ref r), none, none]) ?_ ?_; focus exact rfl) | (refine Rg.sgG (σ' := [some (.ref M.o), some (.ref r), none, none]) ?_ ?_; focus exact rfl)))
    refine ⟨_, rfl, r, rfl, ⟨_, .of er⟩, fun Z hZ => ?_⟩
    have hlen : (M.C.map (fun g => g.2.2.1) ++ [M.ms]).length < 62 := by rw [List.length_append, List.length_map]; show M.C.length + 1 < 62; omega
    refine sc_listI (K := K) (a := r) (xs := (M.C.map (fun g => g.2.2.1) ++ [M.ms]).map V.int) (PvZ w0_ H5 Z (M.C.map (fun g => g.2.2.1) ++ [M.ms]) fun k => !decide (k = -1)) (PvZ.start hZ) (fun j H' _ Pv => .of (Pv.1 _ _ er)) ?_ ?_
    · rintro j y H' hj Pv
      rw [List.getElem?_map] at hj
      obtain ⟨x, hx, rfl⟩ := Option.map_eq_some_iff.mp hj
      refine ⟨rfl, _, rfl, rfl, _, rfl, ?_⟩
      refine wNe (fun e => ?_) fun e => ?_
      · exact ⟨_, rfl, Pv.yes hZ hx (by omega) (by rw [decide_eq_false e]; rfl)⟩
      · exact Pv.no hx (by rw [decide_eq_true e]; rfl)
    intro H6 Pv
    rw [List.length_map] at Pv
    obtain ⟨s6, S, n, eZ, hS, hn⟩ := Pv
    rw [List.take_length] at hS
    refine ⟨Z, S, n, rfl, eZ, by omega, fun ns p hp hm hl' np => ?_⟩
    have S6 := S5.trans s6
    refine k _ p ns (S6.trans (same_upd np)) (S6.free np) hp (fun y => ?_) upd_same
    rw [hm y, hS y]
end
end K39
namespace K39
open PySem PySem.Spec PyProof.Rows L2 Rg
section
variable {P : Program} {w0_ : World} {K : PySem.W.Frag} {mg : Str → Option Value} {base : Heap}
/-- the call live_lot(window, x, lapse=g) -/
theorem kb_live_lot (T : Tx K mg) : KBn K T.fd_live_lot ["window", "x", "lapse"] 2 ["lapse"] (fun us ws => us ++ ws) (fun us ws => us ++ ws) := by
  obtain ⟨oc, od, kV, doc, pm, an, cdv, ct, osl, e, lk, hcd⟩ := T.F_live_lot.ex
  refine ⟨fun s us ws _ l1 l2 => ?_, fun r1 r2 => r1.append r2⟩
  rw [e]
  match us, ws, l1, l2 with
  | [_, _], [_], _, _ => exact .of_eq rfl
def sp_live_lot (CL : Addr) : Sp := fun vs H Q _ => ∃ (w : Addr) (x : Int) (g : Bool) (Ms : List LoM), vs = [.ref w, .int x, .bl g] ∧ H w = some (.lst (Ms.map fun M => .ref M.o)) ∧ (∀ M ∈ Ms, LoAt CL H M) ∧ Q (.int (liveN g x Ms)) H
theorem ok_live_lot (T : Tx K mg) : FnOk P w0_ K mg base CX0 1 T.f_live_lot T.fd_live_lot ["window", "x", "lapse"] (sp_live_lot T.C_Lot) := by
  refine T.F_live_lot.ok sc_live_lot (fun vs H Q E h => ?_) (fun cdv A0 outer s H vs Q E hr h => ?_)
  · obtain ⟨_, _, _, _, rfl, _⟩ := h; rfl
  · obtain ⟨w, x, g, Ms, rfl, ew, hL, k⟩ := h
    refine ⟨_, (pss_cons (ps_set (i := 3) sc_live_lot.nd rfl (.inl rfl) pe_int)
      (pss_cons (ps_for PassesOwn.never rfl (pi_list (pv 0)) (pg_name (i := 4) sc_live_lot.nd rfl (.inl rfl))
        (pss_cons (ps_set (i := 5) sc_live_lot.nd rfl (.inl rfl) (pe_cmpR op_in_seq (pv 1) (pe_fld (pv 4) rfl) rfl))
        (pss_cons (ps_if (pt_val (pv 5))
          (pss_one (ps_set (i := 3) sc_live_lot.nd rfl (.inl rfl) pe_int))
          pss_nil)
        (pss_one (ps_if (PW.pt (pw_and (pt_cmp (pc_din (hu_of hr) (pv 1) (pe_fld (pv 4) rfl)) rfl) (pw_and1 (PW.pt (pw_or (pt_val (pv 2)) (pw_or1 (pt_not (pt_val (pv 5)))))))))
          (pss_one (ps_set (i := 3) sc_live_lot.nd rfl (.inl rfl) (pe_fld (pv 4) rfl)))
          pss_nil)))))
      (pss_one (ps_ret (pv 3))))), ?_⟩
    have cL := T.cl_Lot
    have nc := T.na_Lot_copies
    have nr := T.na_Lot_revokes
    have nn := T.na_Lot_number
    refine ⟨_, rfl, w, rfl, ⟨_, .of ew⟩, for_list (K := K) (a := w) (xs := Ms.map fun M => .ref M.o) (fun i σ H2 => ∃ v4 v5 : Option V, σ = [some (.ref w), some (.int x), some (.bl g), some (.int ((Ms.take i).foldl (liveS g x) 0)), v4, v5] ∧ H2 = H) ⟨none, none, rfl, rfl⟩ (fun i σ H2 _ ⟨_, _, _, e⟩ => by rw [e]; exact .of ew) ?_ ?_⟩
    · rintro i y σ H2 hi ⟨v4, v5, rfl, rfl⟩
      rw [List.getElem?_map] at hi
      obtain ⟨M, hx, rfl⟩ := Option.map_eq_some_iff.mp hi
      have L := hL M (List.mem_of_getElem? hx)
      obtain ⟨lv, elv⟩ : ∃ lv, lv = (Ms.take i).foldl (liveS g x) 0 := ⟨_, rfl⟩
      have nxt : (Ms.take (i + 1)).foldl (liveS g x) 0 = liveS g x lv M := by
        rw [take_getG hx, List.foldl_append, ← elv]
        rfl
      rw [nxt, ← elv]
      have dg : DGet H2 M.c (.int x) (valV (idsK M.C) (Sum.inl x)) := DGet.k (k := Sum.inl x) L.co
      have ho := L.has x
      ((try dsimp only); (first | (refine Rg.sg (σ' := [some (.ref w), some (.int x), some (.bl g), some (.int lv), some (.ref M.o), v5]) ?_ ?_; focus exact rfl) | (refine Rg.sgG (σ' := [some (.ref w), some (.int x), some (.bl g), some (.int lv), some (.ref M.o), v5]) ?_ ?_; focus exact rfl)))
      refine ⟨_, rfl, _, rfl, M.o, _, _, _, _, rfl, L.ob, cL, nr, rfl, M.r, _, rfl, .inr (.of L.re), rfl, flat_ints _, ?_⟩
      rw [if_neg (by decide), inV_int]
      obtain ⟨b1, eb1⟩ : ∃ b1, b1 = decide (x ∈ M.rv) := ⟨_, rfl⟩
      obtain ⟨b2, eb2⟩ : ∃ b2, b2 = hasC x M := ⟨_, rfl⟩
      have eS : liveS g x lv M = if (b2 && (g || !b1)) = true then M.n else if b1 = true then 0 else lv := by unfold liveS; rw [← eb1, ← eb2]
      rw [← eb1, eS]
      rw [← eb2] at ho
      ((try dsimp only); (first | (refine Rg.sg (σ' := [some (.ref w), some (.int x), some (.bl g), some (.int lv), some (.ref M.o), some (.bl b1)]) ?_ ?_; focus exact rfl) | (refine Rg.sgG (σ' := [some (.ref w), some (.int x), some (.bl g), some (.int lv), some (.ref M.o), some (.bl b1)]) ?_ ?_; focus exact rfl)))
      cases b1 with
      | true =>
        refine ⟨_, rfl, _, rfl, iteT ?_⟩
        ((try dsimp only); (first | (refine Rg.sg (σ' := [some (.ref w), some (.int x), some (.bl g), some (.int 0), some (.ref M.o), some (.bl true)]) ?_ ?_; focus exact rfl) | (refine Rg.sgG (σ' := [some (.ref w), some (.int x), some (.bl g), some (.int 0), some (.ref M.o), some (.bl true)]) ?_ ?_; focus exact rfl)))
        refine ⟨_, rfl, _, rfl, M.o, _, _, _, _, rfl, L.ob, cL, nc, rfl, M.c, _, rfl, dg, _, rfl, ?_⟩
        rw [ho]
        cases b2 with
        | false => exact iteF ⟨_, _, rfl, rfl⟩
        | true =>
          refine iteT ?_
          have lo := L.ob
          cases g with
          | true =>
            (repeat ((fail_if_success (intro _)); first | (refine And.intro ?_ ?_; focus (first | rfl | assumption | exact .of (by assumption) | exact .inl (.of (by assumption)) | exact .inr (by assumption) | exact .inr (.of (by assumption)) | exact kit_ty (by decide +kernel) | exact .ty _ | exact tyT (by assumption) | exact .base (.int _) | (show _ ≤ sizeLine; first | decide | exact Nat.le_of_ble_eq_true rfl | (simp only [List.length_cons, List.length_nil]; decide)) | exact ⟨_, .of (by assumption)⟩ | exact ⟨_, by assumption⟩ | exact DGet.k (by assumption) | (with_reducible show (_ : Int) ≤ _; omega) | (with_reducible show (_ : Int) < _; omega) | (with_reducible show (_ : Nat) ≤ _; omega) | (with_reducible show (_ : Nat) < _; omega) | exact ⟨by decide, by decide⟩ | exact CMul_l (by decide) | exact CMul_r (by decide))) | ((fail_if_success (show ∃ W : Nat → Nat → L2.St → Hp → Prop, _)); apply Exists.intro) | (refine iteT ?_) | (refine iteF ?_) | (refine wT ?_ ?_; focus omega) | (refine wF ?_ ?_; focus omega) | (refine wTv ?_ ?_; focus omega) | (refine wFv ?_ ?_; focus omega) | (refine wNT ?_ ?_; focus omega) | (refine wNF ?_ ?_; focus omega)))
            rfl
          | false =>
            (repeat ((fail_if_success (intro _)); first | (refine And.intro ?_ ?_; focus (first | rfl | assumption | exact .of (by assumption) | exact .inl (.of (by assumption)) | exact .inr (by assumption) | exact .inr (.of (by assumption)) | exact kit_ty (by decide +kernel) | exact .ty _ | exact tyT (by assumption) | exact .base (.int _) | (show _ ≤ sizeLine; first | decide | exact Nat.le_of_ble_eq_true rfl | (simp only [List.length_cons, List.length_nil]; decide)) | exact ⟨_, .of (by assumption)⟩ | exact ⟨_, by assumption⟩ | exact DGet.k (by assumption) | (with_reducible show (_ : Int) ≤ _; omega) | (with_reducible show (_ : Int) < _; omega) | (with_reducible show (_ : Nat) ≤ _; omega) | (with_reducible show (_ : Nat) < _; omega) | exact ⟨by decide, by decide⟩ | exact CMul_l (by decide) | exact CMul_r (by decide))) | ((fail_if_success (show ∃ W : Nat → Nat → L2.St → Hp → Prop, _)); apply Exists.intro) | (refine iteT ?_) | (refine iteF ?_) | (refine wT ?_ ?_; focus omega) | (refine wF ?_ ?_; focus omega) | (refine wTv ?_ ?_; focus omega) | (refine wFv ?_ ?_; focus omega) | (refine wNT ?_ ?_; focus omega) | (refine wNF ?_ ?_; focus omega)))
            rfl
      | false =>
        refine ⟨_, rfl, _, rfl, iteF ?_⟩
        ((try dsimp only); (first | (refine Rg.sg (σ' := [some (.ref w), some (.int x), some (.bl g), some (.int lv), some (.ref M.o), some (.bl false)]) ?_ ?_; focus exact rfl) | (refine Rg.sgG (σ' := [some (.ref w), some (.int x), some (.bl g), some (.int lv), some (.ref M.o), some (.bl false)]) ?_ ?_; focus exact rfl)))
        refine ⟨_, rfl, _, rfl, M.o, _, _, _, _, rfl, L.ob, cL, nc, rfl, M.c, _, rfl, dg, _, rfl, ?_⟩
        rw [ho]
        cases b2 with
        | false => exact iteF ⟨_, _, rfl, rfl⟩
        | true =>
          refine iteT ?_
          have lo := L.ob
          cases g with
          | true =>
            (repeat ((fail_if_success (intro _)); first | (refine And.intro ?_ ?_; focus (first | rfl | assumption | exact .of (by assumption) | exact .inl (.of (by assumption)) | exact .inr (by assumption) | exact .inr (.of (by assumption)) | exact kit_ty (by decide +kernel) | exact .ty _ | exact tyT (by assumption) | exact .base (.int _) | (show _ ≤ sizeLine; first | decide | exact Nat.le_of_ble_eq_true rfl | (simp only [List.length_cons, List.length_nil]; decide)) | exact ⟨_, .of (by assumption)⟩ | exact ⟨_, by assumption⟩ | exact DGet.k (by assumption) | (with_reducible show (_ : Int) ≤ _; omega) | (with_reducible show (_ : Int) < _; omega) | (with_reducible show (_ : Nat) ≤ _; omega) | (with_reducible show (_ : Nat) < _; omega) | exact ⟨by decide, by decide⟩ | exact CMul_l (by decide) | exact CMul_r (by decide))) | ((fail_if_success (show ∃ W : Nat → Nat → L2.St → Hp → Prop, _)); apply Exists.intro) | (refine iteT ?_) | (refine iteF ?_) | (refine wT ?_ ?_; focus omega) | (refine wF ?_ ?_; focus omega) | (refine wTv ?_ ?_; focus omega) | (refine wFv ?_ ?_; focus omega) | (refine wNT ?_ ?_; focus omega) | (refine wNF ?_ ?_; focus omega)))
            rfl
          | false =>
            (repeat ((fail_if_success (intro _)); first | (refine And.intro ?_ ?_; focus (first | rfl | assumption | exact .of (by assumption) | exact .inl (.of (by assumption)) | exact .inr (by assumption) | exact .inr (.of (by assumption)) | exact kit_ty (by decide +kernel) | exact .ty _ | exact tyT (by assumption) | exact .base (.int _) | (show _ ≤ sizeLine; first | decide | exact Nat.le_of_ble_eq_true rfl | (simp only [List.length_cons, List.length_nil]; decide)) | exact ⟨_, .of (by assumption)⟩ | exact ⟨_, by assumption⟩ | exact DGet.k (by assumption) | (with_reducible show (_ : Int) ≤ _; omega) | (with_reducible show (_ : Int) < _; omega) | (with_reducible show (_ : Nat) ≤ _; omega) | (with_reducible show (_ : Nat) < _; omega) | exact ⟨by decide, by decide⟩ | exact CMul_l (by decide) | exact CMul_r (by decide))) | ((fail_if_success (show ∃ W : Nat → Nat → L2.St → Hp → Prop, _)); apply Exists.intro) | (refine iteT ?_) | (refine iteF ?_) | (refine wT ?_ ?_; focus omega) | (refine wF ?_ ?_; focus omega) | (refine wTv ?_ ?_; focus omega) | (refine wFv ?_ ?_; focus omega) | (refine wNT ?_ ?_; focus omega) | (refine wNF ?_ ?_; focus omega)))
            rfl
    · rintro σ H2 ⟨v4, v5, rfl, rfl⟩
      rw [List.length_map, List.take_length]
      exact ⟨_, rfl, k⟩
end
end K39
namespace K39
open PySem PySem.Spec PyProof.Rows L2 Rg
abbrev Im := Addr × IA × IV
def optV (o : Option Im) : V := match o with
  | none => .non
  | some c => .ref c.1
def heldO (x : Int) (o : Option Im) : Bool := match o with
  | none => false
  | some c => !decide (kindOf 24 5 c.2.2.M x = 0)
/-- the blocks that a deed of files may not take -/
def reuB (B : List Str) (a b : Option Im) (x : Int) : Bool := decide (("reuse" : Str) ∈ B) && (heldO x a || heldO x b)
def sheB (B : List Str) (Ms : List LoM) (x : Int) : Bool := decide (("shelve" : Str) ∈ B) && !decide (liveN (decide (("lapse" : Str) ∈ B)) x Ms = 0)
def barB (B : List Str) (a b : Option Im) (Ms : List LoM) (x : Int) : Bool := reuB B a b x || sheB B Ms x
theorem filt_if {c : Bool} {l : List Int} {p : Int → Bool} : (l.filter fun x => c && p x) = if c = true then l.filter p else [] := by
  cases c with
  | true => simp
  | false => simp
section
variable {P : Program} {w0_ : World} {K : PySem.W.Frag} {mg : Str → Option Value} {base : Heap}
def sp_barred (CB CI CP CL : Addr) : Sp := fun vs H Q _ => ∃ (bk w : Addr) (B : List Str) (a : Im) (b : Option Im) (Ms : List LoM) (s : Int), vs = [.ref bk, .ref a.1, optV b, .ref w] ∧ BookAt CB H bk B ∧ (∀ c : Im, c = a ∨ b = some c → ImgAt CI CP H c.1 c.2.1 c.2.2 24 5 s) ∧ H w = some (.lst (Ms.map fun M => .ref M.o)) ∧ (∀ M ∈ Ms, LoAt CL H M) ∧
  ∀ (H' : Hp) (p : Addr), Same H H' → H p = none → H' p = some (.lst (((rng 10 14).filter (barB B (some a) b Ms)).map V.int)) → Q (.ref p) H'
theorem ok_barred (T : Tx K mg) : FnOk P w0_ K mg base CX0 4 T.f_barred_blocks T.fd_barred_blocks ["book", "committed", "closing", "window"] (sp_barred T.C_Book T.C_Image T.C_Plan T.C_Lot) := by
  refine T.F_barred_blocks.ok sc_barred_blocks (fun vs H Q E h => ?_) (fun cdv A0 outer s H vs Q E hr h => ?_)
  · obtain ⟨_, _, _, _, _, _, _, rfl, _⟩ := h; rfl
  · obtain ⟨bk, w, B, a, b, Ms, sl, rfl, hB, hI, ew, hL, k⟩ := h
    have hr1 := hr.mono (show 1 ≤ 3 by decide)
    refine ⟨_, (pss_cons (ps_set (i := 4) sc_barred_blocks.nd rfl (.inl rfl) (pe_meth0 (pe_fld (pv 1) rfl) T.cl_Plan T.m_Plan_data_blocks (ok_data_blocks T) hr1 (b_Plan_data_blocks T) .nil pass0))
      (pss_cons (ps_set (i := 5) sc_barred_blocks.nd rfl (.inl rfl) (pe_lst pa_nil))
      (Evl.pss_cut (ps_if (pt_cmpR (op_inOwn T.bm_contains (ok_contains T) hr1 (b_RuleSet___contains__ T)) pe_str (pv 0) rfl)
        (pss_one (ps_setLc (i := 5) (own := [("x", 6)]) (g := gName 6) (tt := _) rfl sc_barred_blocks.nd rfl rfl (sw_true rfl rfl rfl (by decide +kernel)) (pi_list (pv 4)) (blkOk_by (N := ["book", "committed", "closing", "window", "blocks", "barred", "x", "lapse"]) (sc := defScope s_barred_blocks) (by decide +kernel)) (fun _ _ _ _ _ => pg_name (i := 6) sc_barred_blocks.nd rfl (Or.inl rfl)) (fun _ _ _ _ _ => pts_one (PW.pt (pw_or (pt_val (pe_call (ok_is_held T) hr rfl T.mg_is_held T.F_is_held.kp (b_is_held T) .nil pass0 (pa_cons (pv 1) (pa_cons (pv 6) pa_nil)))) (pw_or1 (pt_val (pe_call (ok_is_held T) hr rfl T.mg_is_held T.F_is_held.kp (b_is_held T) .nil pass0 (pa_cons (pv 2) (pa_cons (pv 6) pa_nil)))))))) (fun _ _ _ _ _ => (pv 6))))
        pss_nil)
      (Evl.pss_cut (ps_if (pt_cmpR (op_inOwn T.bm_contains (ok_contains T) hr1 (b_RuleSet___contains__ T)) pe_str (pv 0) rfl)
        (pss_cons (ps_set (i := 7) sc_barred_blocks.nd rfl (.inr rfl) (pe_cmpR (op_inOwn T.bm_contains (ok_contains T) hr1 (b_RuleSet___contains__ T)) pe_str (pv 0) rfl))
        (pss_one (ps_set (i := 5) sc_barred_blocks.nd rfl (.inl rfl) (pe_op op_cat (pv 5) (pe_lc rfl (own := [("x", 6)]) (g := gName 6) (tt := _) sc_barred_blocks.nd (pi_list (pv 4)) (blkOk_by (N := ["book", "committed", "closing", "window", "blocks", "barred", "x", "lapse"]) (sc := defScope s_barred_blocks) (by decide +kernel)) (fun _ _ _ _ _ => pg_name (i := 6) sc_barred_blocks.nd rfl (Or.inl rfl)) (fun _ _ _ _ _ => pts_one (pt_truthK (K := K) (pe_callN (ok_live_lot T) hr1 rfl T.mg_live_lot T.F_live_lot.kp (kb_live_lot T) pass0 (pa_cons (pv 3) (pa_cons (pv 6) pa_nil)) (pk_cons (pv 7) pk_nil)) (fun _ => rfl))) (fun _ _ _ _ _ => (pv 6)))))))
        pss_nil)
      (pss_one (ps_ret (pe_callB (cr_sortedSet rfl) rfl T.b_sorted (by decide +kernel) (pa_cons (pe_callTy (call_setLI rfl) rfl T.b_set (by decide +kernel) (pa_cons (pv 5) pa_nil)) pa_nil))))))))  , ?_⟩
    have Ia := hI a (.inl rfl)
    refine ⟨_, rfl, a.1, _, _, _, _, rfl, Ia.ob, T.cl_Image, T.na_Image_plan, rfl, ?_⟩
    obtain ⟨dxp, hpl⟩ := Ia.pl.ob
    refine ⟨a.2.1.pl, _, _, rfl, hpl, rfl, a.2.1.pl, 24, 5, sl, rfl, Ia.pl, ?_⟩
    (intro q n_q; generalize he_q : upd _ q _ = H1; obtain ⟨e_q, s_q, f_q⟩ := new_f he_q n_q; clear he_q)
    have e_q : H1 q = some (.lst ((rng 10 14).map V.int)) := e_q
    refine ⟨by show 0 ≤ sizeLine; decide, ?_⟩
    (intro D n_D; generalize he_D : upd _ D _ = H2; obtain ⟨e_D, s_D, f_D⟩ := new_f he_D n_D; clear he_D)
    have S2 := s_q.trans s_D
    have eq2 := s_D _ _ e_q
    have rl : (rng 10 14).length < 1000 := by rw [rng_len]; decide
    have rm : ∀ {j : Nat} {x : Int}, (rng 10 14)[j]? = some x → 0 ≤ x ∧ x < 24 := fun h => by have := rng_mem (List.mem_of_getElem? h); omega
    refine ⟨fun σ H' => ∃ p : Addr, σ = [some (.ref bk), some (.ref a.1), some (optV b), some (.ref w), some (.ref q), some (.ref p), none, none] ∧ Same H2 H' ∧ H' p = some (.lst (((rng 10 14).filter (reuB B (some a) b)).map V.int)), ?_, ?_⟩
    · have hB2 := hB.same S2
      obtain ⟨dxb, tn, ob, _⟩ := hB2.ob
      refine ⟨_, rfl, bk, dxb, _, rfl, ob, bk, B, "reuse", rfl, hB2, _, rfl, _, rfl, ?_⟩
      obtain ⟨c, ec⟩ : ∃ c, c = decide (("reuse" : Str) ∈ B) := ⟨_, rfl⟩
      rw [← ec]
      cases c with
      | false =>
        refine iteF ⟨D, rfl, Same.refl _, ?_⟩
        have e0 : (rng 10 14).filter (reuB B (some a) b) = [] := by
          unfold reuB
          rw [← ec]
          simp
        rw [e0]
        exact e_D
      | true =>
        refine iteT ?_
        ((try dsimp only); (first | (refine Rg.sg (σ' := [some (.ref bk), some (.ref a.1), some (optV b), some (.ref w), some (.ref q), some (.ref D), none, none]) ?_ ?_; focus exact rfl) | (refine Rg.sgG (σ' := [some (.ref bk), some (.ref a.1), some (optV b), some (.ref w), some (.ref q), some (.ref D), none, none]) ?_ ?_; focus exact rfl)))
        refine ⟨_, rfl, q, rfl, ⟨_, .of eq2⟩, fun p np => ?_⟩
        refine lc_list (K := K) (a := q) (xs := (rng 10 14).map V.int) (PvF H2 p (rng 10 14) fun x => heldO x (some a) || heldO x b) (PvF.start np) (fun j H' _ Pv => Pv.1.seq (.of eq2)) ?_ ?_
        · rintro j y H' hj Pv
          rw [List.getElem?_map] at hj
          obtain ⟨x, hx, rfl⟩ := Option.map_eq_some_iff.mp hj
          obtain ⟨x0, x24⟩ := rm hx
          have S' := S2.trans Pv.1
          refine ⟨rfl, _, rfl, _, rfl, x, x0, x24, .inr ⟨a.1, a.2.1, a.2.2, sl, rfl, Ia.keep S', fun H3 S3 => ⟨_, rfl, ?_⟩⟩⟩
          by_cases e1 : kindOf 24 5 a.2.2.M x = 0
          · have h1 : heldO x (some a) = false := by show (!decide (kindOf 24 5 a.2.2.M x = 0)) = false; rw [decide_eq_true e1]; rfl
            refine wFn e1 ⟨_, rfl, _, rfl, x, x0, x24, ?_⟩
            cases b with
            | none => exact .inl ⟨rfl, _, rfl, iteF (Pv.no S3 hx (by rw [h1]; rfl))⟩
            | some c =>
              refine .inr ⟨c.1, c.2.1, c.2.2, sl, rfl, (hI c (.inr rfl)).keep (S'.trans S3), fun H4 S4 => ⟨_, rfl, ?_⟩⟩
              by_cases e2 : kindOf 24 5 c.2.2.M x = 0
              · exact wFn e2 (Pv.no (S3.trans S4) hx (by rw [h1]; show (false || !decide (kindOf 24 5 c.2.2.M x = 0)) = false; rw [decide_eq_true e2]; rfl))
              · exact wTn e2 ⟨_, rfl, Pv.yes np (S3.trans S4) hx rl (by rw [h1]; show (false || !decide (kindOf 24 5 c.2.2.M x = 0)) = true; rw [decide_eq_false e2]; rfl)⟩
          · have h1 : heldO x (some a) = true := by show (!decide (kindOf 24 5 a.2.2.M x = 0)) = true; rw [decide_eq_false e1]; rfl
            exact wTn e1 (iteT ⟨_, rfl, Pv.yes np S3 hx rl (by rw [h1]; rfl)⟩)
        intro H5 Pv
        obtain ⟨s5, e5⟩ := Pv.all (by rw [List.length_map])
        refine ⟨p, rfl, s5, ?_⟩
        have e0 : (rng 10 14).filter (reuB B (some a) b) = (rng 10 14).filter fun x => heldO x (some a) || heldO x b := by
          unfold reuB
          rw [← ec]
          simp
        rw [e0]
        exact e5
    rintro σ H3 ⟨p, rfl, S3, ep⟩
    have S03 := S2.trans S3
    have hB3 := hB.same S03
    have eq3 := S3 _ _ eq2
    obtain ⟨dxb, tn, ob, _⟩ := hB3.ob
    have r14 : (rng 10 14).length = 14 := rng_len
    refine ⟨fun σ H' => ∃ (p : Addr) (l : List Int) (v7 : Option V), σ = [some (.ref bk), some (.ref a.1), some (optV b), some (.ref w), some (.ref q), some (.ref p), none, v7] ∧ Same H3 H' ∧ H' p = some (.lst (l.map V.int)) ∧ l.length ≤ 28 ∧ ∀ k, k ∈ l ↔ k ∈ (rng 10 14).filter (barB B (some a) b Ms), ?_, ?_⟩
    · refine ⟨_, rfl, bk, dxb, _, rfl, ob, bk, B, "shelve", rfl, hB3, _, rfl, _, rfl, ?_⟩
      obtain ⟨c, ec⟩ : ∃ c, c = decide (("shelve" : Str) ∈ B) := ⟨_, rfl⟩
      rw [← ec]
      have l1 : ((rng 10 14).filter (reuB B (some a) b)).length ≤ 14 := Nat.le_trans (List.length_filter_le _ _) (by rw [r14]; exact Nat.le_refl _)
      cases c with
      | false =>
        refine iteF ⟨p, _, none, rfl, Same.refl _, ep, by omega, fun k => ?_⟩
        have e0 : barB B (some a) b Ms = reuB B (some a) b := by
          funext x
          unfold barB sheB
          rw [← ec]
          simp
        rw [e0]
      | true =>
        refine iteT ?_
        refine ⟨_, rfl, bk, dxb, _, rfl, ob, bk, B, "lapse", rfl, hB3, _, rfl, ?_⟩
        obtain ⟨g, eg⟩ : ∃ g, g = decide (("lapse" : Str) ∈ B) := ⟨_, rfl⟩
        rw [← eg]
        ((try dsimp only); (first | (refine Rg.sg (σ' := [some (.ref bk), some (.ref a.1), some (optV b), some (.ref w), some (.ref q), some (.ref p), none, some (.bl g)]) ?_ ?_; focus exact rfl) | (refine Rg.sgG (σ' := [some (.ref bk), some (.ref a.1), some (optV b), some (.ref w), some (.ref q), some (.ref p), none, some (.bl g)]) ?_ ?_; focus exact rfl)))
        refine ⟨_, rfl, _, rfl, q, rfl, ⟨_, .of eq3⟩, fun Z hZ => ?_⟩
        refine lc_list (K := K) (a := q) (xs := (rng 10 14).map V.int) (PvF H3 Z (rng 10 14) fun x => !decide (liveN g x Ms = 0)) (PvF.start hZ) (fun j H' _ Pv => Pv.1.seq (.of eq3)) ?_ ?_
        · rintro j y H' hj Pv
          rw [List.getElem?_map] at hj
          obtain ⟨x, hx, rfl⟩ := Option.map_eq_some_iff.mp hj
          have S' := S03.trans Pv.1
          refine ⟨rfl, _, rfl, _, rfl, _, rfl, rfl, rfl, w, x, g, Ms, rfl, S' _ _ ew, fun M hM => (hL M hM).same S', ?_⟩
          refine ⟨_, rfl, ?_⟩
          have eb : (liveN g x Ms != 0) = !decide (liveN g x Ms = 0) := rfl
          have z : (rng 10 14).length < 1000 := rl
          by_cases e : liveN g x Ms = 0
          · exact wFb (b := liveN g x Ms != 0) (by rw [eb, decide_eq_true e]; rfl) (Pv.no (Same.refl _) hx (by rw [decide_eq_true e]; rfl))
          · exact wTb (b := liveN g x Ms != 0) (by rw [eb, decide_eq_false e]; rfl) ⟨_, rfl, Pv.yes hZ (Same.refl _) hx rl (by rw [decide_eq_false e]; rfl)⟩
        intro H5 Pv
        obtain ⟨s5, e5⟩ := Pv.all (by rw [List.length_map])
        refine ⟨p, Z, _, _, rfl, rfl, s5 _ _ ep, e5, ?_, ?_⟩
        · have l2 : ((rng 10 14).filter fun x => !decide (liveN g x Ms = 0)).length ≤ 14 := Nat.le_trans (List.length_filter_le _ _) (by rw [r14]; exact Nat.le_refl _)
          rw [List.length_map, List.length_map]
          exact Nat.le_of_lt (lt_line (by omega))
        (intro y n_y; generalize he_y : upd _ y _ = H6; obtain ⟨e_y, s_y, f_y⟩ := new_f he_y n_y; clear he_y)
        rw [← List.map_append] at e_y
        refine ⟨y, _, _, rfl, s5.trans s_y, e_y, ?_, fun k => ?_⟩
        · have l2 : ((rng 10 14).filter fun x => !decide (liveN g x Ms = 0)).length ≤ 14 := Nat.le_trans (List.length_filter_le _ _) (by rw [r14]; exact Nat.le_refl _)
          rw [List.length_append]
          omega
        · rw [List.mem_append, List.mem_filter, List.mem_filter, List.mem_filter]
          unfold barB sheB
          rw [← ec, ← eg, Bool.or_eq_true, Bool.true_and]
          constructor
          · rintro (⟨z1, z2⟩ | ⟨z1, z2⟩)
            · exact ⟨z1, .inl z2⟩
            · exact ⟨z1, .inr z2⟩
          · rintro ⟨z1, z2 | z2⟩
            · exact .inl ⟨z1, z2⟩
            · exact .inr ⟨z1, z2⟩
    rintro σ H4 ⟨y, l, v7, rfl, S4, ey, hl, hmem⟩
    have S04 := S03.trans S4
    refine ⟨_, rfl, y, l, rfl, .of ey, by unfold scanBound; omega, fun Z c nZ hc => ?_⟩
    refine ⟨Z, _, c, rfl, upd_same, by omega, fun ns r hp hm hlen nr => ?_⟩
    have sZ : Same H4 (upd H4 Z (SetO w0_ Z (fun j => decide (j ∈ l)) c)) := same_upd nZ
    have ens : ns = (rng 10 14).filter (barB B (some a) b Ms) := by
      refine asc_ext hp ?_ fun k => ?_
      · exact List.Pairwise.filter _ (by decide +kernel : (rng 10 14).Pairwise (· < ·))
      · rw [hm k, ← hmem k]
        exact decide_eq_true_iff
    rw [ens]
    exact k _ r ((S04.trans sZ).trans (same_upd nr)) ((S04.trans sZ).free nr) upd_same
end
end K39
namespace K39
open PySem PySem.Spec PyProof.Rows L2 Rg
/-- what the law tells of a lot -/
structure ToM where
  (t cpA rvA slA : Addr) (M : LoM) (cp sl : List Int) (fs : Int) (md : Bool)
structure ToAt (CL : Addr) (H : Hp) (T : ToM) : Prop where
  l : H T.t = some (.lst [.ref T.M.o, .int T.M.n, .ref T.cpA, .ref T.rvA, .ref T.slA, .int T.fs, .bl T.md])
  c : H T.cpA = some (.lst (T.cp.map V.int))
  r : H T.rvA = some (.lst (T.M.rv.map V.int))
  s : H T.slA = some (.lst (T.sl.map V.int))
  a : LoAt CL H T.M
  k : ∀ x : Int, hasC x T.M = decide (x ∈ T.cp)
theorem liveN_snoc (g : Bool) (x : Int) (l : List LoM) (M : LoM) : liveN g x (l ++ [M]) = liveS g x (liveN g x l) M := by
  unfold liveN
  rw [List.foldl_append]
  rfl
section
variable {P : Program} {w0_ : World} {K : PySem.W.Frag} {mg : Str → Option Value} {base : Heap}
def sp_Llive (CL : Addr) : Sp := fun vs H Q _ => ∃ (l : Addr) (x : Int) (g : Bool) (Ts : List ToM), vs = [.ref l, .int x, .bl g] ∧ H l = some (.lst (Ts.map fun T => .ref T.t)) ∧ (∀ T ∈ Ts, ToAt CL H T) ∧ Ts.length < 100 ∧ Q (.int (liveN g x (Ts.map fun T => T.M))) H
theorem ok_Llive (T : Tx K mg) : FnOk P w0_ K mg base CX0 1 T.f_Llive T.fd_Llive ["_law_lots", "_law_x", "_law_lapsing"] (sp_Llive T.C_Lot) := by
  refine T.F_Llive.ok sc_Llive (fun vs H Q E h => ?_) (fun cdv A0 outer s H vs Q E hr h => ?_)
  · obtain ⟨_, _, _, _, rfl, _⟩ := h; rfl
  · obtain ⟨l, x, g, Ts, rfl, el, hT, hlen, k⟩ := h
    refine ⟨_, (pss_cons (ps_for PassesOwn.never rfl (pi_range1 rfl T.b_range (pa_cons (pe_callB call_len_seq rfl T.b_len (by decide +kernel) (pa_cons (pv 0) pa_nil)) pa_nil)) (pg_name (i := 3) sc_Llive.nd rfl (.inl rfl))
        (pss_cons (ps_set (i := 4) sc_Llive.nd rfl (.inl rfl) (pe_ix ix_list (pv 0) (pe_op op_sub (pe_op op_sub (pe_callB call_len_seq rfl T.b_len (by decide +kernel) (pa_cons (pv 0) pa_nil)) pe_int) (pv 3)) (fun _ _ => rfl)))
        (pss_cons (ps_set (i := 5) sc_Llive.nd rfl (.inl rfl) (pe_and (pe_cmpR op_in_seq (pv 1) (pe_ix ix_list (pv 4) pe_int (fun _ _ => rfl)) rfl) (pe_one (pe_not (pv 2)))))
        (pss_cons (ps_if (PW.pt (pw_and (pt_cmpR op_in_seq (pv 1) (pe_ix ix_list (pv 4) pe_int (fun _ _ => rfl)) rfl) (pw_and1 (pt_not (pt_val (pv 5))))))
          (pss_one (ps_ret (pe_ix ix_list (pv 4) pe_int (fun _ _ => rfl))))
          pss_nil)
        (pss_one (ps_if (pt_cmpR op_in_seq (pv 1) (pe_ix ix_list (pv 4) pe_int (fun _ _ => rfl)) rfl)
          (pss_one (ps_ret pe_int))
          pss_nil))))))
      (pss_one (ps_ret pe_int))), ?_⟩
    refine ⟨_, rfl, l, _, rfl, .inl (.of el), _, rfl, by omega, by rw [List.length_map]; omega, ?_⟩
    rw [List.length_map]
    refine for_range (lo := 0) (n := (Ts.length : Int).toNat) (fun i σ H2 => ∃ v3 v4 v5 : Option V, σ = [some (.ref l), some (.int x), some (.bl g), v3, v4, v5] ∧ H2 = H ∧ liveN g x (Ts.map fun T => T.M) = liveN g x ((Ts.take (Ts.length - i)).map fun T => T.M)) ⟨none, none, none, rfl, rfl, by rw [Nat.sub_zero, List.take_length]⟩ ?_ ?_
    · rintro i σ H2 hi ⟨v3, v4, v5, rfl, rfl, al⟩
      have hi : i < Ts.length := by omega
      obtain ⟨j, ej⟩ : ∃ j, j = Ts.length - 1 - i := ⟨_, rfl⟩
      have hj : j < Ts.length := by omega
      obtain ⟨t, et⟩ : ∃ t, t = Ts[j] := ⟨_, rfl⟩
      have hx : Ts[j]? = some t := by rw [et]; exact List.getElem?_eq_getElem hj
      have A := hT t (List.mem_of_getElem? hx)
      have e1 : Ts.length - i = j + 1 := by omega
      have e2 : Ts.length - (i + 1) = j := by omega
      rw [e1, take_getG hx, List.map_append, show [t].map (fun T => T.M) = [t.M] from rfl, liveN_snoc] at al
      have al2 : liveN g x (Ts.map fun T => T.M) = if (decide (x ∈ t.cp) && (g || !decide (x ∈ t.M.rv))) = true then t.M.n else if decide (x ∈ t.M.rv) = true then 0 else liveN g x ((Ts.take j).map fun T => T.M) := by
        rw [al]
        unfold liveS
        rw [A.k x]
      obtain ⟨b1, eb1⟩ : ∃ b, b = decide (x ∈ t.cp) := ⟨_, rfl⟩
      obtain ⟨b2, eb2⟩ : ∃ b, b = decide (x ∈ t.M.rv) := ⟨_, rfl⟩
      rw [← eb1, ← eb2] at al2
      ((try dsimp only); (first | (refine Rg.sg (σ' := [some (.ref l), some (.int x), some (.bl g), some (.int (0 + (i : Int))), v4, v5]) ?_ ?_; focus exact rfl) | (refine Rg.sgG (σ' := [some (.ref l), some (.int x), some (.bl g), some (.int (0 + (i : Int))), v4, v5]) ?_ ?_; focus exact rfl)))
      refine ⟨_, rfl, _, rfl, l, _, rfl, .inl (.of el), _, _, rfl, rfl, _, rfl, _, _, rfl, rfl, l, _, _, _, rfl, rfl, .of el, at_of (j := j) (by rw [List.length_map]; omega) (by rw [List.getElem?_map, hx]; rfl), ?_⟩
      ((try dsimp only); (first | (refine Rg.sg (σ' := [some (.ref l), some (.int x), some (.bl g), some (.int (0 + (i : Int))), some (.ref t.t), v5]) ?_ ?_; focus exact rfl) | (refine Rg.sgG (σ' := [some (.ref l), some (.int x), some (.bl g), some (.int (0 + (i : Int))), some (.ref t.t), v5]) ?_ ?_; focus exact rfl)))
      refine ⟨_, rfl, _, rfl, t.t, _, _, _, rfl, rfl, .of A.l, at_of (j := 3) rfl rfl, t.rvA, _, rfl, .inl (.of A.r), rfl, flat_ints _, ?_⟩
      rw [if_neg (by decide), inV_int, ← eb2]
      have al1 := A.l
      have i1 : atI [V.ref t.M.o, .int t.M.n, .ref t.cpA, .ref t.rvA, .ref t.slA, .int t.fs, .bl t.md] 1 = some (.int t.M.n) := at_of (j := 1) rfl rfl
      have v1 : inV (.int x) (t.cp.map V.int) = b1 := by rw [inV_int, eb1]
      have v2 : inV (.int x) (t.M.rv.map V.int) = b2 := by rw [inV_int, eb2]
      clear eb1 eb2
      cases b2 with
      | true =>
        cases g with
        | true =>
          refine ⟨_, rfl, iteT ?_⟩
          refine ⟨_, rfl, _, rfl, ?_⟩
          ((try dsimp only); (first | (refine Rg.sg (σ' := [some (.ref l), some (.int x), some (.bl true), some (.int (0 + (i : Int))), some (.ref t.t), some (.bl false)]) ?_ ?_; focus exact rfl) | (refine Rg.sgG (σ' := [some (.ref l), some (.int x), some (.bl true), some (.int (0 + (i : Int))), some (.ref t.t), some (.bl false)]) ?_ ?_; focus exact rfl)))
          refine ⟨_, rfl, _, rfl, t.t, _, _, _, rfl, rfl, .of A.l, at_of (j := 2) rfl rfl, t.cpA, _, rfl, .inl (.of A.c), rfl, flat_ints _, _, rfl, ?_⟩
          cases b1 with
          | true =>
            refine wTb (b := inV (.int x) (t.cp.map V.int)) v1 ?_
            refine ⟨_, rfl, _, rfl, iteT ?_⟩
            (repeat ((fail_if_success (intro _)); first | (refine And.intro ?_ ?_; focus (first | rfl | assumption | exact .of (by assumption) | exact .inl (.of (by assumption)) | exact .inr (by assumption) | exact .inr (.of (by assumption)) | exact kit_ty (by decide +kernel) | exact .ty _ | exact tyT (by assumption) | exact .base (.int _) | (show _ ≤ sizeLine; first | decide | exact Nat.le_of_ble_eq_true rfl | (simp only [List.length_cons, List.length_nil]; decide)) | exact ⟨_, .of (by assumption)⟩ | exact ⟨_, by assumption⟩ | exact DGet.k (by assumption) | (with_reducible show (_ : Int) ≤ _; omega) | (with_reducible show (_ : Int) < _; omega) | (with_reducible show (_ : Nat) ≤ _; omega) | (with_reducible show (_ : Nat) < _; omega) | exact ⟨by decide, by decide⟩ | exact CMul_l (by decide) | exact CMul_r (by decide))) | ((fail_if_success (show ∃ W : Nat → Nat → L2.St → Hp → Prop, _)); apply Exists.intro) | (refine iteT ?_) | (refine iteF ?_) | (refine wT ?_ ?_; focus omega) | (refine wF ?_ ?_; focus omega) | (refine wTv ?_ ?_; focus omega) | (refine wFv ?_ ?_; focus omega) | (refine wNT ?_ ?_; focus omega) | (refine wNF ?_ ?_; focus omega)))
            rw [al2] at k
            exact k
          | false =>
            refine wFb (b := inV (.int x) (t.cp.map V.int)) v1 (iteF ?_)
            refine ⟨_, rfl, _, rfl, t.t, _, _, _, rfl, rfl, .of A.l, at_of (j := 3) rfl rfl, t.rvA, _, rfl, .inl (.of A.r), rfl, flat_ints _, _, rfl, ?_⟩
            refine wTb (b := inV (.int x) (t.M.rv.map V.int)) v2 ?_
            rw [al2] at k
            exact k
        | false =>
          refine ⟨_, rfl, iteT ?_⟩
          refine ⟨_, rfl, _, rfl, ?_⟩
          ((try dsimp only); (first | (refine Rg.sg (σ' := [some (.ref l), some (.int x), some (.bl false), some (.int (0 + (i : Int))), some (.ref t.t), some (.bl true)]) ?_ ?_; focus exact rfl) | (refine Rg.sgG (σ' := [some (.ref l), some (.int x), some (.bl false), some (.int (0 + (i : Int))), some (.ref t.t), some (.bl true)]) ?_ ?_; focus exact rfl)))
          refine ⟨_, rfl, _, rfl, t.t, _, _, _, rfl, rfl, .of A.l, at_of (j := 2) rfl rfl, t.cpA, _, rfl, .inl (.of A.c), rfl, flat_ints _, _, rfl, ?_⟩
          cases b1 with
          | true =>
            refine wTb (b := inV (.int x) (t.cp.map V.int)) v1 ?_
            refine ⟨_, rfl, _, rfl, iteF ?_⟩
            refine ⟨_, rfl, _, rfl, t.t, _, _, _, rfl, rfl, .of A.l, at_of (j := 3) rfl rfl, t.rvA, _, rfl, .inl (.of A.r), rfl, flat_ints _, _, rfl, ?_⟩
            refine wTb (b := inV (.int x) (t.M.rv.map V.int)) v2 ?_
            rw [al2] at k
            exact k
          | false =>
            refine wFb (b := inV (.int x) (t.cp.map V.int)) v1 (iteF ?_)
            refine ⟨_, rfl, _, rfl, t.t, _, _, _, rfl, rfl, .of A.l, at_of (j := 3) rfl rfl, t.rvA, _, rfl, .inl (.of A.r), rfl, flat_ints _, _, rfl, ?_⟩
            refine wTb (b := inV (.int x) (t.M.rv.map V.int)) v2 ?_
            rw [al2] at k
            exact k
      | false =>
        cases g with
        | true =>
          refine ⟨_, rfl, iteF ?_⟩
          ((try dsimp only); (first | (refine Rg.sg (σ' := [some (.ref l), some (.int x), some (.bl true), some (.int (0 + (i : Int))), some (.ref t.t), some (.bl false)]) ?_ ?_; focus exact rfl) | (refine Rg.sgG (σ' := [some (.ref l), some (.int x), some (.bl true), some (.int (0 + (i : Int))), some (.ref t.t), some (.bl false)]) ?_ ?_; focus exact rfl)))
          refine ⟨_, rfl, _, rfl, t.t, _, _, _, rfl, rfl, .of A.l, at_of (j := 2) rfl rfl, t.cpA, _, rfl, .inl (.of A.c), rfl, flat_ints _, _, rfl, ?_⟩
          cases b1 with
          | true =>
            refine wTb (b := inV (.int x) (t.cp.map V.int)) v1 ?_
            refine ⟨_, rfl, _, rfl, iteT ?_⟩
            (repeat ((fail_if_success (intro _)); first | (refine And.intro ?_ ?_; focus (first | rfl | assumption | exact .of (by assumption) | exact .inl (.of (by assumption)) | exact .inr (by assumption) | exact .inr (.of (by assumption)) | exact kit_ty (by decide +kernel) | exact .ty _ | exact tyT (by assumption) | exact .base (.int _) | (show _ ≤ sizeLine; first | decide | exact Nat.le_of_ble_eq_true rfl | (simp only [List.length_cons, List.length_nil]; decide)) | exact ⟨_, .of (by assumption)⟩ | exact ⟨_, by assumption⟩ | exact DGet.k (by assumption) | (with_reducible show (_ : Int) ≤ _; omega) | (with_reducible show (_ : Int) < _; omega) | (with_reducible show (_ : Nat) ≤ _; omega) | (with_reducible show (_ : Nat) < _; omega) | exact ⟨by decide, by decide⟩ | exact CMul_l (by decide) | exact CMul_r (by decide))) | ((fail_if_success (show ∃ W : Nat → Nat → L2.St → Hp → Prop, _)); apply Exists.intro) | (refine iteT ?_) | (refine iteF ?_) | (refine wT ?_ ?_; focus omega) | (refine wF ?_ ?_; focus omega) | (refine wTv ?_ ?_; focus omega) | (refine wFv ?_ ?_; focus omega) | (refine wNT ?_ ?_; focus omega) | (refine wNF ?_ ?_; focus omega)))
            rw [al2] at k
            exact k
          | false =>
            refine wFb (b := inV (.int x) (t.cp.map V.int)) v1 (iteF ?_)
            refine ⟨_, rfl, _, rfl, t.t, _, _, _, rfl, rfl, .of A.l, at_of (j := 3) rfl rfl, t.rvA, _, rfl, .inl (.of A.r), rfl, flat_ints _, _, rfl, ?_⟩
            refine wFb (b := inV (.int x) (t.M.rv.map V.int)) v2 ?_
            exact ⟨_, _, _, rfl, rfl, by rw [e2]; exact al2⟩
        | false =>
          refine ⟨_, rfl, iteF ?_⟩
          ((try dsimp only); (first | (refine Rg.sg (σ' := [some (.ref l), some (.int x), some (.bl false), some (.int (0 + (i : Int))), some (.ref t.t), some (.bl false)]) ?_ ?_; focus exact rfl) | (refine Rg.sgG (σ' := [some (.ref l), some (.int x), some (.bl false), some (.int (0 + (i : Int))), some (.ref t.t), some (.bl false)]) ?_ ?_; focus exact rfl)))
          refine ⟨_, rfl, _, rfl, t.t, _, _, _, rfl, rfl, .of A.l, at_of (j := 2) rfl rfl, t.cpA, _, rfl, .inl (.of A.c), rfl, flat_ints _, _, rfl, ?_⟩
          cases b1 with
          | true =>
            refine wTb (b := inV (.int x) (t.cp.map V.int)) v1 ?_
            refine ⟨_, rfl, _, rfl, iteT ?_⟩
            (repeat ((fail_if_success (intro _)); first | (refine And.intro ?_ ?_; focus (first | rfl | assumption | exact .of (by assumption) | exact .inl (.of (by assumption)) | exact .inr (by assumption) | exact .inr (.of (by assumption)) | exact kit_ty (by decide +kernel) | exact .ty _ | exact tyT (by assumption) | exact .base (.int _) | (show _ ≤ sizeLine; first | decide | exact Nat.le_of_ble_eq_true rfl | (simp only [List.length_cons, List.length_nil]; decide)) | exact ⟨_, .of (by assumption)⟩ | exact ⟨_, by assumption⟩ | exact DGet.k (by assumption) | (with_reducible show (_ : Int) ≤ _; omega) | (with_reducible show (_ : Int) < _; omega) | (with_reducible show (_ : Nat) ≤ _; omega) | (with_reducible show (_ : Nat) < _; omega) | exact ⟨by decide, by decide⟩ | exact CMul_l (by decide) | exact CMul_r (by decide))) | ((fail_if_success (show ∃ W : Nat → Nat → L2.St → Hp → Prop, _)); apply Exists.intro) | (refine iteT ?_) | (refine iteF ?_) | (refine wT ?_ ?_; focus omega) | (refine wF ?_ ?_; focus omega) | (refine wTv ?_ ?_; focus omega) | (refine wFv ?_ ?_; focus omega) | (refine wNT ?_ ?_; focus omega) | (refine wNF ?_ ?_; focus omega)))
            rw [al2] at k
            exact k
          | false =>
            refine wFb (b := inV (.int x) (t.cp.map V.int)) v1 (iteF ?_)
            refine ⟨_, rfl, _, rfl, t.t, _, _, _, rfl, rfl, .of A.l, at_of (j := 3) rfl rfl, t.rvA, _, rfl, .inl (.of A.r), rfl, flat_ints _, _, rfl, ?_⟩
            refine wFb (b := inV (.int x) (t.M.rv.map V.int)) v2 ?_
            exact ⟨_, _, _, rfl, rfl, by rw [e2]; exact al2⟩
    · rintro σ H2 ⟨v3, v4, v5, rfl, rfl, al⟩
      rw [show Ts.length - (Ts.length : Int).toNat = 0 by omega] at al
      rw [al] at k
      exact k
end
end K39
namespace K39
open PySem PySem.Spec PyProof.Rows L2 Rg
section
variable {P : Program} {w0_ : World} {K : PySem.W.Frag} {mg : Str → Option Value} {base : Heap}
def sp_Llive_good (CL : Addr) : Sp := fun vs H Q _ => ∃ (w l : Addr) (Ts : List ToM), vs = [.ref w, .ref l] ∧ H w = some (.lst ((Ts.map fun T => T.M).map fun M : LoM => .ref M.o)) ∧ H l = some (.lst (Ts.map fun T => .ref T.t)) ∧ (∀ T ∈ Ts, ToAt CL H T) ∧ Ts.length < 100 ∧ Q (.bl true) H
theorem ok_Llive_good (T : Tx K mg) : FnOk P w0_ K mg base CX0 2 T.f_Llive_good T.fd_Llive_good ["_law_window", "_law_lots"] (sp_Llive_good T.C_Lot) := by
  refine T.F_Llive_good.ok sc_Llive_good (fun vs H Q E h => ?_) (fun cdv A0 outer s H vs Q E hr h => ?_)
  · obtain ⟨_, _, _, rfl, _⟩ := h; rfl
  · obtain ⟨w, l, Ts, rfl, ew, el, hT, hlen, k⟩ := h
    refine ⟨_, (pss_cons (ps_for PassesOwn.never rfl (pi_range1 rfl T.b_range (pa_cons pe_int pa_nil)) (pg_name (i := 2) sc_Llive_good.nd rfl (.inl rfl))
        (pss_cons (ps_if (pt_not (pt_val (pe_call (ok_Linteger T) hr rfl T.mg_Linteger T.F_Linteger.kp (b_Linteger T) .nil pass0 (pa_cons (pe_callN (ok_live_lot T) hr rfl T.mg_live_lot T.F_live_lot.kp (kb_live_lot T) pass0 (pa_cons (pv 0) (pa_cons (pv 2) pa_nil)) (pk_cons pe_bl pk_nil)) (pa_cons (pe_call (ok_Llive T) hr rfl T.mg_Llive T.F_Llive.kp (b_Llive T) .nil pass0 (pa_cons (pv 1) (pa_cons (pv 2) (pa_cons pe_bl pa_nil)))) pa_nil)))))
          (pss_one (ps_ret pe_bl))
          pss_nil)
        (pss_one (ps_if (pt_not (pt_val (pe_call (ok_Linteger T) hr rfl T.mg_Linteger T.F_Linteger.kp (b_Linteger T) .nil pass0 (pa_cons (pe_callN (ok_live_lot T) hr rfl T.mg_live_lot T.F_live_lot.kp (kb_live_lot T) pass0 (pa_cons (pv 0) (pa_cons (pv 2) pa_nil)) (pk_cons pe_bl pk_nil)) (pa_cons (pe_call (ok_Llive T) hr rfl T.mg_Llive T.F_Llive.kp (b_Llive T) .nil pass0 (pa_cons (pv 1) (pa_cons (pv 2) (pa_cons pe_bl pa_nil)))) pa_nil)))))
          (pss_one (ps_ret pe_bl))
          pss_nil))))
      (pss_one (ps_ret pe_bl))), ?_⟩
    have hL : ∀ M ∈ Ts.map (fun T => T.M), LoAt T.C_Lot H M := fun M hM => by
      obtain ⟨t, ht, rfl⟩ := List.mem_map.mp hM
      exact (hT t ht).a
    refine ⟨24, rfl, by decide, by decide, ?_⟩
    refine for_range (lo := 0) (n := (24 : Int).toNat) (fun i σ H2 => ∃ v2 : Option V, σ = [some (.ref w), some (.ref l), v2] ∧ H2 = H) ⟨none, rfl, rfl⟩ ?_ ?_
    · rintro i σ H2 hi ⟨v2, rfl, rfl⟩
      ((try dsimp only); (first | (refine Rg.sg (σ' := [some (.ref w), some (.ref l), some (.int (0 + (i : Int)))]) ?_ ?_; focus exact rfl) | (refine Rg.sgG (σ' := [some (.ref w), some (.ref l), some (.int (0 + (i : Int)))]) ?_ ?_; focus exact rfl)))
      refine ⟨_, rfl, _, rfl, rfl, rfl, w, _, true, _, rfl, ew, hL, _, rfl, _, rfl, l, _, true, Ts, rfl, el, hT, hlen, _, _, rfl, _, rfl, wFn rfl ?_⟩
      refine ⟨_, rfl, _, rfl, rfl, rfl, w, _, false, _, rfl, ew, hL, _, rfl, _, rfl, l, _, false, Ts, rfl, el, hT, hlen, _, _, rfl, _, rfl, wFn rfl ?_⟩
      exact ⟨_, rfl, rfl⟩
    · rintro σ H2 ⟨v2, rfl, rfl⟩
      exact k
def hasB (n d : Int) : Bool := decide (n / d % 2 = 1)
def sp_has (d : Int) : Sp := fun vs H Q _ => ∃ n : Int, vs = [.int n] ∧ 0 ≤ n ∧ n < 4096 ∧ Q (.bl (hasB n d)) H
theorem ok_Lhas_reuse (T : Tx K mg) : FnOk P w0_ K mg base CX0 1 T.f_Lhas_reuse T.fd_Lhas_reuse ["_law_number"] (sp_has 8) := by
  refine T.F_Lhas_reuse.ok sc_Lhas_reuse (fun vs H Q E h => ?_) (fun cdv A0 outer s H vs Q E hr h => ?_)
  · obtain ⟨_, rfl, _⟩ := h; rfl
  · obtain ⟨n, rfl, n0, n1, k⟩ := h
    refine ⟨_, (pss_one (ps_ret (pe_cmpR op_eq (pe_op op_mod (pe_callTy call_int1 rfl T.b_int (by decide +kernel) (pa_cons (pe_op op_fdiv (pv 0) pe_int) pa_nil)) pe_int) pe_int (nomark _)))), ?_⟩
    refine ⟨_, rfl, _, _, rfl, rfl, ⟨by decide, by omega⟩, .inl ⟨_, rfl, _, _, rfl, rfl, (by show (0 : Int) < 2; decide), rfl, ?_⟩⟩
    rw [dec_iv]
    exact k
theorem ok_Lhas_lapse (T : Tx K mg) : FnOk P w0_ K mg base CX0 1 T.f_Lhas_lapse T.fd_Lhas_lapse ["_law_number"] (sp_has 64) := by
  refine T.F_Lhas_lapse.ok sc_Lhas_lapse (fun vs H Q E h => ?_) (fun cdv A0 outer s H vs Q E hr h => ?_)
  · obtain ⟨_, rfl, _⟩ := h; rfl
  · obtain ⟨n, rfl, n0, n1, k⟩ := h
    refine ⟨_, (pss_one (ps_ret (pe_cmpR op_eq (pe_op op_mod (pe_callTy call_int1 rfl T.b_int (by decide +kernel) (pa_cons (pe_op op_fdiv (pv 0) pe_int) pa_nil)) pe_int) pe_int (nomark _)))), ?_⟩
    refine ⟨_, rfl, _, _, rfl, rfl, ⟨by decide, by omega⟩, .inl ⟨_, rfl, _, _, rfl, rfl, (by show (0 : Int) < 2; decide), rfl, ?_⟩⟩
    rw [dec_iv]
    exact k
theorem ok_Lhas_shelve (T : Tx K mg) : FnOk P w0_ K mg base CX0 1 T.f_Lhas_shelve T.fd_Lhas_shelve ["_law_number"] (sp_has 128) := by
  refine T.F_Lhas_shelve.ok sc_Lhas_shelve (fun vs H Q E h => ?_) (fun cdv A0 outer s H vs Q E hr h => ?_)
  · obtain ⟨_, rfl, _⟩ := h; rfl
  · obtain ⟨n, rfl, n0, n1, k⟩ := h
    refine ⟨_, (pss_one (ps_ret (pe_cmpR op_eq (pe_op op_mod (pe_callTy call_int1 rfl T.b_int (by decide +kernel) (pa_cons (pe_op op_fdiv (pv 0) pe_int) pa_nil)) pe_int) pe_int (nomark _)))), ?_⟩
    refine ⟨_, rfl, _, _, rfl, rfl, ⟨by decide, by omega⟩, .inl ⟨_, rfl, _, _, rfl, rfl, (by show (0 : Int) < 2; decide), rfl, ?_⟩⟩
    rw [dec_iv]
    exact k
end
end K39
namespace K39
open PySem PySem.Spec PyProof.Rows L2 Rg
def atV (l : List Int) (x : Int) : Int := (l[x.toNat]?).getD 0
theorem atV_at {l : List Int} (hl : l.length = 24) {x : Int} (h0 : 0 ≤ x) (h1 : x < 24) : atI (l.map V.int) x = some (.int (atV l x)) := by
  have : x.toNat < l.length := by omega
  refine at_of (j := x.toNat) (by omega) ?_
  rw [List.getElem?_map, List.getElem?_eq_getElem this]
  unfold atV
  rw [List.getElem?_eq_getElem this]
  rfl
theorem Mom.kd_at {CI CP : Addr} {H : Hp} {m : Addr} {M : Mom} {s : Int} (h : MomAt CI CP H m M s) {x : Int} (h0 : 0 ≤ x) (h1 : x < 24) : kindOf 24 5 M.v.M x = atV M.kd x := by
  have := h.kk x.toNat (by omega)
  rw [show ((x.toNat : Nat) : Int) = x by omega] at this
  exact this
def momV (o : Option (Addr × Mom)) : V := match o with
  | none => .non
  | some c => .ref c.1
def heldM (x : Int) (o : Option (Addr × Mom)) : Bool := match o with
  | none => false
  | some c => !decide (atV c.2.kd x = 0)
def barL (n : Int) (a : Addr × Mom) (o : Option (Addr × Mom)) (Ms : List LoM) (x : Int) : Bool := (hasB n 8 && (heldM x (some a) || heldM x o)) || (hasB n 128 && !decide (liveN (hasB n 64) x Ms = 0))
section
variable {P : Program} {w0_ : World} {K : PySem.W.Frag} {mg : Str → Option Value} {base : Heap}
def sp_Lbarred (CI CP CL : Addr) : Sp := fun vs H Q _ => ∃ (l : Addr) (n : Int) (a : Addr × Mom) (o : Option (Addr × Mom)) (Ts : List ToM) (s : Int), vs = [.ref l, .int n, .ref a.1, momV o] ∧ 0 ≤ n ∧ n < 4096 ∧ H l = some (.lst (Ts.map fun T => .ref T.t)) ∧ (∀ T ∈ Ts, ToAt CL H T) ∧ Ts.length < 100 ∧ (∀ c, c = a ∨ o = some c → MomAt CI CP H c.1 c.2 s) ∧
  ∀ (H' : Hp) (p : Addr), Same H H' → H p = none → H' p = some (.lst (((rng 10 14).filter (barL n a o (Ts.map fun T => T.M))).map V.int)) → Q (.ref p) H'
theorem ok_Lbarred (T : Tx K mg) : FnOk P w0_ K mg base CX0 2 T.f_Lbarred T.fd_Lbarred ["_law_lots", "_law_number", "_law_base", "_law_closing"] (sp_Lbarred T.C_Image T.C_Plan T.C_Lot) := by
  refine T.F_Lbarred.ok sc_Lbarred (fun vs H Q E h => ?_) (fun cdv A0 outer s H vs Q E hr h => ?_)
  · obtain ⟨_, _, _, _, _, _, rfl, _⟩ := h; rfl
  · obtain ⟨l, n, a, o, Ts, sl, rfl, n0, n1, el, hT, hlen, hM, k⟩ := h
    refine ⟨_, (pss_cons (ps_set (i := 4) sc_Lbarred.nd rfl (.inl rfl) (pe_lst pa_nil))
      (pss_cons (ps_for PassesOwn.never rfl (pi_range2 rfl T.b_range (pa_cons pe_int (pa_cons pe_int pa_nil))) (pg_name (i := 5) sc_Lbarred.nd rfl (.inl rfl))
        (Evl.pss_cut (ps_set (i := 6) sc_Lbarred.nd rfl (.inl rfl) (pe_or (pe_cmpR op_ne (pe_ix ix_list (pe_ix ix_list (pv 2) pe_int (fun _ _ => rfl)) (pv 5) (fun _ _ => rfl)) pe_int (nomark _)) (pe_one (pe_and (pe_cmpR op_notN (pv 3) pe_non (nomark _)) (pe_one (pe_cmpR op_ne (pe_ix ix_list (pe_ix ix_list (pv 3) pe_int (fun _ _ => rfl)) (pv 5) (fun _ _ => rfl)) pe_int (nomark _)))))))
        (pss_cons (ps_set (i := 7) sc_Lbarred.nd rfl (.inl rfl) pe_int)
        (Evl.pss_cut (ps_if (pt_val (pe_call (ok_Lhas_shelve T) hr rfl T.mg_Lhas_shelve T.F_Lhas_shelve.kp (b_Lhas_shelve T) .nil pass0 (pa_cons (pv 1) pa_nil)))
          (pss_one (ps_set (i := 7) sc_Lbarred.nd rfl (.inl rfl) (pe_call (ok_Llive T) hr rfl T.mg_Llive T.F_Llive.kp (b_Llive T) .nil pass0 (pa_cons (pv 0) (pa_cons (pv 5) (pa_cons (pe_call (ok_Lhas_lapse T) hr rfl T.mg_Lhas_lapse T.F_Lhas_lapse.kp (b_Lhas_lapse T) .nil pass0 (pa_cons (pv 1) pa_nil)) pa_nil))))))
          pss_nil)
        (pss_one (ps_if (PW.pt (pw_or (PW.pt (pw_and (pt_val (pe_call (ok_Lhas_reuse T) hr rfl T.mg_Lhas_reuse T.F_Lhas_reuse.kp (b_Lhas_reuse T) .nil pass0 (pa_cons (pv 1) pa_nil))) (pw_and1 (pt_val (pv 6))))) (pw_or1 (pt_cmpR op_ne (pv 7) pe_int (nomark _)))))
          (pss_one (ps_expr (pe_bm PySem.F.plainAttrs_list PySem.F.slot_list_append PySem.F.type_list_append mt_append (pv 4) (pa_cons (pv 5) pa_nil))))
          pss_nil))))))
      (pss_one (ps_ret (pv 4))))), ?_⟩
    refine ⟨by show 0 ≤ sizeLine; decide, fun D hD => ?_⟩
    refine ⟨10, 24, rfl, ⟨by decide, by decide, by decide, by decide⟩, ?_⟩
    have rl : (rng 10 14).length < 1000 := by rw [rng_len]; decide
    refine for_range (lo := 10) (n := 14) (fun i σ H2 => ∃ v5 v6 v7 : Option V, σ = [some (.ref l), some (.int n), some (.ref a.1), some (momV o), some (.ref D), v5, v6, v7] ∧ PvF H D (rng 10 14) (barL n a o (Ts.map fun T => T.M)) i H2) ⟨none, none, none, rfl, PvF.start hD⟩ ?_ ?_
    · rintro i σ H2 hi ⟨v5, v6, v7, rfl, Pv⟩
      obtain ⟨x, ex⟩ : ∃ x : Int, x = 10 + (i : Int) := ⟨_, rfl⟩
      have x0 : 0 ≤ x := by omega
      have x24 : x < 24 := by omega
      have hx : (rng 10 14)[i]? = some x := by rw [rng_get hi, ex]
      rw [← ex]
      have S := Pv.1
      have Ma := (hM a (.inl rfl)).same S
      have ga := atV_at Ma.kl x0 x24
      ((try dsimp only); (first | (refine Rg.sg (σ' := [some (.ref l), some (.int n), some (.ref a.1), some (momV o), some (.ref D), some (.int x), v6, v7]) ?_ ?_; focus exact rfl) | (refine Rg.sgG (σ' := [some (.ref l), some (.int n), some (.ref a.1), some (momV o), some (.ref D), some (.int x), v6, v7]) ?_ ?_; focus exact rfl)))
      obtain ⟨hl, ehl⟩ : ∃ hl, hl = (heldM x (some a) || heldM x o) := ⟨_, rfl⟩
      refine ⟨fun σ H' => σ = [some (.ref l), some (.int n), some (.ref a.1), some (momV o), some (.ref D), some (.int x), some (.bl hl), v7] ∧ H' = H2, ?_, ?_⟩
      · refine ⟨_, rfl, a.1, _, _, _, rfl, rfl, .of Ma.l, at_of (j := 1) rfl rfl, _, rfl, a.2.k, _, _, _, rfl, rfl, .of Ma.k, ga, rfl, _, rfl, ?_⟩
        by_cases e : atV a.2.kd x = 0
        · refine wFn (by rw [e]) ?_
          have h1 : heldM x (some a) = false := by show (!decide (atV a.2.kd x = 0)) = false; rw [decide_eq_true e]; rfl
          rw [h1] at ehl
          cases o with
          | none =>
            refine ⟨_, rfl, rfl, _, rfl, iteF ⟨?_, rfl⟩⟩
            rw [ehl]
            rfl
          | some c =>
            have Mc := (hM c (.inr rfl)).same S
            have gc := atV_at Mc.kl x0 x24
            refine ⟨_, rfl, rfl, _, rfl, iteT ⟨_, rfl, c.1, _, _, _, rfl, rfl, .of Mc.l, at_of (j := 1) rfl rfl, _, rfl, c.2.k, _, _, _, rfl, rfl, .of Mc.k, gc, rfl, ?_, rfl⟩⟩
            rw [ehl, dec_iv]
            rfl
        · refine wTn (fun z => e (V.int.inj z)) ⟨?_, rfl⟩
          have h1 : heldM x (some a) = true := by show (!decide (atV a.2.kd x = 0)) = true; rw [decide_eq_false e]; rfl
          rw [ehl, h1]
          rfl
      rintro σ H3 ⟨rfl, rfl⟩
      obtain ⟨lv, elv⟩ : ∃ lv : Int, lv = if hasB n 128 = true then liveN (hasB n 64) x (Ts.map fun T => T.M) else 0 := ⟨_, rfl⟩
      ((try dsimp only); (first | (refine Rg.sg (σ' := [some (.ref l), some (.int n), some (.ref a.1), some (momV o), some (.ref D), some (.int x), some (.bl hl), some (.int 0)]) ?_ ?_; focus exact rfl) | (refine Rg.sgG (σ' := [some (.ref l), some (.int n), some (.ref a.1), some (momV o), some (.ref D), some (.int x), some (.bl hl), some (.int 0)]) ?_ ?_; focus exact rfl)))
      refine ⟨fun σ H' => σ = [some (.ref l), some (.int n), some (.ref a.1), some (momV o), some (.ref D), some (.int x), some (.bl hl), some (.int lv)] ∧ H' = H3, ?_, ?_⟩
      · refine ⟨_, rfl, n, rfl, n0, n1, _, rfl, ?_⟩
        obtain ⟨c, ec⟩ : ∃ c, c = hasB n 128 := ⟨_, rfl⟩
        rw [← ec] at elv ⊢
        cases c with
        | true =>
          refine iteT ⟨_, rfl, _, rfl, _, rfl, n, rfl, n0, n1, l, x, hasB n 64, Ts, rfl, S _ _ el, fun t ht => ?_, hlen, ?_, rfl⟩
          · have A := hT t ht
            exact ⟨S _ _ A.l, S _ _ A.c, S _ _ A.r, S _ _ A.s, A.a.same S, A.k⟩
          · rw [elv]
            rfl
        | false =>
          refine iteF ⟨?_, rfl⟩
          rw [elv]
          rfl
      rintro σ H4 ⟨rfl, rfl⟩
      have eb : barL n a o (Ts.map fun T => T.M) x = ((hasB n 8 && hl) || !decide (lv = 0)) := by
        unfold barL
        rw [← ehl, elv]
        cases hasB n 128 <;> rfl
      have yes : barL n a o (Ts.map fun T => T.M) x = true → ∃ q, H4 D = some (.lst q) ∧ q.length < sizeLine ∧ PvF H D (rng 10 14) (barL n a o (Ts.map fun T => T.M)) (i + 1) (upd H4 D (.lst (q ++ [V.int x]))) := fun z => Pv.yes hD (Same.refl _) hx rl z
      have no : barL n a o (Ts.map fun T => T.M) x = false → PvF H D (rng 10 14) (barL n a o (Ts.map fun T => T.M)) (i + 1) H4 := fun z => Pv.no (Same.refl _) hx z
      refine ⟨_, rfl, n, rfl, n0, n1, _, rfl, ?_⟩
      obtain ⟨r, er⟩ : ∃ r, r = hasB n 8 := ⟨_, rfl⟩
      rw [← er] at eb ⊢
      clear ehl
      cases r <;> cases hl
      · (repeat ((fail_if_success (intro _)); first | (refine And.intro ?_ ?_; focus (first | rfl | assumption | exact .of (by assumption) | exact .inl (.of (by assumption)) | exact .inr (by assumption) | exact .inr (.of (by assumption)) | exact kit_ty (by decide +kernel) | exact .ty _ | exact tyT (by assumption) | exact .base (.int _) | (show _ ≤ sizeLine; first | decide | exact Nat.le_of_ble_eq_true rfl | (simp only [List.length_cons, List.length_nil]; decide)) | exact ⟨_, .of (by assumption)⟩ | exact ⟨_, by assumption⟩ | exact DGet.k (by assumption) | (with_reducible show (_ : Int) ≤ _; omega) | (with_reducible show (_ : Int) < _; omega) | (with_reducible show (_ : Nat) ≤ _; omega) | (with_reducible show (_ : Nat) < _; omega) | exact ⟨by decide, by decide⟩ | exact CMul_l (by decide) | exact CMul_r (by decide))) | ((fail_if_success (show ∃ W : Nat → Nat → L2.St → Hp → Prop, _)); apply Exists.intro) | (refine iteT ?_) | (refine iteF ?_) | (refine wT ?_ ?_; focus omega) | (refine wF ?_ ?_; focus omega) | (refine wTv ?_ ?_; focus omega) | (refine wFv ?_ ?_; focus omega) | (refine wNT ?_ ?_; focus omega) | (refine wNF ?_ ?_; focus omega)))
        refine wNe (fun z => ?_) fun z => ?_
        · obtain ⟨q, eq, hq, Pq⟩ := yes (by rw [eb, decide_eq_false z]; rfl)
          exact ⟨_, rfl, .inl ⟨rfl, _, .inl (.inl eq)⟩, _, rfl, D, q, _, rfl, rfl, eq, hq, _, _, _, rfl, Pq⟩
        · exact ⟨_, _, _, rfl, no (by rw [eb, decide_eq_true z]; rfl)⟩
      · (repeat ((fail_if_success (intro _)); first | (refine And.intro ?_ ?_; focus (first | rfl | assumption | exact .of (by assumption) | exact .inl (.of (by assumption)) | exact .inr (by assumption) | exact .inr (.of (by assumption)) | exact kit_ty (by decide +kernel) | exact .ty _ | exact tyT (by assumption) | exact .base (.int _) | (show _ ≤ sizeLine; first | decide | exact Nat.le_of_ble_eq_true rfl | (simp only [List.length_cons, List.length_nil]; decide)) | exact ⟨_, .of (by assumption)⟩ | exact ⟨_, by assumption⟩ | exact DGet.k (by assumption) | (with_reducible show (_ : Int) ≤ _; omega) | (with_reducible show (_ : Int) < _; omega) | (with_reducible show (_ : Nat) ≤ _; omega) | (with_reducible show (_ : Nat) < _; omega) | exact ⟨by decide, by decide⟩ | exact CMul_l (by decide) | exact CMul_r (by decide))) | ((fail_if_success (show ∃ W : Nat → Nat → L2.St → Hp → Prop, _)); apply Exists.intro) | (refine iteT ?_) | (refine iteF ?_) | (refine wT ?_ ?_; focus omega) | (refine wF ?_ ?_; focus omega) | (refine wTv ?_ ?_; focus omega) | (refine wFv ?_ ?_; focus omega) | (refine wNT ?_ ?_; focus omega) | (refine wNF ?_ ?_; focus omega)))
        refine wNe (fun z => ?_) fun z => ?_
        · obtain ⟨q, eq, hq, Pq⟩ := yes (by rw [eb, decide_eq_false z]; rfl)
          exact ⟨_, rfl, .inl ⟨rfl, _, .inl (.inl eq)⟩, _, rfl, D, q, _, rfl, rfl, eq, hq, _, _, _, rfl, Pq⟩
        · exact ⟨_, _, _, rfl, no (by rw [eb, decide_eq_true z]; rfl)⟩
      · (repeat ((fail_if_success (intro _)); first | (refine And.intro ?_ ?_; focus (first | rfl | assumption | exact .of (by assumption) | exact .inl (.of (by assumption)) | exact .inr (by assumption) | exact .inr (.of (by assumption)) | exact kit_ty (by decide +kernel) | exact .ty _ | exact tyT (by assumption) | exact .base (.int _) | (show _ ≤ sizeLine; first | decide | exact Nat.le_of_ble_eq_true rfl | (simp only [List.length_cons, List.length_nil]; decide)) | exact ⟨_, .of (by assumption)⟩ | exact ⟨_, by assumption⟩ | exact DGet.k (by assumption) | (with_reducible show (_ : Int) ≤ _; omega) | (with_reducible show (_ : Int) < _; omega) | (with_reducible show (_ : Nat) ≤ _; omega) | (with_reducible show (_ : Nat) < _; omega) | exact ⟨by decide, by decide⟩ | exact CMul_l (by decide) | exact CMul_r (by decide))) | ((fail_if_success (show ∃ W : Nat → Nat → L2.St → Hp → Prop, _)); apply Exists.intro) | (refine iteT ?_) | (refine iteF ?_) | (refine wT ?_ ?_; focus omega) | (refine wF ?_ ?_; focus omega) | (refine wTv ?_ ?_; focus omega) | (refine wFv ?_ ?_; focus omega) | (refine wNT ?_ ?_; focus omega) | (refine wNF ?_ ?_; focus omega)))
        refine wNe (fun z => ?_) fun z => ?_
        · obtain ⟨q, eq, hq, Pq⟩ := yes (by rw [eb, decide_eq_false z]; rfl)
          exact ⟨_, rfl, .inl ⟨rfl, _, .inl (.inl eq)⟩, _, rfl, D, q, _, rfl, rfl, eq, hq, _, _, _, rfl, Pq⟩
        · exact ⟨_, _, _, rfl, no (by rw [eb, decide_eq_true z]; rfl)⟩
      · (repeat ((fail_if_success (intro _)); first | (refine And.intro ?_ ?_; focus (first | rfl | assumption | exact .of (by assumption) | exact .inl (.of (by assumption)) | exact .inr (by assumption) | exact .inr (.of (by assumption)) | exact kit_ty (by decide +kernel) | exact .ty _ | exact tyT (by assumption) | exact .base (.int _) | (show _ ≤ sizeLine; first | decide | exact Nat.le_of_ble_eq_true rfl | (simp only [List.length_cons, List.length_nil]; decide)) | exact ⟨_, .of (by assumption)⟩ | exact ⟨_, by assumption⟩ | exact DGet.k (by assumption) | (with_reducible show (_ : Int) ≤ _; omega) | (with_reducible show (_ : Int) < _; omega) | (with_reducible show (_ : Nat) ≤ _; omega) | (with_reducible show (_ : Nat) < _; omega) | exact ⟨by decide, by decide⟩ | exact CMul_l (by decide) | exact CMul_r (by decide))) | ((fail_if_success (show ∃ W : Nat → Nat → L2.St → Hp → Prop, _)); apply Exists.intro) | (refine iteT ?_) | (refine iteF ?_) | (refine wT ?_ ?_; focus omega) | (refine wF ?_ ?_; focus omega) | (refine wTv ?_ ?_; focus omega) | (refine wFv ?_ ?_; focus omega) | (refine wNT ?_ ?_; focus omega) | (refine wNF ?_ ?_; focus omega)))
        obtain ⟨q, eq, hq, Pq⟩ := yes (by rw [eb]; rfl)
        exact ⟨.inl ⟨rfl, _, .inl (.inl eq)⟩, _, rfl, D, q, _, rfl, rfl, eq, hq, _, _, _, rfl, Pq⟩
    · rintro σ H2 ⟨v5, v6, v7, rfl, Pv⟩
      obtain ⟨s1, e1⟩ := Pv.all (by rw [rng_len])
      exact ⟨_, rfl, k H2 D s1 hD e1⟩
end
end K39
namespace K39
open PySem PySem.Spec PyProof.Rows L2 Rg
theorem nm_mem : ∀ {l : List Str} {n i : Nat} {r : Str}, l.Nodup → l[i]? = some r → (r ∈ nm l n ↔ n / 2 ^ i % 2 = 1)
  | [], _, _, _, _, h => by simp at h
  | a :: t, n, 0, r, hn, h => by
    obtain rfl : a = r := by simpa using h
    have na : a ∉ nm t (n / 2) := fun z => (List.nodup_cons.mp hn).1 (nm_sub.subset z)
    show (a ∈ if n % 2 = 1 then a :: nm t (n / 2) else nm t (n / 2)) ↔ n / 2 ^ 0 % 2 = 1
    rw [Nat.pow_zero, Nat.div_one]
    by_cases e : n % 2 = 1
    · rw [if_pos e]; simp [e]
    · rw [if_neg e]; exact ⟨fun z => absurd z na, fun z => absurd z e⟩
  | a :: t, n, i + 1, r, hn, h => by
    have h' : t[i]? = some r := by simpa using h
    have nr : r ≠ a := fun z => (List.nodup_cons.mp hn).1 (by rw [← z]; exact List.mem_of_getElem? h')
    have ih := nm_mem (n := n / 2) (List.nodup_cons.mp hn).2 h'
    rw [Nat.div_div_eq_div_mul, show 2 * 2 ^ i = 2 ^ (i + 1) by rw [Nat.pow_succ, Nat.mul_comm]] at ih
    show (r ∈ if n % 2 = 1 then a :: nm t (n / 2) else nm t (n / 2)) ↔ _
    rw [← ih]
    by_cases e : n % 2 = 1
    · rw [if_pos e, List.mem_cons]
      exact ⟨fun z => z.resolve_left nr, .inr⟩
    · rw [if_neg e]
theorem has_nm {m : Nat} {i : Nat} {r : Str} {d : Int} (h : Rs[i]? = some r) (hd : d = ((2 ^ i : Nat) : Int)) : decide (r ∈ nm Rs m) = hasB (m : Int) d := by
  unfold hasB
  have := nm_mem (n := m) Rs_nodup h
  rw [Bool.eq_iff_iff, decide_eq_true_iff, decide_eq_true_iff, this, hd]
  constructor
  · intro z
    have : ((m / 2 ^ i % 2 : Nat) : Int) = 1 := by rw [z]; rfl
    rw [Int.natCast_emod, Int.natCast_ediv] at this
    exact this
  · intro z
    have : ((m / 2 ^ i % 2 : Nat) : Int) = 1 := by rw [Int.natCast_emod, Int.natCast_ediv]; exact z
    exact Int.ofNat.inj this
def imM (c : Addr × Mom) : Im := (c.2.im, c.2.A, c.2.v)
theorem held_is {CI CP : Addr} {H : Hp} {s : Int} {x : Int} (x0 : 0 ≤ x) (x24 : x < 24) {o : Option (Addr × Mom)} (h : ∀ c, o = some c → MomAt CI CP H c.1 c.2 s) : heldO x (o.map imM) = heldM x o := by
  cases o with
  | none => rfl
  | some c =>
    show (!decide (kindOf 24 5 c.2.v.M x = 0)) = !decide (atV c.2.kd x = 0)
    rw [Mom.kd_at (h c rfl) x0 x24]
theorem bar_is {CI CP : Addr} {H : Hp} {s : Int} {m : Nat} {a : Addr × Mom} {o : Option (Addr × Mom)} {Ms : List LoM} (h : ∀ c, c = a ∨ o = some c → MomAt CI CP H c.1 c.2 s) : (rng 10 14).filter (barB (nm Rs m) (some (imM a)) (o.map imM) Ms) = (rng 10 14).filter (barL (m : Int) a o Ms) := by
  refine List.filter_congr fun x hx => ?_
  have hr := rng_mem hx
  unfold barB barL reuB sheB
  rw [has_nm (i := 3) (d := 8) rfl (by decide), has_nm (i := 7) (d := 128) rfl (by decide), has_nm (i := 6) (d := 64) rfl (by decide), held_is (by omega) (by omega) fun c hc => h c (.inr hc)]
  have := held_is (CI := CI) (CP := CP) (H := H) (s := s) (x := x) (o := some a) (by omega) (by omega) fun c hc => h c (.inl (Option.some.inj hc).symm)
  rw [show heldO x (some (imM a)) = heldM x (some a) from this]
end K39
namespace K39
open PySem PySem.Spec PyProof.Rows L2 Rg
section
variable {P : Program} {w0_ : World} {K : PySem.W.Frag} {mg : Str → Option Value} {base : Heap}
def sp_Lbarred_good (CI CP CL : Addr) : Sp := fun vs H Q _ => ∃ (w l : Addr) (n : Int) (a : Addr × Mom) (o : Option (Addr × Mom)) (Ts : List ToM), vs = [.ref w, .ref l, .int n, .ref a.1, momV o] ∧ 0 ≤ n ∧ n < 4096 ∧ H w = some (.lst ((Ts.map fun T => T.M).map fun M : LoM => .ref M.o)) ∧ H l = some (.lst (Ts.map fun T => .ref T.t)) ∧ (∀ T ∈ Ts, ToAt CL H T) ∧ Ts.length < 100 ∧ (∀ c, c = a ∨ o = some c → MomAt CI CP H c.1 c.2 30) ∧
  ∀ H' : Hp, Same H H' → Q (.bl true) H'
theorem ToAt.same {CL : Addr} {H H' : Hp} {T : ToM} (A : ToAt CL H T) (S : Same H H') : ToAt CL H' T := ⟨S _ _ A.l, S _ _ A.c, S _ _ A.r, S _ _ A.s, A.a.same S, A.k⟩
theorem ok_Lbarred_good (T : Tx K mg) : FnOk P w0_ K mg base CX0 5 T.f_Lbarred_good T.fd_Lbarred_good ["_law_window", "_law_lots", "_law_number", "_law_base", "_law_closing"] (sp_Lbarred_good T.C_Image T.C_Plan T.C_Lot) := by
  refine T.F_Lbarred_good.ok sc_Lbarred_good (fun vs H Q E h => ?_) (fun cdv A0 outer s H vs Q E hr h => ?_)
  · obtain ⟨_, _, _, _, _, _, rfl, _⟩ := h; rfl
  · obtain ⟨w, l, n, a, o, Ts, rfl, n0, n1, ew, el, hT, hlen, hM, k⟩ := h
    have hr2 := hr.mono (show 2 ≤ 4 by decide)
    have hr3 := hr.mono (show 3 ≤ 4 by decide)
    refine ⟨_, (pss_cons (ps_set (i := 5) sc_Lbarred_good.nd rfl (.inl rfl) pe_non)
      (Evl.pss_cut (ps_if (pt_cmpR op_notN (pv 4) pe_non (nomark _))
        (pss_one (ps_set (i := 5) sc_Lbarred_good.nd rfl (.inl rfl) (pe_ix ix_list (pv 4) pe_int (fun _ _ => rfl))))
        pss_nil)
      (pss_cons (ps_set (i := 6) sc_Lbarred_good.nd rfl (.inl rfl) (pe_call (ok_barred T) hr rfl T.mg_barred_blocks T.F_barred_blocks.kp (b_barred_blocks T) .nil pass0 (pa_cons (pe_smethS T.mg_Book T.cr_Book T.sm_Book_of_number (ok_of_number T) hr3 (b_Book_of_number T) passL0 (pa_cons (pv 2) pa_nil)) (pa_cons (pe_ix ix_list (pv 3) pe_int (fun _ _ => rfl)) (pa_cons (pv 5) (pa_cons (pv 0) pa_nil))))))
      (pss_cons (ps_if (PW.pt (pw_or (pt_not (pt_val (pe_callB call_isi rfl T.b_isinstance (by decide +kernel) (pa_cons (pv 6) (pa_cons (pe_bltn (v := .ty "list") rfl T.b_list (by decide +kernel) rfl) pa_nil))))) (pw_or1 (pt_cmpR (op_neD hr.units) (pv 6) (pe_call (ok_Lbarred T) hr2 rfl T.mg_Lbarred T.F_Lbarred.kp (b_Lbarred T) .nil pass0 (pa_cons (pv 1) (pa_cons (pv 2) (pa_cons (pv 3) (pa_cons (pv 4) pa_nil))))) (nomark _)))))
        (pss_one (ps_ret pe_bl))
        pss_nil)
      (pss_cons (ps_for PassesOwn.never rfl (pi_list (pv 6)) (pg_name (i := 7) sc_Lbarred_good.nd rfl (.inl rfl))
        (pss_one (ps_if (PW.pt (pw_or (pt_not (pt_val (pe_callB call_isi rfl T.b_isinstance (by decide +kernel) (pa_cons (pv 7) (pa_cons (pe_bltn (v := .ty "int") rfl T.b_int (by decide +kernel) rfl) pa_nil))))) (pw_or1 (pt_val (pe_callB call_isi rfl T.b_isinstance (by decide +kernel) (pa_cons (pv 7) (pa_cons (pe_bltn (v := .ty "bool") rfl T.b_bool (by decide +kernel) rfl) pa_nil)))))))
          (pss_one (ps_ret pe_bl))
          pss_nil)))
      (pss_one (ps_ret pe_bl))))))), ?_⟩
    have Ma := hM a (.inl rfl)
    have hL : ∀ M ∈ Ts.map (fun T => T.M), LoAt T.C_Lot H M := fun M hM => by
      obtain ⟨t, ht, rfl⟩ := List.mem_map.mp hM
      exact (hT t ht).a
    obtain ⟨m, rfl⟩ : ∃ m : Nat, n = m := ⟨n.toNat, by omega⟩
    ((try dsimp only); (first | (refine Rg.sg (σ' := [some (.ref w), some (.ref l), some (.int (m : Int)), some (.ref a.1), some (momV o), some .non, none, none]) ?_ ?_; focus exact rfl) | (refine Rg.sgG (σ' := [some (.ref w), some (.ref l), some (.int (m : Int)), some (.ref a.1), some (momV o), some .non, none, none]) ?_ ?_; focus exact rfl)))
    refine ⟨fun σ H' => σ = [some (.ref w), some (.ref l), some (.int (m : Int)), some (.ref a.1), some (momV o), some (optV (o.map imM)), none, none] ∧ H' = H, ?_, ?_⟩
    · cases o with
      | none => exact ⟨_, rfl, rfl, _, rfl, iteF ⟨rfl, rfl⟩⟩
      | some c =>
        have Mc := hM c (.inr rfl)
        exact ⟨_, rfl, rfl, _, rfl, iteT ⟨_, rfl, c.1, _, _, _, rfl, rfl, .of Mc.l, at_of (j := 0) rfl rfl, rfl, rfl⟩⟩
    rintro σ H0 ⟨rfl, rfl⟩
    refine ⟨_, rfl, (m : Int), rfl, fun m' em hm' H1 x s1 nx hB => ?_, fun he => absurd he (by omega)⟩
    obtain rfl : m = m' := by omega
    have Ma1 := Ma.same s1
    refine ⟨_, rfl, a.1, _, _, _, rfl, rfl, .of Ma1.l, at_of (j := 0) rfl rfl, _, rfl, _, rfl, x, w, nm Rs m, imM a, o.map imM, Ts.map (fun T => T.M), 30, rfl, hB, fun c hc => ?_, s1 _ _ ew, fun M hM' => (hL M hM').same s1, fun H2 p s2 np ep => ?_⟩
    · rcases hc with z | z
      · rw [z]; exact Ma1.I
      · obtain ⟨c', hc', rfl⟩ := Option.map_eq_some_iff.mp z
        exact ((hM c' (.inr hc')).same s1).I
    have S2 := s1.trans s2
    rw [bar_is hM] at ep
    ((try dsimp only); (first | (refine Rg.sg (σ' := [some (.ref w), some (.ref l), some (.int (m : Int)), some (.ref a.1), some (momV o), some (optV (o.map imM)), some (.ref p), none]) ?_ ?_; focus exact rfl) | (refine Rg.sgG (σ' := [some (.ref w), some (.ref l), some (.int (m : Int)), some (.ref a.1), some (momV o), some (optV (o.map imM)), some (.ref p), none]) ?_ ?_; focus exact rfl)))
    refine ⟨_, rfl, _, _, _, _, true, rfl, .ty _, .base (.lst ep), kit_ty (by decide +kernel), _, rfl, iteF ⟨_, rfl, _, rfl, _, rfl, _, rfl, _, rfl, l, (m : Int), a, o, Ts, 30, rfl, n0, n1, S2 _ _ el, fun t ht => (hT t ht).same S2, hlen, fun c hc => (hM c hc).same S2, fun H3 p3 s3 np3 ep3 => ⟨_, _, dpI (s3 _ _ ep), dpI ep3, shI _, shI _, _, rfl, ?_⟩⟩⟩
    rw [eqI]
    have e3 := s3 _ _ ep
    refine iteF ⟨_, rfl, p, rfl, ⟨_, .of e3⟩, for_list (K := K) (a := p) (xs := ((rng 10 14).filter (barL (m : Int) a o (Ts.map fun T => T.M))).map V.int) (fun i σ H' => ∃ v7 : Option V, σ = [some (.ref w), some (.ref l), some (.int (m : Int)), some (.ref a.1), some (momV o), some (optV (o.map imM)), some (.ref p), v7] ∧ H' = H3) ⟨none, rfl, rfl⟩ (fun i σ H' _ ⟨_, _, e⟩ => by rw [e]; exact .of e3) ?_ ?_⟩
    · rintro i y σ H' hi ⟨v7, rfl, rfl⟩
      rw [List.getElem?_map] at hi
      obtain ⟨z, hz, rfl⟩ := Option.map_eq_some_iff.mp hi
      exact ⟨_, rfl, _, _, _, _, true, rfl, .ty _, .base (.int _), kit_ty (by decide +kernel), _, rfl, iteF ⟨_, rfl, _, _, _, _, false, rfl, .ty _, .base (.int _), kit_ty (by decide +kernel), _, rfl, iteF ⟨_, rfl, rfl⟩⟩⟩
    · rintro σ H' ⟨v7, rfl, rfl⟩
      exact k H' (S2.trans s3)
end
end K39
namespace K39
open PySem PySem.Spec PyProof.Rows L2 Rg
def dP (h t : Int) : PyData := .tuple [.int h, .int t]
theorem dpP {K : PySem.W.Frag} {H : Hp} {a : Addr} {h t : Int} (e : H a = some (.tup [.int h, .int t])) : Dp K H (.ref a) (dP h t) := .tup (.of e) (.cons (.int h) (.cons (.int t) .nil))
theorem shP (h t : Int) : SeqAt.shaped (dP h t) = true := rfl
theorem eqP2 (a b c d : Int) : PyData.eqv (dP a b) (dP c d) = decide (a = c ∧ b = d) := by
  simp [dP, PyData.eqv, PyData.eqvAll, Bool.decide_and]
  by_cases e : a = c <;> by_cases f : b = d <;> simp [e, f]
/-- what a lot of the law's holds -/
structure LotF (T : ToM) : Prop where
  wk : T.M.wk = 7
  ms : T.M.ms = if T.md = true then T.fs + 1 else -1
  d : ∀ g ∈ T.M.D, g.2.2 = (T.M.n, g.1)
  c : ∀ g ∈ T.M.C, g.2.2 = (T.fs + 3 * (17 - g.1), 100 + g.1)
  cn : (T.M.C.map (·.1)).Nodup
  dn : (T.M.D.map (·.1)).Nodup
  cl : T.M.C.length < 60
  dl : T.M.D.length < 60
  cp : T.cp.Pairwise (· < ·)
  ck : ∀ x, x ∈ T.cp ↔ x ∈ T.M.C.map (·.1)
  dk : ∀ x, x ∈ T.cp ↔ x ∈ T.M.D.map (·.1)
  sp : T.sl.Pairwise (· < ·)
  sk : ∀ k, k ∈ T.sl ↔ k ∈ (T.M.C.map (fun g => g.2.2.1) ++ [T.M.ms]).filter fun k => !decide (k = -1)
  cr : ∀ x ∈ T.cp, 0 ≤ x ∧ x < 24
section
variable {P : Program} {w0_ : World} {K : PySem.W.Frag} {mg : Str → Option Value} {base : Heap}
def sp_Llot_good (CL : Addr) : Sp := fun vs H Q _ => ∃ t : ToM, vs = [.ref t.t] ∧ ToAt CL H t ∧ LotF t ∧ ∀ H' : Hp, Same H H' → Q (.bl true) H'
theorem ok_Llot_good (T : Tx K mg) : FnOk P w0_ K mg base CX0 2 T.f_Llot_good T.fd_Llot_good ["_law_told"] (sp_Llot_good T.C_Lot) := by
  refine T.F_Llot_good.ok sc_Llot_good (fun vs H Q E h => ?_) (fun cdv A0 outer s H vs Q E hr h => ?_)
  · obtain ⟨_, rfl, _⟩ := h; rfl
  · obtain ⟨t, rfl, A, F, k⟩ := h
    refine ⟨_, (pss_cons (ps_asg (pv 0) (pg_lst rfl (pgs_cons (pg_name (i := 1) sc_Llot_good.nd rfl (.inl rfl)) (pgs_cons (pg_name (i := 2) sc_Llot_good.nd rfl (.inl rfl)) (pgs_cons (pg_name (i := 3) sc_Llot_good.nd rfl (.inl rfl)) (pgs_cons (pg_name (i := 4) sc_Llot_good.nd rfl (.inl rfl)) (pgs_cons (pg_name (i := 5) sc_Llot_good.nd rfl (.inl rfl)) (pgs_cons (pg_name (i := 6) sc_Llot_good.nd rfl (.inl rfl)) (pgs_cons (pg_name (i := 7) sc_Llot_good.nd rfl (.inl rfl)) pgs_nil)))))))))
      (pss_cons (ps_set (i := 8) sc_Llot_good.nd rfl (.inl rfl) (pe_meth0 (pv 1) T.cl_Lot T.m_Lot_used_slots (ok_used_slots T) hr (b_Lot_used_slots T) .nil pass0))
      (pss_cons (ps_if (PW.pt (pw_or (pt_not (pt_val (pe_callB call_isi rfl T.b_isinstance (by decide +kernel) (pa_cons (pv 8) (pa_cons (pe_bltn (v := .ty "list") rfl T.b_list (by decide +kernel) rfl) pa_nil))))) (pw_or (pt_cmpR (op_neD hr.units) (pv 8) (pv 5) (nomark _)) (pw_or (pt_cmpR op_ne (pe_fld (pv 1) rfl) (pv 2) (nomark _)) (pw_or1 (pt_cmpR op_notN (pe_fld (pv 1) rfl) pe_non (nomark _)))))))
        (pss_one (ps_ret pe_bl))
        pss_nil)
      (pss_cons (ps_if (PW.pt (pw_or (pt_cmpR (op_neD hr.units) (pe_callB (call_sortedDI rfl) rfl T.b_sorted (by decide +kernel) (pa_cons (pe_fld (pv 1) rfl) pa_nil)) (pv 3) (nomark _)) (pw_or (pt_cmpR (op_neD hr.units) (pe_callB (call_sortedDI rfl) rfl T.b_sorted (by decide +kernel) (pa_cons (pe_fld (pv 1) rfl) pa_nil)) (pv 3) (nomark _)) (pw_or1 (pt_cmpR op_ne (pe_fld (pv 1) rfl) pe_int (nomark _))))))
        (pss_one (ps_ret pe_bl))
        pss_nil)
      (pss_cons (ps_for PassesOwn.never rfl (pi_list (pv 3)) (pg_name (i := 9) sc_Llot_good.nd rfl (.inl rfl))
        (pss_one (ps_if (PW.pt (pw_or (pt_cmpR (op_neD hr.units) (pe_dget (hu_of hr) (pe_fld (pv 1) rfl) (pv 9) (fun _ _ => rfl)) (pe_tup (pa_cons (pe_op op_add (pv 6) (pe_op op_mul pe_int (pe_op op_sub pe_int (pv 9)))) (pa_cons (pe_op op_add pe_int (pv 9)) pa_nil))) (nomark _)) (pw_or1 (pt_cmpR (op_neD hr.units) (pe_dget (hu_of hr) (pe_fld (pv 1) rfl) (pv 9) (fun _ _ => rfl)) (pe_tup (pa_cons (pv 2) (pa_cons (pv 9) pa_nil))) (nomark _)))))
          (pss_one (ps_ret pe_bl))
          pss_nil)))
      (pss_cons (ps_set (i := 10) sc_Llot_good.nd rfl (.inl rfl) (pe_un un_neg pe_int))
      (pss_cons (ps_if (pt_val (pv 7))
        (pss_one (ps_set (i := 10) sc_Llot_good.nd rfl (.inl rfl) (pe_op op_add (pv 6) pe_int)))
        pss_nil)
      (pss_one (ps_ret (pe_and (pe_cmpR op_eq (pe_fld (pv 1) rfl) (pv 10) (nomark _)) (pe_and (pe_callB call_isi rfl T.b_isinstance (by decide +kernel) (pa_cons (pe_fld (pv 1) rfl) (pa_cons (pe_bltn (v := .ty "tuple") rfl T.b_tuple (by decide +kernel) rfl) pa_nil))) (pe_one (pe_cmpR (op_eqD hr.units) (pe_listof (K := K) (pe_fld (pv 1) rfl) T.b_list) (pv 4) (nomark _)))))))))))))), ?_⟩
    have L := A.a
    have cL := T.cl_Lot
    refine ⟨_, rfl, t.t, _, rfl, .of A.l, rfl, _, _, rfl, _, _, rfl, _, _, rfl, _, _, rfl, _, _, rfl, _, _, rfl, _, _, rfl, rfl, ?_⟩
    ((try dsimp only); (first | (refine Rg.sg (σ' := [some (.ref t.t), some (.ref t.M.o), some (.int t.M.n), some (.ref t.cpA), some (.ref t.rvA), some (.ref t.slA), some (.int t.fs), some (.bl t.md), none, none, none]) ?_ ?_; focus exact rfl) | (refine Rg.sgG (σ' := [some (.ref t.t), some (.ref t.M.o), some (.int t.M.n), some (.ref t.cpA), some (.ref t.rvA), some (.ref t.slA), some (.int t.fs), some (.bl t.md), none, none, none]) ?_ ?_; focus exact rfl)))
    refine ⟨_, rfl, t.M.o, _, _, rfl, L.ob, rfl, t.M, rfl, L, F.cl, fun H1 p ns S1 np hp hm ep => ?_⟩
    have ens : ns = t.sl := asc_ext hp F.sp fun y => by rw [hm y, F.sk y]
    rw [ens] at ep
    have L1 := L.same S1
    ((try dsimp only); (first | (refine Rg.sg (σ' := [some (.ref t.t), some (.ref t.M.o), some (.int t.M.n), some (.ref t.cpA), some (.ref t.rvA), some (.ref t.slA), some (.int t.fs), some (.bl t.md), some (.ref p), none, none]) ?_ ?_; focus exact rfl) | (refine Rg.sgG (σ' := [some (.ref t.t), some (.ref t.M.o), some (.int t.M.n), some (.ref t.cpA), some (.ref t.rvA), some (.ref t.slA), some (.int t.fs), some (.bl t.md), some (.ref p), none, none]) ?_ ?_; focus exact rfl)))
    refine ⟨_, rfl, _, _, _, _, true, rfl, .ty _, .base (.lst ep), kit_ty (by decide +kernel), _, rfl, iteF ⟨_, rfl, _, rfl, dI t.sl, dI t.sl, dpI ep, dpI (S1 _ _ A.s), shI _, shI _, _, rfl, ?_⟩⟩
    rw [eqI]
    refine iteF ⟨_, rfl, t.M.o, _, _, _, _, rfl, L1.ob, cL, T.na_Lot_number, rfl, _, rfl, rfl, _, rfl, wNF rfl ?_⟩
    refine ⟨_, rfl, t.M.o, _, _, _, _, rfl, L1.ob, cL, T.na_Lot_image, rfl, rfl, _, rfl, ?_⟩
    refine wFn rfl ?_
    have srt : ∀ {G : List Ent} {ys : List Int}, (G.map (·.1)).Nodup → (∀ x, x ∈ t.cp ↔ x ∈ G.map (·.1)) → ys.Perm (G.map (·.1)) → ys.Pairwise (· ≤ ·) → ys = t.cp := fun {G ys} hn hk hp ha => asc_ext (lt_of_le_nodup ys ha (hp.nodup_iff.mpr hn)) F.cp fun y => by rw [hp.mem_iff, hk y]
    have keysI : ∀ G : List Ent, (idsK G).map (·.1) = (G.map (·.1)).map (Sum.inl : Int → Key) := fun G => by rw [idsK_keys, List.map_map]; rfl
    refine ⟨_, rfl, t.M.o, _, _, _, _, rfl, L1.ob, cL, T.na_Lot_copies, rfl, t.M.c, _, t.M.C.map (·.1), rfl, .inl L1.co, keysI _, by rw [List.length_map]; have := F.cl; omega, fun ys q hp1 ha1 nq => ?_⟩
    rw [srt F.cn F.ck hp1 ha1]
    generalize h2 : upd H1 q _ = H2
    obtain ⟨e_q, s_q, _⟩ := new_f h2 nq
    have L2' := L1.same s_q
    refine ⟨_, rfl, dI t.cp, dI t.cp, dpI e_q, dpI (s_q _ _ (S1 _ _ A.c)), shI _, shI _, _, rfl, ?_⟩
    rw [eqI]
    refine iteF ⟨_, rfl, t.M.o, _, _, _, _, rfl, L2'.ob, cL, T.na_Lot_identities, rfl, t.M.d, _, t.M.D.map (·.1), rfl, .inl L2'.id, keysI _, by rw [List.length_map]; have := F.dl; omega, fun ys q3 hp3 ha3 nq3 => ?_⟩
    rw [srt F.dn F.dk hp3 ha3]
    generalize h3 : upd H2 q3 _ = H3
    obtain ⟨e_q3, s_q3, _⟩ := new_f h3 nq3
    have S3 := (S1.trans s_q).trans s_q3
    have L3 := L.same S3
    refine ⟨_, rfl, dI t.cp, dI t.cp, dpI e_q3, dpI (S3 _ _ A.c), shI _, shI _, _, rfl, ?_⟩
    rw [eqI]
    refine iteF ⟨_, rfl, t.M.o, _, _, _, _, rfl, L3.ob, cL, T.na_Lot_mark, rfl, rfl, _, rfl, wNF F.wk ?_⟩
    have c3 := S3 _ _ A.c
    refine ⟨_, rfl, t.cpA, rfl, ⟨_, .of c3⟩, for_list (K := K) (a := t.cpA) (xs := t.cp.map V.int) (fun i σ H' => ∃ v9 : Option V, σ = [some (.ref t.t), some (.ref t.M.o), some (.int t.M.n), some (.ref t.cpA), some (.ref t.rvA), some (.ref t.slA), some (.int t.fs), some (.bl t.md), some (.ref p), v9, none] ∧ Same H3 H') ⟨none, rfl, Same.refl _⟩ (fun i σ H' _ ⟨_, _, S⟩ => .of (S _ _ c3)) ?_ ?_⟩
    · rintro i y σ H4 hi ⟨v9, rfl, S4⟩
      rw [List.getElem?_map] at hi
      obtain ⟨x, hx, rfl⟩ := Option.map_eq_some_iff.mp hi
      have hxm := List.mem_of_getElem? hx
      have L4 := L3.same S4
      obtain ⟨gc, hgc, ec⟩ := List.mem_map.mp ((F.ck x).mp hxm)
      obtain ⟨gd, hgd, ed⟩ := List.mem_map.mp ((F.dk x).mp hxm)
      have dc : DGet H4 t.M.c (.int x) (some (.ref gc.2.1)) := by
        have := DGet.k (k := Sum.inl gc.1) L4.co
        rw [idsK_get F.cn hgc] at this
        rw [← ec]
        exact this
      have dd : DGet H4 t.M.d (.int x) (some (.ref gd.2.1)) := by
        have := DGet.k (k := Sum.inl gd.1) L4.id
        rw [idsK_get F.dn hgd] at this
        rw [← ed]
        exact this
      have tc := L4.ec gc hgc
      rw [F.c gc hgc, ec] at tc
      have td := L4.ed gd hgd
      rw [F.d gd hgd, ed] at td
      ((try dsimp only); (first | (refine Rg.sg (σ' := [some (.ref t.t), some (.ref t.M.o), some (.int t.M.n), some (.ref t.cpA), some (.ref t.rvA), some (.ref t.slA), some (.int t.fs), some (.bl t.md), some (.ref p), some (.int x), none]) ?_ ?_; focus exact rfl) | (refine Rg.sgG (σ' := [some (.ref t.t), some (.ref t.M.o), some (.int t.M.n), some (.ref t.cpA), some (.ref t.rvA), some (.ref t.slA), some (.int t.fs), some (.bl t.md), some (.ref p), some (.int x), none]) ?_ ?_; focus exact rfl)))
      refine ⟨_, rfl, t.M.o, _, _, _, _, rfl, L4.ob, cL, T.na_Lot_copies, rfl, _, rfl, t.M.c, _, rfl, dc, ?_⟩
      refine ⟨_, rfl, _, rfl, _, _, rfl, rfl, _, _, rfl, rfl, .inl ⟨by decide, by decide⟩, _, _, rfl, rfl, _, rfl, _, _, rfl, rfl, by show 2 ≤ sizeLine; decide, ?_⟩
      (intro z n_z; generalize he_z : upd _ z _ = H5; obtain ⟨e_z, s_z, f_z⟩ := new_f he_z n_z; clear he_z)
      refine ⟨_, _, dpP (s_z _ _ tc), dpP e_z, shP _ _, shP _ _, _, rfl, ?_⟩
      rw [eqP2]
      refine wFn ⟨rfl, rfl⟩ ?_
      have L5 := L4.same s_z
      have dd5 : DGet H5 t.M.d (.int x) (some (.ref gd.2.1)) := by
        have := DGet.k (k := Sum.inl gd.1) L5.id
        rw [idsK_get F.dn hgd] at this
        rw [← ed]
        exact this
      refine ⟨_, rfl, t.M.o, _, _, _, _, rfl, L5.ob, cL, T.na_Lot_identities, rfl, _, rfl, t.M.d, _, rfl, dd5, _, rfl, _, rfl, by show 2 ≤ sizeLine; decide, ?_⟩
      (intro z2 n_z2; generalize he_z2 : upd _ z2 _ = H6; obtain ⟨e_z2, s_z2, f_z2⟩ := new_f he_z2 n_z2; clear he_z2)
      refine ⟨_, _, dpP (s_z2 _ _ (s_z _ _ td)), dpP e_z2, shP _ _, shP _ _, _, rfl, ?_⟩
      rw [eqP2]
      refine wFn ⟨rfl, rfl⟩ ?_
      exact ⟨_, rfl, (S4.trans s_z).trans s_z2⟩
    · rintro σ H4 ⟨v9, rfl, S4⟩
      have L4 := L3.same S4
      have F4 := S3.trans S4
      refine ⟨_, rfl, ?_⟩
      ((try dsimp only); (first | (refine Rg.sg (σ' := [some (.ref t.t), some (.ref t.M.o), some (.int t.M.n), some (.ref t.cpA), some (.ref t.rvA), some (.ref t.slA), some (.int t.fs), some (.bl t.md), some (.ref p), v9, some (.int (-1))]) ?_ ?_; focus exact rfl) | (refine Rg.sgG (σ' := [some (.ref t.t), some (.ref t.M.o), some (.int t.M.n), some (.ref t.cpA), some (.ref t.rvA), some (.ref t.slA), some (.int t.fs), some (.bl t.md), some (.ref p), v9, some (.int (-1))]) ?_ ?_; focus exact rfl)))
      have hms := F.ms
      refine ⟨_, rfl, _, rfl, ?_⟩
      by_cases e : t.md = true
      · refine wTb e ⟨_, rfl, _, _, rfl, rfl, ?_⟩
        ((try dsimp only); (first | (refine Rg.sg (σ' := [some (.ref t.t), some (.ref t.M.o), some (.int t.M.n), some (.ref t.cpA), some (.ref t.rvA), some (.ref t.slA), some (.int t.fs), some (.bl t.md), some (.ref p), v9, some (.int (t.fs + 1))]) ?_ ?_; focus exact rfl) | (refine Rg.sgG (σ' := [some (.ref t.t), some (.ref t.M.o), some (.int t.M.n), some (.ref t.cpA), some (.ref t.rvA), some (.ref t.slA), some (.int t.fs), some (.bl t.md), some (.ref p), v9, some (.int (t.fs + 1))]) ?_ ?_; focus exact rfl)))
        have e10 : t.M.ms = (t.fs + 1) := by rw [hms, if_pos e]
        refine ⟨_, rfl, t.M.o, _, _, _, _, rfl, L4.ob, cL, T.na_Lot_mark_slot, rfl, _, rfl, rfl, ?_⟩
        rw [e10, decide_eq_true rfl]
        refine ⟨_, rfl, iteT ⟨_, rfl, t.M.o, _, _, _, _, rfl, L4.ob, cL, T.na_Lot_revokes, rfl, _, _, _, _, true, rfl, .ty _, tyT (.of L4.re), kit_ty (by decide +kernel), _, rfl, iteT ⟨_, rfl, t.M.o, _, _, _, _, rfl, L4.ob, cL, T.na_Lot_revokes, rfl, t.M.r, _, rfl, .inr (.of L4.re), ?_⟩⟩⟩
        (intro y n_y; generalize he_y : upd _ y _ = H7; obtain ⟨e_y, s_y, f_y⟩ := new_f he_y n_y; clear he_y)
        refine ⟨_, rfl, dI t.M.rv, dI t.M.rv, dpI e_y, dpI (s_y _ _ (F4 _ _ A.r)), shI _, shI _, ?_⟩
        rw [eqI]
        exact k H7 (F4.trans s_y)
      · refine wFb (by cases h : t.md with
          | true => exact absurd h e
          | false => rfl) ?_
        ((try dsimp only); (first | (refine Rg.sg (σ' := [some (.ref t.t), some (.ref t.M.o), some (.int t.M.n), some (.ref t.cpA), some (.ref t.rvA), some (.ref t.slA), some (.int t.fs), some (.bl t.md), some (.ref p), v9, some (.int (-1))]) ?_ ?_; focus exact rfl) | (refine Rg.sgG (σ' := [some (.ref t.t), some (.ref t.M.o), some (.int t.M.n), some (.ref t.cpA), some (.ref t.rvA), some (.ref t.slA), some (.int t.fs), some (.bl t.md), some (.ref p), v9, some (.int (-1))]) ?_ ?_; focus exact rfl)))
        have e10 : t.M.ms = (-1) := by rw [hms, if_neg e]
        refine ⟨_, rfl, t.M.o, _, _, _, _, rfl, L4.ob, cL, T.na_Lot_mark_slot, rfl, _, rfl, rfl, ?_⟩
        rw [e10, decide_eq_true rfl]
        refine ⟨_, rfl, iteT ⟨_, rfl, t.M.o, _, _, _, _, rfl, L4.ob, cL, T.na_Lot_revokes, rfl, _, _, _, _, true, rfl, .ty _, tyT (.of L4.re), kit_ty (by decide +kernel), _, rfl, iteT ⟨_, rfl, t.M.o, _, _, _, _, rfl, L4.ob, cL, T.na_Lot_revokes, rfl, t.M.r, _, rfl, .inr (.of L4.re), ?_⟩⟩⟩
        (intro y n_y; generalize he_y : upd _ y _ = H7; obtain ⟨e_y, s_y, f_y⟩ := new_f he_y n_y; clear he_y)
        refine ⟨_, rfl, dI t.M.rv, dI t.M.rv, dpI e_y, dpI (s_y _ _ (F4 _ _ A.r)), shI _, shI _, ?_⟩
        rw [eqI]
        exact k H7 (F4.trans s_y)
end
end K39
namespace K39
open PySem PySem.Spec PyProof.Rows L2 Rg
/-- places of one's own: some of the caller's (S), the rest new -/
structure Wr (S : List Addr) (H0 : Hp) (L : List (Addr × HO)) (H : Hp) : Prop where
  F : Fr L H
  k : Kp S H0 H
  n : ∀ p ∈ L, p.1 ∈ S ∨ H0 p.1 = none
theorem Wr.at1 {S : List Addr} {H0 H : Hp} {L : List (Addr × HO)} (W : Wr S H0 L H) (i : Nat) {a : Addr} {o : HO} (h : L[i]? = some (a, o)) : H a = some o := W.F.get i h
theorem Wr.put {S : List Addr} {H0 H : Hp} {L : List (Addr × HO)} (W : Wr S H0 L H) (i : Nat) {a : Addr} {o o' : HO} (h : L[i]? = some (a, o)) : Wr S H0 (L.set i (a, o')) (upd H a o') := by
  refine ⟨W.F.put i h, ?_, fun p hp => ?_⟩
  · rcases W.n _ (List.mem_of_getElem? h) with z | z
    · exact W.k.own z
    · exact W.k.put z
  · rcases List.mem_or_eq_of_mem_set hp with z | z
    · exact W.n p z
    · rw [z]
      exact W.n (a, o) (List.mem_of_getElem? h)
theorem Wr.cons {S : List Addr} {H0 H : Hp} {L : List (Addr × HO)} (W : Wr S H0 L H) {a : Addr} {o : HO} (h : H a = none) : Wr S H0 ((a, o) :: L) (upd H a o) := by
  refine ⟨W.F.cons h, W.k.new h, fun p hp => ?_⟩
  rcases List.mem_cons.mp hp with z | z
  · rw [z]
    by_cases e : a ∈ S
    · exact .inl e
    · exact .inr (W.k.free e h)
  · exact W.n p z
theorem Wr.new {S : List Addr} {H0 H H' : Hp} {L : List (Addr × HO)} (W : Wr S H0 L H) {a : Addr} {o : HO} (h : H a = none) (e : H' a = some o) (s : Same H H') : Wr S H0 ((a, o) :: L) H' := by
  refine ⟨⟨fun p hp => ?_, ?_⟩, W.k.same s, fun p hp => ?_⟩
  · rcases List.mem_cons.mp hp with rfl | hp
    · exact e
    · exact s _ _ (W.F.at_ p hp)
  · rw [List.map_cons, List.nodup_cons]
    refine ⟨fun z => ?_, W.F.nd⟩
    obtain ⟨q, hq, e2⟩ := List.mem_map.mp z
    exact W.F.held h q hq e2
  rcases List.mem_cons.mp hp with z | z
  · rw [z]
    by_cases e : a ∈ S
    · exact .inl e
    · exact .inr (W.k.free e h)
  · exact W.n p z
theorem Wr.set {S : List Addr} {H0 H H' : Hp} {L : List (Addr × HO)} (W : Wr S H0 L H) (i : Nat) {a : Addr} {o o' : HO} (h : L[i]? = some (a, o)) (e : H' a = some o') (k : Kp [a] H H') : Wr S H0 (L.set i (a, o')) H' := by
  have W2 := W.put (o' := o') i h
  refine ⟨⟨fun p hp => ?_, W2.F.nd⟩, fun x u ex n => ?_, W2.n⟩
  · by_cases z : p.1 = a
    · have := W2.F.at_ p hp
      rw [z, upd_same] at this
      rw [z, ← Option.some.inj this]
      exact e
    · have := W2.F.at_ p hp
      rw [upd_ne z] at this
      exact k.at1 this z
  · by_cases z : x = a
    · rcases W.n _ (List.mem_of_getElem? h) with q | q
      · exact absurd (z ▸ q) n
      · rw [z, q] at ex; cases ex
    · exact k.at1 (W.k x u ex n) z
theorem Wr.same {S : List Addr} {H0 H H' : Hp} {L : List (Addr × HO)} (W : Wr S H0 L H) (h : Same H H') : Wr S H0 L H' := ⟨W.F.same h, W.k.same h, W.n⟩
theorem Wr.kpL {S S' : List Addr} {H0 H H' : Hp} {L : List (Addr × HO)} (W : Wr S H0 L H) (hl : ∀ p ∈ L, ∃ xs, p.2 = .lst xs) (k : Kp S' H H') (h : ∀ x ∈ S', H0 x = none ∧ ∃ u, H x = some u ∧ ∀ xs, u ≠ .lst xs) : Wr S H0 L H' := by
  have ap : ∀ p ∈ L, p.1 ∉ S' := fun p hp z => by
    obtain ⟨_, u, eu, nu⟩ := h _ z
    obtain ⟨xs, ex⟩ := hl p hp
    have := W.F.at_ p hp
    rw [eu, ex] at this
    exact nu xs (Option.some.inj this)
  refine ⟨W.F.keep fun p hp o e => k _ _ e (ap p hp), fun x o e n => k x o (W.k x o e n) fun z => ?_, W.n⟩
  rw [(h x z).1] at e
  cases e
theorem Wr.ne {S : List Addr} {H0 H : Hp} {L : List (Addr × HO)} (W : Wr S H0 L H) (i j : Nat) {a b : Addr} {o u : HO} (h : L[i]? = some (a, o)) (h' : L[j]? = some (b, u)) (hij : i ≠ j) : a ≠ b := fun z => by
  have e1 : (L.map (·.1))[i]? = some a := by rw [List.getElem?_map, h]; rfl
  have e2 : (L.map (·.1))[j]? = some a := by rw [List.getElem?_map, h', z]; rfl
  have hi := (List.getElem?_eq_some_iff.mp e1).1
  have hj := (List.getElem?_eq_some_iff.mp e2).1
  have p := List.pairwise_iff_getElem.mp W.F.nd
  have f1 := (List.getElem?_eq_some_iff.mp e1).2
  have f2 := (List.getElem?_eq_some_iff.mp e2).2
  rcases Nat.lt_or_gt_of_ne hij with q | q
  · exact p i j hi hj q (f1.trans f2.symm)
  · exact p j i hj hi q (f2.trans f1.symm)
theorem Wr.free {q : Addr} {H0 H : Hp} {L : List (Addr × HO)} (W : Wr [q] H0 L H) (i j : Nat) {a : Addr} {o u : HO} (h : L[i]? = some (a, o)) (h' : L[j]? = some (q, u)) (hij : i ≠ j) : H0 a = none := by
  rcases W.n _ (List.mem_of_getElem? h) with z | z
  · exact absurd (List.mem_singleton.mp z) (W.ne i j h h' hij)
  · exact z
theorem nd_take {α : Type} {l : List α} (h : l.Nodup) {i : Nat} {x : α} (hx : l[i]? = some x) : x ∉ l.take i := fun z => by
  have h2 := h
  rw [← List.take_append_drop i l] at h2
  have hd : x ∈ l.drop i := List.mem_of_getElem? (i := 0) (by rw [List.getElem?_drop]; exact hx)
  exact (List.nodup_append.mp h2).2.2 x z x hd rfl
theorem LoAt.kL {CL : Addr} {H H' : Hp} {M : LoM} {S : List Addr} (h : LoAt CL H M) (k : Kp S H H') (f : ∀ x ∈ S, ∃ xs, H x = some (.lst xs)) : LoAt CL H' M := by
  have g : ∀ {x : Addr} {o : HO}, H x = some o → (∀ xs, o ≠ .lst xs) → H' x = some o := fun {x o} e n => k _ _ e fun z => by
    obtain ⟨xs, ex⟩ := f _ z
    rw [ex] at e
    exact n xs (Option.some.inj e).symm
  exact ⟨g h.ob (by intro _ z; cases z), g h.co (by intro _ z; cases z), g h.id (by intro _ z; cases z), g h.re (by intro _ z; cases z), fun p hp => g (h.ec p hp) (by intro _ z; cases z), fun p hp => g (h.ed p hp) (by intro _ z; cases z), h.cd⟩
theorem LoAt.putL {CL : Addr} {H : Hp} {M : LoM} {a : Addr} {xs : List V} {o : HO} (h : LoAt CL H M) (e : H a = some (.lst xs)) : LoAt CL (upd H a o) M := h.kL (Kp.refl.own1 (p := a)) fun x hx => by rw [List.mem_singleton.mp hx]; exact ⟨_, e⟩
def ToM.adr (T : ToM) : List Addr := T.t :: T.cpA :: T.rvA :: T.slA :: T.M.adr
theorem ToAt.keep {CL : Addr} {H H' : Hp} {T : ToM} (h : ToAt CL H T) (f : ∀ x o, x ∈ T.adr → H x = some o → H' x = some o) : ToAt CL H' T :=
  ⟨f _ _ (by simp [ToM.adr]) h.l, f _ _ (by simp [ToM.adr]) h.c, f _ _ (by simp [ToM.adr]) h.r, f _ _ (by simp [ToM.adr]) h.s, h.a.keep fun x o hx e => f x o (by simp [ToM.adr, hx]) e, h.k⟩
def bl8 : List Int := [10, 11, 12, 13, 14, 15, 16, 17]
theorem bl8_at {i : Nat} {x : Int} (h : bl8[i]? = some x) : x = 10 + i ∧ i < 8 := by
  match i, h with
  | 0, h => cases h; exact ⟨rfl, by decide⟩
  | 1, h => cases h; exact ⟨rfl, by decide⟩
  | 2, h => cases h; exact ⟨rfl, by decide⟩
  | 3, h => cases h; exact ⟨rfl, by decide⟩
  | 4, h => cases h; exact ⟨rfl, by decide⟩
  | 5, h => cases h; exact ⟨rfl, by decide⟩
  | 6, h => cases h; exact ⟨rfl, by decide⟩
  | 7, h => cases h; exact ⟨rfl, by decide⟩
  | i + 8, h => simp [bl8] at h
/-- what the two loops of the law's lot have told -/
def CpOk (k : Nat) (cp : List Int) : Prop := cp.Pairwise (· < ·) ∧ (∀ x ∈ cp, 10 ≤ x ∧ x < 10 + (k : Int)) ∧ cp.length ≤ k
theorem CpOk.add {k : Nat} {cp : List Int} (h : CpOk k cp) : CpOk (k + 1) (cp ++ [10 + (k : Int)]) := by
  obtain ⟨a, b, c⟩ := h
  refine ⟨List.pairwise_append.mpr ⟨a, List.pairwise_singleton _ _, fun x hx y hy => ?_⟩, fun x hx => ?_, by rw [List.length_append]; simp; omega⟩
  · rw [List.mem_singleton.mp hy]
    exact (b x hx).2
  · rcases List.mem_append.mp hx with z | z
    · have := b x z
      omega
    · rw [List.mem_singleton.mp z]
      omega
theorem CpOk.skip {k : Nat} {cp : List Int} (h : CpOk k cp) : CpOk (k + 1) cp := ⟨h.1, fun x hx => by have := h.2.1 x hx; omega, by have := h.2.2; omega⟩
def slotOf (f x : Int) : Int := f + 3 * (17 - x)
/-- entries of a lot that the law has kept -/
structure CdOk (H : Hp) (n f : Int) (ks : List Int) (C D : List Ent) : Prop where
  ck : C.map (·.1) = ks
  dk : D.map (·.1) = ks
  c : ∀ g ∈ C, g.2.2 = (slotOf f g.1, 100 + g.1)
  d : ∀ g ∈ D, g.2.2 = (n, g.1)
  cf : ∀ g ∈ C, H g.2.1 = none
  df : ∀ g ∈ D, H g.2.1 = none
theorem lot_ok {f n : Int} {H0 : Hp} {cp sl : List Int} {C D : List Ent} {M : LoM} {t a b p : Addr} {md : Bool} (f0 : 0 ≤ f) (hc : CpOk 8 cp) (hd : CdOk H0 n f cp.reverse C D) (eM : M.C = C) (eD : M.D = D) (en : M.n = n) (ewk : M.wk = 7) (ems : M.ms = if md = true then f + 1 else -1)
    (hp : sl.Perm (cp.reverse.map (slotOf f) ++ if md = true then [f + 1] else [])) (ha : sl.Pairwise (· ≤ ·)) : LotF ⟨t, a, b, p, M, cp, sl, f, md⟩ := by
  obtain ⟨h1, h2, h3⟩ := hc
  have lC : C.length = cp.length := by rw [← List.length_map (f := (·.1)), hd.ck, List.length_reverse]
  have lD : D.length = cp.length := by rw [← List.length_map (f := (·.1)), hd.dk, List.length_reverse]
  have nr : cp.reverse.Nodup := by
    rw [List.Nodup, List.pairwise_reverse]
    exact h1.imp fun h => by omega
  have rs : (cp.reverse.map (slotOf f)).Nodup := by
    rw [List.Nodup, List.pairwise_map, List.pairwise_reverse]
    exact h1.imp fun {x y} h => by unfold slotOf; omega
  have eCs : C.map (fun g => g.2.2.1) = cp.reverse.map (slotOf f) := by
    rw [← hd.ck, List.map_map]
    exact List.map_congr_left fun g hg => by rw [hd.c g hg]; rfl
  have pos : ∀ k ∈ cp.reverse.map (slotOf f), 0 ≤ k ∧ k ≠ f + 1 := fun k hk => by
    obtain ⟨x, hx, rfl⟩ := List.mem_map.mp hk
    have := h2 x (List.mem_reverse.mp hx)
    unfold slotOf
    omega
  have nds : (cp.reverse.map (slotOf f) ++ if md = true then [f + 1] else []).Nodup := by
    rw [List.nodup_append]
    refine ⟨rs, by cases md <;> simp, fun k hk l hl => ?_⟩
    have := pos k hk
    cases md with
    | true =>
      have : l = f + 1 := by simpa using hl
      omega
    | false => simp at hl
  refine ⟨ewk, ems, fun g hg => ?_, fun g hg => ?_, ?_, ?_, ?_, ?_, h1, fun x => ?_, fun x => ?_, lt_of_le_nodup sl ha (hp.nodup_iff.mpr nds), fun k => ?_, fun x hx => ?_⟩
  · show g.2.2 = (M.n, g.1)
    rw [en]
    exact hd.d g (eD ▸ hg)
  · exact hd.c g (eM ▸ hg)
  · show (M.C.map (·.1)).Nodup
    rw [eM, hd.ck]
    exact nr
  · show (M.D.map (·.1)).Nodup
    rw [eD, hd.dk]
    exact nr
  · show M.C.length < 60
    rw [eM]
    omega
  · show M.D.length < 60
    rw [eD]
    omega
  · show x ∈ cp ↔ x ∈ M.C.map (·.1)
    rw [eM, hd.ck, List.mem_reverse]
  · show x ∈ cp ↔ x ∈ M.D.map (·.1)
    rw [eD, hd.dk, List.mem_reverse]
  · show k ∈ sl ↔ k ∈ (M.C.map (fun g => g.2.2.1) ++ [M.ms]).filter fun k => !decide (k = -1)
    rw [hp.mem_iff, eM, eCs, ems, List.mem_filter, List.mem_append, List.mem_append]
    cases md with
    | true =>
      simp only [if_true, List.mem_singleton, Bool.not_eq_true', decide_eq_false_iff_not]
      constructor
      · rintro (z | z)
        · exact ⟨.inl z, by have := pos k z; omega⟩
        · exact ⟨.inr z, by omega⟩
      · exact fun z => z.1
    | false =>
      simp only [Bool.false_eq_true, if_false, List.mem_singleton, List.not_mem_nil, or_false, Bool.not_eq_true', decide_eq_false_iff_not]
      constructor
      · exact fun z => ⟨.inl z, by have := pos k z; omega⟩
      · rintro ⟨z | z, q⟩
        · exact z
        · exact absurd z q
  · have := h2 x hx
    omega
end K39
namespace K39
open PySem PySem.Spec PyProof.Rows L2 Rg
theorem rev_at {l : List Int} {i : Nat} {x : V} (hi : i < l.length) (h : (l.map V.int)[l.length - 1 - i]? = some x) : ∃ y, x = .int y ∧ l.reverse[i]? = some y := by
  rw [List.getElem?_map] at h
  obtain ⟨y, hy, rfl⟩ := Option.map_eq_some_iff.mp h
  exact ⟨y, rfl, by rw [List.getElem?_reverse hi]; exact hy⟩
section
variable {P : Program} {w0_ : World} {K : PySem.W.Frag} {mg : Str → Option Value} {base : Heap}
def sp_Llot (CL : Addr) : Sp := fun vs H Q _ => ∃ (fa : Addr) (fs : List Int) (n f : Int), vs = [.ref fa, .int n, .int f] ∧ H fa = some (.lst (fs.map V.int)) ∧ 0 ≤ f ∧
  ∀ (H' : Hp) (t : ToM) (fs' : List Int), Kp [fa] H H' → H' fa = some (.lst (fs'.map V.int)) → ToAt CL H' t → LotF t → t.M.n = n → (∀ x ∈ t.adr, H x = none) → Q (.ref t.t) H'
theorem ok_Llot (T : Tx K mg) : FnOk P w0_ K mg base CX0 3 T.f_Llot T.fd_Llot ["_law_feed_here", "_law_number", "_law_first_slot"] (sp_Llot T.C_Lot) := by
  refine T.F_Llot.ok sc_Llot (fun vs H Q E h => ?_) (fun cdv A0 outer s H vs Q E hr h => ?_)
  · obtain ⟨_, _, _, _, rfl, _⟩ := h; rfl
  · obtain ⟨fa, fs, n, f, rfl, ef, f0, k⟩ := h
    have hr1 := hr.mono (show 1 ≤ 2 by decide)
    refine ⟨_, (pss_cons (ps_set (i := 3) sc_Llot.nd rfl (.inl rfl) (pe_lst (pa_cons pe_int (pa_cons pe_int (pa_cons pe_int (pa_cons pe_int (pa_cons pe_int (pa_cons pe_int (pa_cons pe_int (pa_cons pe_int pa_nil))))))))))
      (pss_cons (ps_set (i := 4) sc_Llot.nd rfl (.inl rfl) (pe_make T.mk_Lot (ok_Lot_init T) hr rfl T.mg_Lot (b_Lot___init__ T) .nil pass0 (pa_cons (pv 1) (pa_cons pe_non pa_nil))))
      (pss_cons (ps_set (i := 5) sc_Llot.nd rfl (.inl rfl) (pe_lst pa_nil))
      (pss_cons (ps_set (i := 6) sc_Llot.nd rfl (.inl rfl) (pe_lst pa_nil))
      (pss_cons (ps_for PassesOwn.never rfl (pi_list (pv 3)) (pg_name (i := 7) sc_Llot.nd rfl (.inl rfl))
        (pss_cons (ps_set (i := 8) sc_Llot.nd rfl (.inl rfl) (pe_call (ok_Lpick T) hr1 rfl T.mg_Lpick T.F_Lpick.kp (b_Lpick T) .nil pass0 (pa_cons (pv 0) (pa_cons pe_int pa_nil))))
        (Evl.pss_cut (ps_if (PW.pt (pw_or (pt_cmpR op_eq (pv 8) pe_int (nomark _)) (pw_or1 (pt_cmpR op_eq (pv 8) pe_int (nomark _)))))
          (pss_one (ps_expr (pe_bm PySem.F.plainAttrs_list PySem.F.slot_list_append PySem.F.type_list_append mt_append (pv 5) (pa_cons (pv 7) pa_nil))))
          pss_nil)
        (pss_one (ps_if (PW.pt (pw_or (pt_cmpR op_eq (pv 8) pe_int (nomark _)) (pw_or1 (pt_cmpR op_eq (pv 8) pe_int (nomark _)))))
          (pss_one (ps_expr (pe_bm PySem.F.plainAttrs_list PySem.F.slot_list_append PySem.F.type_list_append mt_append (pv 6) (pa_cons (pv 7) pa_nil))))
          pss_nil)))))
      (pss_cons (ps_set (i := 9) sc_Llot.nd rfl (.inl rfl) (pe_lst pa_nil))
      (pss_cons (ps_for PassesOwn.never rfl (pi_reversed (by rfl) T.b_reversed (pa_cons (pv 5) pa_nil)) (pg_name (i := 7) sc_Llot.nd rfl (.inl rfl))
        (pss_cons (ps_set (i := 10) sc_Llot.nd rfl (.inl rfl) (pe_op op_add (pv 2) (pe_op op_mul pe_int (pe_op op_sub pe_int (pv 7)))))
        (pss_cons (ps_expr (pe_bm PySem.F.plainAttrs_list PySem.F.slot_list_append PySem.F.type_list_append mt_append (pv 9) (pa_cons (pv 10) pa_nil)))
        (pss_one (ps_expr (pe_meth (pv 4) T.cl_Lot T.m_Lot_keep_copy (ok_keep_copy T) hr1 (b_Lot_keep_copy T) .nil pass0 (pa_cons (pv 7) (pa_cons (pv 10) (pa_cons (pe_op op_add pe_int (pv 7)) (pa_cons (pe_tup (pa_cons (pv 1) (pa_cons (pv 7) pa_nil))) pa_nil))))))))))
      (pss_cons (ps_set (i := 11) sc_Llot.nd rfl (.inl rfl) (pe_callTy call_list_of rfl T.b_list (by decide +kernel) (pa_cons (pv 6) pa_nil)))
      (pss_cons (ps_set (i := 12) sc_Llot.nd rfl (.inl rfl) (pe_cmpR op_ne (pe_call (ok_Lpick T) hr1 rfl T.mg_Lpick T.F_Lpick.kp (b_Lpick T) .nil pass0 (pa_cons (pv 0) (pa_cons pe_int pa_nil))) pe_int (nomark _)))
      (Evl.pss_cut (ps_if (pt_val (pv 12))
        (pss_cons (ps_expr (pe_meth (pv 4) T.cl_Lot T.m_Lot_keep_mark (ok_keep_mark T) hr1 (b_Lot_keep_mark T) .nil pass0 (pa_cons (pe_op op_add (pv 2) pe_int) (pa_cons pe_int (pa_cons (pv 11) pa_nil)))))
        (pss_one (ps_expr (pe_bm PySem.F.plainAttrs_list PySem.F.slot_list_append PySem.F.type_list_append mt_append (pv 9) (pa_cons (pe_op op_add (pv 2) pe_int) pa_nil)))))
        (pss_one (ps_expr (pe_meth (pv 4) T.cl_Lot T.m_Lot_keep_mark (ok_keep_mark T) hr1 (b_Lot_keep_mark T) .nil pass0 (pa_cons (pe_un un_neg pe_int) (pa_cons pe_int (pa_cons (pv 11) pa_nil)))))))
      (pss_cons (ps_expr (pe_bm PySem.F.plainAttrs_list PySem.F.slot_list_append PySem.F.type_list_append mt_append (pv 11) (pa_cons pe_int pa_nil)))
      (pss_one (ps_ret (pe_lst (pa_cons (pv 4) (pa_cons (pv 1) (pa_cons (pv 5) (pa_cons (pv 6) (pa_cons (pe_callB cr_sortedI rfl T.b_sorted (by decide +kernel) (pa_cons (pv 9) pa_nil)) (pa_cons (pv 2) (pa_cons (pv 12) pa_nil))))))))))))))))))))), ?_⟩
    have W0 : Wr [fa] H [(fa, .lst (fs.map V.int))] H := ⟨⟨fun p hp => by rw [List.mem_singleton.mp hp]; exact ef, by simp⟩, Kp.refl, fun p hp => .inl (by rw [List.mem_singleton.mp hp]; simp)⟩
    refine ⟨by show 8 ≤ sizeLine; decide, ?_⟩
    (intro l3 n_l3; generalize he_l3 : upd _ l3 _ = H1; obtain ⟨e_l3, s_l3, f_l3⟩ := new_f he_l3 n_l3; clear he_l3)
    have W1 : Wr [fa] H [(l3, .lst (bl8.map V.int)), (fa, .lst (fs.map V.int))] H1 := W0.new n_l3 e_l3 s_l3
    ((try dsimp only); (first | (refine Rg.sg (σ' := [some (.ref fa), some (.int n), some (.int f), some (.ref l3), none, none, none, none, none, none, none, none, none]) ?_ ?_; focus exact rfl) | (refine Rg.sgG (σ' := [some (.ref fa), some (.int n), some (.int f), some (.ref l3), none, none, none, none, none, none, none, none, none]) ?_ ?_; focus exact rfl)))
    refine ⟨_, rfl, fun o dx no ndx ned => ?_⟩
    have s4 : Same H1 (upd (upd H1 dx (.own o)) o (.ins T.C_Lot dx [])) := (same_upd ndx).trans (same_upd (by rw [upd_ne ned.symm]; exact no))
    refine ⟨o, dx, _, rfl, upd_same, fun H5 c d r k5 L5 nc nd nr => ⟨rfl, ?_⟩⟩
    have S5 : Same H1 H5 := fun y u e => k5 y u (s4 _ _ e) (by simp [ne_of_none e no])
    have W5 := W1.same S5
    have z1 : ∀ {x : Addr}, H1 x = none → H x = none := fun e => s_l3.free e
    have noH := z1 no
    have ncH := z1 (s4.free nc)
    have ndH := z1 (s4.free nd)
    have nrH := z1 (s4.free nr)
    clear s4 k5
    ((try dsimp only); (first | (refine Rg.sg (σ' := [some (.ref fa), some (.int n), some (.int f), some (.ref l3), some (.ref o), none, none, none, none, none, none, none, none]) ?_ ?_; focus exact rfl) | (refine Rg.sgG (σ' := [some (.ref fa), some (.int n), some (.int f), some (.ref l3), some (.ref o), none, none, none, none, none, none, none, none]) ?_ ?_; focus exact rfl)))
    refine ⟨by show 0 ≤ sizeLine; decide, ?_⟩
    (intro a n_a; generalize he_a : upd _ a _ = H6; obtain ⟨e_a, s_a, f_a⟩ := new_f he_a n_a; clear he_a)
    have W6 : Wr [fa] H [(a, .lst (([] : List Int).map V.int)), (l3, .lst (bl8.map V.int)), (fa, .lst (fs.map V.int))] H6 := W5.new n_a e_a s_a
    ((try dsimp only); (first | (refine Rg.sg (σ' := [some (.ref fa), some (.int n), some (.int f), some (.ref l3), some (.ref o), some (.ref a), none, none, none, none, none, none, none]) ?_ ?_; focus exact rfl) | (refine Rg.sgG (σ' := [some (.ref fa), some (.int n), some (.int f), some (.ref l3), some (.ref o), some (.ref a), none, none, none, none, none, none, none]) ?_ ?_; focus exact rfl)))
    refine ⟨by show 0 ≤ sizeLine; decide, ?_⟩
    (intro b n_b; generalize he_b : upd _ b _ = H7; obtain ⟨e_b, s_b, f_b⟩ := new_f he_b n_b; clear he_b)
    have W7 : Wr [fa] H [(b, .lst (([] : List Int).map V.int)), (a, .lst (([] : List Int).map V.int)), (l3, .lst (bl8.map V.int)), (fa, .lst (fs.map V.int))] H7 := W6.new n_b e_b s_b
    ((try dsimp only); (first | (refine Rg.sg (σ' := [some (.ref fa), some (.int n), some (.int f), some (.ref l3), some (.ref o), some (.ref a), some (.ref b), none, none, none, none, none, none]) ?_ ?_; focus exact rfl) | (refine Rg.sgG (σ' := [some (.ref fa), some (.int n), some (.int f), some (.ref l3), some (.ref o), some (.ref a), some (.ref b), none, none, none, none, none, none]) ?_ ?_; focus exact rfl)))
    have L7 := (L5.same s_a).same s_b
    refine ⟨_, rfl, l3, rfl, ⟨_, .of (W7.at1 2 rfl)⟩, ?_⟩
    refine for_list (K := K) (a := l3) (xs := bl8.map V.int) (fun i σ H' => ∃ (v7 v8 : Option V) (cp rv fs' : List Int), σ = [some (.ref fa), some (.int n), some (.int f), some (.ref l3), some (.ref o), some (.ref a), some (.ref b), v7, v8, none, none, none, none] ∧ Wr [fa] H [(b, .lst (rv.map V.int)), (a, .lst (cp.map V.int)), (l3, .lst (bl8.map V.int)), (fa, .lst (fs'.map V.int))] H' ∧ LoAt T.C_Lot H' ⟨o, dx, c, d, r, n, 0, -1, [], [], []⟩ ∧ CpOk i cp ∧ rv.length ≤ i) ⟨none, none, [], [], fs, rfl, W7, L7, ⟨List.Pairwise.nil, by simp, by simp⟩, by simp⟩ (fun i σ H' _ ⟨_, _, _, _, _, _, W, _⟩ => .of (W.at1 2 rfl)) ?_ ?_
    · rintro i y σ H8 hi ⟨v7, v8, cp, rv, fs8, rfl, W8, L8, hcp, hrv⟩
      rw [List.getElem?_map] at hi
      obtain ⟨x, hx, rfl⟩ := Option.map_eq_some_iff.mp hi
      obtain ⟨rfl, hi8⟩ := bl8_at hx
      ((try dsimp only); (first | (refine Rg.sg (σ' := [some (.ref fa), some (.int n), some (.int f), some (.ref l3), some (.ref o), some (.ref a), some (.ref b), some (.int (10 + (i : Int))), v8, none, none, none, none]) ?_ ?_; focus exact rfl) | (refine Rg.sgG (σ' := [some (.ref fa), some (.int n), some (.int f), some (.ref l3), some (.ref o), some (.ref a), some (.ref b), some (.int (10 + (i : Int))), v8, none, none, none, none]) ?_ ?_; focus exact rfl)))
      refine ⟨_, rfl, fa, fs8, 5, rfl, W8.at1 3 rfl, by decide, fun q fs9 q0 q5 _ => ?_⟩
      (generalize he_z : upd _ fa _ = H9; obtain ⟨e_z, k_z, f_z⟩ := own_f he_z; clear he_z)
      have W9 : Wr [fa] H [(b, .lst (rv.map V.int)), (a, .lst (cp.map V.int)), (l3, .lst (bl8.map V.int)), (fa, .lst (fs9.map V.int))] H9 := W8.set 3 rfl e_z k_z
      have L9 := L8.kL k_z fun x hx => by rw [List.mem_singleton.mp hx]; exact ⟨_, W8.at1 3 rfl⟩
      ((try dsimp only); (first | (refine Rg.sg (σ' := [some (.ref fa), some (.int n), some (.int f), some (.ref l3), some (.ref o), some (.ref a), some (.ref b), some (.int (10 + (i : Int))), some (.int q), none, none, none, none]) ?_ ?_; focus exact rfl) | (refine Rg.sgG (σ' := [some (.ref fa), some (.int n), some (.int f), some (.ref l3), some (.ref o), some (.ref a), some (.ref b), some (.int (10 + (i : Int))), some (.int q), none, none, none, none]) ?_ ?_; focus exact rfl)))
      refine ⟨fun σ H' => ∃ cp' : List Int, σ = [some (.ref fa), some (.int n), some (.int f), some (.ref l3), some (.ref o), some (.ref a), some (.ref b), some (.int (10 + (i : Int))), some (.int q), none, none, none, none] ∧ Wr [fa] H [(b, .lst (rv.map V.int)), (a, .lst (cp'.map V.int)), (l3, .lst (bl8.map V.int)), (fa, .lst (fs9.map V.int))] H' ∧ LoAt T.C_Lot H' ⟨o, dx, c, d, r, n, 0, -1, [], [], []⟩ ∧ CpOk (i + 1) cp', ?_, ?_⟩
      · have yes : ∀ {H' : Hp}, H' a = some (.lst (cp.map V.int ++ [V.int (10 + (i : Int))])) → Kp [a] H9 H' → ∃ cp' : List Int, [some (V.ref fa), some (V.int n), some (V.int f), some (V.ref l3), some (V.ref o), some (V.ref a), some (V.ref b), some (V.int (10 + (i : Int))), some (V.int q), none, none, none, none] = [some (V.ref fa), some (V.int n), some (V.int f), some (V.ref l3), some (V.ref o), some (V.ref a), some (V.ref b), some (V.int (10 + (i : Int))), some (V.int q), none, none, none, none] ∧ Wr [fa] H [(b, .lst (rv.map V.int)), (a, .lst (cp'.map V.int)), (l3, .lst (bl8.map V.int)), (fa, .lst (fs9.map V.int))] H' ∧ LoAt T.C_Lot H' ⟨o, dx, c, d, r, n, 0, -1, [], [], []⟩ ∧ CpOk (i + 1) cp' := fun {H'} e ky => by
          have e' : H' a = some (.lst ((cp ++ [10 + (i : Int)]).map V.int)) := by rw [e, List.map_append]; rfl
          exact ⟨_, rfl, W9.set 1 rfl e' ky, L9.kL ky fun x hx => by rw [List.mem_singleton.mp hx]; exact ⟨_, W9.at1 1 rfl⟩, hcp.add⟩
        have lb : (cp.map V.int).length < sizeLine := by rw [List.length_map]; exact lt_line (by have := hcp.2.2; omega)
        have ea := W9.at1 1 rfl
        refine ⟨_, rfl, rfl, _, rfl, ?_⟩
        refine wI (fun _ => ?_) fun _ => ?_
        · refine ⟨_, rfl, .inl ⟨rfl, _, .inl (.inl ea)⟩, _, rfl, a, _, _, rfl, rfl, ea, lb, ?_⟩
          (generalize he_y : upd _ a _ = H10; obtain ⟨e_y, k_y, f_y⟩ := own_f he_y; clear he_y)
          exact yes e_y k_y
        refine ⟨_, rfl, rfl, _, rfl, ?_⟩
        refine wI (fun _ => ?_) fun _ => ?_
        · refine ⟨_, rfl, .inl ⟨rfl, _, .inl (.inl ea)⟩, _, rfl, a, _, _, rfl, rfl, ea, lb, ?_⟩
          (generalize he_y : upd _ a _ = H10; obtain ⟨e_y, k_y, f_y⟩ := own_f he_y; clear he_y)
          exact yes e_y k_y
        · exact ⟨cp, rfl, W9, L9, hcp.skip⟩
      rintro σ H10 ⟨cp', rfl, W10, L10, hcp'⟩
      have eb := W10.at1 0 rfl
      have lb : (rv.map V.int).length < sizeLine := by rw [List.length_map]; exact lt_line (by omega)
      refine ⟨_, rfl, rfl, _, rfl, ?_⟩
      refine wI (fun _ => ?_) fun _ => ?_
      · refine ⟨_, rfl, .inl ⟨rfl, _, .inl (.inl eb)⟩, _, rfl, b, _, _, rfl, rfl, eb, lb, ?_⟩
        (generalize he_y : upd _ b _ = H11; obtain ⟨e_y, k_y, f_y⟩ := own_f he_y; clear he_y)
        have e' : H11 b = some (.lst ((rv ++ [10 + (i : Int)]).map V.int)) := by rw [e_y, List.map_append]; rfl
        exact ⟨_, _, cp', rv ++ [10 + (i : Int)], fs9, rfl, W10.set 0 rfl e' k_y, L10.kL k_y fun x hx => by rw [List.mem_singleton.mp hx]; exact ⟨_, eb⟩, hcp', by rw [List.length_append]; simp; omega⟩
      refine ⟨_, rfl, rfl, _, rfl, ?_⟩
      refine wI (fun _ => ?_) fun _ => ?_
      · refine ⟨_, rfl, .inl ⟨rfl, _, .inl (.inl eb)⟩, _, rfl, b, _, _, rfl, rfl, eb, lb, ?_⟩
        (generalize he_y : upd _ b _ = H11; obtain ⟨e_y, k_y, f_y⟩ := own_f he_y; clear he_y)
        have e' : H11 b = some (.lst ((rv ++ [10 + (i : Int)]).map V.int)) := by rw [e_y, List.map_append]; rfl
        exact ⟨_, _, cp', rv ++ [10 + (i : Int)], fs9, rfl, W10.set 0 rfl e' k_y, L10.kL k_y fun x hx => by rw [List.mem_singleton.mp hx]; exact ⟨_, eb⟩, hcp', by rw [List.length_append]; simp; omega⟩
      · exact ⟨_, _, cp', rv, fs9, rfl, W10, L10, hcp', by omega⟩
    rintro σ H8 ⟨v7, v8, cp, rv, fs8, rfl, W8, L8, hcp, hrv⟩
    rw [List.length_map] at hcp hrv
    have hcp : CpOk 8 cp := hcp
    have hrv : rv.length ≤ 8 := hrv
    have hcl := hcp.2.2
    refine ⟨by show 0 ≤ sizeLine; decide, ?_⟩
    (intro s n_s; generalize he_s : upd _ s _ = H9; obtain ⟨e_s, s_s, f_s⟩ := new_f he_s n_s; clear he_s)
    have W9 : Wr [fa] H [(s, .lst (([] : List Int).map V.int)), (b, .lst (rv.map V.int)), (a, .lst (cp.map V.int)), (l3, .lst (bl8.map V.int)), (fa, .lst (fs8.map V.int))] H9 := W8.new n_s e_s s_s
    have L9 := L8.same s_s
    ((try dsimp only); (first | (refine Rg.sg (σ' := [some (.ref fa), some (.int n), some (.int f), some (.ref l3), some (.ref o), some (.ref a), some (.ref b), v7, v8, some (.ref s), none, none, none]) ?_ ?_; focus exact rfl) | (refine Rg.sgG (σ' := [some (.ref fa), some (.int n), some (.int f), some (.ref l3), some (.ref o), some (.ref a), some (.ref b), v7, v8, some (.ref s), none, none, none]) ?_ ?_; focus exact rfl)))
    have ncr : cp.reverse.Nodup := by
      rw [List.Nodup, List.pairwise_reverse]
      exact hcp.1.imp fun h => by omega
    refine ⟨_, rfl, a, _, rfl, .of (W9.at1 2 rfl), ?_⟩
    refine for_it walk_rev (fun i σ H' => ∃ (v7 v10 : Option V) (C D : List Ent), σ = [some (.ref fa), some (.int n), some (.int f), some (.ref l3), some (.ref o), some (.ref a), some (.ref b), v7, v8, some (.ref s), v10, none, none] ∧ Wr [fa] H [(s, .lst (((cp.reverse.take i).map (slotOf f)).map V.int)), (b, .lst (rv.map V.int)), (a, .lst (cp.map V.int)), (l3, .lst (bl8.map V.int)), (fa, .lst (fs8.map V.int))] H' ∧ LoAt T.C_Lot H' ⟨o, dx, c, d, r, n, 0, -1, [], C, D⟩ ∧ CdOk H n f (cp.reverse.take i) C D)
      ⟨v7, none, [], [], rfl, W9, L9, ⟨rfl, rfl, by simp, by simp, by simp, by simp⟩⟩ (fun i σ H' _ ⟨_, _, _, _, _, W, _⟩ => .of (W.at1 2 rfl)) ?_ ?_
    · rintro i x σ H10 H'' hi ⟨v7, v10, C, D, rfl, W10, L10, hcd⟩ ⟨rfl, hx⟩
      rw [List.length_map] at hi hx
      have ea := W10.at1 2 rfl
      obtain ⟨y, rfl, hy⟩ := rev_at hi hx
      have hym := hcp.2.1 y (List.mem_reverse.mp (List.mem_of_getElem? hy))
      have fC : ∀ g ∈ C, g.1 ≠ y := fun g hg z => nd_take ncr hy (by rw [← hcd.ck, ← z]; exact List.mem_map.mpr ⟨g, hg, rfl⟩)
      have fD : ∀ g ∈ D, g.1 ≠ y := fun g hg z => nd_take ncr hy (by rw [← hcd.dk, ← z]; exact List.mem_map.mpr ⟨g, hg, rfl⟩)
      have lC : C.length ≤ 8 := by rw [← List.length_map (f := (·.1)), hcd.ck]; exact Nat.le_trans (List.length_take_le' _ _) (by rw [List.length_reverse]; exact hcl)
      have lD : D.length ≤ 8 := by rw [← List.length_map (f := (·.1)), hcd.dk]; exact Nat.le_trans (List.length_take_le' _ _) (by rw [List.length_reverse]; exact hcl)
      ((try dsimp only); (first | (refine Rg.sg (σ' := [some (.ref fa), some (.int n), some (.int f), some (.ref l3), some (.ref o), some (.ref a), some (.ref b), some (.int y), v8, some (.ref s), v10, none, none]) ?_ ?_; focus exact rfl) | (refine Rg.sgG (σ' := [some (.ref fa), some (.int n), some (.int f), some (.ref l3), some (.ref o), some (.ref a), some (.ref b), some (.int y), v8, some (.ref s), v10, none, none]) ?_ ?_; focus exact rfl)))
      refine ⟨_, rfl, _, rfl, _, _, rfl, rfl, _, _, rfl, rfl, .inl ⟨by decide, by decide⟩, _, _, rfl, rfl, ?_⟩
      ((try dsimp only); (first | (refine Rg.sg (σ' := [some (.ref fa), some (.int n), some (.int f), some (.ref l3), some (.ref o), some (.ref a), some (.ref b), some (.int y), v8, some (.ref s), some (.int (slotOf f y)), none, none]) ?_ ?_; focus exact rfl) | (refine Rg.sgG (σ' := [some (.ref fa), some (.int n), some (.int f), some (.ref l3), some (.ref o), some (.ref a), some (.ref b), some (.int y), v8, some (.ref s), some (.int (slotOf f y)), none, none]) ?_ ?_; focus exact rfl)))
      have es := W10.at1 0 rfl
      refine ⟨_, rfl, .inl ⟨rfl, _, .inl (.inl es)⟩, _, rfl, s, _, _, rfl, rfl, es, by rw [List.length_map, List.length_map]; exact lt_line (Nat.le_trans (List.length_take_le' _ _) (by rw [List.length_reverse]; omega)), ?_⟩
      (generalize he_x : upd _ s _ = H11; obtain ⟨e_x, k_x, f_x⟩ := own_f he_x; clear he_x)
      have ex' : H11 s = some (.lst (((cp.reverse.take (i + 1)).map (slotOf f)).map V.int)) := by rw [e_x, take_getG hy, List.map_append, List.map_append]; rfl
      have W11 : Wr [fa] H [(s, .lst (((cp.reverse.take (i + 1)).map (slotOf f)).map V.int)), (b, .lst (rv.map V.int)), (a, .lst (cp.map V.int)), (l3, .lst (bl8.map V.int)), (fa, .lst (fs8.map V.int))] H11 := W10.set 0 rfl ex' k_x
      have L11 := L10.kL k_x fun x hx => by rw [List.mem_singleton.mp hx]; exact ⟨_, es⟩
      refine ⟨_, rfl, o, _, _, rfl, L11.ob, rfl, _, rfl, _, rfl, _, rfl, _, _, rfl, rfl, _, rfl, _, rfl, by show 2 ≤ sizeLine; decide, ?_⟩
      (intro t n_t; generalize he_t : upd _ t _ = H12; obtain ⟨e_t, s_t, f_t⟩ := new_f he_t n_t; clear he_t)
      have ntH : H t = none := W11.k.free (fun z => by rw [List.mem_singleton.mp z] at n_t; rw [W11.at1 4 rfl] at n_t; cases n_t) n_t
      have W12 := W11.same s_t
      have L12 := L11.same s_t
      refine ⟨y, _, _, t, (n, y), ⟨o, dx, c, d, r, n, 0, -1, [], C, D⟩, rfl, L12, by show C.length < 1000; omega, by show D.length < 1000; omega, fC, fD, e_t, fun H13 q k13 nq L13 => ?_⟩
      have nqH : H q = none := W12.k.free (fun z => by rw [List.mem_singleton.mp z] at nq; rw [W12.at1 4 rfl] at nq; cases nq) nq
      refine ⟨_, _, C ++ [(y, q, (slotOf f y, 100 + y))], D ++ [(y, t, (n, y))], rfl, W12.kpL ?_ k13 fun x hx => ?_, L13, ?_⟩
      · intro p hp
        simp only [List.mem_cons, List.not_mem_nil, or_false] at hp
        rcases hp with rfl | rfl | rfl | rfl | rfl <;> exact ⟨_, rfl⟩
      · simp only [List.mem_cons, List.not_mem_nil, or_false] at hx
        rcases hx with rfl | rfl
        · exact ⟨ncH, _, L12.co, fun _ z => by cases z⟩
        · exact ⟨ndH, _, L12.id, fun _ z => by cases z⟩
      · rw [take_getG hy]
        refine ⟨by rw [List.map_append, hcd.ck]; rfl, by rw [List.map_append, hcd.dk]; rfl, ?_, ?_, ?_, ?_⟩
        · intro g hg
          rcases List.mem_append.mp hg with z | z
          · exact hcd.c g z
          · rw [List.mem_singleton.mp z]
        · intro g hg
          rcases List.mem_append.mp hg with z | z
          · exact hcd.d g z
          · rw [List.mem_singleton.mp z]
        · intro g hg
          rcases List.mem_append.mp hg with z | z
          · exact hcd.cf g z
          · rw [List.mem_singleton.mp z]; exact nqH
        · intro g hg
          rcases List.mem_append.mp hg with z | z
          · exact hcd.df g z
          · rw [List.mem_singleton.mp z]; exact ntH
    rintro σ H10 ⟨v7, v10, C, D, rfl, W10, L10, hcd⟩
    rw [List.length_map] at W10 hcd
    have etk : cp.reverse.take cp.length = cp.reverse := by rw [← List.length_reverse, List.take_length]
    rw [etk] at W10 hcd
    refine ⟨_, rfl, b, _, rfl, .inl (.of (W10.at1 1 rfl)), ?_⟩
    (intro h n_h; generalize he_h : upd _ h _ = H11; obtain ⟨e_h, s_h, f_h⟩ := new_f he_h n_h; clear he_h)
    have W11 : Wr [fa] H [(h, .lst (rv.map V.int)), (s, .lst ((cp.reverse.map (slotOf f)).map V.int)), (b, .lst (rv.map V.int)), (a, .lst (cp.map V.int)), (l3, .lst (bl8.map V.int)), (fa, .lst (fs8.map V.int))] H11 := W10.new n_h e_h s_h
    have L11 := L10.same s_h
    ((try dsimp only); (first | (refine Rg.sg (σ' := [some (.ref fa), some (.int n), some (.int f), some (.ref l3), some (.ref o), some (.ref a), some (.ref b), v7, v8, some (.ref s), v10, some (.ref h), none]) ?_ ?_; focus exact rfl) | (refine Rg.sgG (σ' := [some (.ref fa), some (.int n), some (.int f), some (.ref l3), some (.ref o), some (.ref a), some (.ref b), v7, v8, some (.ref s), v10, some (.ref h), none]) ?_ ?_; focus exact rfl)))
    refine ⟨_, rfl, fa, fs8, 4, rfl, W11.at1 5 rfl, by decide, fun m fs12 m0 m4 _ => ?_⟩
    (generalize he_z : upd _ fa _ = H12; obtain ⟨e_z, k_z, f_z⟩ := own_f he_z; clear he_z)
    have W12 : Wr [fa] H [(h, .lst (rv.map V.int)), (s, .lst ((cp.reverse.map (slotOf f)).map V.int)), (b, .lst (rv.map V.int)), (a, .lst (cp.map V.int)), (l3, .lst (bl8.map V.int)), (fa, .lst (fs12.map V.int))] H12 := W11.set 5 rfl e_z k_z
    have L12 := L11.kL k_z fun x hx => by rw [List.mem_singleton.mp hx]; exact ⟨_, W11.at1 5 rfl⟩
    refine ⟨rfl, ?_⟩
    obtain ⟨md, emd⟩ : ∃ md : Bool, md = !decide (V.int m = V.int 1) := ⟨_, rfl⟩
    rw [← emd]
    clear emd
    ((try dsimp only); (first | (refine Rg.sg (σ' := [some (.ref fa), some (.int n), some (.int f), some (.ref l3), some (.ref o), some (.ref a), some (.ref b), v7, v8, some (.ref s), v10, some (.ref h), some (.bl md)]) ?_ ?_; focus exact rfl) | (refine Rg.sgG (σ' := [some (.ref fa), some (.int n), some (.int f), some (.ref l3), some (.ref o), some (.ref a), some (.ref b), v7, v8, some (.ref s), v10, some (.ref h), some (.bl md)]) ?_ ?_; focus exact rfl)))
    have lists : ∀ {A B Z X Y V' : List Int}, ∀ p ∈ [(h, HO.lst (A.map V.int)), (s, HO.lst (B.map V.int)), (b, HO.lst (Z.map V.int)), (a, HO.lst (X.map V.int)), (l3, HO.lst (Y.map V.int)), (fa, HO.lst (V'.map V.int))], ∃ xs, p.2 = HO.lst xs := by
      intro A B Z X Y V' p hp
      simp only [List.mem_cons, List.not_mem_nil, or_false] at hp
      rcases hp with rfl | rfl | rfl | rfl | rfl | rfl <;> exact ⟨_, rfl⟩
    refine ⟨fun σ H' => ∃ r' : Addr, σ = [some (.ref fa), some (.int n), some (.int f), some (.ref l3), some (.ref o), some (.ref a), some (.ref b), v7, v8, some (.ref s), v10, some (.ref h), some (.bl md)] ∧ Wr [fa] H [(h, .lst (rv.map V.int)), (s, .lst ((cp.reverse.map (slotOf f) ++ if md = true then [f + 1] else []).map V.int)), (b, .lst (rv.map V.int)), (a, .lst (cp.map V.int)), (l3, .lst (bl8.map V.int)), (fa, .lst (fs12.map V.int))] H' ∧ LoAt T.C_Lot H' ⟨o, dx, c, d, r', n, 7, if md = true then f + 1 else -1, rv, C, D⟩ ∧ H r' = none, ?_, ?_⟩
    · have nr' : ∀ {r' : Addr}, H12 r' = none → H r' = none := fun {r'} e => W12.k.free (fun z => by rw [List.mem_singleton.mp z] at e; rw [W12.at1 5 rfl] at e; cases e) e
      have km : ∀ {H' : Hp}, Kp [o] H12 H' → Wr [fa] H [(h, .lst (rv.map V.int)), (s, .lst ((cp.reverse.map (slotOf f)).map V.int)), (b, .lst (rv.map V.int)), (a, .lst (cp.map V.int)), (l3, .lst (bl8.map V.int)), (fa, .lst (fs12.map V.int))] H' := fun k' => W12.kpL lists k' fun x hx => by
        rw [List.mem_singleton.mp hx]
        exact ⟨noH, _, L12.ob, fun _ z => by cases z⟩
      refine ⟨_, rfl, _, rfl, ?_⟩
      cases md with
      | true =>
        refine iteT ⟨_, rfl, o, _, _, rfl, L12.ob, rfl, _, rfl, _, _, rfl, rfl, _, rfl, f + 1, 7, h, rv, ⟨o, dx, c, d, r, n, 0, -1, [], C, D⟩, rfl, L12, W12.at1 0 rfl, fun H13 r' k13 nr13 L13 => ?_⟩
        have W13 := km k13
        have es := W13.at1 1 rfl
        refine ⟨_, rfl, .inl ⟨rfl, _, .inl (.inl es)⟩, _, rfl, _, _, rfl, rfl, s, _, _, rfl, rfl, es, by rw [List.length_map, List.length_map]; exact lt_line (by rw [List.length_reverse]; omega), ?_⟩
        (generalize he_x : upd _ s _ = H14; obtain ⟨e_x, k_x, f_x⟩ := own_f he_x; clear he_x)
        have ex' : H14 s = some (.lst ((cp.reverse.map (slotOf f) ++ [f + 1]).map V.int)) := by rw [e_x, List.map_append]; rfl
        exact ⟨r', rfl, W13.set 1 rfl ex' k_x, L13.kL k_x fun x hx => by rw [List.mem_singleton.mp hx]; exact ⟨_, es⟩, nr' nr13⟩
      | false =>
        refine iteF ⟨_, rfl, o, _, _, rfl, L12.ob, rfl, _, rfl, _, rfl, -1, 7, h, rv, ⟨o, dx, c, d, r, n, 0, -1, [], C, D⟩, rfl, L12, W12.at1 0 rfl, fun H13 r' k13 nr13 L13 => ?_⟩
        have W13 := km k13
        exact ⟨r', rfl, by rw [show (cp.reverse.map (slotOf f) ++ if false = true then [f + 1] else []) = cp.reverse.map (slotOf f) by simp]; exact W13, L13, nr' nr13⟩
    rintro σ H13 ⟨r', rfl, W13, L13, nrH'⟩
    have eh := W13.at1 0 rfl
    refine ⟨_, rfl, .inl ⟨rfl, _, .inl (.inl eh)⟩, h, _, _, rfl, rfl, eh, by rw [List.length_map]; exact lt_line (by omega), ?_⟩
    (generalize he_x : upd _ h _ = H14; obtain ⟨e_x, k_x, f_x⟩ := own_f he_x; clear he_x)
    have ex' : H14 h = some (.lst ((rv ++ [23]).map V.int)) := by rw [e_x, List.map_append]; rfl
    have W14 : Wr [fa] H [(h, .lst ((rv ++ [23]).map V.int)), (s, .lst ((cp.reverse.map (slotOf f) ++ if md = true then [f + 1] else []).map V.int)), (b, .lst (rv.map V.int)), (a, .lst (cp.map V.int)), (l3, .lst (bl8.map V.int)), (fa, .lst (fs12.map V.int))] H14 := W13.set 0 rfl ex' k_x
    have L14 := L13.kL k_x fun x hx => by rw [List.mem_singleton.mp hx]; exact ⟨_, eh⟩
    refine ⟨_, rfl, _, rfl, _, rfl, _, rfl, _, rfl, s, _, rfl, .of (W14.at1 1 rfl), fun ys p hp ha np => ?_⟩
    generalize h15 : upd H14 p _ = H15
    obtain ⟨e_p, s_p, _⟩ := new_f h15 np
    have W15 : Wr [fa] H [(p, .lst (ys.map V.int)), (h, .lst ((rv ++ [23]).map V.int)), (s, .lst ((cp.reverse.map (slotOf f) ++ if md = true then [f + 1] else []).map V.int)), (b, .lst (rv.map V.int)), (a, .lst (cp.map V.int)), (l3, .lst (bl8.map V.int)), (fa, .lst (fs12.map V.int))] H15 := W14.new np e_p s_p
    have L15 := L14.same s_p
    refine ⟨_, rfl, _, rfl, by show 7 ≤ sizeLine; decide, ?_⟩
    (intro t n_t; generalize he_t : upd _ t _ = H16; obtain ⟨e_t, s_t, f_t⟩ := new_f he_t n_t; clear he_t)
    have W16 := W15.new n_t e_t s_t
    have L16 := L15.same s_t
    have hk : ∀ x : Int, hasC x ⟨o, dx, c, d, r', n, 7, if md = true then f + 1 else -1, rv, C, D⟩ = decide (x ∈ cp) := fun x => by
      unfold hasC
      rw [Bool.eq_iff_iff, List.any_eq_true, decide_eq_true_iff]
      rw [← List.mem_reverse, ← hcd.ck, List.mem_map]
      exact ⟨fun ⟨g, hg, e⟩ => ⟨g, hg, of_decide_eq_true e⟩, fun ⟨g, hg, e⟩ => ⟨g, hg, decide_eq_true e⟩⟩
    refine k H16 ⟨t, a, b, p, ⟨o, dx, c, d, r', n, 7, if md = true then f + 1 else -1, rv, C, D⟩, cp, ys, f, md⟩ fs12 W16.k (W16.at1 7 rfl) ⟨e_t, W16.at1 5 rfl, W16.at1 4 rfl, W16.at1 1 rfl, L16, hk⟩ (lot_ok f0 hcp hcd rfl rfl rfl rfl rfl hp ha) rfl fun x hx => ?_
    simp only [ToM.adr, LoM.adr, List.mem_cons, List.mem_append] at hx
    rcases hx with rfl | rfl | rfl | rfl | rfl | rfl | rfl | rfl | z | z
    · exact W16.free 0 7 rfl rfl (by decide)
    · exact W16.free 5 7 rfl rfl (by decide)
    · exact W16.free 4 7 rfl rfl (by decide)
    · exact W16.free 1 7 rfl rfl (by decide)
    · exact noH
    · exact ncH
    · exact ndH
    · exact nrH'
    · obtain ⟨g, hg, rfl⟩ := List.mem_map.mp z
      exact hcd.cf g hg
    · obtain ⟨g, hg, rfl⟩ := List.mem_map.mp z
      exact hcd.df g hg
end
end K39
namespace K39
open PySem PySem.Spec PyProof.Rows L2 Rg
theorem ToAt.held {CL : Addr} {H : Hp} {T : ToM} (h : ToAt CL H T) {x : Addr} (hx : x ∈ T.adr) : ∃ o, H x = some o := by
  simp only [ToM.adr, LoM.adr, List.mem_cons, List.mem_append] at hx
  rcases hx with rfl | rfl | rfl | rfl | rfl | rfl | rfl | rfl | z | z
  · exact ⟨_, h.l⟩
  · exact ⟨_, h.c⟩
  · exact ⟨_, h.r⟩
  · exact ⟨_, h.s⟩
  · exact ⟨_, h.a.ob⟩
  · exact ⟨_, h.a.co⟩
  · exact ⟨_, h.a.id⟩
  · exact ⟨_, h.a.re⟩
  · obtain ⟨g, hg, rfl⟩ := List.mem_map.mp z
    exact ⟨_, h.a.ec g hg⟩
  · obtain ⟨g, hg, rfl⟩ := List.mem_map.mp z
    exact ⟨_, h.a.ed g hg⟩
def TosAt (CL : Addr) (H : Hp) (C : List Addr) (Ts : List ToM) : Prop := ∀ t ∈ Ts, ToAt CL H t ∧ LotF t ∧ ∀ x ∈ t.adr, x ∉ C
theorem TosAt.kp {CL : Addr} {H H' : Hp} {C C' S : List Addr} {Ts : List ToM} (h : TosAt CL H C Ts) (k : Kp S H H') (hS : ∀ x ∈ S, x ∈ C ∨ H x = none) (hC : ∀ x ∈ C', x ∈ C ∨ H x = none) : TosAt CL H' C' Ts := fun t ht => by
  obtain ⟨a, b, c⟩ := h t ht
  refine ⟨a.keep fun x o hx e => k x o e fun z => ?_, b, fun x hx z => ?_⟩
  · rcases hS x z with q | q
    · exact c x hx q
    · rw [q] at e; cases e
  · rcases hC x z with q | q
    · exact c x hx q
    · obtain ⟨o, e⟩ := a.held hx
      rw [q] at e; cases e
theorem TosAt.same {CL : Addr} {H H' : Hp} {C : List Addr} {Ts : List ToM} (h : TosAt CL H C Ts) (S : Same H H') : TosAt CL H' C Ts := fun t ht => ⟨(h t ht).1.same S, (h t ht).2⟩
theorem MomsAt.at {CI CP : Addr} {H : Hp} {C mas : List Addr} {Ms : List Mom} {s : Int} (h : MomsAt CI CP H C mas Ms s) {r : Int} (r0 : 0 ≤ r) (r1 : r < mas.length) : ∃ (m : Addr) (M : Mom), atI (mas.map V.ref) r = some (.ref m) ∧ MomAt CI CP H m M s ∧ ∀ x ∈ M.adr m, x ∉ C := by
  have hl : r.toNat < mas.length := by omega
  have e1 := List.getElem?_eq_getElem hl
  have e2 := List.getElem?_eq_getElem (show r.toNat < Ms.length by rw [← h.l]; exact hl)
  obtain ⟨a, b⟩ := h.m _ _ _ e1 e2
  exact ⟨_, _, at_of (j := r.toNat) (by omega) (by rw [List.getElem?_map, e1]; rfl), a, b⟩
theorem MomsAt.same {CI CP : Addr} {H H' : Hp} {C mas : List Addr} {Ms : List Mom} {s : Int} (h : MomsAt CI CP H C mas Ms s) (S : Same H H') : MomsAt CI CP H' C mas Ms s := ⟨h.l, fun i m M e1 e2 => ⟨(h.m i m M e1 e2).1.same S, (h.m i m M e1 e2).2⟩⟩
def sp_law (K : PySem.W.Frag) : Sp := fun vs H Q _ => ∃ (a : Addr) (ns : List Int), vs = [.ref a] ∧ SqL K H a (ns.map V.int) ∧ ns.length ≤ 63 ∧ ∀ H', Q (.bl true) H'
section
variable {P : Program} {w0_ : World} {K : PySem.W.Frag} {mg : Str → Option Value} {base : Heap}
theorem ok_law (T : Tx K mg) : FnOk P w0_ K mg base CX0 7 T.f_law T.fd_law ["_law_script"] (sp_law K) := by
  refine T.F_law.ok sc_law (fun vs H Q E h => ?_) (fun cdv A0 outer s H vs Q E hr h => ?_)
  · obtain ⟨_, _, rfl, _⟩ := h; rfl
  · obtain ⟨a, ns, rfl, hS, hlen, k⟩ := h
    have hr1 := hr.mono (show 1 ≤ 6 by decide)
    have hr2 := hr.mono (show 2 ≤ 6 by decide)
    have hr3 := hr.mono (show 3 ≤ 6 by decide)
    have hr5 := hr.mono (show 5 ≤ 6 by decide)
    refine ⟨_, (pss_cons (ps_set (i := 1) sc_law.nd rfl (.inl rfl) (pe_call (ok_Lfeed T) hr1 rfl T.mg_Lfeed T.F_Lfeed.kp (b_Lfeed T) .nil pass0 (pa_cons (pv 0) pa_nil)))
      (pss_cons (ps_set (i := 2) sc_law.nd rfl (.inl rfl) (pe_op op_add (pe_call (ok_Lpick T) hr1 rfl T.mg_Lpick T.F_Lpick.kp (b_Lpick T) .nil pass0 (pa_cons (pv 1) (pa_cons pe_int pa_nil))) (pe_op op_mul pe_int (pe_call (ok_Lpick T) hr1 rfl T.mg_Lpick T.F_Lpick.kp (b_Lpick T) .nil pass0 (pa_cons (pv 1) (pa_cons pe_int pa_nil))))))
      (pss_cons (ps_set (i := 3) sc_law.nd rfl (.inr rfl) (pe_op op_add pe_int (pe_call (ok_Lpick T) hr1 rfl T.mg_Lpick T.F_Lpick.kp (b_Lpick T) .nil pass0 (pa_cons (pv 1) (pa_cons pe_int pa_nil)))))
      (pss_cons (ps_set (i := 4) sc_law.nd rfl (.inl rfl) (pe_lst pa_nil))
      (pss_cons (ps_for PassesOwn.never rfl (pi_range1 rfl T.b_range (pa_cons (pe_call (ok_Lpick T) hr1 rfl T.mg_Lpick T.F_Lpick.kp (b_Lpick T) .nil pass0 (pa_cons (pv 1) (pa_cons pe_int pa_nil))) pa_nil)) (pg_name (i := 5) sc_law.nd rfl (.inl rfl))
        (pss_one (ps_expr (pe_bm PySem.F.plainAttrs_list PySem.F.slot_list_append PySem.F.type_list_append mt_append (pv 4) (pa_cons (pe_call (ok_Llot T) hr3 rfl T.mg_Llot T.F_Llot.kp (b_Llot T) .nil pass0 (pa_cons (pv 1) (pa_cons (pe_op op_add (pv 3) (pv 5)) (pa_cons (pe_op op_mul pe_int (pv 5)) pa_nil)))) pa_nil)))))
      (pss_cons (ps_set (i := 6) sc_law.nd rfl (.inl rfl) (pe_call (ok_Lhistory T) hr rfl T.mg_Lhistory T.F_Lhistory.kp (b_Lhistory T) .nil pass0 (pa_cons (pv 1) (pa_cons (pe_call (ok_Lpick T) hr1 rfl T.mg_Lpick T.F_Lpick.kp (b_Lpick T) .nil pass0 (pa_cons (pv 1) (pa_cons pe_int pa_nil))) pa_nil))))
      (pss_cons (ps_if (pt_cmpR op_eq (pe_callB call_len_seq rfl T.b_len (by decide +kernel) (pa_cons (pv 6) pa_nil)) pe_int (nomark _))
        (pss_one (ps_ret pe_bl))
        pss_nil)
      (pss_cons (ps_set (i := 7) sc_law.nd rfl (.inl rfl) (pe_ix ix_list (pv 6) (pe_call (ok_Lpick T) hr1 rfl T.mg_Lpick T.F_Lpick.kp (b_Lpick T) .nil pass0 (pa_cons (pv 1) (pa_cons (pe_callB call_len_seq rfl T.b_len (by decide +kernel) (pa_cons (pv 6) pa_nil)) pa_nil))) (fun _ _ => rfl)))
      (pss_cons (ps_set (i := 8) sc_law.nd rfl (.inl rfl) (pe_ix ix_list (pv 6) (pe_call (ok_Lpick T) hr1 rfl T.mg_Lpick T.F_Lpick.kp (b_Lpick T) .nil pass0 (pa_cons (pv 1) (pa_cons (pe_callB call_len_seq rfl T.b_len (by decide +kernel) (pa_cons (pv 6) pa_nil)) pa_nil))) (fun _ _ => rfl)))
      (pss_cons (ps_setLc (i := 9) (own := [("_law_told", 10)]) (g := gName 10) (tt := tYes) rfl sc_law.nd rfl rfl (sw_true rfl rfl rfl (by decide +kernel)) (pi_list (pv 4)) (blkOk_by (N := ["_law_script", "_law_feed_here", "_law_number", "_law_first", "_law_lots", "_law_k", "_law_moments", "_law_base", "_law_closing", "_law_window", "_law_told", "_law_lot_here"]) (sc := defScope s_law) (by decide +kernel)) (fun _ _ _ _ _ => pg_name (i := 10) sc_law.nd rfl (Or.inl rfl)) (fun _ _ _ _ _ => pts_nil) (fun _ _ _ _ _ => (pe_ixK (K := K) (pv 10) pe_int (fun _ _ => rfl))))
      (pss_cons (ps_for PassesOwn.never rfl (pi_list (pv 4)) (pg_name (i := 10) sc_law.nd rfl (.inl rfl))
        (pss_one (ps_if (pt_not (pt_val (pe_call (ok_Llot_good T) hr2 rfl T.mg_Llot_good T.F_Llot_good.kp (b_Llot_good T) .nil pass0 (pa_cons (pv 10) pa_nil))))
          (pss_one (ps_ret pe_bl))
          pss_nil)))
      (pss_cons (ps_if (PW.pt (pw_or (pt_not (pt_val (pe_call (ok_Llive_good T) hr2 rfl T.mg_Llive_good T.F_Llive_good.kp (b_Llive_good T) .nil pass0 (pa_cons (pv 9) (pa_cons (pv 4) pa_nil))))) (pw_or1 (pt_not (pt_val (pe_call (ok_Lbarred_good T) hr5 rfl T.mg_Lbarred_good T.F_Lbarred_good.kp (b_Lbarred_good T) .nil pass0 (pa_cons (pv 9) (pa_cons (pv 4) (pa_cons (pv 2) (pa_cons (pv 7) (pa_cons pe_non pa_nil)))))))))))
        (pss_one (ps_ret pe_bl))
        pss_nil)
      (pss_cons (ps_if (PW.pt (pw_or (pt_not (pt_val (pe_call (ok_Lbarred_good T) hr5 rfl T.mg_Lbarred_good T.F_Lbarred_good.kp (b_Lbarred_good T) .nil pass0 (pa_cons (pv 9) (pa_cons (pv 4) (pa_cons (pv 2) (pa_cons (pv 7) (pa_cons (pv 8) pa_nil)))))))) (pw_or1 (pt_not (pt_val (pe_call (ok_Lbarred_good T) hr5 rfl T.mg_Lbarred_good T.F_Lbarred_good.kp (b_Lbarred_good T) .nil pass0 (pa_cons (pe_lst pa_nil) (pa_cons (pe_lst pa_nil) (pa_cons (pv 2) (pa_cons (pv 7) (pa_cons (pv 8) pa_nil)))))))))))
        (pss_one (ps_ret pe_bl))
        pss_nil)
      (pss_cons (ps_for PassesOwn.never rfl (pi_list (pv 4)) (pg_name (i := 10) sc_law.nd rfl (.inl rfl))
        (pss_one (ps_if (pt_not (pt_val (pe_call (ok_Llot_good T) hr2 rfl T.mg_Llot_good T.F_Llot_good.kp (b_Llot_good T) .nil pass0 (pa_cons (pv 10) pa_nil))))
          (pss_one (ps_ret pe_bl))
          pss_nil)))
      (pss_one (ps_ret (pe_cmpR (op_eqD hr.units) (pe_lc rfl (own := [("_law_lot_here", 11)]) (g := gName 11) (tt := tYes) sc_law.nd (pi_list (pv 9)) (blkOk_by (N := ["_law_script", "_law_feed_here", "_law_number", "_law_first", "_law_lots", "_law_k", "_law_moments", "_law_base", "_law_closing", "_law_window", "_law_told", "_law_lot_here"]) (sc := defScope s_law) (by decide +kernel)) (fun _ _ _ _ _ => pg_name (i := 11) sc_law.nd rfl (Or.inl rfl)) (fun _ _ _ _ _ => pts_nil) (fun _ _ _ _ _ => (pe_fldK (K := K) (pv 11) rfl))) (pe_lc rfl (own := [("_law_k", 5)]) (g := gName 5) (tt := tYes) sc_law.nd (pi_range1 rfl T.b_range (pa_cons (pe_callB call_len_seq rfl T.b_len (by decide +kernel) (pa_cons (pv 4) pa_nil)) pa_nil)) (blkOk_by (N := ["_law_script", "_law_feed_here", "_law_number", "_law_first", "_law_lots", "_law_k", "_law_moments", "_law_base", "_law_closing", "_law_window", "_law_told", "_law_lot_here"]) (sc := defScope s_law) (by decide +kernel)) (fun _ _ _ _ _ => pg_name (i := 5) sc_law.nd rfl (Or.inl rfl)) (fun _ _ _ _ _ => pts_nil) (fun _ _ _ _ _ => (pe_op op_add (pv 3) (pv 5)))) (nomark _)))))))))))))))))), ?_⟩
    refine ⟨_, rfl, a, ns, rfl, hS, hlen, fun H1 p f1 S1 np e1 hf => ?_⟩
    ((try dsimp only); (first | (refine Rg.sg (σ' := [some (.ref a), some (.ref p), none, none, none, none, none, none, none, none, none, none]) ?_ ?_; focus exact rfl) | (refine Rg.sgG (σ' := [some (.ref a), some (.ref p), none, none, none, none, none, none, none, none, none, none]) ?_ ?_; focus exact rfl)))
    refine ⟨_, rfl, p, f1, 64, rfl, e1, by decide, fun r f2 r0 r64 _ => ?_⟩
    (generalize he_z : upd _ p _ = H2; obtain ⟨e_z, k_z, f_z⟩ := own_f he_z; clear he_z)
    refine ⟨_, rfl, p, f2, 64, rfl, e_z, by decide, fun q f3 q0 q64 _ => ?_⟩
    (generalize he_y : upd _ p _ = H3; obtain ⟨e_y, k_y, f_y⟩ := own_f he_y; clear he_y)
    refine ⟨_, _, rfl, rfl, .inl ⟨by decide, by decide⟩, _, _, rfl, rfl, ?_⟩
    ((try dsimp only); (first | (refine Rg.sg (σ' := [some (.ref a), some (.ref p), some (.int (r + 64 * q)), none, none, none, none, none, none, none, none, none]) ?_ ?_; focus exact rfl) | (refine Rg.sgG (σ' := [some (.ref a), some (.ref p), some (.int (r + 64 * q)), none, none, none, none, none, none, none, none, none]) ?_ ?_; focus exact rfl)))
    refine ⟨_, rfl, p, f3, 900, rfl, e_y, by decide, fun g f4 g0 g9 _ => ?_⟩
    (generalize he_x : upd _ p _ = H4; obtain ⟨e_x, k_x, f_x⟩ := own_f he_x; clear he_x)
    refine ⟨_, _, rfl, rfl, ?_⟩
    ((try dsimp only); (first | (refine Rg.sg (σ' := [some (.ref a), some (.ref p), some (.int (r + 64 * q)), some (.int (1 + g)), none, none, none, none, none, none, none, none]) ?_ ?_; focus exact rfl) | (refine Rg.sgG (σ' := [some (.ref a), some (.ref p), some (.int (r + 64 * q)), some (.int (1 + g)), none, none, none, none, none, none, none, none]) ?_ ?_; focus exact rfl)))
    refine ⟨by show 0 ≤ sizeLine; decide, ?_⟩
    (intro l n_l; generalize he_l : upd _ l _ = H5; obtain ⟨e_l, s_l, f_l⟩ := new_f he_l n_l; clear he_l)
    ((try dsimp only); (first | (refine Rg.sg (σ' := [some (.ref a), some (.ref p), some (.int (r + 64 * q)), some (.int (1 + g)), some (.ref l), none, none, none, none, none, none, none]) ?_ ?_; focus exact rfl) | (refine Rg.sgG (σ' := [some (.ref a), some (.ref p), some (.int (r + 64 * q)), some (.int (1 + g)), some (.ref l), none, none, none, none, none, none, none]) ?_ ?_; focus exact rfl)))
    have nlp : l ≠ p := (ne_of_none e_x n_l).symm
    refine ⟨_, rfl, p, f4, 7, rfl, s_l _ _ e_x, by decide, fun m f6 m0 m7 _ => ?_⟩
    (generalize he_w : upd _ p _ = H6; obtain ⟨e_w, k_w, f_w⟩ := own_f he_w; clear he_w)
    have el6 := k_w.at1 e_l nlp
    refine ⟨_, rfl, by omega, by omega, ?_⟩
    refine for_range (lo := 0) (n := m.toNat) (fun i σ H' => ∃ (v5 : Option V) (Ts : List ToM) (fs' : List Int), σ = [some (.ref a), some (.ref p), some (.int (r + 64 * q)), some (.int (1 + g)), some (.ref l), v5, none, none, none, none, none, none] ∧ H' p = some (.lst (fs'.map V.int)) ∧ H' l = some (.lst (Ts.map fun T => .ref T.t)) ∧ TosAt T.C_Lot H' [p, l] Ts ∧ Ts.map (fun T => T.M.n) = (List.range i).map (fun k : Nat => 1 + g + (0 + (k : Int))) ∧ Ts.length = i) ⟨none, [], f6, rfl, e_w, el6, (fun t ht => by cases ht), rfl, rfl⟩ ?_ ?_
    · rintro i σ H7 hi ⟨v5, Ts, fs7, rfl, e7, el7, hT, hn, hl⟩
      ((try dsimp only); (first | (refine Rg.sg (σ' := [some (.ref a), some (.ref p), some (.int (r + 64 * q)), some (.int (1 + g)), some (.ref l), some (.int (0 + (i : Int))), none, none, none, none, none, none]) ?_ ?_; focus exact rfl) | (refine Rg.sgG (σ' := [some (.ref a), some (.ref p), some (.int (r + 64 * q)), some (.int (1 + g)), some (.ref l), some (.int (0 + (i : Int))), none, none, none, none, none, none]) ?_ ?_; focus exact rfl)))
      refine ⟨_, rfl, .inl ⟨rfl, _, .inl (.inl el7)⟩, _, rfl, _, rfl, _, rfl, _, _, rfl, rfl, _, rfl, _, _, rfl, rfl, .inl ⟨by decide, by decide⟩, p, fs7, _, _, rfl, e7, by omega, fun H8 t fs8 k8 e8 A8 F8 en nf => ?_⟩
      have el8 := k8.at1 el7 nlp
      have hT8 := hT.kp (C' := [p, l]) k8 (fun x hx => by rw [List.mem_singleton.mp hx]; simp) fun x hx => .inl hx
      refine ⟨l, _, _, rfl, rfl, el8, by rw [List.length_map]; exact lt_line (by omega), ?_⟩
      (generalize he_v : upd _ l _ = H9; obtain ⟨e_v, k_v, f_v⟩ := own_f he_v; clear he_v)
      have apT : ∀ x ∈ t.adr, x ∉ [p, l] := fun x hx z => by
        simp only [List.mem_cons, List.not_mem_nil, or_false] at z
        have := nf x hx
        rcases z with rfl | rfl
        · rw [e7] at this; cases this
        · rw [el7] at this; cases this
      have hT9 : TosAt T.C_Lot H9 [p, l] (Ts ++ [t]) := by
        have h0 : TosAt T.C_Lot H8 [p, l] (Ts ++ [t]) := fun u hu => by
          rcases List.mem_append.mp hu with z | z
          · exact hT8 u z
          · rw [List.mem_singleton.mp z]
            exact ⟨A8, F8, apT⟩
        exact h0.kp k_v (fun x hx => by rw [List.mem_singleton.mp hx]; simp) fun x hx => .inl hx
      exact ⟨_, Ts ++ [t], fs8, rfl, k_v.at1 e8 nlp.symm, by rw [e_v, List.map_append]; rfl, hT9, (by rw [List.map_append, hn, List.range_succ, List.map_append]; show _ ++ [t.M.n] = _ ++ [_]; rw [en]), by rw [List.length_append, hl]; rfl⟩
    rintro σ H7 ⟨v5, Ts, fs7, rfl, e7, el7, hT, hn, hl⟩
    refine ⟨_, rfl, _, rfl, p, fs7, 9, rfl, e7, by decide, fun many f8 y0 y9 _ => ?_⟩
    (generalize he_u : upd _ p _ = H8; obtain ⟨e_u, k_u, f_u⟩ := own_f he_u; clear he_u)
    have el8 := k_u.at1 el7 nlp
    have hT8 := hT.kp (C' := [p, l]) k_u (fun x hx => by rw [List.mem_singleton.mp hx]; simp) fun x hx => .inl hx
    refine ⟨p, f8, many, rfl, e_u, by omega, by omega, fun H9 mo mas Ms f9 k9 e9 emo nmo hne h19 MM9 => ?_⟩
    have el9 := k9.at1 el8 nlp
    have hT9 := hT8.kp (C' := [p, l, mo]) k9 (fun x hx => by rw [List.mem_singleton.mp hx]; simp) fun x hx => by
      simp only [List.mem_cons, List.not_mem_nil, or_false] at hx
      rcases hx with rfl | rfl | rfl
      · exact .inl (by simp)
      · exact .inl (by simp)
      · exact .inr nmo
    have nmop : mo ≠ p := fun z => by rw [z, e_u] at nmo; cases nmo
    ((try dsimp only); (first | (refine Rg.sg (σ' := [some (.ref a), some (.ref p), some (.int (r + 64 * q)), some (.int (1 + g)), some (.ref l), v5, some (.ref mo), none, none, none, none, none]) ?_ ?_; focus exact rfl) | (refine Rg.sgG (σ' := [some (.ref a), some (.ref p), some (.int (r + 64 * q)), some (.int (1 + g)), some (.ref l), v5, some (.ref mo), none, none, none, none, none]) ?_ ?_; focus exact rfl)))
    have l0 : 0 < (mas.length : Int) := by have := List.length_pos_iff.mpr hne; omega
    refine ⟨_, rfl, mo, _, rfl, .inl (.of emo), rfl, _, rfl, ?_⟩
    rw [List.length_map]
    refine wFv (by omega) ?_
    refine ⟨_, rfl, _, rfl, _, rfl, mo, _, rfl, .inl (.of emo), p, f9, _, rfl, e9, by rw [List.length_map]; omega, fun r1 f10 r10 r11 _ => ?_⟩
    rw [List.length_map] at r11
    (generalize he_x1 : upd _ p _ = H10; obtain ⟨e_x1, k_x1, f_x1⟩ := own_f he_x1; clear he_x1)
    have em10 := k_x1.at1 emo nmop
    have el10 := k_x1.at1 el9 nlp
    have hT10 := hT9.kp (C' := [p, l, mo]) k_x1 (fun x hx => by rw [List.mem_singleton.mp hx]; simp) fun x hx => .inl hx
    have MM10 := MM9.kp (C' := [p, mo]) k_x1 (fun x h => by rw [List.mem_singleton.mp h]; exact List.mem_cons_self) fun x h => .inl h
    obtain ⟨m1, M1, g1, _, _⟩ := MM10.at r10 r11
    refine ⟨mo, _, _, _, rfl, rfl, .of em10, g1, ?_⟩
    ((try dsimp only); (first | (refine Rg.sg (σ' := [some (.ref a), some (.ref p), some (.int (r + 64 * q)), some (.int (1 + g)), some (.ref l), v5, some (.ref mo), some (.ref m1), none, none, none, none]) ?_ ?_; focus exact rfl) | (refine Rg.sgG (σ' := [some (.ref a), some (.ref p), some (.int (r + 64 * q)), some (.int (1 + g)), some (.ref l), v5, some (.ref mo), some (.ref m1), none, none, none, none]) ?_ ?_; focus exact rfl)))
    refine ⟨_, rfl, _, rfl, _, rfl, mo, _, rfl, .inl (.of em10), p, f10, _, rfl, e_x1, by rw [List.length_map]; omega, fun r2 f11 r20 r21 _ => ?_⟩
    rw [List.length_map] at r21
    (generalize he_x2 : upd _ p _ = H11; obtain ⟨e_x2, k_x2, f_x2⟩ := own_f he_x2; clear he_x2)
    have em11 := k_x2.at1 em10 nmop
    have el11 := k_x2.at1 el10 nlp
    have hT11 := hT10.kp (C' := [p, l, mo]) k_x2 (fun x hx => by rw [List.mem_singleton.mp hx]; simp) fun x hx => .inl hx
    have MM11 := MM10.kp (C' := [p, mo]) k_x2 (fun x h => by rw [List.mem_singleton.mp h]; exact List.mem_cons_self) fun x h => .inl h
    obtain ⟨m2, M2, g2, A2, _⟩ := MM11.at r20 r21
    obtain ⟨m1', M1, g1', A1, _⟩ := MM11.at r10 r11
    rw [g1] at g1'
    cases g1'
    refine ⟨mo, _, _, _, rfl, rfl, .of em11, g2, ?_⟩
    ((try dsimp only); (first | (refine Rg.sg (σ' := [some (.ref a), some (.ref p), some (.int (r + 64 * q)), some (.int (1 + g)), some (.ref l), v5, some (.ref mo), some (.ref m1), some (.ref m2), none, none, none]) ?_ ?_; focus exact rfl) | (refine Rg.sgG (σ' := [some (.ref a), some (.ref p), some (.int (r + 64 * q)), some (.int (1 + g)), some (.ref l), v5, some (.ref mo), some (.ref m1), some (.ref m2), none, none, none]) ?_ ?_; focus exact rfl)))
    refine ⟨_, rfl, l, rfl, ⟨_, .of el11⟩, fun D hD => ?_⟩
    refine lc_list (K := K) (a := l) (xs := Ts.map fun T => V.ref T.t) (PvG (fun T : ToM => V.ref T.M.o) H11 D Ts (fun _ => true)) (PvG.start hD) (fun j H' _ Pv => .of (Pv.1 _ _ el11)) ?_ ?_
    · rintro j y H' hj Pv
      rw [List.getElem?_map] at hj
      obtain ⟨t, hx, rfl⟩ := Option.map_eq_some_iff.mp hj
      have At := (hT11 t (List.mem_of_getElem? hx)).1
      refine ⟨rfl, yes_ ⟨_, rfl, t.t, _, _, _, rfl, rfl, .of (Pv.1 _ _ At.l), at_of (j := 0) rfl rfl, ?_⟩⟩
      exact Pv.yes hD (Same.refl _) hx (by omega) rfl
    intro H12 Pv
    obtain ⟨s12, e12⟩ := Pv.all (by rw [List.length_map])
    rw [List.filter_eq_self.mpr (by simp)] at e12
    have el12 := s12 _ _ el11
    have hT12 := hT11.same s12
    have b1 := A1.same s12
    have b2 := A2.same s12
    have ew12 : H12 D = some (.lst ((Ts.map fun T => T.M).map fun M : LoM => .ref M.o)) := by rw [e12, List.map_map]; rfl
    ((try dsimp only); (first | (refine Rg.sg (σ' := [some (.ref a), some (.ref p), some (.int (r + 64 * q)), some (.int (1 + g)), some (.ref l), v5, some (.ref mo), some (.ref m1), some (.ref m2), some (.ref D), none, none]) ?_ ?_; focus exact rfl) | (refine Rg.sgG (σ' := [some (.ref a), some (.ref p), some (.int (r + 64 * q)), some (.int (1 + g)), some (.ref l), v5, some (.ref mo), some (.ref m1), some (.ref m2), some (.ref D), none, none]) ?_ ?_; focus exact rfl)))
    have lT : Ts.length < 100 := by omega
    refine ⟨_, rfl, l, rfl, ⟨_, .of el12⟩, ?_⟩
    refine for_list (K := K) (a := l) (xs := Ts.map fun T => V.ref T.t) (fun i σ H' => ∃ v10 : Option V, σ = [some (.ref a), some (.ref p), some (.int (r + 64 * q)), some (.int (1 + g)), some (.ref l), v5, some (.ref mo), some (.ref m1), some (.ref m2), some (.ref D), v10, none] ∧ Same H12 H') ⟨none, rfl, Same.refl _⟩ (fun i σ H' _ ⟨_, _, S⟩ => .of (S _ _ el12)) ?_ ?_
    · rintro i y σ H13 hi ⟨v10, rfl, S13⟩
      rw [List.getElem?_map] at hi
      obtain ⟨t, hx, rfl⟩ := Option.map_eq_some_iff.mp hi
      obtain ⟨At, Ft, _⟩ := hT12 t (List.mem_of_getElem? hx)
      ((try dsimp only); (first | (refine Rg.sg (σ' := [some (.ref a), some (.ref p), some (.int (r + 64 * q)), some (.int (1 + g)), some (.ref l), v5, some (.ref mo), some (.ref m1), some (.ref m2), some (.ref D), some (.ref t.t), none]) ?_ ?_; focus exact rfl) | (refine Rg.sgG (σ' := [some (.ref a), some (.ref p), some (.int (r + 64 * q)), some (.int (1 + g)), some (.ref l), v5, some (.ref mo), some (.ref m1), some (.ref m2), some (.ref D), some (.ref t.t), none]) ?_ ?_; focus exact rfl)))
      exact ⟨_, rfl, t, rfl, At.same S13, Ft, fun H14 S14 => ⟨_, rfl, iteF ⟨_, rfl, S13.trans S14⟩⟩⟩
    rintro σ H13 ⟨v10, rfl, S13⟩
    have hT13 := hT12.same S13
    refine ⟨_, rfl, _, rfl, D, l, Ts, rfl, S13 _ _ ew12, S13 _ _ el12, fun t ht => (hT13 t ht).1, lT, _, rfl, iteF ?_⟩
    refine ⟨_, rfl, _, rfl, _, rfl, _, rfl, D, l, _, (m1, M1), none, Ts, rfl, by omega, by omega, S13 _ _ ew12, S13 _ _ el12, fun t ht => (hT13 t ht).1, lT, fun c hc => ?_, fun H14 S14 => ⟨_, rfl, iteF ?_⟩⟩
    · rcases hc with rfl | z
      · exact b1.same S13
      · cases z
    have S14 := S13.trans S14
    have hT14 := hT12.same S14
    have mm : ∀ {H' : Hp}, Same H12 H' → ∀ c, c = (m1, M1) ∨ some (m2, M2) = some c → MomAt T.C_Image T.C_Plan H' c.1 c.2 30 := fun {H'} S c hc => by
      rcases hc with rfl | z
      · exact b1.same S
      · cases z
        exact b2.same S
    refine ⟨_, rfl, _, rfl, _, rfl, _, rfl, _, rfl, D, l, _, (m1, M1), some (m2, M2), Ts, rfl, by omega, by omega, S14 _ _ ew12, S14 _ _ el12, fun t ht => (hT14 t ht).1, lT, mm S14, fun H15 S15 => ⟨_, rfl, iteF ?_⟩⟩
    have S15 := S14.trans S15
    refine ⟨by show 0 ≤ sizeLine; decide, ?_⟩
    (intro c1 n_c1; generalize he_c1 : upd _ c1 _ = H16; obtain ⟨e_c1, s_c1, f_c1⟩ := new_f he_c1 n_c1; clear he_c1)
    refine ⟨by show 0 ≤ sizeLine; decide, ?_⟩
    (intro c2 n_c2; generalize he_c2 : upd _ c2 _ = H17; obtain ⟨e_c2, s_c2, f_c2⟩ := new_f he_c2 n_c2; clear he_c2)
    have S17 := (S15.trans s_c1).trans s_c2
    refine ⟨_, rfl, _, rfl, _, rfl, c1, c2, _, (m1, M1), some (m2, M2), [], rfl, by omega, by omega, s_c2 _ _ e_c1, e_c2, (fun t ht => by cases ht), by simp, mm S17, fun H18 S18 => ⟨_, rfl, iteF ?_⟩⟩
    have S18 := S17.trans S18
    refine ⟨_, rfl, l, rfl, ⟨_, .of (S18 _ _ el12)⟩, ?_⟩
    refine for_list (K := K) (a := l) (xs := Ts.map fun T => V.ref T.t) (fun i σ H' => ∃ v10 : Option V, σ = [some (.ref a), some (.ref p), some (.int (r + 64 * q)), some (.int (1 + g)), some (.ref l), v5, some (.ref mo), some (.ref m1), some (.ref m2), some (.ref D), v10, none] ∧ Same H12 H') ⟨v10, rfl, S18⟩ (fun i σ H' _ ⟨_, _, S⟩ => .of (S _ _ el12)) ?_ ?_
    · rintro i y σ H19 hi ⟨v10, rfl, S19⟩
      rw [List.getElem?_map] at hi
      obtain ⟨t, hx, rfl⟩ := Option.map_eq_some_iff.mp hi
      obtain ⟨At, Ft, _⟩ := hT12 t (List.mem_of_getElem? hx)
      ((try dsimp only); (first | (refine Rg.sg (σ' := [some (.ref a), some (.ref p), some (.int (r + 64 * q)), some (.int (1 + g)), some (.ref l), v5, some (.ref mo), some (.ref m1), some (.ref m2), some (.ref D), some (.ref t.t), none]) ?_ ?_; focus exact rfl) | (refine Rg.sgG (σ' := [some (.ref a), some (.ref p), some (.int (r + 64 * q)), some (.int (1 + g)), some (.ref l), v5, some (.ref mo), some (.ref m1), some (.ref m2), some (.ref D), some (.ref t.t), none]) ?_ ?_; focus exact rfl)))
      exact ⟨_, rfl, t, rfl, At.same S19, Ft, fun H14 S14 => ⟨_, rfl, iteF ⟨_, rfl, S19.trans S14⟩⟩⟩
    rintro σ H19 ⟨v10, rfl, S19⟩
    have ew19 := S19 _ _ ew12
    have el19 := S19 _ _ el12
    have hT19 := hT12.same S19
    refine ⟨_, rfl, D, rfl, ⟨_, .of ew19⟩, fun Z hZ => ?_⟩
    refine lc_list (K := K) (a := D) (xs := (Ts.map fun T => T.M).map fun M : LoM => V.ref M.o) (PvG (fun T : ToM => V.int T.M.n) H19 Z Ts (fun _ => true)) (PvG.start hZ) (fun j H' _ Pv => .of (Pv.1 _ _ ew19)) ?_ ?_
    · rintro j y H' hj Pv
      rw [List.map_map, List.getElem?_map] at hj
      obtain ⟨t, hx, rfl⟩ := Option.map_eq_some_iff.mp hj
      have At := (hT19 t (List.mem_of_getElem? hx)).1
      refine ⟨rfl, yes_ ⟨_, rfl, t.M.o, _, _, _, _, rfl, Pv.1 _ _ At.a.ob, T.cl_Lot, T.na_Lot_number, rfl, ?_⟩⟩
      exact Pv.yes hZ (Same.refl _) hx (by omega) rfl
    intro H20 Pv
    obtain ⟨s20, e20⟩ := Pv.all (by rw [List.length_map, List.length_map])
    rw [List.filter_eq_self.mpr (by simp)] at e20
    refine ⟨_, rfl, l, _, rfl, .inl (.of (s20 _ _ el19)), _, rfl, by omega, by rw [List.length_map]; omega, fun Y hY => ?_⟩
    rw [List.length_map]
    refine lc_range (lo := 0) (n := (Ts.length : Int).toNat) (PvG (fun k : Nat => V.int (1 + g + (0 + (k : Int)))) H20 Y (List.range Ts.length) (fun _ => true)) (PvG.start hY) ?_ ?_
    · rintro j H' hj Pv
      have hx : (List.range Ts.length)[j]? = some j := by rw [List.getElem?_range (by omega)]
      refine ⟨rfl, yes_ ⟨_, rfl, _, rfl, _, _, rfl, rfl, ?_⟩⟩
      exact Pv.yes hY (Same.refl _) hx (by rw [List.length_range]; omega) rfl
    intro H21 Pv
    obtain ⟨s21, e21⟩ := Pv.all (by rw [List.length_range]; omega)
    rw [List.filter_eq_self.mpr (by simp)] at e21
    have e20' : H21 Z = some (.lst ((Ts.map fun T => T.M.n).map V.int)) := by rw [s21 _ _ e20, List.map_map]; rfl
    have e21' : H21 Y = some (.lst ((Ts.map fun T => T.M.n).map V.int)) := by rw [e21, hn, List.map_map, ← hl]; rfl
    refine ⟨_, _, dpI e20', dpI e21', shI _, shI _, ?_⟩
    rw [eqI]
    exact k H21
end
end K39
namespace K39
open PySem PySem.Spec PyProof.Rows L2 Rg
theorem law_binds {K : PySem.W.Frag} {mg : Str → Option Value} (T : Tx K mg) (s : Shared) (v : Value) : BindsTo s T.fd_law ⟨[v], []⟩ [("_law_script", v)] := by
  obtain ⟨oc, od, kV, doc, pm, an, cdv, ct, osl, e, lk, hcd⟩ := T.F_law.ex
  rw [e]
  exact .of_eq rfl
theorem fin_F {P : Program} {w : World} {K : PySem.W.Frag} {mg : Str → Option Value} {fa : Addr} (z : Nonempty (Tx K mg)) (hmg : mg "law" = some (.ref fa)) :
    ∃ fd : FuncData, (∀ (s : Shared) (u : Value), BindsTo s fd ⟨[u], []⟩ [("_law_script", u)]) ∧ ∀ base : Heap, K.In base → base.Ns mainGlobals mg → FnOk P w K mg base CX0 7 fa fd ["_law_script"] (sp_law K) := by
  obtain ⟨T⟩ := z
  have e : T.f_law = fa := Value.ref.inj (Option.some.inj (T.mg_law.symm.trans hmg))
  subst e
  exact ⟨T.fd_law, fun s v => law_binds T s v, fun base _ _ => ok_law T⟩
theorem all_mk {w : World} {K : PySem.W.Frag} {h : Heap} {mg : Str → Option Value} (X : K.In h) (G : h.Ns mainGlobals mg)
    {a_is_held : Addr}
    {od_is_held an_is_held : Option Addr} {sl_is_held : Array (Option Value)} {oc_is_held kV_is_held dc_is_held pm_is_held cd_is_held ct_is_held : Value}
    (l_is_held : K.lookup a_is_held = some ⟨oc_is_held, od_is_held, .func (PySem.W.fnOf "_is_held" "_is_held" (defArgs s_is_held) (defBody s_is_held) (defScope s_is_held) .none kV_is_held dc_is_held pm_is_held an_is_held cd_is_held ct_is_held), sl_is_held⟩)
    (c_is_held : PySem.W.codeIn K cd_is_held "_is_held" = true)
    (k_is_held : PySem.W.keepIn K (.ref a_is_held) = true)
    (g_is_held : PySem.W.nsIn K mainGlobals "_is_held" = some (some (.ref a_is_held)))
    {a_live_lot : Addr}
    {od_live_lot an_live_lot : Option Addr} {sl_live_lot : Array (Option Value)} {oc_live_lot kV_live_lot dc_live_lot pm_live_lot cd_live_lot ct_live_lot : Value}
    (l_live_lot : K.lookup a_live_lot = some ⟨oc_live_lot, od_live_lot, .func (PySem.W.fnOf "live_lot" "live_lot" (defArgs s_live_lot) (defBody s_live_lot) (defScope s_live_lot) .none kV_live_lot dc_live_lot pm_live_lot an_live_lot cd_live_lot ct_live_lot), sl_live_lot⟩)
    (c_live_lot : PySem.W.codeIn K cd_live_lot "live_lot" = true)
    (k_live_lot : PySem.W.keepIn K (.ref a_live_lot) = true)
    (g_live_lot : PySem.W.nsIn K mainGlobals "live_lot" = some (some (.ref a_live_lot)))
    {a_barred_blocks : Addr}
    {od_barred_blocks an_barred_blocks : Option Addr} {sl_barred_blocks : Array (Option Value)} {oc_barred_blocks kV_barred_blocks dc_barred_blocks pm_barred_blocks cd_barred_blocks ct_barred_blocks : Value}
    (l_barred_blocks : K.lookup a_barred_blocks = some ⟨oc_barred_blocks, od_barred_blocks, .func (PySem.W.fnOf "barred_blocks" "barred_blocks" (defArgs s_barred_blocks) (defBody s_barred_blocks) (defScope s_barred_blocks) .none kV_barred_blocks dc_barred_blocks pm_barred_blocks an_barred_blocks cd_barred_blocks ct_barred_blocks), sl_barred_blocks⟩)
    (c_barred_blocks : PySem.W.codeIn K cd_barred_blocks "barred_blocks" = true)
    (k_barred_blocks : PySem.W.keepIn K (.ref a_barred_blocks) = true)
    (g_barred_blocks : PySem.W.nsIn K mainGlobals "barred_blocks" = some (some (.ref a_barred_blocks)))
    {a_numbered_names : Addr}
    {od_numbered_names an_numbered_names : Option Addr} {sl_numbered_names : Array (Option Value)} {oc_numbered_names kV_numbered_names dc_numbered_names pm_numbered_names cd_numbered_names ct_numbered_names : Value}
    (l_numbered_names : K.lookup a_numbered_names = some ⟨oc_numbered_names, od_numbered_names, .func (PySem.W.fnOf "numbered_names" "numbered_names" (defArgs s_numbered_names) (defBody s_numbered_names) (defScope s_numbered_names) .none kV_numbered_names dc_numbered_names pm_numbered_names an_numbered_names cd_numbered_names ct_numbered_names), sl_numbered_names⟩)
    (c_numbered_names : PySem.W.codeIn K cd_numbered_names "numbered_names" = true)
    (k_numbered_names : PySem.W.keepIn K (.ref a_numbered_names) = true)
    (g_numbered_names : PySem.W.nsIn K mainGlobals "numbered_names" = some (some (.ref a_numbered_names)))
    {a_Lfeed : Addr}
    {od_Lfeed an_Lfeed : Option Addr} {sl_Lfeed : Array (Option Value)} {oc_Lfeed kV_Lfeed dc_Lfeed pm_Lfeed cd_Lfeed ct_Lfeed : Value}
    (l_Lfeed : K.lookup a_Lfeed = some ⟨oc_Lfeed, od_Lfeed, .func (PySem.W.fnOf "_law_feed" "_law_feed" (defArgs s_Lfeed) (defBody s_Lfeed) (defScope s_Lfeed) .none kV_Lfeed dc_Lfeed pm_Lfeed an_Lfeed cd_Lfeed ct_Lfeed), sl_Lfeed⟩)
    (c_Lfeed : PySem.W.codeIn K cd_Lfeed "_law_feed" = true)
    (k_Lfeed : PySem.W.keepIn K (.ref a_Lfeed) = true)
    (g_Lfeed : PySem.W.nsIn K mainGlobals "_law_feed" = some (some (.ref a_Lfeed)))
    {a_Lpick : Addr}
    {od_Lpick an_Lpick : Option Addr} {sl_Lpick : Array (Option Value)} {oc_Lpick kV_Lpick dc_Lpick pm_Lpick cd_Lpick ct_Lpick : Value}
    (l_Lpick : K.lookup a_Lpick = some ⟨oc_Lpick, od_Lpick, .func (PySem.W.fnOf "_law_pick" "_law_pick" (defArgs s_Lpick) (defBody s_Lpick) (defScope s_Lpick) .none kV_Lpick dc_Lpick pm_Lpick an_Lpick cd_Lpick ct_Lpick), sl_Lpick⟩)
    (c_Lpick : PySem.W.codeIn K cd_Lpick "_law_pick" = true)
    (k_Lpick : PySem.W.keepIn K (.ref a_Lpick) = true)
    (g_Lpick : PySem.W.nsIn K mainGlobals "_law_pick" = some (some (.ref a_Lpick)))
    {a_Lmoment : Addr}
    {od_Lmoment an_Lmoment : Option Addr} {sl_Lmoment : Array (Option Value)} {oc_Lmoment kV_Lmoment dc_Lmoment pm_Lmoment cd_Lmoment ct_Lmoment : Value}
    (l_Lmoment : K.lookup a_Lmoment = some ⟨oc_Lmoment, od_Lmoment, .func (PySem.W.fnOf "_law_moment" "_law_moment" (defArgs s_Lmoment) (defBody s_Lmoment) (defScope s_Lmoment) .none kV_Lmoment dc_Lmoment pm_Lmoment an_Lmoment cd_Lmoment ct_Lmoment), sl_Lmoment⟩)
    (c_Lmoment : PySem.W.codeIn K cd_Lmoment "_law_moment" = true)
    (k_Lmoment : PySem.W.keepIn K (.ref a_Lmoment) = true)
    (g_Lmoment : PySem.W.nsIn K mainGlobals "_law_moment" = some (some (.ref a_Lmoment)))
    {a_Ltake : Addr}
    {od_Ltake an_Ltake : Option Addr} {sl_Ltake : Array (Option Value)} {oc_Ltake kV_Ltake dc_Ltake pm_Ltake cd_Ltake ct_Ltake : Value}
    (l_Ltake : K.lookup a_Ltake = some ⟨oc_Ltake, od_Ltake, .func (PySem.W.fnOf "_law_take" "_law_take" (defArgs s_Ltake) (defBody s_Ltake) (defScope s_Ltake) .none kV_Ltake dc_Ltake pm_Ltake an_Ltake cd_Ltake ct_Ltake), sl_Ltake⟩)
    (c_Ltake : PySem.W.codeIn K cd_Ltake "_law_take" = true)
    (k_Ltake : PySem.W.keepIn K (.ref a_Ltake) = true)
    (g_Ltake : PySem.W.nsIn K mainGlobals "_law_take" = some (some (.ref a_Ltake)))
    {a_Lgive : Addr}
    {od_Lgive an_Lgive : Option Addr} {sl_Lgive : Array (Option Value)} {oc_Lgive kV_Lgive dc_Lgive pm_Lgive cd_Lgive ct_Lgive : Value}
    (l_Lgive : K.lookup a_Lgive = some ⟨oc_Lgive, od_Lgive, .func (PySem.W.fnOf "_law_give" "_law_give" (defArgs s_Lgive) (defBody s_Lgive) (defScope s_Lgive) .none kV_Lgive dc_Lgive pm_Lgive an_Lgive cd_Lgive ct_Lgive), sl_Lgive⟩)
    (c_Lgive : PySem.W.codeIn K cd_Lgive "_law_give" = true)
    (k_Lgive : PySem.W.keepIn K (.ref a_Lgive) = true)
    (g_Lgive : PySem.W.nsIn K mainGlobals "_law_give" = some (some (.ref a_Lgive)))
    {a_Lchange : Addr}
    {od_Lchange an_Lchange : Option Addr} {sl_Lchange : Array (Option Value)} {oc_Lchange kV_Lchange dc_Lchange pm_Lchange cd_Lchange ct_Lchange : Value}
    (l_Lchange : K.lookup a_Lchange = some ⟨oc_Lchange, od_Lchange, .func (PySem.W.fnOf "_law_change" "_law_change" (defArgs s_Lchange) (defBody s_Lchange) (defScope s_Lchange) .none kV_Lchange dc_Lchange pm_Lchange an_Lchange cd_Lchange ct_Lchange), sl_Lchange⟩)
    (c_Lchange : PySem.W.codeIn K cd_Lchange "_law_change" = true)
    (k_Lchange : PySem.W.keepIn K (.ref a_Lchange) = true)
    (g_Lchange : PySem.W.nsIn K mainGlobals "_law_change" = some (some (.ref a_Lchange)))
    {a_Lhistory : Addr}
    {od_Lhistory an_Lhistory : Option Addr} {sl_Lhistory : Array (Option Value)} {oc_Lhistory kV_Lhistory dc_Lhistory pm_Lhistory cd_Lhistory ct_Lhistory : Value}
    (l_Lhistory : K.lookup a_Lhistory = some ⟨oc_Lhistory, od_Lhistory, .func (PySem.W.fnOf "_law_history" "_law_history" (defArgs s_Lhistory) (defBody s_Lhistory) (defScope s_Lhistory) .none kV_Lhistory dc_Lhistory pm_Lhistory an_Lhistory cd_Lhistory ct_Lhistory), sl_Lhistory⟩)
    (c_Lhistory : PySem.W.codeIn K cd_Lhistory "_law_history" = true)
    (k_Lhistory : PySem.W.keepIn K (.ref a_Lhistory) = true)
    (g_Lhistory : PySem.W.nsIn K mainGlobals "_law_history" = some (some (.ref a_Lhistory)))
    {a_Llot : Addr}
    {od_Llot an_Llot : Option Addr} {sl_Llot : Array (Option Value)} {oc_Llot kV_Llot dc_Llot pm_Llot cd_Llot ct_Llot : Value}
    (l_Llot : K.lookup a_Llot = some ⟨oc_Llot, od_Llot, .func (PySem.W.fnOf "_law_lot" "_law_lot" (defArgs s_Llot) (defBody s_Llot) (defScope s_Llot) .none kV_Llot dc_Llot pm_Llot an_Llot cd_Llot ct_Llot), sl_Llot⟩)
    (c_Llot : PySem.W.codeIn K cd_Llot "_law_lot" = true)
    (k_Llot : PySem.W.keepIn K (.ref a_Llot) = true)
    (g_Llot : PySem.W.nsIn K mainGlobals "_law_lot" = some (some (.ref a_Llot)))
    {a_Llot_good : Addr}
    {od_Llot_good an_Llot_good : Option Addr} {sl_Llot_good : Array (Option Value)} {oc_Llot_good kV_Llot_good dc_Llot_good pm_Llot_good cd_Llot_good ct_Llot_good : Value}
    (l_Llot_good : K.lookup a_Llot_good = some ⟨oc_Llot_good, od_Llot_good, .func (PySem.W.fnOf "_law_lot_good" "_law_lot_good" (defArgs s_Llot_good) (defBody s_Llot_good) (defScope s_Llot_good) .none kV_Llot_good dc_Llot_good pm_Llot_good an_Llot_good cd_Llot_good ct_Llot_good), sl_Llot_good⟩)
    (c_Llot_good : PySem.W.codeIn K cd_Llot_good "_law_lot_good" = true)
    (k_Llot_good : PySem.W.keepIn K (.ref a_Llot_good) = true)
    (g_Llot_good : PySem.W.nsIn K mainGlobals "_law_lot_good" = some (some (.ref a_Llot_good)))
    {a_Llive : Addr}
    {od_Llive an_Llive : Option Addr} {sl_Llive : Array (Option Value)} {oc_Llive kV_Llive dc_Llive pm_Llive cd_Llive ct_Llive : Value}
    (l_Llive : K.lookup a_Llive = some ⟨oc_Llive, od_Llive, .func (PySem.W.fnOf "_law_live" "_law_live" (defArgs s_Llive) (defBody s_Llive) (defScope s_Llive) .none kV_Llive dc_Llive pm_Llive an_Llive cd_Llive ct_Llive), sl_Llive⟩)
    (c_Llive : PySem.W.codeIn K cd_Llive "_law_live" = true)
    (k_Llive : PySem.W.keepIn K (.ref a_Llive) = true)
    (g_Llive : PySem.W.nsIn K mainGlobals "_law_live" = some (some (.ref a_Llive)))
    {a_Linteger : Addr}
    {od_Linteger an_Linteger : Option Addr} {sl_Linteger : Array (Option Value)} {oc_Linteger kV_Linteger dc_Linteger pm_Linteger cd_Linteger ct_Linteger : Value}
    (l_Linteger : K.lookup a_Linteger = some ⟨oc_Linteger, od_Linteger, .func (PySem.W.fnOf "_law_integer" "_law_integer" (defArgs s_Linteger) (defBody s_Linteger) (defScope s_Linteger) .none kV_Linteger dc_Linteger pm_Linteger an_Linteger cd_Linteger ct_Linteger), sl_Linteger⟩)
    (c_Linteger : PySem.W.codeIn K cd_Linteger "_law_integer" = true)
    (k_Linteger : PySem.W.keepIn K (.ref a_Linteger) = true)
    (g_Linteger : PySem.W.nsIn K mainGlobals "_law_integer" = some (some (.ref a_Linteger)))
    {a_Llive_good : Addr}
    {od_Llive_good an_Llive_good : Option Addr} {sl_Llive_good : Array (Option Value)} {oc_Llive_good kV_Llive_good dc_Llive_good pm_Llive_good cd_Llive_good ct_Llive_good : Value}
    (l_Llive_good : K.lookup a_Llive_good = some ⟨oc_Llive_good, od_Llive_good, .func (PySem.W.fnOf "_law_live_good" "_law_live_good" (defArgs s_Llive_good) (defBody s_Llive_good) (defScope s_Llive_good) .none kV_Llive_good dc_Llive_good pm_Llive_good an_Llive_good cd_Llive_good ct_Llive_good), sl_Llive_good⟩)
    (c_Llive_good : PySem.W.codeIn K cd_Llive_good "_law_live_good" = true)
    (k_Llive_good : PySem.W.keepIn K (.ref a_Llive_good) = true)
    (g_Llive_good : PySem.W.nsIn K mainGlobals "_law_live_good" = some (some (.ref a_Llive_good)))
    {a_Lbarred : Addr}
    {od_Lbarred an_Lbarred : Option Addr} {sl_Lbarred : Array (Option Value)} {oc_Lbarred kV_Lbarred dc_Lbarred pm_Lbarred cd_Lbarred ct_Lbarred : Value}
    (l_Lbarred : K.lookup a_Lbarred = some ⟨oc_Lbarred, od_Lbarred, .func (PySem.W.fnOf "_law_barred" "_law_barred" (defArgs s_Lbarred) (defBody s_Lbarred) (defScope s_Lbarred) .none kV_Lbarred dc_Lbarred pm_Lbarred an_Lbarred cd_Lbarred ct_Lbarred), sl_Lbarred⟩)
    (c_Lbarred : PySem.W.codeIn K cd_Lbarred "_law_barred" = true)
    (k_Lbarred : PySem.W.keepIn K (.ref a_Lbarred) = true)
    (g_Lbarred : PySem.W.nsIn K mainGlobals "_law_barred" = some (some (.ref a_Lbarred)))
    {a_Lhas_reuse : Addr}
    {od_Lhas_reuse an_Lhas_reuse : Option Addr} {sl_Lhas_reuse : Array (Option Value)} {oc_Lhas_reuse kV_Lhas_reuse dc_Lhas_reuse pm_Lhas_reuse cd_Lhas_reuse ct_Lhas_reuse : Value}
    (l_Lhas_reuse : K.lookup a_Lhas_reuse = some ⟨oc_Lhas_reuse, od_Lhas_reuse, .func (PySem.W.fnOf "_law_has_reuse" "_law_has_reuse" (defArgs s_Lhas_reuse) (defBody s_Lhas_reuse) (defScope s_Lhas_reuse) .none kV_Lhas_reuse dc_Lhas_reuse pm_Lhas_reuse an_Lhas_reuse cd_Lhas_reuse ct_Lhas_reuse), sl_Lhas_reuse⟩)
    (c_Lhas_reuse : PySem.W.codeIn K cd_Lhas_reuse "_law_has_reuse" = true)
    (k_Lhas_reuse : PySem.W.keepIn K (.ref a_Lhas_reuse) = true)
    (g_Lhas_reuse : PySem.W.nsIn K mainGlobals "_law_has_reuse" = some (some (.ref a_Lhas_reuse)))
    {a_Lhas_lapse : Addr}
    {od_Lhas_lapse an_Lhas_lapse : Option Addr} {sl_Lhas_lapse : Array (Option Value)} {oc_Lhas_lapse kV_Lhas_lapse dc_Lhas_lapse pm_Lhas_lapse cd_Lhas_lapse ct_Lhas_lapse : Value}
    (l_Lhas_lapse : K.lookup a_Lhas_lapse = some ⟨oc_Lhas_lapse, od_Lhas_lapse, .func (PySem.W.fnOf "_law_has_lapse" "_law_has_lapse" (defArgs s_Lhas_lapse) (defBody s_Lhas_lapse) (defScope s_Lhas_lapse) .none kV_Lhas_lapse dc_Lhas_lapse pm_Lhas_lapse an_Lhas_lapse cd_Lhas_lapse ct_Lhas_lapse), sl_Lhas_lapse⟩)
    (c_Lhas_lapse : PySem.W.codeIn K cd_Lhas_lapse "_law_has_lapse" = true)
    (k_Lhas_lapse : PySem.W.keepIn K (.ref a_Lhas_lapse) = true)
    (g_Lhas_lapse : PySem.W.nsIn K mainGlobals "_law_has_lapse" = some (some (.ref a_Lhas_lapse)))
    {a_Lhas_shelve : Addr}
    {od_Lhas_shelve an_Lhas_shelve : Option Addr} {sl_Lhas_shelve : Array (Option Value)} {oc_Lhas_shelve kV_Lhas_shelve dc_Lhas_shelve pm_Lhas_shelve cd_Lhas_shelve ct_Lhas_shelve : Value}
    (l_Lhas_shelve : K.lookup a_Lhas_shelve = some ⟨oc_Lhas_shelve, od_Lhas_shelve, .func (PySem.W.fnOf "_law_has_shelve" "_law_has_shelve" (defArgs s_Lhas_shelve) (defBody s_Lhas_shelve) (defScope s_Lhas_shelve) .none kV_Lhas_shelve dc_Lhas_shelve pm_Lhas_shelve an_Lhas_shelve cd_Lhas_shelve ct_Lhas_shelve), sl_Lhas_shelve⟩)
    (c_Lhas_shelve : PySem.W.codeIn K cd_Lhas_shelve "_law_has_shelve" = true)
    (k_Lhas_shelve : PySem.W.keepIn K (.ref a_Lhas_shelve) = true)
    (g_Lhas_shelve : PySem.W.nsIn K mainGlobals "_law_has_shelve" = some (some (.ref a_Lhas_shelve)))
    {a_Lbarred_good : Addr}
    {od_Lbarred_good an_Lbarred_good : Option Addr} {sl_Lbarred_good : Array (Option Value)} {oc_Lbarred_good kV_Lbarred_good dc_Lbarred_good pm_Lbarred_good cd_Lbarred_good ct_Lbarred_good : Value}
    (l_Lbarred_good : K.lookup a_Lbarred_good = some ⟨oc_Lbarred_good, od_Lbarred_good, .func (PySem.W.fnOf "_law_barred_good" "_law_barred_good" (defArgs s_Lbarred_good) (defBody s_Lbarred_good) (defScope s_Lbarred_good) .none kV_Lbarred_good dc_Lbarred_good pm_Lbarred_good an_Lbarred_good cd_Lbarred_good ct_Lbarred_good), sl_Lbarred_good⟩)
    (c_Lbarred_good : PySem.W.codeIn K cd_Lbarred_good "_law_barred_good" = true)
    (k_Lbarred_good : PySem.W.keepIn K (.ref a_Lbarred_good) = true)
    (g_Lbarred_good : PySem.W.nsIn K mainGlobals "_law_barred_good" = some (some (.ref a_Lbarred_good)))
    {a_law : Addr}
    {od_law an_law : Option Addr} {sl_law : Array (Option Value)} {oc_law kV_law dc_law pm_law cd_law ct_law : Value}
    (l_law : K.lookup a_law = some ⟨oc_law, od_law, .func (PySem.W.fnOf "law" "law" (defArgs s_law) (defBody s_law) (defScope s_law) .none kV_law dc_law pm_law an_law cd_law ct_law), sl_law⟩)
    (c_law : PySem.W.codeIn K cd_law "law" = true)
    (k_law : PySem.W.keepIn K (.ref a_law) = true)
    (g_law : PySem.W.nsIn K mainGlobals "law" = some (some (.ref a_law)))
    {a_RuleSet___init__ : Addr}
    {od_RuleSet___init__ an_RuleSet___init__ : Option Addr} {sl_RuleSet___init__ : Array (Option Value)} {oc_RuleSet___init__ kV_RuleSet___init__ dc_RuleSet___init__ pm_RuleSet___init__ cd_RuleSet___init__ ct_RuleSet___init__ : Value}
    (l_RuleSet___init__ : K.lookup a_RuleSet___init__ = some ⟨oc_RuleSet___init__, od_RuleSet___init__, .func (PySem.W.fnOf "__init__" "RuleSet.__init__" (defArgs s_RuleSet___init__) (defBody s_RuleSet___init__) (defScope s_RuleSet___init__) .none kV_RuleSet___init__ dc_RuleSet___init__ pm_RuleSet___init__ an_RuleSet___init__ cd_RuleSet___init__ ct_RuleSet___init__), sl_RuleSet___init__⟩)
    (c_RuleSet___init__ : PySem.W.codeIn K cd_RuleSet___init__ "RuleSet.__init__" = true)
    (k_RuleSet___init__ : PySem.W.keepIn K (.ref a_RuleSet___init__) = true)
    {a_RuleSet___contains__ : Addr}
    {od_RuleSet___contains__ an_RuleSet___contains__ : Option Addr} {sl_RuleSet___contains__ : Array (Option Value)} {oc_RuleSet___contains__ kV_RuleSet___contains__ dc_RuleSet___contains__ pm_RuleSet___contains__ cd_RuleSet___contains__ ct_RuleSet___contains__ : Value}
    (l_RuleSet___contains__ : K.lookup a_RuleSet___contains__ = some ⟨oc_RuleSet___contains__, od_RuleSet___contains__, .func (PySem.W.fnOf "__contains__" "RuleSet.__contains__" (defArgs s_RuleSet___contains__) (defBody s_RuleSet___contains__) (defScope s_RuleSet___contains__) .none kV_RuleSet___contains__ dc_RuleSet___contains__ pm_RuleSet___contains__ an_RuleSet___contains__ cd_RuleSet___contains__ ct_RuleSet___contains__), sl_RuleSet___contains__⟩)
    (c_RuleSet___contains__ : PySem.W.codeIn K cd_RuleSet___contains__ "RuleSet.__contains__" = true)
    (k_RuleSet___contains__ : PySem.W.keepIn K (.ref a_RuleSet___contains__) = true)
    {a_Plan___init__ : Addr}
    {od_Plan___init__ an_Plan___init__ : Option Addr} {sl_Plan___init__ : Array (Option Value)} {oc_Plan___init__ kV_Plan___init__ dc_Plan___init__ pm_Plan___init__ cd_Plan___init__ ct_Plan___init__ : Value}
    (l_Plan___init__ : K.lookup a_Plan___init__ = some ⟨oc_Plan___init__, od_Plan___init__, .func (PySem.W.fnOf "__init__" "Plan.__init__" (defArgs s_Plan___init__) (defBody s_Plan___init__) (defScope s_Plan___init__) .none kV_Plan___init__ dc_Plan___init__ pm_Plan___init__ an_Plan___init__ cd_Plan___init__ ct_Plan___init__), sl_Plan___init__⟩)
    (c_Plan___init__ : PySem.W.codeIn K cd_Plan___init__ "Plan.__init__" = true)
    (k_Plan___init__ : PySem.W.keepIn K (.ref a_Plan___init__) = true)
    {a_Plan_map_place : Addr}
    {od_Plan_map_place an_Plan_map_place : Option Addr} {sl_Plan_map_place : Array (Option Value)} {oc_Plan_map_place kV_Plan_map_place dc_Plan_map_place pm_Plan_map_place cd_Plan_map_place ct_Plan_map_place : Value}
    (l_Plan_map_place : K.lookup a_Plan_map_place = some ⟨oc_Plan_map_place, od_Plan_map_place, .func (PySem.W.fnOf "map_place" "Plan.map_place" (defArgs s_Plan_map_place) (defBody s_Plan_map_place) (defScope s_Plan_map_place) .none kV_Plan_map_place dc_Plan_map_place pm_Plan_map_place an_Plan_map_place cd_Plan_map_place ct_Plan_map_place), sl_Plan_map_place⟩)
    (c_Plan_map_place : PySem.W.codeIn K cd_Plan_map_place "Plan.map_place" = true)
    (k_Plan_map_place : PySem.W.keepIn K (.ref a_Plan_map_place) = true)
    {a_Plan_node_block : Addr}
    {od_Plan_node_block an_Plan_node_block : Option Addr} {sl_Plan_node_block : Array (Option Value)} {oc_Plan_node_block kV_Plan_node_block dc_Plan_node_block pm_Plan_node_block cd_Plan_node_block ct_Plan_node_block : Value}
    (l_Plan_node_block : K.lookup a_Plan_node_block = some ⟨oc_Plan_node_block, od_Plan_node_block, .func (PySem.W.fnOf "node_block" "Plan.node_block" (defArgs s_Plan_node_block) (defBody s_Plan_node_block) (defScope s_Plan_node_block) .none kV_Plan_node_block dc_Plan_node_block pm_Plan_node_block an_Plan_node_block cd_Plan_node_block ct_Plan_node_block), sl_Plan_node_block⟩)
    (c_Plan_node_block : PySem.W.codeIn K cd_Plan_node_block "Plan.node_block" = true)
    (k_Plan_node_block : PySem.W.keepIn K (.ref a_Plan_node_block) = true)
    {a_Plan_data_blocks : Addr}
    {od_Plan_data_blocks an_Plan_data_blocks : Option Addr} {sl_Plan_data_blocks : Array (Option Value)} {oc_Plan_data_blocks kV_Plan_data_blocks dc_Plan_data_blocks pm_Plan_data_blocks cd_Plan_data_blocks ct_Plan_data_blocks : Value}
    (l_Plan_data_blocks : K.lookup a_Plan_data_blocks = some ⟨oc_Plan_data_blocks, od_Plan_data_blocks, .func (PySem.W.fnOf "data_blocks" "Plan.data_blocks" (defArgs s_Plan_data_blocks) (defBody s_Plan_data_blocks) (defScope s_Plan_data_blocks) .none kV_Plan_data_blocks dc_Plan_data_blocks pm_Plan_data_blocks an_Plan_data_blocks cd_Plan_data_blocks ct_Plan_data_blocks), sl_Plan_data_blocks⟩)
    (c_Plan_data_blocks : PySem.W.codeIn K cd_Plan_data_blocks "Plan.data_blocks" = true)
    (k_Plan_data_blocks : PySem.W.keepIn K (.ref a_Plan_data_blocks) = true)
    {a_Image___init__ : Addr}
    {od_Image___init__ an_Image___init__ : Option Addr} {sl_Image___init__ : Array (Option Value)} {oc_Image___init__ kV_Image___init__ dc_Image___init__ pm_Image___init__ cd_Image___init__ ct_Image___init__ : Value}
    (l_Image___init__ : K.lookup a_Image___init__ = some ⟨oc_Image___init__, od_Image___init__, .func (PySem.W.fnOf "__init__" "Image.__init__" (defArgs s_Image___init__) (defBody s_Image___init__) (defScope s_Image___init__) .none kV_Image___init__ dc_Image___init__ pm_Image___init__ an_Image___init__ cd_Image___init__ ct_Image___init__), sl_Image___init__⟩)
    (c_Image___init__ : PySem.W.codeIn K cd_Image___init__ "Image.__init__" = true)
    (k_Image___init__ : PySem.W.keepIn K (.ref a_Image___init__) = true)
    {a_Image_begin : Addr}
    {od_Image_begin an_Image_begin : Option Addr} {sl_Image_begin : Array (Option Value)} {oc_Image_begin kV_Image_begin dc_Image_begin pm_Image_begin cd_Image_begin ct_Image_begin : Value}
    (l_Image_begin : K.lookup a_Image_begin = some ⟨oc_Image_begin, od_Image_begin, .func (PySem.W.fnOf "begin" "Image.begin" (defArgs s_Image_begin) (defBody s_Image_begin) (defScope s_Image_begin) .none kV_Image_begin dc_Image_begin pm_Image_begin an_Image_begin cd_Image_begin ct_Image_begin), sl_Image_begin⟩)
    (c_Image_begin : PySem.W.codeIn K cd_Image_begin "Image.begin" = true)
    (k_Image_begin : PySem.W.keepIn K (.ref a_Image_begin) = true)
    {a_Image_settle : Addr}
    {od_Image_settle an_Image_settle : Option Addr} {sl_Image_settle : Array (Option Value)} {oc_Image_settle kV_Image_settle dc_Image_settle pm_Image_settle cd_Image_settle ct_Image_settle : Value}
    (l_Image_settle : K.lookup a_Image_settle = some ⟨oc_Image_settle, od_Image_settle, .func (PySem.W.fnOf "settle" "Image.settle" (defArgs s_Image_settle) (defBody s_Image_settle) (defScope s_Image_settle) .none kV_Image_settle dc_Image_settle pm_Image_settle an_Image_settle cd_Image_settle ct_Image_settle), sl_Image_settle⟩)
    (c_Image_settle : PySem.W.codeIn K cd_Image_settle "Image.settle" = true)
    (k_Image_settle : PySem.W.keepIn K (.ref a_Image_settle) = true)
    {a_Image_twin : Addr}
    {od_Image_twin an_Image_twin : Option Addr} {sl_Image_twin : Array (Option Value)} {oc_Image_twin kV_Image_twin dc_Image_twin pm_Image_twin cd_Image_twin ct_Image_twin : Value}
    (l_Image_twin : K.lookup a_Image_twin = some ⟨oc_Image_twin, od_Image_twin, .func (PySem.W.fnOf "twin" "Image.twin" (defArgs s_Image_twin) (defBody s_Image_twin) (defScope s_Image_twin) .none kV_Image_twin dc_Image_twin pm_Image_twin an_Image_twin cd_Image_twin ct_Image_twin), sl_Image_twin⟩)
    (c_Image_twin : PySem.W.codeIn K cd_Image_twin "Image.twin" = true)
    (k_Image_twin : PySem.W.keepIn K (.ref a_Image_twin) = true)
    {a_Image_take : Addr}
    {od_Image_take an_Image_take : Option Addr} {sl_Image_take : Array (Option Value)} {oc_Image_take kV_Image_take dc_Image_take pm_Image_take cd_Image_take ct_Image_take : Value}
    (l_Image_take : K.lookup a_Image_take = some ⟨oc_Image_take, od_Image_take, .func (PySem.W.fnOf "take" "Image.take" (defArgs s_Image_take) (defBody s_Image_take) (defScope s_Image_take) .none kV_Image_take dc_Image_take pm_Image_take an_Image_take cd_Image_take ct_Image_take), sl_Image_take⟩)
    (c_Image_take : PySem.W.codeIn K cd_Image_take "Image.take" = true)
    (k_Image_take : PySem.W.keepIn K (.ref a_Image_take) = true)
    {a_Image_give : Addr}
    {od_Image_give an_Image_give : Option Addr} {sl_Image_give : Array (Option Value)} {oc_Image_give kV_Image_give dc_Image_give pm_Image_give cd_Image_give ct_Image_give : Value}
    (l_Image_give : K.lookup a_Image_give = some ⟨oc_Image_give, od_Image_give, .func (PySem.W.fnOf "give" "Image.give" (defArgs s_Image_give) (defBody s_Image_give) (defScope s_Image_give) .none kV_Image_give dc_Image_give pm_Image_give an_Image_give cd_Image_give ct_Image_give), sl_Image_give⟩)
    (c_Image_give : PySem.W.codeIn K cd_Image_give "Image.give" = true)
    (k_Image_give : PySem.W.keepIn K (.ref a_Image_give) = true)
    {a_Image__put_block : Addr}
    {od_Image__put_block an_Image__put_block : Option Addr} {sl_Image__put_block : Array (Option Value)} {oc_Image__put_block kV_Image__put_block dc_Image__put_block pm_Image__put_block cd_Image__put_block ct_Image__put_block : Value}
    (l_Image__put_block : K.lookup a_Image__put_block = some ⟨oc_Image__put_block, od_Image__put_block, .func (PySem.W.fnOf "_put_block" "Image._put_block" (defArgs s_Image__put_block) (defBody s_Image__put_block) (defScope s_Image__put_block) .none kV_Image__put_block dc_Image__put_block pm_Image__put_block an_Image__put_block cd_Image__put_block ct_Image__put_block), sl_Image__put_block⟩)
    (c_Image__put_block : PySem.W.codeIn K cd_Image__put_block "Image._put_block" = true)
    (k_Image__put_block : PySem.W.keepIn K (.ref a_Image__put_block) = true)
    {a_Image_free_blocks : Addr}
    {od_Image_free_blocks an_Image_free_blocks : Option Addr} {sl_Image_free_blocks : Array (Option Value)} {oc_Image_free_blocks kV_Image_free_blocks dc_Image_free_blocks pm_Image_free_blocks cd_Image_free_blocks ct_Image_free_blocks : Value}
    (l_Image_free_blocks : K.lookup a_Image_free_blocks = some ⟨oc_Image_free_blocks, od_Image_free_blocks, .func (PySem.W.fnOf "free_blocks" "Image.free_blocks" (defArgs s_Image_free_blocks) (defBody s_Image_free_blocks) (defScope s_Image_free_blocks) .none kV_Image_free_blocks dc_Image_free_blocks pm_Image_free_blocks an_Image_free_blocks cd_Image_free_blocks ct_Image_free_blocks), sl_Image_free_blocks⟩)
    (c_Image_free_blocks : PySem.W.codeIn K cd_Image_free_blocks "Image.free_blocks" = true)
    (k_Image_free_blocks : PySem.W.keepIn K (.ref a_Image_free_blocks) = true)
    {a_Image_kind : Addr}
    {od_Image_kind an_Image_kind : Option Addr} {sl_Image_kind : Array (Option Value)} {oc_Image_kind kV_Image_kind dc_Image_kind pm_Image_kind cd_Image_kind ct_Image_kind : Value}
    (l_Image_kind : K.lookup a_Image_kind = some ⟨oc_Image_kind, od_Image_kind, .func (PySem.W.fnOf "kind" "Image.kind" (defArgs s_Image_kind) (defBody s_Image_kind) (defScope s_Image_kind) .none kV_Image_kind dc_Image_kind pm_Image_kind an_Image_kind cd_Image_kind ct_Image_kind), sl_Image_kind⟩)
    (c_Image_kind : PySem.W.codeIn K cd_Image_kind "Image.kind" = true)
    (k_Image_kind : PySem.W.keepIn K (.ref a_Image_kind) = true)
    {a_Lot___init__ : Addr}
    {od_Lot___init__ an_Lot___init__ : Option Addr} {sl_Lot___init__ : Array (Option Value)} {oc_Lot___init__ kV_Lot___init__ dc_Lot___init__ pm_Lot___init__ cd_Lot___init__ ct_Lot___init__ : Value}
    (l_Lot___init__ : K.lookup a_Lot___init__ = some ⟨oc_Lot___init__, od_Lot___init__, .func (PySem.W.fnOf "__init__" "Lot.__init__" (defArgs s_Lot___init__) (defBody s_Lot___init__) (defScope s_Lot___init__) .none kV_Lot___init__ dc_Lot___init__ pm_Lot___init__ an_Lot___init__ cd_Lot___init__ ct_Lot___init__), sl_Lot___init__⟩)
    (c_Lot___init__ : PySem.W.codeIn K cd_Lot___init__ "Lot.__init__" = true)
    (k_Lot___init__ : PySem.W.keepIn K (.ref a_Lot___init__) = true)
    {a_Lot_keep_copy : Addr}
    {od_Lot_keep_copy an_Lot_keep_copy : Option Addr} {sl_Lot_keep_copy : Array (Option Value)} {oc_Lot_keep_copy kV_Lot_keep_copy dc_Lot_keep_copy pm_Lot_keep_copy cd_Lot_keep_copy ct_Lot_keep_copy : Value}
    (l_Lot_keep_copy : K.lookup a_Lot_keep_copy = some ⟨oc_Lot_keep_copy, od_Lot_keep_copy, .func (PySem.W.fnOf "keep_copy" "Lot.keep_copy" (defArgs s_Lot_keep_copy) (defBody s_Lot_keep_copy) (defScope s_Lot_keep_copy) .none kV_Lot_keep_copy dc_Lot_keep_copy pm_Lot_keep_copy an_Lot_keep_copy cd_Lot_keep_copy ct_Lot_keep_copy), sl_Lot_keep_copy⟩)
    (c_Lot_keep_copy : PySem.W.codeIn K cd_Lot_keep_copy "Lot.keep_copy" = true)
    (k_Lot_keep_copy : PySem.W.keepIn K (.ref a_Lot_keep_copy) = true)
    {a_Lot_keep_mark : Addr}
    {od_Lot_keep_mark an_Lot_keep_mark : Option Addr} {sl_Lot_keep_mark : Array (Option Value)} {oc_Lot_keep_mark kV_Lot_keep_mark dc_Lot_keep_mark pm_Lot_keep_mark cd_Lot_keep_mark ct_Lot_keep_mark : Value}
    (l_Lot_keep_mark : K.lookup a_Lot_keep_mark = some ⟨oc_Lot_keep_mark, od_Lot_keep_mark, .func (PySem.W.fnOf "keep_mark" "Lot.keep_mark" (defArgs s_Lot_keep_mark) (defBody s_Lot_keep_mark) (defScope s_Lot_keep_mark) .none kV_Lot_keep_mark dc_Lot_keep_mark pm_Lot_keep_mark an_Lot_keep_mark cd_Lot_keep_mark ct_Lot_keep_mark), sl_Lot_keep_mark⟩)
    (c_Lot_keep_mark : PySem.W.codeIn K cd_Lot_keep_mark "Lot.keep_mark" = true)
    (k_Lot_keep_mark : PySem.W.keepIn K (.ref a_Lot_keep_mark) = true)
    {a_Lot_used_slots : Addr}
    {od_Lot_used_slots an_Lot_used_slots : Option Addr} {sl_Lot_used_slots : Array (Option Value)} {oc_Lot_used_slots kV_Lot_used_slots dc_Lot_used_slots pm_Lot_used_slots cd_Lot_used_slots ct_Lot_used_slots : Value}
    (l_Lot_used_slots : K.lookup a_Lot_used_slots = some ⟨oc_Lot_used_slots, od_Lot_used_slots, .func (PySem.W.fnOf "used_slots" "Lot.used_slots" (defArgs s_Lot_used_slots) (defBody s_Lot_used_slots) (defScope s_Lot_used_slots) .none kV_Lot_used_slots dc_Lot_used_slots pm_Lot_used_slots an_Lot_used_slots cd_Lot_used_slots ct_Lot_used_slots), sl_Lot_used_slots⟩)
    (c_Lot_used_slots : PySem.W.codeIn K cd_Lot_used_slots "Lot.used_slots" = true)
    (k_Lot_used_slots : PySem.W.keepIn K (.ref a_Lot_used_slots) = true)
    {a_Book_of_number : Addr}
    {od_Book_of_number an_Book_of_number : Option Addr} {sl_Book_of_number : Array (Option Value)} {oc_Book_of_number kV_Book_of_number dc_Book_of_number pm_Book_of_number cd_Book_of_number ct_Book_of_number : Value}
    (l_Book_of_number : K.lookup a_Book_of_number = some ⟨oc_Book_of_number, od_Book_of_number, .func (PySem.W.fnOf "of_number" "Book.of_number" (defArgs s_Book_of_number) (defBody s_Book_of_number) (defScope s_Book_of_number) .none kV_Book_of_number dc_Book_of_number pm_Book_of_number an_Book_of_number cd_Book_of_number ct_Book_of_number), sl_Book_of_number⟩)
    (c_Book_of_number : PySem.W.codeIn K cd_Book_of_number "Book.of_number" = true)
    (k_Book_of_number : PySem.W.keepIn K (.ref a_Book_of_number) = true)
    {a_Image_fresh : Addr}
    {od_Image_fresh an_Image_fresh : Option Addr} {sl_Image_fresh : Array (Option Value)} {oc_Image_fresh kV_Image_fresh dc_Image_fresh pm_Image_fresh cd_Image_fresh ct_Image_fresh : Value}
    (l_Image_fresh : K.lookup a_Image_fresh = some ⟨oc_Image_fresh, od_Image_fresh, .func (PySem.W.fnOf "fresh" "Image.fresh" (defArgs s_Image_fresh) (defBody s_Image_fresh) (defScope s_Image_fresh) .none kV_Image_fresh dc_Image_fresh pm_Image_fresh an_Image_fresh cd_Image_fresh ct_Image_fresh), sl_Image_fresh⟩)
    (c_Image_fresh : PySem.W.codeIn K cd_Image_fresh "Image.fresh" = true)
    (k_Image_fresh : PySem.W.keepIn K (.ref a_Image_fresh) = true)
    {a_Image_of_cells : Addr}
    {od_Image_of_cells an_Image_of_cells : Option Addr} {sl_Image_of_cells : Array (Option Value)} {oc_Image_of_cells kV_Image_of_cells dc_Image_of_cells pm_Image_of_cells cd_Image_of_cells ct_Image_of_cells : Value}
    (l_Image_of_cells : K.lookup a_Image_of_cells = some ⟨oc_Image_of_cells, od_Image_of_cells, .func (PySem.W.fnOf "of_cells" "Image.of_cells" (defArgs s_Image_of_cells) (defBody s_Image_of_cells) (defScope s_Image_of_cells) .none kV_Image_of_cells dc_Image_of_cells pm_Image_of_cells an_Image_of_cells cd_Image_of_cells ct_Image_of_cells), sl_Image_of_cells⟩)
    (c_Image_of_cells : PySem.W.codeIn K cd_Image_of_cells "Image.of_cells" = true)
    (k_Image_of_cells : PySem.W.keepIn K (.ref a_Image_of_cells) = true)
    {aC_Plan : Addr}
    (g_Plan : PySem.W.nsIn K mainGlobals "Plan" = some (some (.ref aC_Plan)))
    (pg_Plan : PySem.W.plainGet K aC_Plan Str.empty = true)
    (hd_Plan : PySem.W.hasDictIn K aC_Plan = true)
    (po_Plan : PySem.W.plainOver K aC_Plan = true)
    (sa_Plan : PySem.W.findIn K (.ref aC_Plan) "__setattr__" = some (some (.builtin "object.__setattr__")))
    (n_Plan_blocks : PySem.W.findIn K (.ref aC_Plan) "blocks" = some none)
    (n_Plan_nodes : PySem.W.findIn K (.ref aC_Plan) "nodes" = some none)
    (n_Plan_slots : PySem.W.findIn K (.ref aC_Plan) "slots" = some none)
    (n_Plan_maps : PySem.W.findIn K (.ref aC_Plan) "maps" = some none)
    (n_Plan_first_node : PySem.W.findIn K (.ref aC_Plan) "first_node" = some none)
    (n_Plan_first_data : PySem.W.findIn K (.ref aC_Plan) "first_data" = some none)
    (mk1_Plan : PySem.W.makesIn K aC_Plan = true)
    (mk2_Plan : PySem.W.findIn K (.ref aC_Plan) "__init__" = some (some (.ref a_Plan___init__)))
    (mk3_Plan : PySem.W.isFn K (.ref a_Plan___init__) = true)
    (mk4_Plan : PySem.W.keepIn K (.ref aC_Plan) = true)
    {mcv_Plan : Value}
    (tp_Plan : PySem.W.typeIn K (.ref aC_Plan) = some mcv_Plan)
    (rd_Plan : PySem.W.readsIn K aC_Plan mcv_Plan = true)
    (ga_Plan : PySem.W.specialIn K (.ref aC_Plan) "__getattribute__" = some (some (.builtin "type.__getattribute__")))
    {tv_Plan_WIDTH : Tok}
    (v_Plan_WIDTH : PySem.W.findCls K (.ref aC_Plan) mcv_Plan "WIDTH" = some (.val (.int 8 tv_Plan_WIDTH)))
    {tv_Plan_OWNERS : Tok}
    (v_Plan_OWNERS : PySem.W.findCls K (.ref aC_Plan) mcv_Plan "OWNERS" = some (.val (.int 4 tv_Plan_OWNERS)))
    {tv_Plan_FREE : Tok}
    (v_Plan_FREE : PySem.W.findCls K (.ref aC_Plan) mcv_Plan "FREE" = some (.val (.int 0 tv_Plan_FREE)))
    {tv_Plan_LOGGED : Tok}
    (v_Plan_LOGGED : PySem.W.findCls K (.ref aC_Plan) mcv_Plan "LOGGED" = some (.val (.int 1 tv_Plan_LOGGED)))
    {tv_Plan_PLAIN : Tok}
    (v_Plan_PLAIN : PySem.W.findCls K (.ref aC_Plan) mcv_Plan "PLAIN" = some (.val (.int 2 tv_Plan_PLAIN)))
    {tc_Plan_WIDTH : Tok}
    (o_Plan_WIDTH : PySem.W.findIn K (.ref aC_Plan) "WIDTH" = some (some (.int 8 tc_Plan_WIDTH)))
    (og_Plan_WIDTH : PySem.W.specialIn K (.int 8 tc_Plan_WIDTH) "__get__" = some none)
    {aC_RuleSet : Addr}
    (g_RuleSet : PySem.W.nsIn K mainGlobals "RuleSet" = some (some (.ref aC_RuleSet)))
    (pg_RuleSet : PySem.W.plainGet K aC_RuleSet Str.empty = true)
    (hd_RuleSet : PySem.W.hasDictIn K aC_RuleSet = true)
    (po_RuleSet : PySem.W.plainOver K aC_RuleSet = true)
    (sa_RuleSet : PySem.W.findIn K (.ref aC_RuleSet) "__setattr__" = some (some (.builtin "object.__setattr__")))
    {mcv_RuleSet : Value}
    (tp_RuleSet : PySem.W.typeIn K (.ref aC_RuleSet) = some mcv_RuleSet)
    (rd_RuleSet : PySem.W.readsIn K aC_RuleSet mcv_RuleSet = true)
    (ga_RuleSet : PySem.W.specialIn K (.ref aC_RuleSet) "__getattribute__" = some (some (.builtin "type.__getattribute__")))
    {tA_RuleSet_RULES : Addr}
    {tod_RuleSet_RULES : Option Addr} {tsl_RuleSet_RULES : Array (Option Value)} {tn_RuleSet_RULES : Nat} {tits_RuleSet_RULES : Array Value}
    (tk_RuleSet_RULES : K.lookup tA_RuleSet_RULES = some ⟨.type "tuple", tod_RuleSet_RULES, .seq tits_RuleSet_RULES tn_RuleSet_RULES, tsl_RuleSet_RULES⟩)
    (tr_RuleSet_RULES : Rg.relAllS [] tits_RuleSet_RULES.toList = true)
    (tv1_RuleSet_RULES : PySem.W.findCls K (.ref aC_RuleSet) mcv_RuleSet "RULES" = some (.val (.ref tA_RuleSet_RULES)))
    {aC_Book : Addr}
    (g_Book : PySem.W.nsIn K mainGlobals "Book" = some (some (.ref aC_Book)))
    (pg_Book : PySem.W.plainGet K aC_Book Str.empty = true)
    (hd_Book : PySem.W.hasDictIn K aC_Book = true)
    (po_Book : PySem.W.plainOver K aC_Book = true)
    (sa_Book : PySem.W.findIn K (.ref aC_Book) "__setattr__" = some (some (.builtin "object.__setattr__")))
    (n_Book_names : PySem.W.findIn K (.ref aC_Book) "names" = some none)
    (n_Book_number : PySem.W.findIn K (.ref aC_Book) "number" = some none)
    {mcv_Book : Value}
    (tp_Book : PySem.W.typeIn K (.ref aC_Book) = some mcv_Book)
    (rd_Book : PySem.W.readsIn K aC_Book mcv_Book = true)
    (ga_Book : PySem.W.specialIn K (.ref aC_Book) "__getattribute__" = some (some (.builtin "type.__getattribute__")))
    {tA_Book_RULES : Addr}
    {tod_Book_RULES : Option Addr} {tsl_Book_RULES : Array (Option Value)} {tn_Book_RULES : Nat} {tits_Book_RULES : Array Value}
    (tk_Book_RULES : K.lookup tA_Book_RULES = some ⟨.type "tuple", tod_Book_RULES, .seq tits_Book_RULES tn_Book_RULES, tsl_Book_RULES⟩)
    (tr_Book_RULES : Rg.relAllS [.str "copies", .str "mark", .str "words", .str "reuse", .str "late", .str "revoke", .str "lapse", .str "shelve", .str "frozen", .str "wait", .str "room", .str "told"] tits_Book_RULES.toList = true)
    (tv1_Book_RULES : PySem.W.findCls K (.ref aC_Book) mcv_Book "RULES" = some (.val (.ref tA_Book_RULES)))
    (tc1_Book_RULES : PySem.W.findIn K (.ref aC_Book) "RULES" = some (some (.ref tA_Book_RULES)))
    (tc2_Book_RULES : PySem.W.specialIn K (.ref tA_Book_RULES) "__get__" = some none)
    {aC_Image : Addr}
    (g_Image : PySem.W.nsIn K mainGlobals "Image" = some (some (.ref aC_Image)))
    (pg_Image : PySem.W.plainGet K aC_Image Str.empty = true)
    (hd_Image : PySem.W.hasDictIn K aC_Image = true)
    (po_Image : PySem.W.plainOver K aC_Image = true)
    (sa_Image : PySem.W.findIn K (.ref aC_Image) "__setattr__" = some (some (.builtin "object.__setattr__")))
    (n_Image_plan : PySem.W.findIn K (.ref aC_Image) "plan" = some none)
    (n_Image_cells : PySem.W.findIn K (.ref aC_Image) "cells" = some none)
    (n_Image_holdings : PySem.W.findIn K (.ref aC_Image) "holdings" = some none)
    (n_Image_stamps : PySem.W.findIn K (.ref aC_Image) "stamps" = some none)
    (n_Image_handles : PySem.W.findIn K (.ref aC_Image) "handles" = some none)
    (n_Image_serial : PySem.W.findIn K (.ref aC_Image) "serial" = some none)
    (n_Image_wish : PySem.W.findIn K (.ref aC_Image) "wish" = some none)
    (n_Image_barred : PySem.W.findIn K (.ref aC_Image) "barred" = some none)
    (mk1_Image : PySem.W.makesIn K aC_Image = true)
    (mk2_Image : PySem.W.findIn K (.ref aC_Image) "__init__" = some (some (.ref a_Image___init__)))
    (mk3_Image : PySem.W.isFn K (.ref a_Image___init__) = true)
    (mk4_Image : PySem.W.keepIn K (.ref aC_Image) = true)
    {mcv_Image : Value}
    (tp_Image : PySem.W.typeIn K (.ref aC_Image) = some mcv_Image)
    (rd_Image : PySem.W.readsIn K aC_Image mcv_Image = true)
    (ga_Image : PySem.W.specialIn K (.ref aC_Image) "__getattribute__" = some (some (.builtin "type.__getattribute__")))
    {aC_Lot : Addr}
    (g_Lot : PySem.W.nsIn K mainGlobals "Lot" = some (some (.ref aC_Lot)))
    (pg_Lot : PySem.W.plainGet K aC_Lot Str.empty = true)
    (hd_Lot : PySem.W.hasDictIn K aC_Lot = true)
    (po_Lot : PySem.W.plainOver K aC_Lot = true)
    (sa_Lot : PySem.W.findIn K (.ref aC_Lot) "__setattr__" = some (some (.builtin "object.__setattr__")))
    (n_Lot_number : PySem.W.findIn K (.ref aC_Lot) "number" = some none)
    (n_Lot_image : PySem.W.findIn K (.ref aC_Lot) "image" = some none)
    (n_Lot_copies : PySem.W.findIn K (.ref aC_Lot) "copies" = some none)
    (n_Lot_identities : PySem.W.findIn K (.ref aC_Lot) "identities" = some none)
    (n_Lot_mark : PySem.W.findIn K (.ref aC_Lot) "mark" = some none)
    (n_Lot_mark_slot : PySem.W.findIn K (.ref aC_Lot) "mark_slot" = some none)
    (n_Lot_revokes : PySem.W.findIn K (.ref aC_Lot) "revokes" = some none)
    (mk1_Lot : PySem.W.makesIn K aC_Lot = true)
    (mk2_Lot : PySem.W.findIn K (.ref aC_Lot) "__init__" = some (some (.ref a_Lot___init__)))
    (mk3_Lot : PySem.W.isFn K (.ref a_Lot___init__) = true)
    (mk4_Lot : PySem.W.keepIn K (.ref aC_Lot) = true)
    (m1_RuleSet___contains__ : PySem.W.findIn K (.ref aC_RuleSet) "__contains__" = some (some (.ref a_RuleSet___contains__)))
    (m2_RuleSet___contains__ : PySem.W.isFn K (.ref a_RuleSet___contains__) = true)
    (m1_Plan_map_place : PySem.W.findIn K (.ref aC_Plan) "map_place" = some (some (.ref a_Plan_map_place)))
    (m2_Plan_map_place : PySem.W.isFn K (.ref a_Plan_map_place) = true)
    (m1_Plan_node_block : PySem.W.findIn K (.ref aC_Plan) "node_block" = some (some (.ref a_Plan_node_block)))
    (m2_Plan_node_block : PySem.W.isFn K (.ref a_Plan_node_block) = true)
    (m1_Plan_data_blocks : PySem.W.findIn K (.ref aC_Plan) "data_blocks" = some (some (.ref a_Plan_data_blocks)))
    (m2_Plan_data_blocks : PySem.W.isFn K (.ref a_Plan_data_blocks) = true)
    (m1_Image_begin : PySem.W.findIn K (.ref aC_Image) "begin" = some (some (.ref a_Image_begin)))
    (m2_Image_begin : PySem.W.isFn K (.ref a_Image_begin) = true)
    (m1_Image_settle : PySem.W.findIn K (.ref aC_Image) "settle" = some (some (.ref a_Image_settle)))
    (m2_Image_settle : PySem.W.isFn K (.ref a_Image_settle) = true)
    (m1_Image_twin : PySem.W.findIn K (.ref aC_Image) "twin" = some (some (.ref a_Image_twin)))
    (m2_Image_twin : PySem.W.isFn K (.ref a_Image_twin) = true)
    (m1_Image_take : PySem.W.findIn K (.ref aC_Image) "take" = some (some (.ref a_Image_take)))
    (m2_Image_take : PySem.W.isFn K (.ref a_Image_take) = true)
    (m1_Image_give : PySem.W.findIn K (.ref aC_Image) "give" = some (some (.ref a_Image_give)))
    (m2_Image_give : PySem.W.isFn K (.ref a_Image_give) = true)
    (m1_Image__put_block : PySem.W.findIn K (.ref aC_Image) "_put_block" = some (some (.ref a_Image__put_block)))
    (m2_Image__put_block : PySem.W.isFn K (.ref a_Image__put_block) = true)
    (m1_Image_free_blocks : PySem.W.findIn K (.ref aC_Image) "free_blocks" = some (some (.ref a_Image_free_blocks)))
    (m2_Image_free_blocks : PySem.W.isFn K (.ref a_Image_free_blocks) = true)
    (m1_Image_kind : PySem.W.findIn K (.ref aC_Image) "kind" = some (some (.ref a_Image_kind)))
    (m2_Image_kind : PySem.W.isFn K (.ref a_Image_kind) = true)
    (m1_Lot_keep_copy : PySem.W.findIn K (.ref aC_Lot) "keep_copy" = some (some (.ref a_Lot_keep_copy)))
    (m2_Lot_keep_copy : PySem.W.isFn K (.ref a_Lot_keep_copy) = true)
    (m1_Lot_keep_mark : PySem.W.findIn K (.ref aC_Lot) "keep_mark" = some (some (.ref a_Lot_keep_mark)))
    (m2_Lot_keep_mark : PySem.W.isFn K (.ref a_Lot_keep_mark) = true)
    (m1_Lot_used_slots : PySem.W.findIn K (.ref aC_Lot) "used_slots" = some (some (.ref a_Lot_used_slots)))
    (m2_Lot_used_slots : PySem.W.isFn K (.ref a_Lot_used_slots) = true)
    {sp_Book_of_number : Addr} {sr_Book_of_number : List Value}
    (s1_Book_of_number : PySem.W.findCls K (.ref aC_Book) mcv_Book "of_number" = some (.get (.builtin "staticmethod.__get__") (.ref sp_Book_of_number) .none (.ref aC_Book)))
    (s2_Book_of_number : PySem.W.recIn K sp_Book_of_number "staticmethod" = some (.ref a_Book_of_number :: sr_Book_of_number))
    {sp_Image_fresh : Addr} {sr_Image_fresh : List Value}
    (s1_Image_fresh : PySem.W.findCls K (.ref aC_Image) mcv_Image "fresh" = some (.get (.builtin "staticmethod.__get__") (.ref sp_Image_fresh) .none (.ref aC_Image)))
    (s2_Image_fresh : PySem.W.recIn K sp_Image_fresh "staticmethod" = some (.ref a_Image_fresh :: sr_Image_fresh))
    {sp_Image_of_cells : Addr} {sr_Image_of_cells : List Value}
    (s1_Image_of_cells : PySem.W.findCls K (.ref aC_Image) mcv_Image "of_cells" = some (.get (.builtin "staticmethod.__get__") (.ref sp_Image_of_cells) .none (.ref aC_Image)))
    (s2_Image_of_cells : PySem.W.recIn K sp_Image_of_cells "staticmethod" = some (.ref a_Image_of_cells :: sr_Image_of_cells))
    {aC_BadValue : Addr}
    (g_BadValue : PySem.W.nsIn K mainGlobals "BadValue" = some (some (.ref aC_BadValue)))
    (be1_BadValue : PySem.W.subIn K (.ref aC_BadValue) (.type "BaseException") = some true)
    (te1_BadValue : PySem.W.typeIn K (.ref aC_BadValue) = some (.type "type"))
    (ie1_BadValue : PySem.W.isClsIn K aC_BadValue = true)
    (xe1_BadValue : PySem.W.excIn K aC_BadValue [.type "ValueError", .type "Exception", .type "BaseException", .type "object"] "ValueError.__new__" = true)
    (ke1_BadValue : PySem.W.keepIn K (.ref aC_BadValue) = true)
    (ec1_BadValue : PySem.W.findIn K (.ref aC_BadValue) "__getattribute__" = some (some (.builtin "BaseException.__getattribute__")))
    (ec2_BadValue : PySem.W.findIn K (.ref aC_BadValue) "__getattr__" = some none)
    (ec4_BadValue : PySem.W.hasDictIn K aC_BadValue = true)
    (ec5_BadValue : PySem.W.findIn K (.ref aC_BadValue) "__class__" = some (some (.builtin "object.__class__")))
    (ec6_BadValue : PySem.W.specialIn K (.builtin "object.__class__") "__get__" = some (some (.builtin "getset_descriptor.__get__")))
    (ec7_BadValue : PySem.W.takesIn K (.builtin "object.__class__") = some true)
    (ec8_BadValue : PySem.W.mroIn K aC_BadValue (.type "object") = some true)
    {aC_BlocksFull : Addr}
    (g_BlocksFull : PySem.W.nsIn K mainGlobals "BlocksFull" = some (some (.ref aC_BlocksFull)))
    (be1_BlocksFull : PySem.W.subIn K (.ref aC_BlocksFull) (.type "BaseException") = some true)
    (te1_BlocksFull : PySem.W.typeIn K (.ref aC_BlocksFull) = some (.type "type"))
    (ie1_BlocksFull : PySem.W.isClsIn K aC_BlocksFull = true)
    (xe1_BlocksFull : PySem.W.excIn K aC_BlocksFull [.type "ValueError", .type "Exception", .type "BaseException", .type "object"] "ValueError.__new__" = true)
    (ke1_BlocksFull : PySem.W.keepIn K (.ref aC_BlocksFull) = true)
    (ec1_BlocksFull : PySem.W.findIn K (.ref aC_BlocksFull) "__getattribute__" = some (some (.builtin "BaseException.__getattribute__")))
    (ec2_BlocksFull : PySem.W.findIn K (.ref aC_BlocksFull) "__getattr__" = some none)
    (ec4_BlocksFull : PySem.W.hasDictIn K aC_BlocksFull = true)
    (ec5_BlocksFull : PySem.W.findIn K (.ref aC_BlocksFull) "__class__" = some (some (.builtin "object.__class__")))
    (ec6_BlocksFull : PySem.W.specialIn K (.builtin "object.__class__") "__get__" = some (some (.builtin "getset_descriptor.__get__")))
    (ec7_BlocksFull : PySem.W.takesIn K (.builtin "object.__class__") = some true)
    (ec8_BlocksFull : PySem.W.mroIn K aC_BlocksFull (.type "object") = some true)
    {aC_OverQuota : Addr}
    (g_OverQuota : PySem.W.nsIn K mainGlobals "OverQuota" = some (some (.ref aC_OverQuota)))
    (be1_OverQuota : PySem.W.subIn K (.ref aC_OverQuota) (.type "BaseException") = some true)
    (te1_OverQuota : PySem.W.typeIn K (.ref aC_OverQuota) = some (.type "type"))
    (ie1_OverQuota : PySem.W.isClsIn K aC_OverQuota = true)
    (xe1_OverQuota : PySem.W.excIn K aC_OverQuota [.type "ValueError", .type "Exception", .type "BaseException", .type "object"] "ValueError.__new__" = true)
    (ke1_OverQuota : PySem.W.keepIn K (.ref aC_OverQuota) = true)
    (ec1_OverQuota : PySem.W.findIn K (.ref aC_OverQuota) "__getattribute__" = some (some (.builtin "BaseException.__getattribute__")))
    (ec2_OverQuota : PySem.W.findIn K (.ref aC_OverQuota) "__getattr__" = some none)
    (ec4_OverQuota : PySem.W.hasDictIn K aC_OverQuota = true)
    (ec5_OverQuota : PySem.W.findIn K (.ref aC_OverQuota) "__class__" = some (some (.builtin "object.__class__")))
    (ec6_OverQuota : PySem.W.specialIn K (.builtin "object.__class__") "__get__" = some (some (.builtin "getset_descriptor.__get__")))
    (ec7_OverQuota : PySem.W.takesIn K (.builtin "object.__class__") = some true)
    (ec8_OverQuota : PySem.W.mroIn K aC_OverQuota (.type "object") = some true)
    {t_LEAST_BLOCKS : Tok}
    (gc_LEAST_BLOCKS : PySem.W.nsIn K mainGlobals "LEAST_BLOCKS" = some (some (.int 8 t_LEAST_BLOCKS)))
    {t_MOST_BLOCKS : Tok}
    (gc_MOST_BLOCKS : PySem.W.nsIn K mainGlobals "MOST_BLOCKS" = some (some (.int 64 t_MOST_BLOCKS)))
    {t_LEAST_NODES : Tok}
    (gc_LEAST_NODES : PySem.W.nsIn K mainGlobals "LEAST_NODES" = some (some (.int 2 t_LEAST_NODES)))
    {t_MOST_NODES : Tok}
    (gc_MOST_NODES : PySem.W.nsIn K mainGlobals "MOST_NODES" = some (some (.int 16 t_MOST_NODES)))
    {t_MOST_SLOTS : Tok}
    (gc_MOST_SLOTS : PySem.W.nsIn K mainGlobals "MOST_SLOTS" = some (some (.int 200 t_MOST_SLOTS)))
    {t_LEAST_DATA : Tok}
    (gc_LEAST_DATA : PySem.W.nsIn K mainGlobals "LEAST_DATA" = some (some (.int 2 t_LEAST_DATA)))
    {t_FIRST_MAP : Tok}
    (gc_FIRST_MAP : PySem.W.nsIn K mainGlobals "FIRST_MAP" = some (some (.int 2 t_FIRST_MAP)))
    {t_SUMS_BLOCK : Tok}
    (gc_SUMS_BLOCK : PySem.W.nsIn K mainGlobals "SUMS_BLOCK" = some (some (.int 0 t_SUMS_BLOCK)))
    {t_ROOT : Tok}
    (gc_ROOT : PySem.W.nsIn K mainGlobals "ROOT" = some (some (.int 1 t_ROOT)))
    {t_KIND : Tok}
    (gc_KIND : PySem.W.nsIn K mainGlobals "KIND" = some (some (.int 0 t_KIND)))
    {t_LINKS : Tok}
    (gc_LINKS : PySem.W.nsIn K mainGlobals "LINKS" = some (some (.int 1 t_LINKS)))
    {t_MAKING : Tok}
    (gc_MAKING : PySem.W.nsIn K mainGlobals "MAKING" = some (some (.int 7 t_MAKING)))
    {t_FOLDER : Tok}
    (gc_FOLDER : PySem.W.nsIn K mainGlobals "FOLDER" = some (some (.int 2 t_FOLDER)))
    {t_NO_SLOT : Tok}
    (gc_NO_SLOT : PySem.W.nsIn K mainGlobals "NO_SLOT" = some (some (.int (-1) t_NO_SLOT)))
    (mk1_Book : PySem.W.makesIn K aC_Book = true)
    (mk2_Book : PySem.W.findIn K (.ref aC_Book) "__init__" = some (some (.ref a_RuleSet___init__)))
    (mk3_Book : PySem.W.isFn K (.ref a_RuleSet___init__) = true)
    (mk4_Book : PySem.W.keepIn K (.ref aC_Book) = true)
    (bm1_contains : PySem.W.findIn K (.ref aC_Book) "__contains__" = some (some (.ref a_RuleSet___contains__)))
    (bm2_contains : PySem.W.isFn K (.ref a_RuleSet___contains__) = true)
    (sf1_Book : PySem.W.selfFirst K aC_Book = true)
    (nb_abs : PySem.W.nsIn K mainGlobals "abs" = some none)
    (nb_bool : PySem.W.nsIn K mainGlobals "bool" = some none)
    (nb_dict : PySem.W.nsIn K mainGlobals "dict" = some none)
    (nb_enumerate : PySem.W.nsIn K mainGlobals "enumerate" = some none)
    (nb_int : PySem.W.nsIn K mainGlobals "int" = some none)
    (nb_isinstance : PySem.W.nsIn K mainGlobals "isinstance" = some none)
    (nb_len : PySem.W.nsIn K mainGlobals "len" = some none)
    (nb_list : PySem.W.nsIn K mainGlobals "list" = some none)
    (nb_range : PySem.W.nsIn K mainGlobals "range" = some none)
    (nb_reversed : PySem.W.nsIn K mainGlobals "reversed" = some none)
    (nb_set : PySem.W.nsIn K mainGlobals "set" = some none)
    (nb_sorted : PySem.W.nsIn K mainGlobals "sorted" = some none)
    (nb_sum : PySem.W.nsIn K mainGlobals "sum" = some none)
    (nb_tuple : PySem.W.nsIn K mainGlobals "tuple" = some none)
    : Nonempty (Tx K mg) := ⟨{
      f_is_held := a_is_held,
      fd_is_held := PySem.W.fnOf "_is_held" "_is_held" (defArgs s_is_held) (defBody s_is_held) (defScope s_is_held) .none kV_is_held dc_is_held pm_is_held an_is_held cd_is_held ct_is_held,
      F_is_held := fun_mk (st := s_is_held) l_is_held c_is_held k_is_held,
      mg_is_held := PySem.W.mg_of X G g_is_held,
      f_live_lot := a_live_lot,
      fd_live_lot := PySem.W.fnOf "live_lot" "live_lot" (defArgs s_live_lot) (defBody s_live_lot) (defScope s_live_lot) .none kV_live_lot dc_live_lot pm_live_lot an_live_lot cd_live_lot ct_live_lot,
      F_live_lot := fun_mk (st := s_live_lot) l_live_lot c_live_lot k_live_lot,
      mg_live_lot := PySem.W.mg_of X G g_live_lot,
      f_barred_blocks := a_barred_blocks,
      fd_barred_blocks := PySem.W.fnOf "barred_blocks" "barred_blocks" (defArgs s_barred_blocks) (defBody s_barred_blocks) (defScope s_barred_blocks) .none kV_barred_blocks dc_barred_blocks pm_barred_blocks an_barred_blocks cd_barred_blocks ct_barred_blocks,
      F_barred_blocks := fun_mk (st := s_barred_blocks) l_barred_blocks c_barred_blocks k_barred_blocks,
      mg_barred_blocks := PySem.W.mg_of X G g_barred_blocks,
      f_numbered_names := a_numbered_names,
      fd_numbered_names := PySem.W.fnOf "numbered_names" "numbered_names" (defArgs s_numbered_names) (defBody s_numbered_names) (defScope s_numbered_names) .none kV_numbered_names dc_numbered_names pm_numbered_names an_numbered_names cd_numbered_names ct_numbered_names,
      F_numbered_names := fun_mk (st := s_numbered_names) l_numbered_names c_numbered_names k_numbered_names,
      mg_numbered_names := PySem.W.mg_of X G g_numbered_names,
      f_Lfeed := a_Lfeed,
      fd_Lfeed := PySem.W.fnOf "_law_feed" "_law_feed" (defArgs s_Lfeed) (defBody s_Lfeed) (defScope s_Lfeed) .none kV_Lfeed dc_Lfeed pm_Lfeed an_Lfeed cd_Lfeed ct_Lfeed,
      F_Lfeed := fun_mk (st := s_Lfeed) l_Lfeed c_Lfeed k_Lfeed,
      mg_Lfeed := PySem.W.mg_of X G g_Lfeed,
      f_Lpick := a_Lpick,
      fd_Lpick := PySem.W.fnOf "_law_pick" "_law_pick" (defArgs s_Lpick) (defBody s_Lpick) (defScope s_Lpick) .none kV_Lpick dc_Lpick pm_Lpick an_Lpick cd_Lpick ct_Lpick,
      F_Lpick := fun_mk (st := s_Lpick) l_Lpick c_Lpick k_Lpick,
      mg_Lpick := PySem.W.mg_of X G g_Lpick,
      f_Lmoment := a_Lmoment,
      fd_Lmoment := PySem.W.fnOf "_law_moment" "_law_moment" (defArgs s_Lmoment) (defBody s_Lmoment) (defScope s_Lmoment) .none kV_Lmoment dc_Lmoment pm_Lmoment an_Lmoment cd_Lmoment ct_Lmoment,
      F_Lmoment := fun_mk (st := s_Lmoment) l_Lmoment c_Lmoment k_Lmoment,
      mg_Lmoment := PySem.W.mg_of X G g_Lmoment,
      f_Ltake := a_Ltake,
      fd_Ltake := PySem.W.fnOf "_law_take" "_law_take" (defArgs s_Ltake) (defBody s_Ltake) (defScope s_Ltake) .none kV_Ltake dc_Ltake pm_Ltake an_Ltake cd_Ltake ct_Ltake,
      F_Ltake := fun_mk (st := s_Ltake) l_Ltake c_Ltake k_Ltake,
      mg_Ltake := PySem.W.mg_of X G g_Ltake,
      f_Lgive := a_Lgive,
      fd_Lgive := PySem.W.fnOf "_law_give" "_law_give" (defArgs s_Lgive) (defBody s_Lgive) (defScope s_Lgive) .none kV_Lgive dc_Lgive pm_Lgive an_Lgive cd_Lgive ct_Lgive,
      F_Lgive := fun_mk (st := s_Lgive) l_Lgive c_Lgive k_Lgive,
      mg_Lgive := PySem.W.mg_of X G g_Lgive,
      f_Lchange := a_Lchange,
      fd_Lchange := PySem.W.fnOf "_law_change" "_law_change" (defArgs s_Lchange) (defBody s_Lchange) (defScope s_Lchange) .none kV_Lchange dc_Lchange pm_Lchange an_Lchange cd_Lchange ct_Lchange,
      F_Lchange := fun_mk (st := s_Lchange) l_Lchange c_Lchange k_Lchange,
      mg_Lchange := PySem.W.mg_of X G g_Lchange,
      f_Lhistory := a_Lhistory,
      fd_Lhistory := PySem.W.fnOf "_law_history" "_law_history" (defArgs s_Lhistory) (defBody s_Lhistory) (defScope s_Lhistory) .none kV_Lhistory dc_Lhistory pm_Lhistory an_Lhistory cd_Lhistory ct_Lhistory,
      F_Lhistory := fun_mk (st := s_Lhistory) l_Lhistory c_Lhistory k_Lhistory,
      mg_Lhistory := PySem.W.mg_of X G g_Lhistory,
      f_Llot := a_Llot,
      fd_Llot := PySem.W.fnOf "_law_lot" "_law_lot" (defArgs s_Llot) (defBody s_Llot) (defScope s_Llot) .none kV_Llot dc_Llot pm_Llot an_Llot cd_Llot ct_Llot,
      F_Llot := fun_mk (st := s_Llot) l_Llot c_Llot k_Llot,
      mg_Llot := PySem.W.mg_of X G g_Llot,
      f_Llot_good := a_Llot_good,
      fd_Llot_good := PySem.W.fnOf "_law_lot_good" "_law_lot_good" (defArgs s_Llot_good) (defBody s_Llot_good) (defScope s_Llot_good) .none kV_Llot_good dc_Llot_good pm_Llot_good an_Llot_good cd_Llot_good ct_Llot_good,
      F_Llot_good := fun_mk (st := s_Llot_good) l_Llot_good c_Llot_good k_Llot_good,
      mg_Llot_good := PySem.W.mg_of X G g_Llot_good,
      f_Llive := a_Llive,
      fd_Llive := PySem.W.fnOf "_law_live" "_law_live" (defArgs s_Llive) (defBody s_Llive) (defScope s_Llive) .none kV_Llive dc_Llive pm_Llive an_Llive cd_Llive ct_Llive,
      F_Llive := fun_mk (st := s_Llive) l_Llive c_Llive k_Llive,
      mg_Llive := PySem.W.mg_of X G g_Llive,
      f_Linteger := a_Linteger,
      fd_Linteger := PySem.W.fnOf "_law_integer" "_law_integer" (defArgs s_Linteger) (defBody s_Linteger) (defScope s_Linteger) .none kV_Linteger dc_Linteger pm_Linteger an_Linteger cd_Linteger ct_Linteger,
      F_Linteger := fun_mk (st := s_Linteger) l_Linteger c_Linteger k_Linteger,
      mg_Linteger := PySem.W.mg_of X G g_Linteger,
      f_Llive_good := a_Llive_good,
      fd_Llive_good := PySem.W.fnOf "_law_live_good" "_law_live_good" (defArgs s_Llive_good) (defBody s_Llive_good) (defScope s_Llive_good) .none kV_Llive_good dc_Llive_good pm_Llive_good an_Llive_good cd_Llive_good ct_Llive_good,
      F_Llive_good := fun_mk (st := s_Llive_good) l_Llive_good c_Llive_good k_Llive_good,
      mg_Llive_good := PySem.W.mg_of X G g_Llive_good,
      f_Lbarred := a_Lbarred,
      fd_Lbarred := PySem.W.fnOf "_law_barred" "_law_barred" (defArgs s_Lbarred) (defBody s_Lbarred) (defScope s_Lbarred) .none kV_Lbarred dc_Lbarred pm_Lbarred an_Lbarred cd_Lbarred ct_Lbarred,
      F_Lbarred := fun_mk (st := s_Lbarred) l_Lbarred c_Lbarred k_Lbarred,
      mg_Lbarred := PySem.W.mg_of X G g_Lbarred,
      f_Lhas_reuse := a_Lhas_reuse,
      fd_Lhas_reuse := PySem.W.fnOf "_law_has_reuse" "_law_has_reuse" (defArgs s_Lhas_reuse) (defBody s_Lhas_reuse) (defScope s_Lhas_reuse) .none kV_Lhas_reuse dc_Lhas_reuse pm_Lhas_reuse an_Lhas_reuse cd_Lhas_reuse ct_Lhas_reuse,
      F_Lhas_reuse := fun_mk (st := s_Lhas_reuse) l_Lhas_reuse c_Lhas_reuse k_Lhas_reuse,
      mg_Lhas_reuse := PySem.W.mg_of X G g_Lhas_reuse,
      f_Lhas_lapse := a_Lhas_lapse,
      fd_Lhas_lapse := PySem.W.fnOf "_law_has_lapse" "_law_has_lapse" (defArgs s_Lhas_lapse) (defBody s_Lhas_lapse) (defScope s_Lhas_lapse) .none kV_Lhas_lapse dc_Lhas_lapse pm_Lhas_lapse an_Lhas_lapse cd_Lhas_lapse ct_Lhas_lapse,
      F_Lhas_lapse := fun_mk (st := s_Lhas_lapse) l_Lhas_lapse c_Lhas_lapse k_Lhas_lapse,
      mg_Lhas_lapse := PySem.W.mg_of X G g_Lhas_lapse,
      f_Lhas_shelve := a_Lhas_shelve,
      fd_Lhas_shelve := PySem.W.fnOf "_law_has_shelve" "_law_has_shelve" (defArgs s_Lhas_shelve) (defBody s_Lhas_shelve) (defScope s_Lhas_shelve) .none kV_Lhas_shelve dc_Lhas_shelve pm_Lhas_shelve an_Lhas_shelve cd_Lhas_shelve ct_Lhas_shelve,
      F_Lhas_shelve := fun_mk (st := s_Lhas_shelve) l_Lhas_shelve c_Lhas_shelve k_Lhas_shelve,
      mg_Lhas_shelve := PySem.W.mg_of X G g_Lhas_shelve,
      f_Lbarred_good := a_Lbarred_good,
      fd_Lbarred_good := PySem.W.fnOf "_law_barred_good" "_law_barred_good" (defArgs s_Lbarred_good) (defBody s_Lbarred_good) (defScope s_Lbarred_good) .none kV_Lbarred_good dc_Lbarred_good pm_Lbarred_good an_Lbarred_good cd_Lbarred_good ct_Lbarred_good,
      F_Lbarred_good := fun_mk (st := s_Lbarred_good) l_Lbarred_good c_Lbarred_good k_Lbarred_good,
      mg_Lbarred_good := PySem.W.mg_of X G g_Lbarred_good,
      f_law := a_law,
      fd_law := PySem.W.fnOf "law" "law" (defArgs s_law) (defBody s_law) (defScope s_law) .none kV_law dc_law pm_law an_law cd_law ct_law,
      F_law := fun_mk (st := s_law) l_law c_law k_law,
      mg_law := PySem.W.mg_of X G g_law,
      f_RuleSet___init__ := a_RuleSet___init__,
      fd_RuleSet___init__ := PySem.W.fnOf "__init__" "RuleSet.__init__" (defArgs s_RuleSet___init__) (defBody s_RuleSet___init__) (defScope s_RuleSet___init__) .none kV_RuleSet___init__ dc_RuleSet___init__ pm_RuleSet___init__ an_RuleSet___init__ cd_RuleSet___init__ ct_RuleSet___init__,
      F_RuleSet___init__ := fun_mk (st := s_RuleSet___init__) l_RuleSet___init__ c_RuleSet___init__ k_RuleSet___init__,
      f_RuleSet___contains__ := a_RuleSet___contains__,
      fd_RuleSet___contains__ := PySem.W.fnOf "__contains__" "RuleSet.__contains__" (defArgs s_RuleSet___contains__) (defBody s_RuleSet___contains__) (defScope s_RuleSet___contains__) .none kV_RuleSet___contains__ dc_RuleSet___contains__ pm_RuleSet___contains__ an_RuleSet___contains__ cd_RuleSet___contains__ ct_RuleSet___contains__,
      F_RuleSet___contains__ := fun_mk (st := s_RuleSet___contains__) l_RuleSet___contains__ c_RuleSet___contains__ k_RuleSet___contains__,
      f_Plan___init__ := a_Plan___init__,
      fd_Plan___init__ := PySem.W.fnOf "__init__" "Plan.__init__" (defArgs s_Plan___init__) (defBody s_Plan___init__) (defScope s_Plan___init__) .none kV_Plan___init__ dc_Plan___init__ pm_Plan___init__ an_Plan___init__ cd_Plan___init__ ct_Plan___init__,
      F_Plan___init__ := fun_mk (st := s_Plan___init__) l_Plan___init__ c_Plan___init__ k_Plan___init__,
      f_Plan_map_place := a_Plan_map_place,
      fd_Plan_map_place := PySem.W.fnOf "map_place" "Plan.map_place" (defArgs s_Plan_map_place) (defBody s_Plan_map_place) (defScope s_Plan_map_place) .none kV_Plan_map_place dc_Plan_map_place pm_Plan_map_place an_Plan_map_place cd_Plan_map_place ct_Plan_map_place,
      F_Plan_map_place := fun_mk (st := s_Plan_map_place) l_Plan_map_place c_Plan_map_place k_Plan_map_place,
      f_Plan_node_block := a_Plan_node_block,
      fd_Plan_node_block := PySem.W.fnOf "node_block" "Plan.node_block" (defArgs s_Plan_node_block) (defBody s_Plan_node_block) (defScope s_Plan_node_block) .none kV_Plan_node_block dc_Plan_node_block pm_Plan_node_block an_Plan_node_block cd_Plan_node_block ct_Plan_node_block,
      F_Plan_node_block := fun_mk (st := s_Plan_node_block) l_Plan_node_block c_Plan_node_block k_Plan_node_block,
      f_Plan_data_blocks := a_Plan_data_blocks,
      fd_Plan_data_blocks := PySem.W.fnOf "data_blocks" "Plan.data_blocks" (defArgs s_Plan_data_blocks) (defBody s_Plan_data_blocks) (defScope s_Plan_data_blocks) .none kV_Plan_data_blocks dc_Plan_data_blocks pm_Plan_data_blocks an_Plan_data_blocks cd_Plan_data_blocks ct_Plan_data_blocks,
      F_Plan_data_blocks := fun_mk (st := s_Plan_data_blocks) l_Plan_data_blocks c_Plan_data_blocks k_Plan_data_blocks,
      f_Image___init__ := a_Image___init__,
      fd_Image___init__ := PySem.W.fnOf "__init__" "Image.__init__" (defArgs s_Image___init__) (defBody s_Image___init__) (defScope s_Image___init__) .none kV_Image___init__ dc_Image___init__ pm_Image___init__ an_Image___init__ cd_Image___init__ ct_Image___init__,
      F_Image___init__ := fun_mk (st := s_Image___init__) l_Image___init__ c_Image___init__ k_Image___init__,
      f_Image_begin := a_Image_begin,
      fd_Image_begin := PySem.W.fnOf "begin" "Image.begin" (defArgs s_Image_begin) (defBody s_Image_begin) (defScope s_Image_begin) .none kV_Image_begin dc_Image_begin pm_Image_begin an_Image_begin cd_Image_begin ct_Image_begin,
      F_Image_begin := fun_mk (st := s_Image_begin) l_Image_begin c_Image_begin k_Image_begin,
      f_Image_settle := a_Image_settle,
      fd_Image_settle := PySem.W.fnOf "settle" "Image.settle" (defArgs s_Image_settle) (defBody s_Image_settle) (defScope s_Image_settle) .none kV_Image_settle dc_Image_settle pm_Image_settle an_Image_settle cd_Image_settle ct_Image_settle,
      F_Image_settle := fun_mk (st := s_Image_settle) l_Image_settle c_Image_settle k_Image_settle,
      f_Image_twin := a_Image_twin,
      fd_Image_twin := PySem.W.fnOf "twin" "Image.twin" (defArgs s_Image_twin) (defBody s_Image_twin) (defScope s_Image_twin) .none kV_Image_twin dc_Image_twin pm_Image_twin an_Image_twin cd_Image_twin ct_Image_twin,
      F_Image_twin := fun_mk (st := s_Image_twin) l_Image_twin c_Image_twin k_Image_twin,
      f_Image_take := a_Image_take,
      fd_Image_take := PySem.W.fnOf "take" "Image.take" (defArgs s_Image_take) (defBody s_Image_take) (defScope s_Image_take) .none kV_Image_take dc_Image_take pm_Image_take an_Image_take cd_Image_take ct_Image_take,
      F_Image_take := fun_mk (st := s_Image_take) l_Image_take c_Image_take k_Image_take,
      f_Image_give := a_Image_give,
      fd_Image_give := PySem.W.fnOf "give" "Image.give" (defArgs s_Image_give) (defBody s_Image_give) (defScope s_Image_give) .none kV_Image_give dc_Image_give pm_Image_give an_Image_give cd_Image_give ct_Image_give,
      F_Image_give := fun_mk (st := s_Image_give) l_Image_give c_Image_give k_Image_give,
      f_Image__put_block := a_Image__put_block,
      fd_Image__put_block := PySem.W.fnOf "_put_block" "Image._put_block" (defArgs s_Image__put_block) (defBody s_Image__put_block) (defScope s_Image__put_block) .none kV_Image__put_block dc_Image__put_block pm_Image__put_block an_Image__put_block cd_Image__put_block ct_Image__put_block,
      F_Image__put_block := fun_mk (st := s_Image__put_block) l_Image__put_block c_Image__put_block k_Image__put_block,
      f_Image_free_blocks := a_Image_free_blocks,
      fd_Image_free_blocks := PySem.W.fnOf "free_blocks" "Image.free_blocks" (defArgs s_Image_free_blocks) (defBody s_Image_free_blocks) (defScope s_Image_free_blocks) .none kV_Image_free_blocks dc_Image_free_blocks pm_Image_free_blocks an_Image_free_blocks cd_Image_free_blocks ct_Image_free_blocks,
      F_Image_free_blocks := fun_mk (st := s_Image_free_blocks) l_Image_free_blocks c_Image_free_blocks k_Image_free_blocks,
      f_Image_kind := a_Image_kind,
      fd_Image_kind := PySem.W.fnOf "kind" "Image.kind" (defArgs s_Image_kind) (defBody s_Image_kind) (defScope s_Image_kind) .none kV_Image_kind dc_Image_kind pm_Image_kind an_Image_kind cd_Image_kind ct_Image_kind,
      F_Image_kind := fun_mk (st := s_Image_kind) l_Image_kind c_Image_kind k_Image_kind,
      f_Lot___init__ := a_Lot___init__,
      fd_Lot___init__ := PySem.W.fnOf "__init__" "Lot.__init__" (defArgs s_Lot___init__) (defBody s_Lot___init__) (defScope s_Lot___init__) .none kV_Lot___init__ dc_Lot___init__ pm_Lot___init__ an_Lot___init__ cd_Lot___init__ ct_Lot___init__,
      F_Lot___init__ := fun_mk (st := s_Lot___init__) l_Lot___init__ c_Lot___init__ k_Lot___init__,
      f_Lot_keep_copy := a_Lot_keep_copy,
      fd_Lot_keep_copy := PySem.W.fnOf "keep_copy" "Lot.keep_copy" (defArgs s_Lot_keep_copy) (defBody s_Lot_keep_copy) (defScope s_Lot_keep_copy) .none kV_Lot_keep_copy dc_Lot_keep_copy pm_Lot_keep_copy an_Lot_keep_copy cd_Lot_keep_copy ct_Lot_keep_copy,
      F_Lot_keep_copy := fun_mk (st := s_Lot_keep_copy) l_Lot_keep_copy c_Lot_keep_copy k_Lot_keep_copy,
      f_Lot_keep_mark := a_Lot_keep_mark,
      fd_Lot_keep_mark := PySem.W.fnOf "keep_mark" "Lot.keep_mark" (defArgs s_Lot_keep_mark) (defBody s_Lot_keep_mark) (defScope s_Lot_keep_mark) .none kV_Lot_keep_mark dc_Lot_keep_mark pm_Lot_keep_mark an_Lot_keep_mark cd_Lot_keep_mark ct_Lot_keep_mark,
      F_Lot_keep_mark := fun_mk (st := s_Lot_keep_mark) l_Lot_keep_mark c_Lot_keep_mark k_Lot_keep_mark,
      f_Lot_used_slots := a_Lot_used_slots,
      fd_Lot_used_slots := PySem.W.fnOf "used_slots" "Lot.used_slots" (defArgs s_Lot_used_slots) (defBody s_Lot_used_slots) (defScope s_Lot_used_slots) .none kV_Lot_used_slots dc_Lot_used_slots pm_Lot_used_slots an_Lot_used_slots cd_Lot_used_slots ct_Lot_used_slots,
      F_Lot_used_slots := fun_mk (st := s_Lot_used_slots) l_Lot_used_slots c_Lot_used_slots k_Lot_used_slots,
      f_Book_of_number := a_Book_of_number,
      fd_Book_of_number := PySem.W.fnOf "of_number" "Book.of_number" (defArgs s_Book_of_number) (defBody s_Book_of_number) (defScope s_Book_of_number) .none kV_Book_of_number dc_Book_of_number pm_Book_of_number an_Book_of_number cd_Book_of_number ct_Book_of_number,
      F_Book_of_number := fun_mk (st := s_Book_of_number) l_Book_of_number c_Book_of_number k_Book_of_number,
      f_Image_fresh := a_Image_fresh,
      fd_Image_fresh := PySem.W.fnOf "fresh" "Image.fresh" (defArgs s_Image_fresh) (defBody s_Image_fresh) (defScope s_Image_fresh) .none kV_Image_fresh dc_Image_fresh pm_Image_fresh an_Image_fresh cd_Image_fresh ct_Image_fresh,
      F_Image_fresh := fun_mk (st := s_Image_fresh) l_Image_fresh c_Image_fresh k_Image_fresh,
      f_Image_of_cells := a_Image_of_cells,
      fd_Image_of_cells := PySem.W.fnOf "of_cells" "Image.of_cells" (defArgs s_Image_of_cells) (defBody s_Image_of_cells) (defScope s_Image_of_cells) .none kV_Image_of_cells dc_Image_of_cells pm_Image_of_cells an_Image_of_cells cd_Image_of_cells ct_Image_of_cells,
      F_Image_of_cells := fun_mk (st := s_Image_of_cells) l_Image_of_cells c_Image_of_cells k_Image_of_cells,
      C_Plan := aC_Plan,
      mg_Plan := PySem.W.mg_of X G g_Plan,
      cl_Plan := ⟨pg_Plan, hd_Plan, po_Plan, sa_Plan⟩,
      na_Plan_blocks := n_Plan_blocks,
      na_Plan_nodes := n_Plan_nodes,
      na_Plan_slots := n_Plan_slots,
      na_Plan_maps := n_Plan_maps,
      na_Plan_first_node := n_Plan_first_node,
      na_Plan_first_data := n_Plan_first_data,
      mk_Plan := ⟨mk1_Plan, mk2_Plan, mk3_Plan, mk4_Plan⟩,
      mc_Plan := mcv_Plan,
      cr_Plan := ⟨rd_Plan, ga_Plan⟩,
      cv_Plan_WIDTH := ⟨_, v_Plan_WIDTH, ⟨_, rfl⟩⟩,
      cv_Plan_OWNERS := ⟨_, v_Plan_OWNERS, ⟨_, rfl⟩⟩,
      cv_Plan_FREE := ⟨_, v_Plan_FREE, ⟨_, rfl⟩⟩,
      cv_Plan_LOGGED := ⟨_, v_Plan_LOGGED, ⟨_, rfl⟩⟩,
      cv_Plan_PLAIN := ⟨_, v_Plan_PLAIN, ⟨_, rfl⟩⟩,
      con_Plan_WIDTH := ⟨_, o_Plan_WIDTH, ⟨_, rfl⟩, og_Plan_WIDTH, by decide +kernel⟩,
      C_RuleSet := aC_RuleSet,
      mg_RuleSet := PySem.W.mg_of X G g_RuleSet,
      cl_RuleSet := ⟨pg_RuleSet, hd_RuleSet, po_RuleSet, sa_RuleSet⟩,
      mc_RuleSet := mcv_RuleSet,
      cr_RuleSet := ⟨rd_RuleSet, ga_RuleSet⟩,
      tA_RuleSet_RULES := tA_RuleSet_RULES,
      tt_RuleSet_RULES := fun H => .inr ⟨_, _, _, tk_RuleSet_RULES, rfl, rfl, Rg.relAllS_sz tr_RuleSet_RULES, Rg.relAllS_ok tr_RuleSet_RULES⟩,
      tv_RuleSet_RULES := ⟨tv1_RuleSet_RULES, rfl⟩,
      C_Book := aC_Book,
      mg_Book := PySem.W.mg_of X G g_Book,
      cl_Book := ⟨pg_Book, hd_Book, po_Book, sa_Book⟩,
      na_Book_names := n_Book_names,
      na_Book_number := n_Book_number,
      mc_Book := mcv_Book,
      cr_Book := ⟨rd_Book, ga_Book⟩,
      tA_Book_RULES := tA_Book_RULES,
      tt_Book_RULES := fun H => .inr ⟨_, _, _, tk_Book_RULES, rfl, rfl, Rg.relAllS_sz tr_Book_RULES, Rg.relAllS_ok tr_Book_RULES⟩,
      tv_Book_RULES := ⟨tv1_Book_RULES, rfl⟩,
      tc_Book_RULES := ⟨tc1_Book_RULES, rfl, tc2_Book_RULES, by decide +kernel⟩,
      C_Image := aC_Image,
      mg_Image := PySem.W.mg_of X G g_Image,
      cl_Image := ⟨pg_Image, hd_Image, po_Image, sa_Image⟩,
      na_Image_plan := n_Image_plan,
      na_Image_cells := n_Image_cells,
      na_Image_holdings := n_Image_holdings,
      na_Image_stamps := n_Image_stamps,
      na_Image_handles := n_Image_handles,
      na_Image_serial := n_Image_serial,
      na_Image_wish := n_Image_wish,
      na_Image_barred := n_Image_barred,
      mk_Image := ⟨mk1_Image, mk2_Image, mk3_Image, mk4_Image⟩,
      mc_Image := mcv_Image,
      cr_Image := ⟨rd_Image, ga_Image⟩,
      C_Lot := aC_Lot,
      mg_Lot := PySem.W.mg_of X G g_Lot,
      cl_Lot := ⟨pg_Lot, hd_Lot, po_Lot, sa_Lot⟩,
      na_Lot_number := n_Lot_number,
      na_Lot_image := n_Lot_image,
      na_Lot_copies := n_Lot_copies,
      na_Lot_identities := n_Lot_identities,
      na_Lot_mark := n_Lot_mark,
      na_Lot_mark_slot := n_Lot_mark_slot,
      na_Lot_revokes := n_Lot_revokes,
      mk_Lot := ⟨mk1_Lot, mk2_Lot, mk3_Lot, mk4_Lot⟩,
      m_RuleSet___contains__ := ⟨m1_RuleSet___contains__, m2_RuleSet___contains__, k_RuleSet___contains__⟩,
      m_Plan_map_place := ⟨m1_Plan_map_place, m2_Plan_map_place, k_Plan_map_place⟩,
      m_Plan_node_block := ⟨m1_Plan_node_block, m2_Plan_node_block, k_Plan_node_block⟩,
      m_Plan_data_blocks := ⟨m1_Plan_data_blocks, m2_Plan_data_blocks, k_Plan_data_blocks⟩,
      m_Image_begin := ⟨m1_Image_begin, m2_Image_begin, k_Image_begin⟩,
      m_Image_settle := ⟨m1_Image_settle, m2_Image_settle, k_Image_settle⟩,
      m_Image_twin := ⟨m1_Image_twin, m2_Image_twin, k_Image_twin⟩,
      m_Image_take := ⟨m1_Image_take, m2_Image_take, k_Image_take⟩,
      m_Image_give := ⟨m1_Image_give, m2_Image_give, k_Image_give⟩,
      m_Image__put_block := ⟨m1_Image__put_block, m2_Image__put_block, k_Image__put_block⟩,
      m_Image_free_blocks := ⟨m1_Image_free_blocks, m2_Image_free_blocks, k_Image_free_blocks⟩,
      m_Image_kind := ⟨m1_Image_kind, m2_Image_kind, k_Image_kind⟩,
      m_Lot_keep_copy := ⟨m1_Lot_keep_copy, m2_Lot_keep_copy, k_Lot_keep_copy⟩,
      m_Lot_keep_mark := ⟨m1_Lot_keep_mark, m2_Lot_keep_mark, k_Lot_keep_mark⟩,
      m_Lot_used_slots := ⟨m1_Lot_used_slots, m2_Lot_used_slots, k_Lot_used_slots⟩,
      sm_Book_of_number := ⟨_, s1_Book_of_number, ⟨_, s2_Book_of_number⟩, k_Book_of_number⟩,
      sm_Image_fresh := ⟨_, s1_Image_fresh, ⟨_, s2_Image_fresh⟩, k_Image_fresh⟩,
      sm_Image_of_cells := ⟨_, s1_Image_of_cells, ⟨_, s2_Image_of_cells⟩, k_Image_of_cells⟩,
      C_BadValue := aC_BadValue,
      mg_BadValue := PySem.W.mg_of X G g_BadValue,
      be_BadValue := be1_BadValue,
      te_BadValue := te1_BadValue,
      ie_BadValue := ie1_BadValue,
      xe_BadValue := xe1_BadValue,
      ke_BadValue := ke1_BadValue,
      ec_BadValue := ⟨ec1_BadValue, ec2_BadValue, be1_BadValue, ec4_BadValue, ec5_BadValue, ec6_BadValue, ec7_BadValue, ec8_BadValue⟩,
      C_BlocksFull := aC_BlocksFull,
      mg_BlocksFull := PySem.W.mg_of X G g_BlocksFull,
      be_BlocksFull := be1_BlocksFull,
      te_BlocksFull := te1_BlocksFull,
      ie_BlocksFull := ie1_BlocksFull,
      xe_BlocksFull := xe1_BlocksFull,
      ke_BlocksFull := ke1_BlocksFull,
      ec_BlocksFull := ⟨ec1_BlocksFull, ec2_BlocksFull, be1_BlocksFull, ec4_BlocksFull, ec5_BlocksFull, ec6_BlocksFull, ec7_BlocksFull, ec8_BlocksFull⟩,
      C_OverQuota := aC_OverQuota,
      mg_OverQuota := PySem.W.mg_of X G g_OverQuota,
      be_OverQuota := be1_OverQuota,
      te_OverQuota := te1_OverQuota,
      ie_OverQuota := ie1_OverQuota,
      xe_OverQuota := xe1_OverQuota,
      ke_OverQuota := ke1_OverQuota,
      ec_OverQuota := ⟨ec1_OverQuota, ec2_OverQuota, be1_OverQuota, ec4_OverQuota, ec5_OverQuota, ec6_OverQuota, ec7_OverQuota, ec8_OverQuota⟩,
      c_LEAST_BLOCKS := ⟨_, PySem.W.mg_of X G gc_LEAST_BLOCKS⟩,
      c_MOST_BLOCKS := ⟨_, PySem.W.mg_of X G gc_MOST_BLOCKS⟩,
      c_LEAST_NODES := ⟨_, PySem.W.mg_of X G gc_LEAST_NODES⟩,
      c_MOST_NODES := ⟨_, PySem.W.mg_of X G gc_MOST_NODES⟩,
      c_MOST_SLOTS := ⟨_, PySem.W.mg_of X G gc_MOST_SLOTS⟩,
      c_LEAST_DATA := ⟨_, PySem.W.mg_of X G gc_LEAST_DATA⟩,
      c_FIRST_MAP := ⟨_, PySem.W.mg_of X G gc_FIRST_MAP⟩,
      c_SUMS_BLOCK := ⟨_, PySem.W.mg_of X G gc_SUMS_BLOCK⟩,
      c_ROOT := ⟨_, PySem.W.mg_of X G gc_ROOT⟩,
      c_KIND := ⟨_, PySem.W.mg_of X G gc_KIND⟩,
      c_LINKS := ⟨_, PySem.W.mg_of X G gc_LINKS⟩,
      c_MAKING := ⟨_, PySem.W.mg_of X G gc_MAKING⟩,
      c_FOLDER := ⟨_, PySem.W.mg_of X G gc_FOLDER⟩,
      c_NO_SLOT := ⟨_, PySem.W.mg_of X G gc_NO_SLOT⟩,
      mk_Book := ⟨mk1_Book, mk2_Book, mk3_Book, mk4_Book⟩,
      bm_contains := ⟨bm1_contains, bm2_contains, k_RuleSet___contains__⟩,
      sf_Book := sf1_Book,
      b_abs := PySem.W.mg_none_of X G nb_abs,
      b_bool := PySem.W.mg_none_of X G nb_bool,
      b_dict := PySem.W.mg_none_of X G nb_dict,
      b_enumerate := PySem.W.mg_none_of X G nb_enumerate,
      b_int := PySem.W.mg_none_of X G nb_int,
      b_isinstance := PySem.W.mg_none_of X G nb_isinstance,
      b_len := PySem.W.mg_none_of X G nb_len,
      b_list := PySem.W.mg_none_of X G nb_list,
      b_range := PySem.W.mg_none_of X G nb_range,
      b_reversed := PySem.W.mg_none_of X G nb_reversed,
      b_set := PySem.W.mg_none_of X G nb_set,
      b_sorted := PySem.W.mg_none_of X G nb_sorted,
      b_sum := PySem.W.mg_none_of X G nb_sum,
      b_tuple := PySem.W.mg_none_of X G nb_tuple
    }⟩
end K39
open PySem PySem.W PyProof.Rows
set_option maxRecDepth 100000 in
set_option maxHeartbeats 0 in
theorem PySem.Challenge.cw_lotsandties_k39_copies_that_are_struck_holds : PySem.Challenge.rw_lotsandties_k39_copies_that_are_struck.Holds := by
  w_on; o_law; k_head; (case hw => w_witness2)
  k_fill
  refine L2.walk_of (l := PySem.Challenge.rw_lotsandties_k39_copies_that_are_struck) (n := 63) (k := 7) (x := "_law_script") (CX := fun _ => L2.CX0) (sp := fun w => K39.sp_law _) rfl (by decide) rfl ⟨rfl, by decide, by decide⟩ (fun w h Y => PySem.W.kIn_of Y) ?F (fun _ _ a ns hl _ hS => ⟨a, ns, rfl, hS, hl, fun _ => rfl⟩) (fun _ _ _ _ _ h => h)
  case F =>
    intro w mg fa h KX G hmg
    refine K39.fin_F ?_ hmg
    refine' K39.all_mk (w := w) KX G ?l_is_held ?c_is_held ?k_is_held ?g_is_held ?l_live_lot ?c_live_lot ?k_live_lot ?g_live_lot ?l_barred_blocks ?c_barred_blocks ?k_barred_blocks ?g_barred_blocks ?l_numbered_names ?c_numbered_names ?k_numbered_names ?g_numbered_names ?l_Lfeed ?c_Lfeed ?k_Lfeed ?g_Lfeed ?l_Lpick ?c_Lpick ?k_Lpick ?g_Lpick ?l_Lmoment ?c_Lmoment ?k_Lmoment ?g_Lmoment ?l_Ltake ?c_Ltake ?k_Ltake ?g_Ltake ?l_Lgive ?c_Lgive ?k_Lgive ?g_Lgive ?l_Lchange ?c_Lchange ?k_Lchange ?g_Lchange ?l_Lhistory ?c_Lhistory ?k_Lhistory ?g_Lhistory ?l_Llot ?c_Llot ?k_Llot ?g_Llot ?l_Llot_good ?c_Llot_good ?k_Llot_good ?g_Llot_good ?l_Llive ?c_Llive ?k_Llive ?g_Llive ?l_Linteger ?c_Linteger ?k_Linteger ?g_Linteger ?l_Llive_good ?c_Llive_good ?k_Llive_good ?g_Llive_good ?l_Lbarred ?c_Lbarred ?k_Lbarred ?g_Lbarred ?l_Lhas_reuse ?c_Lhas_reuse ?k_Lhas_reuse ?g_Lhas_reuse ?l_Lhas_lapse ?c_Lhas_lapse ?k_Lhas_lapse ?g_Lhas_lapse ?l_Lhas_shelve ?c_Lhas_shelve ?k_Lhas_shelve ?g_Lhas_shelve ?l_Lbarred_good ?c_Lbarred_good ?k_Lbarred_good ?g_Lbarred_good ?l_law ?c_law ?k_law ?g_law ?l_RuleSet___init__ ?c_RuleSet___init__ ?k_RuleSet___init__ ?l_RuleSet___contains__ ?c_RuleSet___contains__ ?k_RuleSet___contains__ ?l_Plan___init__ ?c_Plan___init__ ?k_Plan___init__ ?l_Plan_map_place ?c_Plan_map_place ?k_Plan_map_place ?l_Plan_node_block ?c_Plan_node_block ?k_Plan_node_block ?l_Plan_data_blocks ?c_Plan_data_blocks ?k_Plan_data_blocks ?l_Image___init__ ?c_Image___init__ ?k_Image___init__ ?l_Image_begin ?c_Image_begin ?k_Image_begin ?l_Image_settle ?c_Image_settle ?k_Image_settle ?l_Image_twin ?c_Image_twin ?k_Image_twin ?l_Image_take ?c_Image_take ?k_Image_take ?l_Image_give ?c_Image_give ?k_Image_give ?l_Image__put_block ?c_Image__put_block ?k_Image__put_block ?l_Image_free_blocks ?c_Image_free_blocks ?k_Image_free_blocks ?l_Image_kind ?c_Image_kind ?k_Image_kind ?l_Lot___init__ ?c_Lot___init__ ?k_Lot___init__ ?l_Lot_keep_copy ?c_Lot_keep_copy ?k_Lot_keep_copy ?l_Lot_keep_mark ?c_Lot_keep_mark ?k_Lot_keep_mark ?l_Lot_used_slots ?c_Lot_used_slots ?k_Lot_used_slots ?l_Book_of_number ?c_Book_of_number ?k_Book_of_number ?l_Image_fresh ?c_Image_fresh ?k_Image_fresh ?l_Image_of_cells ?c_Image_of_cells ?k_Image_of_cells ?g_Plan ?pg_Plan ?hd_Plan ?po_Plan ?sa_Plan ?n_Plan_blocks ?n_Plan_nodes ?n_Plan_slots ?n_Plan_maps ?n_Plan_first_node ?n_Plan_first_data ?mk1_Plan ?mk2_Plan ?mk3_Plan ?mk4_Plan ?tp_Plan ?rd_Plan ?ga_Plan ?v_Plan_WIDTH ?v_Plan_OWNERS ?v_Plan_FREE ?v_Plan_LOGGED ?v_Plan_PLAIN ?o_Plan_WIDTH ?og_Plan_WIDTH ?g_RuleSet ?pg_RuleSet ?hd_RuleSet ?po_RuleSet ?sa_RuleSet ?tp_RuleSet ?rd_RuleSet ?ga_RuleSet ?tk_RuleSet_RULES ?tr_RuleSet_RULES ?tv1_RuleSet_RULES ?g_Book ?pg_Book ?hd_Book ?po_Book ?sa_Book ?n_Book_names ?n_Book_number ?tp_Book ?rd_Book ?ga_Book ?tk_Book_RULES ?tr_Book_RULES ?tv1_Book_RULES ?tc1_Book_RULES ?tc2_Book_RULES ?g_Image ?pg_Image ?hd_Image ?po_Image ?sa_Image ?n_Image_plan ?n_Image_cells ?n_Image_holdings ?n_Image_stamps ?n_Image_handles ?n_Image_serial ?n_Image_wish ?n_Image_barred ?mk1_Image ?mk2_Image ?mk3_Image ?mk4_Image ?tp_Image ?rd_Image ?ga_Image ?g_Lot ?pg_Lot ?hd_Lot ?po_Lot ?sa_Lot ?n_Lot_number ?n_Lot_image ?n_Lot_copies ?n_Lot_identities ?n_Lot_mark ?n_Lot_mark_slot ?n_Lot_revokes ?mk1_Lot ?mk2_Lot ?mk3_Lot ?mk4_Lot ?m1_RuleSet___contains__ ?m2_RuleSet___contains__ ?m1_Plan_map_place ?m2_Plan_map_place ?m1_Plan_node_block ?m2_Plan_node_block ?m1_Plan_data_blocks ?m2_Plan_data_blocks ?m1_Image_begin ?m2_Image_begin ?m1_Image_settle ?m2_Image_settle ?m1_Image_twin ?m2_Image_twin ?m1_Image_take ?m2_Image_take ?m1_Image_give ?m2_Image_give ?m1_Image__put_block ?m2_Image__put_block ?m1_Image_free_blocks ?m2_Image_free_blocks ?m1_Image_kind ?m2_Image_kind ?m1_Lot_keep_copy ?m2_Lot_keep_copy ?m1_Lot_keep_mark ?m2_Lot_keep_mark ?m1_Lot_used_slots ?m2_Lot_used_slots ?s1_Book_of_number ?s2_Book_of_number ?s1_Image_fresh ?s2_Image_fresh ?s1_Image_of_cells ?s2_Image_of_cells ?g_BadValue ?be1_BadValue ?te1_BadValue ?ie1_BadValue ?xe1_BadValue ?ke1_BadValue ?ec1_BadValue ?ec2_BadValue ?ec4_BadValue ?ec5_BadValue ?ec6_BadValue ?ec7_BadValue ?ec8_BadValue ?g_BlocksFull ?be1_BlocksFull ?te1_BlocksFull ?ie1_BlocksFull ?xe1_BlocksFull ?ke1_BlocksFull ?ec1_BlocksFull ?ec2_BlocksFull ?ec4_BlocksFull ?ec5_BlocksFull ?ec6_BlocksFull ?ec7_BlocksFull ?ec8_BlocksFull ?g_OverQuota ?be1_OverQuota ?te1_OverQuota ?ie1_OverQuota ?xe1_OverQuota ?ke1_OverQuota ?ec1_OverQuota ?ec2_OverQuota ?ec4_OverQuota ?ec5_OverQuota ?ec6_OverQuota ?ec7_OverQuota ?ec8_OverQuota ?gc_LEAST_BLOCKS ?gc_MOST_BLOCKS ?gc_LEAST_NODES ?gc_MOST_NODES ?gc_MOST_SLOTS ?gc_LEAST_DATA ?gc_FIRST_MAP ?gc_SUMS_BLOCK ?gc_ROOT ?gc_KIND ?gc_LINKS ?gc_MAKING ?gc_FOLDER ?gc_NO_SLOT ?mk1_Book ?mk2_Book ?mk3_Book ?mk4_Book ?bm1_contains ?bm2_contains ?sf1_Book ?nb_abs ?nb_bool ?nb_dict ?nb_enumerate ?nb_int ?nb_isinstance ?nb_len ?nb_list ?nb_range ?nb_reversed ?nb_set ?nb_sorted ?nb_sum ?nb_tuple
    (case g_is_held => k_is)
    (case g_live_lot => k_is)
    (case g_barred_blocks => k_is)
    (case g_numbered_names => k_is)
    (case g_Lfeed => k_is)
    (case g_Lpick => k_is)
    (case g_Lmoment => k_is)
    (case g_Ltake => k_is)
    (case g_Lgive => k_is)
    (case g_Lchange => k_is)
    (case g_Lhistory => k_is)
    (case g_Llot => k_is)
    (case g_Llot_good => k_is)
    (case g_Llive => k_is)
    (case g_Linteger => k_is)
    (case g_Llive_good => k_is)
    (case g_Lbarred => k_is)
    (case g_Lhas_reuse => k_is)
    (case g_Lhas_lapse => k_is)
    (case g_Lhas_shelve => k_is)
    (case g_Lbarred_good => k_is)
    (case g_law => k_is)
    (case g_Plan => k_is)
    (case g_RuleSet => k_is)
    (case g_Book => k_is)
    (case g_Image => k_is)
    (case g_Lot => k_is)
    (case g_BadValue => k_is)
    (case g_BlocksFull => k_is)
    (case g_OverQuota => k_is)
    (case tp_Plan => k_is)
    (case tp_RuleSet => k_is)
    (case tp_Book => k_is)
    (case tp_Image => k_is)
    (case mk2_Plan => k_is)
    (case mk2_Image => k_is)
    (case mk2_Lot => k_is)
    (case mk2_Book => k_is)
    (case m1_RuleSet___contains__ => k_is)
    (case m1_Plan_map_place => k_is)
    (case m1_Plan_node_block => k_is)
    (case m1_Plan_data_blocks => k_is)
    (case m1_Image_begin => k_is)
    (case m1_Image_settle => k_is)
    (case m1_Image_twin => k_is)
    (case m1_Image_take => k_is)
    (case m1_Image_give => k_is)
    (case m1_Image__put_block => k_is)
    (case m1_Image_free_blocks => k_is)
    (case m1_Image_kind => k_is)
    (case m1_Lot_keep_copy => k_is)
    (case m1_Lot_keep_mark => k_is)
    (case m1_Lot_used_slots => k_is)
    (case s1_Book_of_number => k_is)
    (case s1_Image_fresh => k_is)
    (case s1_Image_of_cells => k_is)
    (case s2_Book_of_number => k_is)
    (case s2_Image_fresh => k_is)
    (case s2_Image_of_cells => k_is)
    (case tv1_RuleSet_RULES => k_is)
    (case tv1_Book_RULES => k_is)
    (case tc1_Book_RULES => k_is)
    (case tk_RuleSet_RULES => k_is)
    (case tk_Book_RULES => k_is)
    (case l_is_held => k_is)
    (case c_is_held => k_is)
    (case k_is_held => k_is)
    (case l_live_lot => k_is)
    (case c_live_lot => k_is)
    (case k_live_lot => k_is)
    (case l_barred_blocks => k_is)
    (case c_barred_blocks => k_is)
    (case k_barred_blocks => k_is)
    (case l_numbered_names => k_is)
    (case c_numbered_names => k_is)
    (case k_numbered_names => k_is)
    (case l_Lfeed => k_is)
    (case c_Lfeed => k_is)
    (case k_Lfeed => k_is)
    (case l_Lpick => k_is)
    (case c_Lpick => k_is)
    (case k_Lpick => k_is)
    (case l_Lmoment => k_is)
    (case c_Lmoment => k_is)
    (case k_Lmoment => k_is)
    (case l_Ltake => k_is)
    (case c_Ltake => k_is)
    (case k_Ltake => k_is)
    (case l_Lgive => k_is)
    (case c_Lgive => k_is)
    (case k_Lgive => k_is)
    (case l_Lchange => k_is)
    (case c_Lchange => k_is)
    (case k_Lchange => k_is)
    (case l_Lhistory => k_is)
    (case c_Lhistory => k_is)
    (case k_Lhistory => k_is)
    (case l_Llot => k_is)
    (case c_Llot => k_is)
    (case k_Llot => k_is)
    (case l_Llot_good => k_is)
    (case c_Llot_good => k_is)
    (case k_Llot_good => k_is)
    (case l_Llive => k_is)
    (case c_Llive => k_is)
    (case k_Llive => k_is)
    (case l_Linteger => k_is)
    (case c_Linteger => k_is)
    (case k_Linteger => k_is)
    (case l_Llive_good => k_is)
    (case c_Llive_good => k_is)
    (case k_Llive_good => k_is)
    (case l_Lbarred => k_is)
    (case c_Lbarred => k_is)
    (case k_Lbarred => k_is)
    (case l_Lhas_reuse => k_is)
    (case c_Lhas_reuse => k_is)
    (case k_Lhas_reuse => k_is)
    (case l_Lhas_lapse => k_is)
    (case c_Lhas_lapse => k_is)
    (case k_Lhas_lapse => k_is)
    (case l_Lhas_shelve => k_is)
    (case c_Lhas_shelve => k_is)
    (case k_Lhas_shelve => k_is)
    (case l_Lbarred_good => k_is)
    (case c_Lbarred_good => k_is)
    (case k_Lbarred_good => k_is)
    (case l_law => k_is)
    (case c_law => k_is)
    (case k_law => k_is)
    (case l_RuleSet___init__ => k_is)
    (case c_RuleSet___init__ => k_is)
    (case k_RuleSet___init__ => k_is)
    (case l_RuleSet___contains__ => k_is)
    (case c_RuleSet___contains__ => k_is)
    (case k_RuleSet___contains__ => k_is)
    (case l_Plan___init__ => k_is)
    (case c_Plan___init__ => k_is)
    (case k_Plan___init__ => k_is)
    (case l_Plan_map_place => k_is)
    (case c_Plan_map_place => k_is)
    (case k_Plan_map_place => k_is)
    (case l_Plan_node_block => k_is)
    (case c_Plan_node_block => k_is)
    (case k_Plan_node_block => k_is)
    (case l_Plan_data_blocks => k_is)
    (case c_Plan_data_blocks => k_is)
    (case k_Plan_data_blocks => k_is)
    (case l_Image___init__ => k_is)
    (case c_Image___init__ => k_is)
    (case k_Image___init__ => k_is)
    (case l_Image_begin => k_is)
    (case c_Image_begin => k_is)
    (case k_Image_begin => k_is)
    (case l_Image_settle => k_is)
    (case c_Image_settle => k_is)
    (case k_Image_settle => k_is)
    (case l_Image_twin => k_is)
    (case c_Image_twin => k_is)
    (case k_Image_twin => k_is)
    (case l_Image_take => k_is)
    (case c_Image_take => k_is)
    (case k_Image_take => k_is)
    (case l_Image_give => k_is)
    (case c_Image_give => k_is)
    (case k_Image_give => k_is)
    (case l_Image__put_block => k_is)
    (case c_Image__put_block => k_is)
    (case k_Image__put_block => k_is)
    (case l_Image_free_blocks => k_is)
    (case c_Image_free_blocks => k_is)
    (case k_Image_free_blocks => k_is)
    (case l_Image_kind => k_is)
    (case c_Image_kind => k_is)
    (case k_Image_kind => k_is)
    (case l_Lot___init__ => k_is)
    (case c_Lot___init__ => k_is)
    (case k_Lot___init__ => k_is)
    (case l_Lot_keep_copy => k_is)
    (case c_Lot_keep_copy => k_is)
    (case k_Lot_keep_copy => k_is)
    (case l_Lot_keep_mark => k_is)
    (case c_Lot_keep_mark => k_is)
    (case k_Lot_keep_mark => k_is)
    (case l_Lot_used_slots => k_is)
    (case c_Lot_used_slots => k_is)
    (case k_Lot_used_slots => k_is)
    (case l_Book_of_number => k_is)
    (case c_Book_of_number => k_is)
    (case k_Book_of_number => k_is)
    (case l_Image_fresh => k_is)
    (case c_Image_fresh => k_is)
    (case k_Image_fresh => k_is)
    (case l_Image_of_cells => k_is)
    (case c_Image_of_cells => k_is)
    (case k_Image_of_cells => k_is)
    (case pg_Plan => k_is)
    (case hd_Plan => k_is)
    (case po_Plan => k_is)
    (case sa_Plan => k_is)
    (case n_Plan_blocks => k_is)
    (case n_Plan_nodes => k_is)
    (case n_Plan_slots => k_is)
    (case n_Plan_maps => k_is)
    (case n_Plan_first_node => k_is)
    (case n_Plan_first_data => k_is)
    (case mk1_Plan => k_is)
    (case mk3_Plan => k_is)
    (case mk4_Plan => k_is)
    (case rd_Plan => k_is)
    (case ga_Plan => k_is)
    (case v_Plan_WIDTH => k_is)
    (case v_Plan_OWNERS => k_is)
    (case v_Plan_FREE => k_is)
    (case v_Plan_LOGGED => k_is)
    (case v_Plan_PLAIN => k_is)
    (case o_Plan_WIDTH => k_is)
    (case og_Plan_WIDTH => k_is)
    (case pg_RuleSet => k_is)
    (case hd_RuleSet => k_is)
    (case po_RuleSet => k_is)
    (case sa_RuleSet => k_is)
    (case rd_RuleSet => k_is)
    (case ga_RuleSet => k_is)
    (case tr_RuleSet_RULES => first | rfl | decide +kernel | k_is)
    (case pg_Book => k_is)
    (case hd_Book => k_is)
    (case po_Book => k_is)
    (case sa_Book => k_is)
    (case n_Book_names => k_is)
    (case n_Book_number => k_is)
    (case rd_Book => k_is)
    (case ga_Book => k_is)
    (case tr_Book_RULES => first | rfl | decide +kernel | k_is)
    (case tc2_Book_RULES => k_is)
    (case pg_Image => k_is)
    (case hd_Image => k_is)
    (case po_Image => k_is)
    (case sa_Image => k_is)
    (case n_Image_plan => k_is)
    (case n_Image_cells => k_is)
    (case n_Image_holdings => k_is)
    (case n_Image_stamps => k_is)
    (case n_Image_handles => k_is)
    (case n_Image_serial => k_is)
    (case n_Image_wish => k_is)
    (case n_Image_barred => k_is)
    (case mk1_Image => k_is)
    (case mk3_Image => k_is)
    (case mk4_Image => k_is)
    (case rd_Image => k_is)
    (case ga_Image => k_is)
    (case pg_Lot => k_is)
    (case hd_Lot => k_is)
    (case po_Lot => k_is)
    (case sa_Lot => k_is)
    (case n_Lot_number => k_is)
    (case n_Lot_image => k_is)
    (case n_Lot_copies => k_is)
    (case n_Lot_identities => k_is)
    (case n_Lot_mark => k_is)
    (case n_Lot_mark_slot => k_is)
    (case n_Lot_revokes => k_is)
    (case mk1_Lot => k_is)
    (case mk3_Lot => k_is)
    (case mk4_Lot => k_is)
    (case m2_RuleSet___contains__ => k_is)
    (case m2_Plan_map_place => k_is)
    (case m2_Plan_node_block => k_is)
    (case m2_Plan_data_blocks => k_is)
    (case m2_Image_begin => k_is)
    (case m2_Image_settle => k_is)
    (case m2_Image_twin => k_is)
    (case m2_Image_take => k_is)
    (case m2_Image_give => k_is)
    (case m2_Image__put_block => k_is)
    (case m2_Image_free_blocks => k_is)
    (case m2_Image_kind => k_is)
    (case m2_Lot_keep_copy => k_is)
    (case m2_Lot_keep_mark => k_is)
    (case m2_Lot_used_slots => k_is)
    (case be1_BadValue => k_is)
    (case te1_BadValue => k_is)
    (case ie1_BadValue => k_is)
    (case xe1_BadValue => first | k_exc | k_is)
    (case ke1_BadValue => k_is)
    (case ec1_BadValue => k_is)
    (case ec2_BadValue => k_is)
    (case ec4_BadValue => k_is)
    (case ec5_BadValue => k_is)
    (case ec6_BadValue => k_is)
    (case ec7_BadValue => k_is)
    (case ec8_BadValue => k_is)
    (case be1_BlocksFull => k_is)
    (case te1_BlocksFull => k_is)
    (case ie1_BlocksFull => k_is)
    (case xe1_BlocksFull => first | k_exc | k_is)
    (case ke1_BlocksFull => k_is)
    (case ec1_BlocksFull => k_is)
    (case ec2_BlocksFull => k_is)
    (case ec4_BlocksFull => k_is)
    (case ec5_BlocksFull => k_is)
    (case ec6_BlocksFull => k_is)
    (case ec7_BlocksFull => k_is)
    (case ec8_BlocksFull => k_is)
    (case be1_OverQuota => k_is)
    (case te1_OverQuota => k_is)
    (case ie1_OverQuota => k_is)
    (case xe1_OverQuota => first | k_exc | k_is)
    (case ke1_OverQuota => k_is)
    (case ec1_OverQuota => k_is)
    (case ec2_OverQuota => k_is)
    (case ec4_OverQuota => k_is)
    (case ec5_OverQuota => k_is)
    (case ec6_OverQuota => k_is)
    (case ec7_OverQuota => k_is)
    (case ec8_OverQuota => k_is)
    (case gc_LEAST_BLOCKS => k_is)
    (case gc_MOST_BLOCKS => k_is)
    (case gc_LEAST_NODES => k_is)
    (case gc_MOST_NODES => k_is)
    (case gc_MOST_SLOTS => k_is)
    (case gc_LEAST_DATA => k_is)
    (case gc_FIRST_MAP => k_is)
    (case gc_SUMS_BLOCK => k_is)
    (case gc_ROOT => k_is)
    (case gc_KIND => k_is)
    (case gc_LINKS => k_is)
    (case gc_MAKING => k_is)
    (case gc_FOLDER => k_is)
    (case gc_NO_SLOT => k_is)
    (case mk1_Book => k_is)
    (case mk3_Book => k_is)
    (case mk4_Book => k_is)
    (case bm2_contains => k_is)
    (case sf1_Book => k_is)
    (case nb_abs => k_is)
    (case nb_bool => k_is)
    (case nb_dict => k_is)
    (case nb_enumerate => k_is)
    (case nb_int => k_is)
    (case nb_isinstance => k_is)
    (case nb_len => k_is)
    (case nb_list => k_is)
    (case nb_range => k_is)
    (case nb_reversed => k_is)
    (case nb_set => k_is)
    (case nb_sorted => k_is)
    (case nb_sum => k_is)
    (case nb_tuple => k_is)
    (case bm1_contains => k_is)
