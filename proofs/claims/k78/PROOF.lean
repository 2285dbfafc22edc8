import PyProof.Rows.All
import Wide.All
import OpenK.AllK
import Wide.FinOn
import HandS.ForMost
import HandS.IsInst
import HandS.Evl
import HandS.ClsMeth
import HandS.MakeKwOnly
import HandS.TryOnly
import HandS.TryMany
import HandS.Iter
import HandS.ExcOwn
import HandS.ExcIs
import HandS.ExcCtx
import HandS.HotCalls
import HandS.WordsExc
import HandS.Conv
import HandS.FStr
import HandS.RaiseMore
import HandS.Style
import HandS.Small
import HandS.More
import HandS.Star
import KE.GoesMore
import HandS.Walk
import HandS.SetBool
import HandS.Strs
import HandS.SetFor
import HandS.SortInts
import HandS.SortRule
import HandS.HeadHook2
import KE.KOwnIter
import HandS.IterVal
import HandS.Lambda
import HandS.RevTup
import HandS.Rev
import HandS.EndTab
import HandS.TupMul
import HandS.Zip
import HandS.Dict
import HandS.StrMore
import HandS.HeadHook4
import KE.KNestM
import HandS.AnyAll
import HandS.GenOver
import PySem.Challenge.RW_lotsandties_k78_images_of_cells
set_option Elab.async false
set_option linter.all false
set_option maxRecDepth 100000
set_option maxHeartbeats 4000000
namespace Rg
open PySem PySem.Spec PyProof.Rows L2
/-! ### heaps -/
theorem same_upd {H : Hp} {p : Addr} {o : HO} (h : H p = none) : Same H (upd H p o) := fun b x e => by
  rw [upd_ne (ne_of_none e h)]
  exact e
theorem upd_id {H : Hp} {p : Addr} {o : HO} (h : H p = some o) : upd H p o = H := by
  funext b
  by_cases e : b = p
  · rw [e, upd_same, h]
  · rw [upd_ne e]
theorem yes_ {σ : L2.St} {H : Hp} {A B : Hp → Prop} (h : A H) : tYes σ H fun b H3 => if b = true then A H3 else B H3 := by
  show if true = true then A H else B H
  rw [if_pos rfl]
  exact h
/-- what is free behind a store was free, and is another place -/
theorem un {H : Hp} {a b : Addr} {o : HO} (e : upd H a o b = none) : H b = none := by
  by_cases z : b = a
  · rw [z, upd_same] at e; cases e
  · rw [upd_ne z] at e; exact e
theorem unn {H : Hp} {a b : Addr} {o : HO} (e : upd H a o b = none) : b ≠ a := fun z => by
  rw [z, upd_same] at e; cases e
theorem unn' {H : Hp} {a b : Addr} {o : HO} (e : upd H a o b = none) : a ≠ b := fun z => unn e z.symm
theorem upd_comm {H : Hp} {p q : Addr} {o o' : HO} (h : p ≠ q) : upd (upd H p o) q o' = upd (upd H q o') p o := by
  funext b
  by_cases e : b = p
  · rw [e, upd_same, upd_ne h, upd_same]
  · by_cases e2 : b = q
    · rw [e2, upd_same, upd_ne h.symm, upd_same]
    · rw [upd_ne e2, upd_ne e, upd_ne e, upd_ne e2]
theorem upd_app {H : Hp} {p : Addr} {fs : List Int} {x : Int} : upd (upd H p (.lst (fs.map V.int))) p (.lst (fs.map V.int ++ [V.int x])) = upd H p (.lst ((fs ++ [x]).map V.int)) := by
  rw [upd_upd, List.map_append]
  rfl
/-- kept but for what stands at S -/
def Kp (S : List Addr) (H H' : Hp) : Prop := ∀ x o, H x = some o → x ∉ S → H' x = some o
theorem Kp.refl {S : List Addr} {H : Hp} : Kp S H H := fun _ _ e _ => e
theorem Kp.new {S : List Addr} {H H1 : Hp} {a : Addr} {o : HO} (k : Kp S H H1) (h : H1 a = none) : Kp S H (upd H1 a o) := fun x u e n => by
  rw [upd_ne (ne_of_none (k x u e n) h)]
  exact k x u e n
theorem Kp.own {S : List Addr} {H H1 : Hp} {a : Addr} {o : HO} (k : Kp S H H1) (h : a ∈ S) : Kp S H (upd H1 a o) := fun x u e n => by
  have z : x ≠ a := fun z => by rw [z] at n; exact n h
  rw [upd_ne z]
  exact k x u e n
theorem Kp.own1 {p : Addr} {H H1 : Hp} {o : HO} (k : Kp [p] H H1) : Kp [p] H (upd H1 p o) := k.own (by simp)
theorem Kp.trans {S : List Addr} {H H1 H2 : Hp} (a : Kp S H H1) (b : Kp S H1 H2) : Kp S H H2 := fun x o e n => b x o (a x o e n) n
theorem Kp.same {S : List Addr} {H H1 H2 : Hp} (a : Kp S H H1) (b : Same H1 H2) : Kp S H H2 := fun x o e n => b x o (a x o e n)
theorem Kp.of {S : List Addr} {H H1 : Hp} (b : Same H H1) : Kp S H H1 := fun x o e _ => b x o e
theorem Kp.mono {S S' : List Addr} {H H1 : Hp} (a : Kp S H H1) (h : ∀ x, x ∈ S → x ∈ S') : Kp S' H H1 := fun x o e n => a x o e fun z => n (h x z)
theorem Kp.free {S : List Addr} {H H1 : Hp} {x : Addr} (a : Kp S H H1) (n : x ∉ S) (h : H1 x = none) : H x = none := by
  cases q : H x with
  | none => rfl
  | some o => rw [a x o q n] at h; cases h
theorem Kp.at1 {p x : Addr} {H H' : Hp} {o : HO} (k : Kp [p] H H') (e : H x = some o) (n : x ≠ p) : H' x = some o := k x o e (by simp [n])
theorem Kp.ret {a : Addr} {S : List Addr} {H H' : Hp} {o : HO} (k : Kp (a :: S) H H') (h : H a = none) : Kp S H H' := fun x u e n => k x u e (by
  intro z
  rcases List.mem_cons.mp z with z | z
  · rw [z, h] at e; cases e
  · exact n z)
theorem own_f {H H' : Hp} {p : Addr} {o : HO} (h : upd H p o = H') : H' p = some o ∧ Kp [p] H H' ∧ ∀ x, H' x = none → H x = none ∧ x ≠ p := by
  subst h
  exact ⟨upd_same, Kp.refl.own1, fun x e => ⟨un e, unn e⟩⟩
theorem new_f {H H' : Hp} {a : Addr} {o : HO} (h : upd H a o = H') (n : H a = none) : H' a = some o ∧ Same H H' ∧ ∀ x, H' x = none → H x = none ∧ x ≠ a := by
  subst h
  exact ⟨upd_same, same_upd n, fun x e => ⟨un e, unn e⟩⟩
/-- a whole-number constant of the module -/
theorem pe_gc {X : Cx} {x : Str} {n : Int} {pos : Pos} (hm : ∃ t, X.mg x = some (.int n t)) (hg : Gl X x := by rfl) (hd : (x == ("__debug__" : Str)) = false := by decide) : PE X (.Name x pos) (tC (.int n)) :=
  let ⟨t, h⟩ := hm
  pe_glob hg h ⟨t, rfl⟩ hd
/-- a text constant of the module -/
theorem pe_gs {X : Cx} {x z : Str} {pos : Pos} (hm : ∃ t, X.mg x = some (.str z t)) (hg : Gl X x := by rfl) (hd : (x == ("__debug__" : Str)) = false := by decide) : PE X (.Name x pos) (tC (.str z)) :=
  let ⟨t, h⟩ := hm
  pe_glob hg h ⟨t, rfl⟩ hd
/-- C.f, C a class of the module, f a value of the class -/
theorem pe_cv {X : Cx} {x f : Str} {C : Addr} {mc : Value} {v : V} {p pos : Pos} (hm : X.mg x = some (.ref C)) (r : ClX.CRead X.K C mc) (k : ∃ u, ClX.CVal X.K C mc f v u) (hg : Gl X x := by rfl) (hd : (x == ("__debug__" : Str)) = false := by decide)
    (hb : attributeBase (.Name x p) f X.env (eval (.Name x p) X.env) = eval (.Name x p) X.env := by rfl) : PE X (.Attribute (.Name x p) f pos) (tC v) := by
  obtain ⟨u, k⟩ := k
  have := (ClX.pe_cval (pos := pos) (pe_glob (X := X) (x := x) (v := .ref C) (u := .ref C) (pos := p) hg hm rfl hd) hb)
  exact ⟨fun pins s σ H Q I h => this.run pins s σ H Q I ⟨C, mc, v, u, rfl, r, k, h⟩⟩
/-! ### the same rules with the written part named (inside a comprehension) -/
section
variable {X : Cx} {K : PySem.W.Frag}
def rListOf (K : PySem.W.Frag) : List V → Hp → VK → Prop := fun xs H Q => ∃ p ys, xs = [.ref p] ∧ (SqL K H p ys ∨ SqT K H p ys) ∧ ∀ l, H l = none → Q (.ref l) (upd H l (.lst ys))
theorem pe_listof {e : Expr} {te : TE} {p pos : Pos} (he : PE X e te) (hm : X.mg "list" = none) (hK : X.K = K := by rfl) (hg : Gl X "list" := by rfl) (hs : starEach [e] X.env = (false, eval e X.env) :: starEach [] X.env := by rfl) : PE X (.Call (.Name "list" p) [e] [] pos) (tCB (rListOf K) (tCons te tNil)) := by
  subst hK
  exact pe_callTy call_list_of hg hm (by decide +kernel) (pa_cons he pa_nil hs) (he := hs)
theorem pe_fldK {e : Expr} {f : Str} {pos : Pos} {ta : TE} (he : PE X e ta) (hb : attributeBase e f X.env (eval e X.env) = eval e X.env) (hK : X.K = K := by rfl) : PE X (.Attribute e f pos) (tFld K ta f) := by
  subst hK
  exact pe_fld he hb
theorem pe_ixK {a b : Expr} {pos : Pos} {ta tb : TE} (ha : PE X a ta) (hb : PE X b tb) (hs : PlainIx b) (hK : X.K = K := by rfl) : PE X (.Subscript a b pos) (tOp (rIxL K) ta tb) := by
  subst hK
  exact pe_ix ix_list ha hb hs
theorem pe_lenK {e : Expr} {te : TE} {p pos : Pos} (he : PE X e te) (hm : X.mg "len" = none) (hK : X.K = K := by rfl) (hg : Gl X "len" := by rfl) (hs : starEach [e] X.env = (false, eval e X.env) :: starEach [] X.env := by rfl) : PE X (.Call (.Name "len" p) [e] [] pos) (tCB (fun xs H Q => ∃ p ys, xs = [.ref p] ∧ (SqL K H p ys ∨ SqT K H p ys) ∧ Q (.int ys.length) H) (tCons te tNil)) := by
  subst hK
  exact pe_callB call_len_seq hg hm (by decide +kernel) (pa_cons he pa_nil hs) (he := hs)
end
/-! ### static methods, called off the class -/
structure SMet (K : PySem.W.Frag) (C : Addr) (mc : Value) (m : Str) (g : Addr) : Prop where
  ex : ∃ p, PySem.W.findCls K (.ref C) mc m = some (.get (.builtin "staticmethod.__get__") (.ref p) .none (.ref C)) ∧ (∃ rest, PySem.W.recIn K p "staticmethod" = some (.ref g :: rest)) ∧ PySem.W.keepIn K (.ref g) = true
/-- C.m(e, ..), C the class at C, m a static method -/
def tSMeth (sp : Sp) (dvs : List V) (E : XK) (t : TA) : TE := fun σ H Q => t σ H fun vs H2 => sp (vs ++ dvs) H2 Q E
section
variable {X : Cx} {CX : CXT} {k : Nat} {C g : Addr} {mc : Value} {sp : Sp} {E : XK} {x : Str} {e : Expr} {es : List Expr} {m : Str} {p pos apos : Pos} {t : TA} {pl : Sem Bool} {fd : FuncData} {ps : List Str} {ds : List Value} {dvs : List V}
theorem pe_smeth (hmx : X.mg x = some (.ref C)) (r : ClX.CRead X.K C mc) (c : SMet X.K C mc m g) (F : FnOk X.prog X.w X.K X.mg X.base CX k g fd ps sp) (hr : Room k X.A) (hb : Binds X.K fd ps ds) (hd : Vals dvs ds) (hx : Passes CX X E) (ha : PA X (e :: es) t) (hg : Gl X x := by rfl) (hdb : (x == ("__debug__" : Str)) = false := by decide)
    (hst : starEach (e :: es) X.env = (false, eval e X.env) :: starEach es X.env := by rfl) (hpl : (backTo pos (starEach es X.env)).any (·.1) = false := by rfl)
    (ht : eval (.Call (.Attribute (.Name x p) m apos) (e :: es) [] pos) X.env = (do
      let ov ← eval (.Name x p) X.env
      standAt apos.atName
      let (f, first) ← holding [ov] (getMethod ov m pl)
      callWith pos f first (backTo pos (starEach (e :: es) X.env)) (backToKw pos (keywordEach [] X.env))) := by rfl) :
    PE X (.Call (.Attribute (.Name x p) m apos) (e :: es) [] pos) (tSMeth sp dvs E t) := by
  obtain ⟨q, at_, ⟨rest, hp⟩, hk⟩ := c.ex
  refine ⟨fun pins s σ H Q I h => ?_⟩
  refine PySem.W.methodCall_KW (pl := pl) (ld_glob I hg hmx ?_ hdb) ht
  refine PySem.W.method_cls I.kIn r.ga (PySem.W.cls_bind I.kIn r.rd at_ ?_)
  refine wpAny_call (PySem.W.sm_get (s := { s with toks := s.toks + 1 }) I.kIn hp (PySem.W.handed_on rfl ?_))
  refine PySem.W.callWith_K (f := .ref g) (first := []) (h₀ := X.base) I.ok.mod.kin hk (thn (ha.run pos pins _ σ H _ (I.tok _) h) fun us s1 ⟨vs, H1, I1, r1, q1⟩ => ⟨I1.kIn, ?_⟩) hst hpl
  exact run_fn F hr hb hd hx I1 r1 q1
end
/-! ### errors -/
theorem exm_sub {K : PySem.W.Frag} {D S : Addr} (h1 : PySem.W.subIn K (.ref S) (.type "BaseException") = some true) (h2 : PySem.W.isClsIn K S = true) (h3 : PySem.W.typeIn K (.ref S) = some (.type "type")) (h4 : PySem.W.subIn K (.ref D) (.ref S) = some true) :
    PySem.W.exmOne K (.ref D) (.ref S) = some true := by
  have e1 : (PySem.W.subIn K (.ref S) (.type "BaseException") == some true) = true := by rw [h1] <;> rfl
  have e2 : ((PySem.W.clsIn K S).isSome && PySem.W.typeIn K (.ref S) == some (.type "type")) = true := by
    have h2' : (PySem.W.clsIn K S).isSome = true := h2
    rw [h2', h3] <;> rfl
  show (if (PySem.W.subIn K (.ref S) (.type "BaseException") == some true) = true then (if ((PySem.W.clsIn K S).isSome && PySem.W.typeIn K (.ref S) == some (.type "type")) = true then PySem.W.subIn K (.ref D) (.ref S) else none) else none) = some true
  rw [if_pos e1, if_pos e2]
  exact h4
theorem kit_sub {K : PySem.W.Frag} {D S : Addr} {b : Bool} (hne : D ≠ S) (h2 : PySem.W.isClsIn K S = true) (h3 : PySem.W.typeIn K (.ref S) = some (.type "type")) (h4 : PySem.W.subIn K (.ref D) (.ref S) = some b) :
    PySem.W.kitOne K (.ref D) (.ref S) = some b := by
  have e2 : ((PySem.W.clsIn K S).isSome && PySem.W.typeIn K (.ref S) == some (.type "type")) = true := by
    have h2' : (PySem.W.clsIn K S).isSome = true := h2
    rw [h2', h3] <;> rfl
  unfold PySem.W.kitOne
  rw [if_neg (by intro z; exact hne (Value.ref.inj (beq_iff_eq.mp z)))]
  show (if ((PySem.W.clsIn K S).isSome && PySem.W.typeIn K (.ref S) == some (.type "type")) = true then PySem.W.subIn K (.ref D) (.ref S) else none) = some b
  rw [if_pos e2]
  exact h4
/-- a suite that is come to by an error of the class at D alone (no fields of its own) -/
def tOnly (cls : Value) (d : Option Addr) (D : Addr) (t : TS) : TS := fun E σ H => cls = .ref D ∧ d = none ∧ t E σ H
theorem pss_only {X : Cx} {sts : List Stmt} {t : TS} {cls : Value} {d : Option Addr} {D : Addr} (h : cls = .ref D → d = none → PSs X sts t) : PSs X sts (tOnly cls d D t) :=
  ⟨fun pins s σ H E I hh => (h hh.1 hh.2.1).run pins s σ H E I hh.2.2⟩
theorem kit_self {K : PySem.W.Frag} {D : Addr} : PySem.W.kitOne K (.ref D) (.ref D) = some true := by
  unfold PySem.W.kitOne
  rw [if_pos (beq_self_eq_true _)]
theorem dec_iv (a d : Int) : decide (V.int a = V.int d) = decide (a = d) := by
  by_cases e : a = d
  · subst e; simp
  · rw [decide_eq_false e, decide_eq_false fun q => e (V.int.inj q)]
end Rg
namespace Rg
open PySem PySem.Spec PyProof.Rows L2
/-! ### tests that are known -/
theorem wT {c A B : Prop} [Decidable c] (h : c) (a : A) : if decide c = true then A else B := by rw [decide_eq_true h, if_pos rfl]; exact a
theorem wF {c A B : Prop} [Decidable c] (h : ¬ c) (a : B) : if decide c = true then A else B := by rw [decide_eq_false h, if_neg Bool.false_ne_true]; exact a
theorem wTv {a b : Int} {A B : Prop} (h : a = b) (k : A) : if decide (V.int a = V.int b) = true then A else B := wT (by rw [h]) k
theorem wFv {a b : Int} {A B : Prop} (h : ¬ a = b) (k : B) : if decide (V.int a = V.int b) = true then A else B := wF (fun z => h (V.int.inj z)) k
theorem wI {a b : Int} {A B : Prop} (h1 : a = b → A) (h2 : ¬ a = b → B) : if decide (V.int a = V.int b) = true then A else B := by
  by_cases e : a = b
  · exact wTv e (h1 e)
  · exact wFv e (h2 e)
theorem wD {c A B : Prop} [Decidable c] (h1 : c → A) (h2 : ¬ c → B) : if decide c = true then A else B := by
  by_cases e : c
  · exact wT e (h1 e)
  · exact wF e (h2 e)
theorem wTn {c A B : Prop} [Decidable c] (h : ¬ c) (a : A) : if (!decide c) = true then A else B := by rw [decide_eq_false h]; exact iteT a
theorem wFn {c A B : Prop} [Decidable c] (h : c) (a : B) : if (!decide c) = true then A else B := by rw [decide_eq_true h]; exact iteF a
theorem wTb {b : Bool} {A B : Prop} (h : b = true) (a : A) : if b = true then A else B := by rw [if_pos h]; exact a
theorem wFb {b : Bool} {A B : Prop} (h : b = false) (a : B) : if b = true then A else B := by rw [if_neg (by rw [h]; decide)]; exact a
/-- what was free before may be written -/
theorem Kp.put {S : List Addr} {H H1 : Hp} {a : Addr} {o : HO} (k : Kp S H H1) (h : H a = none) : Kp S H (upd H1 a o) := fun x u e n => by
  rw [upd_ne (ne_of_none e h)]
  exact k x u e n
theorem wNT {a b : Int} {A B : Prop} (h : ¬ a = b) (k : A) : if (!decide (V.int a = V.int b)) = true then A else B := wTn (fun z => h (V.int.inj z)) k
theorem wNF {a b : Int} {A B : Prop} (h : a = b) (k : B) : if (!decide (V.int a = V.int b)) = true then A else B := wFn (by rw [h]) k
theorem wNe {a b : Int} {A B : Prop} (h1 : ¬ a = b → A) (h2 : a = b → B) : if (!decide (V.int a = V.int b)) = true then A else B := by
  by_cases e : a = b
  · exact wNF e (h2 e)
  · exact wNT e (h1 e)
theorem wND {c A B : Prop} [Decidable c] (h1 : ¬ c → A) (h2 : c → B) : if (!decide c) = true then A else B := by
  by_cases e : c
  · exact wFn e (h2 e)
  · exact wTn e (h1 e)
theorem CMul_l {i j : Int} (h : -(2 ^ 64) < i ∧ i < 2 ^ 64) : CMul i j := .inl h
theorem CMul_r {i j : Int} (h : -(2 ^ 64) < j ∧ j < 2 ^ 64) : CMul i j := .inr h
theorem lt_line {n : Nat} (h : n ≤ 10000) : n < sizeLine := Nat.lt_of_le_of_lt h (by decide)
/-- the slots written out -/
theorem sg {t : L2.St → Hp → Prop} {σ σ' : L2.St} {H : Hp} (e : σ = σ') (h : t σ' H) : t σ H := by rw [e]; exact h
theorem sgG {i : Nat} {v : V} {σ σ' : L2.St} {H : Hp} {k : L2.St → Hp → Prop} (e : σ.set i (some v) = σ') (h : k σ' H) : gName i v σ H k := by
  subst e
  exact h
end Rg
namespace Rg
open PySem PySem.Spec PyProof.Rows L2
/-! ### an error that a suite holds, handed to a def of one's own -/
section
variable {prog : Program} {w : World} {A : Around} {E : Value → Shared → Prop} {s : Shared}
/-- a walk over a list comes to its end while an error is handled -/
theorem list_end_hot {it l x1 : Addr} {i : Nat} {items} {Q : Option Value → Shared → Prop} (hot : HotX.HotAt A x1 s.heap) (hit : s.heap.IsListIter it l i) (hl : s.heap.IsList l items) (hx : items[i]? = none)
    (hQ : ∀ h', Heap.ExtBut it s.heap h' → Q none { s with heap := h' }) : wpAny (model prog w) A (pyNext (.ref it)) Q E s := by
  obtain ⟨hh, o1, vs1, h1, d1, c1⟩ := hot; obtain ⟨o, ho, hc, hd⟩ := id hit
  obtain ⟨ol, hol, _, nl, hdl⟩ := hl; unfold pyNext
  have ni : it ≠ x1 := fun z => by
    rw [← z, ho] at h1
    cases h1
    rw [hd] at d1
    cases d1
    simp at c1
  refine wpAny_bind (wpAny_attempt (wpAny_callSpecial?_slot (name := Str.ofString "__next__") hit.typeIs slot_listiter_next (wpAny_call_entry slot_listiter_next hit.typeIs entry_listiter_next ?_ (args_listiter_next _))))
  refine (show wpAny _ _ (field (.ref it) 0 >>= _) _ _ s from ?_); refine wpAny_bind (wpAny_field ho hd (x := .ref l) rfl ?_)
  refine (show wpAny _ _ (if (Value.ref l == Value.none) = true then _ else _) _ _ s from ?_); rw [if_neg (show ¬ ((Value.ref l == Value.none) = true) from Bool.false_ne_true)]
  refine (show wpAny _ _ (field (.ref it) 1 >>= _) _ _ s from ?_); refine wpAny_bind (wpAny_field ho hd (x := .int i 0) rfl ?_)
  refine (show wpAny _ _ (seqItems? (.ref l) >>= _) _ _ s from ?_); refine wpAny_bind (wpAny_seqItems hol hdl ?_)
  simp only [Int.toNat_natCast, hx]; refine wpAny_bind (wpAny_rule (wpAny_bind (wpAny_setField ho hd (by simp) ?_)))
  refine (show wpAny _ _ (newExc (.type "StopIteration") [] >>= _) _ _ _ from ?_); refine wpAny_bind ?_
  simp only [newExc, newTuple]; refine wpAny_bind (wpAny_newObj_type ?_ (by size_fits))
  refine wpAny_bind (m := firstArgMember _ _) (wpAny_of_eq (a := Value.none) (by first | rfl | (simp only [firstArgMember]; rfl)) ?_); refine wpAny_newObj_type ?_ (by size_fits)
  have g1 : ∀ f : Obj → Obj, (s.heap.update it f).get? x1 = some o1 := fun f => by rw [Heap.get?_update_other _ _ ni]; exact h1
  refine HotX.raiseNew_hot ⟨hh, o1, vs1, Heap.get?_push_of_some _ (Heap.get?_push_of_some _ (g1 _)), d1, c1⟩ (Nat.ne_of_lt (Heap.lt_size (Heap.get?_push_of_some _ (g1 _)))) (Heap.get?_push_size _ rfl) rfl (by first | (simp; done) | (simp; omega) | (simp only [Array.size_append]; simp; omega)) ?_
  refine wpAny_bind (wpAny_isInstance (T := "StopIteration") (b := true) ⟨_, Heap.get?_update_self _ (Heap.get?_push_size _ rfl) rfl, rfl⟩ isSubtype_stop ?_); refine wpAny_pure (hQ _ fun b o' nb e => ?_)
  have e2 : ∀ f oo, ((s.heap.update it f).push oo).get? b = some o' := fun f oo => (Heap.SameBut.update ..).extBut.push _ b o' nb e
  rw [Heap.get?_update_other _ _ (Nat.ne_of_gt (Heap.lt_size (e2 _ _)))]; exact Heap.get?_push_of_some _ (e2 _ _)
end
/-- the turns of a walk over a list while an error is handled -/
theorem turn_listH {P : Program} {w : World} {K : PySem.W.Frag} {tg : Expr} (a it : Addr) : L2H.TurnH P w K tg (Itl K a) [it] it (fun i h => h.IsListIter it a i) where
  mem := by simp
  obj := fun i h st b hb => (turn_list (P := P) (w := w) (K := K) (tg := tg) a it).obj i h st b hb
  keep := fun i h h' st k => (turn_list (P := P) (w := w) (K := K) (tg := tg) a it).keep i h h' st k
  item := by
    intro X hP hw hK hc i pins s σ H E I hf st hg; subst hP hw hK
    obtain ⟨xs, x, hq, hx⟩ := hg; obtain ⟨its, rv, p, hz⟩ := I.list hq
    obtain ⟨u, hu, ru⟩ := rv.get hx; obtain ⟨f0, f1, f2, f3, f4, f5⟩ := hf it (by simp)
    refine wpAny_pyNext_list_item st p.isList (x := u) (by simpa using hu) fun h' st' sb => ?_
    have I1 : Inv X pins σ H { s with heap := h' } := I.turned (t' := s.toks) (fun b o hb e => (sb.2 b hb).trans e) f0 f1 f3 f4 f5
    obtain ⟨o, e, c, d⟩ := id st'
    exact ⟨u, rfl, go_of (s := { s with heap := h' }) e c d (by decide) ⟨x, H, I1, ru, ⟨rfl, fun ys hy => by rw [I.list_inj hy hq]; exact hx⟩, st', fun b hb => (hf b hb).1⟩⟩
  done := by
    intro X hP hw hK hc i pins s σ H E I hf st hg; subst hP hw hK
    obtain ⟨xs, hq, hx⟩ := hg; obtain ⟨its, rv, p, hz⟩ := I.list hq
    obtain ⟨f0, f1, f2, f3, f4, f5⟩ := hf it (by simp); obtain ⟨x1, hot⟩ := hc.at I
    have hl := rv.length
    exact list_end_hot hot st p.isList (by simp; omega) fun h' eb => ⟨rfl, I.turned (t' := s.toks) (fun b o hb e => eb b o hb e) f0 f1 f3 f4 f5⟩
  self := fun _ _ _ _ _ st h => wpAny_pyIter_listiter st h
theorem pi_listH {X : Cx} {tg l : Expr} {tl : TE} (hl : PE X l tl) : L2H.PIH X tg l (iList X.K tl) := by
  refine ⟨fun pins s σ H R I h => thn (hl.run pins s σ H _ I h) fun v s1 ⟨x, H1, I1, r1, q1⟩ => ?_⟩
  obtain ⟨a, e, ⟨xs, hq⟩, q⟩ := q1; subst e; cases r1
  obtain ⟨its, rv, p, hz⟩ := I1.list hq; refine wpAny_pyIter_list p.isList ?_
  refine ⟨s1.heap.objs.size, [s1.heap.objs.size], _, _, H1, rfl, I1.kept (t' := s1.toks) (fun b o e => Heap.get?_push_of_some _ e), turn_listH a _, ⟨_, Heap.get?_push_size _ rfl, rfl, rfl⟩, fun b hb => ?_, q⟩
  have e : b = s1.heap.objs.size := by simpa using hb
  subst e; exact I1.fpOk (Nat.le_refl _) (I1.hok.fresh (Nat.le_refl _))
/-- a def that is called with the error that a suite holds (of the class at D) and lets nothing out -/
structure FnE (P : Program) (w : World) (K : PySem.W.Frag) (mg : Str → Option Value) (base : Heap) (k : Nat) (f : Addr) (fd : FuncData) (ps : List Str) (D : Addr) (sp : Addr → Sp) : Prop where
  len : ∀ a vs H Q E, sp a vs H Q E → vs.length = ps.length
  run : ∀ (A : Around) (outer : List Env) (s : Shared) (H : Hp) (args : Args) (us : List Value) (vs : List V) (Q : VK) (E : XK) (p : Addr × Obj), L2H.RoomH k A → L2H.Hot1 A p → Zc (.ref D) none p.2 → L2H.PinOk outer H s p → Env0 P w K mg base A outer s H →
    BindsTo s fd args (ps.zip us) → Vals vs us → sp p.1 vs H Q E → codeAny (model P w) A (.call (.ref f) args) (CR CX0 outer P w H s Q E) s
section
variable {P : Program} {w : World} {K : PySem.W.Frag} {mg : Str → Option Value} {base : Heap}
theorem _root_.L2.Fun.okE {x qual : Str} {st : Stmt} {f D : Addr} {fd : FuncData} {N ps : List Str} {k : Nat} {sp : Addr → Sp} (F : Fun K x qual st f fd) (S : FnScope N ps (defScope st)) (len : ∀ a vs H Q E, sp a vs H Q E → vs.length = ps.length)
    (hbody : ∀ (cdv : Value) (A : Around) (outer : List Env) (s : Shared) (H : Hp) (vs : List V) (Q : VK) (E : XK) (p : Addr × Obj), L2H.Hot1 A p → Zc (.ref D) none p.2 → L2H.RoomH k (A.deeper (envOfC qual (defScope st) s.heap.objs.size f cdv)) → sp p.1 vs H Q E →
      ∃ t, PSs (L2H.cxH CX0 P w K mg base N qual (defScope st) f cdv A outer s H E p) (defBody st) t ∧ t { nx := fun _ H' => Q .non H', rt := Q } (L2.start N vs) H) : FnE P w K mg base (k + 1) f fd ps D sp := by
  obtain ⟨oc, od, kV, doc, pm, an, cdv, ct, osl, rfl, lk, hcd⟩ := F.ex
  refine ⟨len, fun A outer s H args us vs Q E p hr hot hz hpin e0 hb r hsp => ?_⟩
  have hl := len _ _ _ _ _ hsp; have KX : K.In s.heap := e0.mod.kin.keeps fun b o e => (e0.bs b o e).1
  have lim : s.heap.NoLimit := e0.mod.nolimit.keeps fun b o e => (e0.bs b o e).1; have bb := hb
  have hkind : ∀ y ∈ ps.zip us, (defScope st).names.lookup y.1 = some .local ∨ ((defScope st).names.lookup y.1 = some .cell ∧ ((cellsFrom (s.heap.objs.size + 1) (defScope st).names []).lookup y.1).isSome = true) := fun ⟨n, v⟩ hy =>
    (S.par n (List.of_mem_zip hy).1).elim .inl fun q => .inr ⟨q, PySem.W.cellsFrom_some _ _ _ (.inl q)⟩
  refine codeAny_call_function hr.depth (KX _ _ lk) rfl S.co S.gen rfl (PySem.W.codeRec_of KX hcd) (bb _ _ _ _ (wpAny_newFunctionEnv_cells S.kind hkind fun env he s1 x => ?_))
  subst he; refine ⟨lim.keeps x.toInCall.keep, codeAny_func ?_⟩
  obtain ⟨t, ht, hq⟩ := hbody cdv A outer s H vs Q E p hot hz (hr.deeper _) hsp
  have I := L2H.inv_startH (CX := CX0) (E := E) S hpin e0 hl r x
  refine wpAny_mono (ht.run [] s1 (L2.start N vs) H _ I hq) (fun fl s' hs => ?_) fun _ _ hs => hs
  cases fl with
  | ret u => exact hs.elim fun v ⟨σ', H', J, rv, q⟩ => ⟨v, H', J.os, J.bare, J.base, J.hok, rv, q⟩
  | next => exact hs.elim fun σ' ⟨H', J, q⟩ => ⟨V.non, H', J.os, J.bare, J.base, J.hok, rfl, q⟩
  | brk => exact hs.elim fun _ ⟨_, _, q⟩ => q.elim
  | cont => exact hs.elim fun _ ⟨_, _, q⟩ => q.elim
end
section
variable {X : Cx} {k : Nat} {f D : Addr} {fd : FuncData} {ps : List Str} {sp : Addr → Sp} {x : Str} {q pos : Pos} {e : Expr} {es : List Expr} {t : TA}
/-- f(e, ..), f a def for the error at a -/
def tCallE (sp : Addr → Sp) (a : Addr) (t : TA) : TE := fun σ H Q => t σ H fun vs H1 => sp a vs H1 Q E0
theorem pe_callE (F : FnE X.prog X.w X.K X.mg X.base k f fd ps D sp) (hr : L2H.RoomH k X.A) {p : Addr × Obj} (hot : L2H.Hot1 X.A p) (hz : Zc (.ref D) none p.2) (hp : p ∈ X.pn) (hg : Gl X x) (hm : X.mg x = some (.ref f)) (hk : PySem.W.keepIn X.K (.ref f) = true) (hb : Binds X.K fd ps [])
    (ha : PA X (e :: es) t) (hdb : (x == ("__debug__" : Str)) = false := by decide) (he : starEach (e :: es) X.env = (false, eval e X.env) :: starEach es X.env := by rfl) (hpl : (backTo pos (starEach es X.env)).any (·.1) = false := by rfl) :
    PE X (.Call (.Name x q) (e :: es) [] pos) (tCallE sp p.1 t) := by
  refine ⟨fun pins s σ H Q I h => wpAny_Call_Name_kw (ld_glob I hg hm ?_ hdb)⟩
  refine PySem.W.callWith_K (h₀ := X.base) I.ok.mod.kin hk (thn (ha.run pos pins s σ H _ I h) fun us s1 ⟨vs, H1, I1, r, q⟩ => ⟨I1.kIn, ?_⟩) he hpl
  have hl : us.length = ps.length := by rw [← r.length]; exact F.len _ _ _ _ _ q
  have b := hb s1 us I1.kIn (by rw [List.append_nil]; exact hl)
  rw [List.append_nil] at b
  have P1 := I1.pin p (List.mem_append_left _ hp)
  have hpin : L2H.PinOk X.stack H1 s1 p := ⟨P1.1, P1.2.1, fun hm' => (List.mem_cons.mp (I1.stkSub p.1 hm')).elim P1.2.2.1 P1.2.2.2.1, P1.2.2.2.2⟩
  refine wpAny_call (codeAny_mono (F.run X.A X.stack s1 H1 ⟨us, []⟩ us vs Q E0 p hr hot hz hpin I1.env0 b r q) fun r' s' hq => ?_)
  cases r' with
  | error e => exact False.elim hq
  | ok fl =>
    cases fl with
    | ret u => exact I1.after hq
    | _ => exact False.elim hq
/-- isinstance of the error that is handled, in whatever def it is asked -/
theorem call_isP {a D : Addr} {oe : Obj} (C : ExcC X.K D) (hz : Zc (.ref D) none oe) (hf : ∃ vs, oe.data = .fields vs) (hp : (a, oe) ∈ X.pn) : CallR X (.builtin "isinstance") (rIsE X.K D a) := by
  rintro pins s σ H xs us Q I r ⟨c, cv, b, rfl, hcv, e, q⟩
  obtain ⟨vs, hv⟩ := hf
  cases r with
  | cons rx rr =>
    cases rr with
    | cons rt rr =>
      cases rr; cases rx
      have ec := hcv _ rt
      subst ec
      have hget := (I.pin (a, oe) (List.mem_append_left _ hp)).1
      have J : PySem.W.InstAt s.heap a oe D none := by
        obtain ⟨oc, od, oda, osl⟩ := oe
        obtain ⟨h1, h2⟩ := hz
        subst hv
        cases h1
        cases h2
        exact ⟨hget, rfl, rfl, trivial⟩
      exact PySem.W.kia_one (PySem.W.handS_kitx_exc C.hg C.hk C.hs C.hd C.ha C.hn C.ht C.hm) I.kIn J e (fun z => nomatch z) fun tk => ⟨.bl b, H, I.kept (t' := tk) fun _ _ z => z, rfl, q⟩
end
/-! ### defs that raise: the error's context is told to be None -/
section
variable {P : Program} {w : World} {K : PySem.W.Frag} {mg : Str → Option Value} {base : Heap}
theorem _root_.L2.Fun.okN {x qual : Str} {st : Stmt} {f : Addr} {fd : FuncData} {N ps : List Str} {k : Nat} {sp : Sp} (F : Fun K x qual st f fd) (S : FnScope N ps (defScope st)) (len : ∀ vs H Q E, sp vs H Q E → vs.length = ps.length)
    (hbody : ∀ (cdv : Value) (A : Around) (outer : List Env) (s : Shared) (H : Hp) (vs : List V) (Q : VK) (E : XK), Room k (A.deeper (envOfC qual (defScope st) s.heap.objs.size f cdv)) → sp vs H Q E →
      ∃ t, PSs (cxOf (L2N.CX P w) P w K mg base N qual (defScope st) f cdv A outer s H E) (defBody st) t ∧ t { nx := fun _ H' => Q .non H', rt := Q } (L2.start N vs) H) : FnOk P w K mg base (L2N.CX P w) (k + 1) f fd ps sp := by
  obtain ⟨oc, od, kV, doc, pm, an, cdv, ct, osl, rfl, lk, hcd⟩ := F.ex
  exact fn_of lk hcd S len fun A outer s H vs Q E hr hsp => hbody cdv A outer s H vs Q E hr hsp
theorem takes0N {X : Cx} : L2N.Takes X (fun _ _ _ _ => False) := fun _ _ x => by
  obtain ⟨_, _, _, _, _, _, _, _, _, _, _, _, _, _, _, _, z⟩ := x
  cases z
end
section
variable {X : Cx} {C : Addr} {bmB : List Value} {B newId initId : String}
/-- X(e) -/
theorem pmk_own1N {x : Str} {e : Expr} {ta : TE} {p pos : Pos} (F : ExcBaseFacts B newId initId bmB) (q : PySem.W.excIn X.K C bmB newId = true) (gC : X.mg x = some (.ref C)) (kC : PySem.W.keepIn X.K (.ref C) = true) (r : Raises X (.ref C)) (hg : Gl X x) (he : PE X e ta)
    (hs : starEach [e] X.env = (false, eval e X.env) :: starEach [] X.env := by rfl) (hdb : (x == ("__debug__" : Str)) = false := by decide) : L2N.PMk X (.Call (.Name x p) [e] [] pos) (fun σ H Q => ta σ H fun _ H1 => Q (.ref C) none H1) := by
  intro pins s σ H Q I h; refine wpAny_Call_Name_kw (ld_glob I hg gC ?_ hdb)
  refine PySem.W.callWith_K (h₀ := X.base) I.ok.mod.kin kC ?_ hs (by rfl); rw [hs]
  refine (show wpAny _ _ (spliced ((false, eval e X.env) :: backTo pos (starEach [] X.env))) _ _ s from ?_)
  refine Calls.spliced_cons (thn (he.run pins s σ H _ I h) fun u s1 ⟨v, H1, I1, r1, q1⟩ => Calls.spliced_nil ⟨I1.kIn, ?_⟩)
  refine (show wpAny _ _ (call (.ref C) [u]) _ _ _ from ?_)
  obtain ⟨bm, N, nm, qn, bs, hdct, sn, sub, ab, col, dd, k0, k1, k2, k3, k5, mN, hC, hN, hni, T⟩ := exc_obj I1.kIn q
  exact wpAny_call_exc_subT F T hC hN hni (fun h' e' hm => L2N.mk_of I1 hm r q1 (I1.hok.gone hm.new)) (by show 1 ≤ sizeLine; rw [sizeLine_eq]; omega)
end
/-! ### which class an error is of -/
theorem kit_subT {K : PySem.W.Frag} {D S : Addr} (h2 : PySem.W.isClsIn K S = true) (h3 : PySem.W.typeIn K (.ref S) = some (.type "type")) (h4 : PySem.W.subIn K (.ref D) (.ref S) = some true) : PySem.W.kitOne K (.ref D) (.ref S) = some true := by
  by_cases e : D = S
  · subst e
    exact kit_self
  · exact kit_sub e h2 h3 h4
theorem kit_blt {K : PySem.W.Frag} {D : Addr} {b : String} {r : Bool} (hm : PySem.W.kitMeta b = true) (h : PySem.W.subIn K (.ref D) (.type b) = some r) : PySem.W.kitOne K (.ref D) (.type b) = some r := by
  unfold PySem.W.kitOne
  rw [if_neg (by intro z; exact nomatch (beq_iff_eq.mp z))]
  unfold PySem.W.kitCls
  simpa [hm] using h
theorem takeB {α : Type} {l : List α} {i : Nat} {x : α} (h : l[i]? = some x) : l.take (i + 1) = l.take i ++ [x] := by
  rw [List.take_succ, h]
  rfl
/-! ### unpacking a tuple while an error is handled -/
section
variable {prog : Program} {w : World} {A : Around} {E : Value → Shared → Prop} {s : Shared}
theorem tup_end_hot {it l x1 : Addr} {i : Nat} {items} {Q : Option Value → Shared → Prop} (hot : HotX.HotAt A x1 s.heap) (hit : IsTupIter s.heap it l i) (hl : IsTup s.heap l items) (hx : items[i]? = none)
    (hQ : ∀ h', Heap.ExtBut it s.heap h' → Q none { s with heap := h' }) : wpAny (model prog w) A (pyNext (.ref it)) Q E s := by
  obtain ⟨hh, o1, vs1, h1, d1, c1⟩ := hot; obtain ⟨o, ho, hc, hd⟩ := id hit
  obtain ⟨ol, hol, _, nl, hdl⟩ := hl; unfold pyNext
  have ni : it ≠ x1 := fun z => by
    rw [← z, ho] at h1
    cases h1
    rw [hd] at d1
    cases d1
    simp at c1
  refine wpAny_bind (wpAny_attempt (wpAny_callSpecial?_slot (name := Str.ofString "__next__") hit.typeIs slot_tupleiter_next (wpAny_call_entry slot_tupleiter_next hit.typeIs entry_tupleiter_next ?_ (args_tupleiter_next _))))
  refine (show wpAny _ _ (field (.ref it) 0 >>= _) _ _ s from ?_); refine wpAny_bind (wpAny_field ho hd (x := .ref l) rfl ?_)
  refine (show wpAny _ _ (if (Value.ref l == Value.none) = true then _ else _) _ _ s from ?_); rw [if_neg (show ¬ ((Value.ref l == Value.none) = true) from Bool.false_ne_true)]
  refine (show wpAny _ _ (field (.ref it) 1 >>= _) _ _ s from ?_); refine wpAny_bind (wpAny_field ho hd (x := .int i 0) rfl ?_)
  refine (show wpAny _ _ (seqItems? (.ref l) >>= _) _ _ s from ?_); refine wpAny_bind (wpAny_seqItems hol hdl ?_)
  simp only [Int.toNat_natCast, hx]; refine wpAny_bind (wpAny_rule (wpAny_bind (wpAny_setField ho hd (by simp) ?_)))
  refine (show wpAny _ _ (newExc (.type "StopIteration") [] >>= _) _ _ _ from ?_); refine wpAny_bind ?_
  simp only [newExc, newTuple]; refine wpAny_bind (wpAny_newObj_type ?_ (by size_fits))
  refine wpAny_bind (m := firstArgMember _ _) (wpAny_of_eq (a := Value.none) (by first | rfl | (simp only [firstArgMember]; rfl)) ?_); refine wpAny_newObj_type ?_ (by size_fits)
  have g1 : ∀ f : Obj → Obj, (s.heap.update it f).get? x1 = some o1 := fun f => by rw [Heap.get?_update_other _ _ ni]; exact h1
  refine HotX.raiseNew_hot ⟨hh, o1, vs1, Heap.get?_push_of_some _ (Heap.get?_push_of_some _ (g1 _)), d1, c1⟩ (Nat.ne_of_lt (Heap.lt_size (Heap.get?_push_of_some _ (g1 _)))) (Heap.get?_push_size _ rfl) rfl (by first | (simp; done) | (simp; omega) | (simp only [Array.size_append]; simp; omega)) ?_
  refine wpAny_bind (wpAny_isInstance (T := "StopIteration") (b := true) ⟨_, Heap.get?_update_self _ (Heap.get?_push_size _ rfl) rfl, rfl⟩ isSubtype_stop ?_); refine wpAny_pure (hQ _ fun b o' nb e => ?_)
  have e2 : ∀ f oo, ((s.heap.update it f).push oo).get? b = some o' := fun f oo => (Heap.SameBut.update ..).extBut.push _ b o' nb e
  rw [Heap.get?_update_other _ _ (Nat.ne_of_gt (Heap.lt_size (e2 _ _)))]; exact Heap.get?_push_of_some _ (e2 _ _)
theorem unpack_hot {t x1 : Addr} {items : Array Value} {Q : List Value → Shared → Prop} (hot : HotX.HotAt A x1 s.heap) (ht : IsTup s.heap t items)
    (hQ : ∀ h', Heap.ExtBut s.heap.objs.size s.heap h' → Q items.toList { s with heap := h' }) : wpAny (model prog w) A (unpackItems (.ref t) items.size none) Q E s := by
  have hlt : t ≠ s.heap.objs.size := ht.elim fun o ho => Nat.ne_of_lt (Heap.lt_size ho.1)
  have hx : x1 ≠ s.heap.objs.size := hot.2.elim fun o ho => ho.elim fun _ h => Nat.ne_of_lt (Heap.lt_size h.1)
  unfold unpackItems notIterableAtAll; refine wpAny_bind (wpAny_bind (wpAny_specialOf ht.typeIs slot_tuple_iter.lookup (wpAny_pure ?_)))
  simp only [Bool.false_eq_true, if_false]; refine wpAny_bind (wpAny_holding (iter_tuple ht (wpAny_bind (wpAny_holding (draw_tuple hlt items.size 0 _ _ ⟨_, Heap.get?_push_size _ rfl, rfl, rfl⟩ (ht.push _) (by omega) fun h₁ hit₁ hs₁ => ?_)))))
  have hall : List.take items.size (List.drop 0 items.toList) = items.toList := by rw [List.drop_zero]; exact List.take_of_length_le (by simp)
  rw [hall, if_neg (by simp)]
  have ht₁ := (ht.push { cls := .type "tuple_iterator", data := .fields #[.ref t, .int 0 0] }).extBut hs₁.extBut hlt
  have hot₁ : HotX.HotAt A x1 h₁ := hot.2.elim fun o ho => ho.elim fun vv h => ⟨hot.1, o, vv, hs₁.extBut x1 o hx (Heap.get?_push_of_some _ h.1), h.2.1, h.2.2⟩
  refine wpAny_bind (wpAny_holding (tup_end_hot hot₁ hit₁ ht₁ (by simp) fun h₂ he₂ => ?_))
  simp only [Option.isSome_none, Bool.false_eq_true, if_false]; exact wpAny_pure (hQ h₂ fun b o hb e => he₂ b o hb (hs₁.extBut b o hb (Heap.get?_push_of_some _ e)))
end
/-- (a, b, ..) = a tuple, while an error is handled -/
theorem pg_tupH {X : Cx} {pos : Pos} {es : List Expr} {k : Nat} {t : TGs} {n : Nat} (hc : L2H.HotC X) (h : PGs X es t) (hn : (assignEach es X.env).length = n := by rfl) (hst : (assignEach es X.env).findIdx? (·.1) = none := by rfl) : PG X (.Tuple es k pos) (gTup X.K n t) := by
  refine ⟨fun pins s σ H v u Q I r hw => ?_⟩
  obtain ⟨a, xs, e1, hq, hl, hw⟩ := hw; subst e1; cases r
  obtain ⟨its, rv, ht, hz⟩ := I.tuple hq; obtain ⟨x1, hot⟩ := hc.at I
  rw [assign_Tuple]; refine wpAny_bind (wpAny_standAt ?_); unfold unpack
  rw [show (assignEach es X.env).length = its.toArray.size by simp [hn, ← hl, rv.length], hst]
  refine wpAny_bind (wpAny_holding (unpack_hot hot ht fun h' hx => ?_))
  have I1 : Inv X pins σ H { s with heap := h' } := I.kept (t' := s.toks) fun b o e => hx b o (Nat.ne_of_lt (Heap.lt_size e)) e
  exact h.run pins _ σ H xs _ Q I1 (by simpa using rv) hw
/-- a def that may raise, called where it does not -/
theorem passLN {X : Cx} : Passes (L2N.CX X.prog X.w) X E0 := fun _ _ _ _ _ _ _ h => by
  obtain ⟨_, _, _, _, _, _, _, _, _, _, _, _, z⟩ := h
  exact False.elim z
end Rg
namespace Rg
open PySem PySem.Spec PyProof.Rows L2
/-! ### enumerate(tuple) -/
open Sem (wp)
open AutoSeq1 (wpAny_loadPart')
theorem meets_enumerate_newT (l : Addr) (items : Array Value) (n : Nat) (dct : Option Addr) (sl : Array (Option Value)) :
    Meets (Builtin.«enumerate.__new__» ⟨[.type "enumerate", .ref l], []⟩) (fun _ R s => s.heap.get? l = some { cls := .type "tuple", dict := dct, data := .seq items n, slots := sl } ∧
      R (.ok (.ret (.ref (s.heap.push { cls := .type "tuple_iterator", data := .fields #[.ref l, .int 0 0] }).objs.size)))
        { s with heap := (s.heap.push { cls := .type "tuple_iterator", data := .fields #[.ref l, .int 0 0] }).push { cls := .type "enumerate", data := .fields #[.none, .bool false, .ref s.heap.objs.size, rawInt 0, .none, .none] } }) :=
  .of_wp fun prog w A R s h => by
    obtain ⟨hp, g, d, tk, os⟩ := s; obtain ⟨hl, h⟩ := h
    have hsub := sub_enumerate
    have hL : Heap.IsTuple (Shared.heap ⟨hp, g, d, tk, os⟩) l items := ⟨_, hl, rfl, n, rfl⟩
    wp_walk using wpAny_loadPart' hl
    refine wpAny_stack_any fun st => wpAny_pure ?_
    split
    · rename_i c _ _ _ _ _
      cases (c == Value.type "enumerate")
      · wp_walk using wpAny_loadPart' hl, wpAny_pyIter_tuple hL
        exact ⟨_, rfl, h⟩
      · wp_walk using wpAny_loadPart' hl, wpAny_pyIter_tuple hL
        exact ⟨_, rfl, h⟩
    · wp_walk using wpAny_loadPart' hl, wpAny_pyIter_tuple hL
      exact ⟨_, rfl, h⟩
section
variable {prog : Program} {w : World} {A : Around} {E : Value → Shared → Prop} {s : Shared}
theorem call_enumerate_tuple {l : Addr} {items : Array Value} {Q : Value → Shared → Prop} (hL : s.heap.IsTuple l items)
    (h : ∀ h', IsEnum h' (s.heap.objs.size + 1) s.heap.objs.size 0 .none → h'.IsTupleIter s.heap.objs.size l 0 → h'.objs.size = s.heap.objs.size + 2 →
      (∀ b o, s.heap.get? b = some o → h'.get? b = some o) → Q (.ref (s.heap.objs.size + 1)) { s with heap := h' }) :
    wpAny (model prog w) A (call (.type "enumerate") [.ref l]) Q E s := by
  obtain ⟨⟨c, dct, dt, sl⟩, hl, hc, n, hd⟩ := hL
  replace hc : c = .type "tuple" := hc
  replace hd : dt = .seq items n := hd
  subst hc hd
  refine callType_new F.called_enumerate (by decide) (F.typeCall_enumerate_1 _) (F.newCall_enumerate_1 _) (fun obj => F.args_object_init_2 obj _) F.entry_enumerate_new
    (meets_enumerate_newT l items n dct sl) ⟨hl, ?_⟩
  have hz : (s.heap.push { cls := .type "tuple_iterator", data := .fields #[.ref l, .int 0 0] }).objs.size = s.heap.objs.size + 1 := Heap.size_push ..
  show _ ∧ _
  rw [hz]
  have he : IsEnum ((s.heap.push { cls := .type "tuple_iterator", data := .fields #[.ref l, .int 0 0] }).push
      { cls := .type "enumerate", data := .fields #[.none, .bool false, .ref s.heap.objs.size, rawInt 0, .none, .none] }) (s.heap.objs.size + 1) s.heap.objs.size 0 .none := by
    have := Heap.get?_push_size (s.heap.push { cls := .type "tuple_iterator", data := .fields #[.ref l, .int 0 0] })
      (o := { cls := .type "enumerate", data := .fields #[.none, .bool false, .ref s.heap.objs.size, rawInt 0, .none, .none] }) rfl
    rw [hz] at this; exact this
  refine ⟨⟨_, he, rfl⟩, h _ he ⟨_, Heap.get?_push_of_some _ (Heap.get?_push_size _ rfl), rfl, rfl⟩ (by rw [Heap.size_push, hz]) fun b o x => Heap.get?_push_of_some _ (Heap.get?_push_of_some _ x)⟩
end
/-- the tuple at a as it stands at each turn, each item in a new pair -/
def IteT (K : PySem.W.Frag) (a : Addr) : It :=
  ⟨fun i H => ∃ (xs : List V) (x : V), SqT K H a xs ∧ xs[i]? = some x, fun i H v H' => ∃ T x, v = .ref T ∧ H T = none ∧ H' = upd H T (.tup [.int (i : Nat), x]) ∧ ∀ xs, SqT K H a xs → xs[i]? = some x, fun i H => ∃ xs : List V, SqT K H a xs ∧ xs.length ≤ i⟩
theorem turn_enumT {P : Program} {w : World} {K : PySem.W.Frag} {elts : List Expr} {kk : Nat} {tpos : Pos} (a e it : Addr) :
    Turn P w K (.Tuple elts kk tpos) (IteT K a) [e, it] e (fun i h => (∃ old, IsEnum h e it ((i : Nat) : Int) old) ∧ h.IsTupleIter it a i ∧ e ≠ it) where
  mem := by simp
  obj := fun i h st b hb => by
    obtain ⟨⟨old, he⟩, ⟨o, ho, hc, hd⟩, _⟩ := st
    have e' : b = e ∨ b = it := by simpa using hb
    rcases e' with z | z
    · rw [z]; exact ⟨_, he, fun v q => nomatch q⟩
    · rw [z]; exact ⟨o, ho, fun v q => by rw [hd] at q; cases q⟩
  keep := fun i h h' st k => let ⟨⟨old, he⟩, hi, hne⟩ := st; ⟨⟨old, k e (by simp) _ he⟩, hi.at fun o q => k it (by simp) o q, hne⟩
  item := by
    intro X hP hw hK hc i pins s σ H E I hf st hg
    subst hP hw hK
    obtain ⟨⟨old, he⟩, hit, hne⟩ := st
    obtain ⟨xs, x, hq, hx⟩ := hg
    obtain ⟨its, rv, p, hz⟩ := I.tuple hq
    obtain ⟨u, hu, ru⟩ := rv.get hx
    have hlt : i < its.toArray.size := by
      have := (List.getElem?_eq_some_iff.mp hu).1
      simpa using this
    have hel : e < s.heap.objs.size := Heap.lt_size he
    have hil : it < s.heap.objs.size := by obtain ⟨_, q, _⟩ := hit; exact Heap.lt_size q
    have hae : a ≠ e := fun z => by
      obtain ⟨o, ho, hc', _⟩ := p
      rw [z] at ho
      have := Option.some.inj (ho.symm.trans he)
      rw [this] at hc'
      have hc2 : Value.type "enumerate" = Value.type "tuple" := hc'
      exact absurd hc2 (by decide)
    have hai : a ≠ it := fun z => by
      obtain ⟨o, ho, hc', _⟩ := p
      obtain ⟨o2, ho2, hc2, _⟩ := hit
      rw [z] at ho
      have := Option.some.inj (ho.symm.trans ho2)
      rw [this, hc2] at hc'
      exact absurd hc' (by decide)
    refine wpAny_pyNext_enum_itemD (Draws.tuple (prog := X.prog) (w := X.w) (A := X.A.in1) (I.ok.hd hc) it a hai its.toArray) he ⟨hit, p⟩ hlt hne (by simp [hne, hae.symm]) fun y h' tk hy ho hit' hT hsz hk => ?_
    have ey : y = u := by
      have e1 : its.toArray[i]? = some u := by simpa using hu
      rw [e1] at hy
      exact (Option.some.inj hy).symm
    subst ey
    refine ⟨_, rfl, wpAny_letOwnedTupleGo_enum (s := { s with heap := h', toks := tk + 1 }) ho fun h'' he' sb => ?_⟩
    have hT2 : h''.get? s.heap.objs.size = some { cls := .type "tuple", data := .seq #[.int i tk, y] } := (sb.2 _ (Nat.ne_of_gt hel)).trans hT
    have new : ObjOk X.prog X.w (upd H s.heap.objs.size (.tup [.int (i : Nat), x])) h'' s.heap.objs.size (.tup [.int (i : Nat), x]) :=
      ⟨by show 2 ≤ sizeLine; decide, [.int i tk, y], .cons ⟨_, rfl⟩ (.cons ru .nil), ⟨_, hT2, rfl, _, rfl⟩⟩
    have I1 : Inv X pins σ (upd H s.heap.objs.size (.tup [.int (i : Nat), x])) { s with heap := h'', toks := tk + 1 } :=
      I.turnedNew (t' := tk + 1) (ch := [e, it]) (fun b ob hb q => (sb.2 b (fun z => hb (by simp [z]))).trans (hk b ob (fun z => hb (by simp [z])) (fun z => hb (by simp [z])) q)) hf (Nat.le_refl _) new
    refine ⟨.ref s.heap.objs.size, _, I1, rfl, ⟨_, x, rfl, I.hok.fresh (Nat.le_refl _), rfl, fun ys hy => by rw [I.tuple_inj hy hq]; exact hx⟩, ⟨⟨y, ?_⟩, hit'.1.at fun o q => (sb.2 it (Ne.symm hne)).trans q, hne⟩, fun b hb => ?_⟩
    · have e1 : ((i + 1 : Nat) : Int) = (i : Int) + 1 := by omega
      rw [e1]; exact he'
    · have hb' : b < s.heap.objs.size := by
        have e' : b = e ∨ b = it := by simpa using hb
        rcases e' with z | z
        · rw [z]; exact hel
        · rw [z]; exact hil
      rw [upd_ne (Nat.ne_of_lt hb')]
      exact (hf b hb).1
  done := by
    intro X hP hw hK hc i pins s σ H E I hf st hg
    subst hP hw hK
    obtain ⟨⟨old, he⟩, hit, hne⟩ := st
    obtain ⟨xs, hq, hx⟩ := hg
    obtain ⟨its, rv, p, hz⟩ := I.tuple hq
    obtain ⟨f0, f1, f2, f3, f4, f5⟩ := hf it (by simp)
    have hl := rv.length
    unfold pyNext
    have hT : s.TypeIs (.ref e) "enumerate" := ⟨_, he, rfl⟩
    refine wpAny_bind (wpAny_attempt (wpAny_callSpecial?_slot (name := Str.ofString "__next__") hT F.slot_enumerate_next
      (wpAny_call_entry F.slot_enumerate_next hT F.entry_enumerate_next ?_ (F.args_enumerate_next_1 _))))
    show wpAny _ _ (field (.ref e) 2 >>= _) _ _ _
    refine wpAny_bind (wpAny_field he rfl (x := .ref it) rfl ?_)
    refine wpAny_bind (wpAny_nextOf_tuple_end (I.ok.hd hc) hit p (by simp; omega) fun h' x he' hx' => ?_)
    obtain ⟨o, ho, hc'⟩ := hx'
    refine wpAny_bind (wpAny_isInstance (T := "StopIteration") (b := true) ⟨o, ho, hc'⟩ isSubtype_stop ?_)
    exact wpAny_pure ⟨rfl, I.turned (t' := s.toks) (fun b o hb q => he' b o hb q) f0 f1 f3 f4 f5⟩
  self := fun A i s Q E st h => let ⟨⟨_, he⟩, _⟩ := st; wpAny_pyIter_enum he h
theorem walk_enumT {K : PySem.W.Frag} {a : Addr} {xs : List V} : Walk (IteT K a) xs.length (fun H => SqT K H a xs) (YPair (fun i => some (.int (i : Nat))) (fun i => xs[i]?)) := by
  refine ⟨fun i _ hi q => ⟨xs, xs[i], q, by simp [hi]⟩, fun _ q => ⟨xs, q, Nat.le_refl _⟩, fun i H v H' _ q y => ?_⟩
  obtain ⟨T, x, h1, h2, h3, h4⟩ := y
  exact ⟨T, .int (i : Nat), x, h1, h2, h3, rfl, h4 xs q⟩
/-- over a list or a tuple, which stays as it is -/
def iEnumA (ta : TA) : TI := fun σ H R => ta σ H fun vs H1 => ∃ a xs, vs = [.ref a] ∧ (H1 a = some (.lst xs) ∨ H1 a = some (.tup xs)) ∧ ∀ J, Walk J xs.length (fun H' => H' a = H1 a) (YPair (fun i => some (.int (i : Nat))) (fun i => xs[i]?)) → R J H1
theorem pi_enumA {X : Cx} {e : Expr} {ta : TA} {p pos tpos : Pos} {elts : List Expr} {kk : Nat} (hg : Gl X "enumerate") (hm : X.mg "enumerate" = none) (ha : PA X [e] ta) (hs : starEach [e] X.env = [(false, eval e X.env)] := by rfl) :
    PI X (.Tuple elts kk tpos) (.Call (.Name "enumerate" p) [e] [] pos) (iEnumA ta) := by
  refine ⟨fun pins s σ H R I h => ?_⟩
  refine Call_ (ld_blt I hg hm boot_enumerate (PyProof.Rows.callWith_type1 (thn (ha.run pos pins s σ H _ I h) fun us s1 ⟨vs, H1, I1, r1, q1⟩ => ?_) hs rfl))
  obtain ⟨a, xs, ex, hw, q⟩ := q1
  subst ex
  cases r1 with
  | cons r rr =>
    cases rr
    cases r
    have fp : ∀ b, b = s1.heap.objs.size + 1 ∨ b = s1.heap.objs.size → FpOk X pins H1 b := fun b e' => by
      have hle : s1.heap.objs.size ≤ b := by
        rcases e' with z | z
        · rw [z]; exact Nat.le_add_right _ _
        · rw [z]; exact Nat.le_refl _
      exact I1.fpOk hle (I1.hok.fresh hle)
    rcases hw with hw | hw
    · have hq : SqL X.K H1 a xs := .of hw
      have q := q (Ite X.K a) (walk_enum.mono (fun H' e => .of (e.trans hw)) fun _ _ _ _ _ _ y => y)
      obtain ⟨its, rv, p', hz⟩ := I1.list hq
      refine call_enumerate_list p'.isList fun h' he hit hsz hk => wpAny_pyIter_enum he ?_
      have I2 : Inv X pins σ H1 { s1 with heap := h' } := I1.kept (t' := s1.toks) hk
      refine ⟨s1.heap.objs.size + 1, [s1.heap.objs.size + 1, s1.heap.objs.size], _, _, H1, rfl, I2, turn_enum a (s1.heap.objs.size + 1) s1.heap.objs.size, ⟨⟨.none, he⟩, hit, Nat.succ_ne_self _⟩, fun b hb => fp b (by simpa using hb), q⟩
    · have hq : SqT X.K H1 a xs := .of hw
      have q := q (IteT X.K a) (walk_enumT.mono (fun H' e => .of (e.trans hw)) fun _ _ _ _ _ _ y => y)
      obtain ⟨its, rv, p', hz⟩ := I1.tuple hq
      refine call_enumerate_tuple p' fun h' he hit hsz hk => wpAny_pyIter_enum he ?_
      have I2 : Inv X pins σ H1 { s1 with heap := h' } := I1.kept (t' := s1.toks) hk
      refine ⟨s1.heap.objs.size + 1, [s1.heap.objs.size + 1, s1.heap.objs.size], _, _, H1, rfl, I2, turn_enumT a (s1.heap.objs.size + 1) s1.heap.objs.size, ⟨⟨.none, he⟩, hit, Nat.succ_ne_self _⟩, fun b hb => fp b (by simpa using hb), q⟩
end Rg
namespace Rg
open PySem PySem.Spec PyProof.Rows L2
/-! ### tuples of the written part -/
def relAllS (vs : List V) (us : List Value) : Bool := He.relAll vs us && decide (us.length ≤ 1000)
theorem relAllS_ok {vs : List V} {us : Array Value} (h : relAllS vs us.toList = true) : Vals vs us.toList := He.relAll_ok (Bool.and_eq_true_iff.mp h).1
theorem relAllS_sz {vs : List V} {us : Array Value} (h : relAllS vs us.toList = true) : us.size ≤ sizeLine := by
  have := of_decide_eq_true (Bool.and_eq_true_iff.mp h).2
  rw [Array.length_toList] at this
  have : 1000 ≤ sizeLine := by decide
  omega
/-! ### own classes: x in o, o op u, for x in o -/
section
variable {X : Cx} {k : Nat} {f C : Addr} {fd : FuncData} {sp : Sp}
/-- x in o, by the class's own __contains__ -/
def rInOwn (C : Addr) (sp : Sp) (c : Bool → Bool) : R2 := fun x y H Q => ∃ a dx fs, y = .ref a ∧ H a = some (.ins C dx fs) ∧ sp [.ref a, x] H (fun v H1 => ∃ b, v = .bl b ∧ Q (.bl (c b)) H1) E0
theorem op_inOwn (hm : Meth X.K C "__contains__" f) (F : FnOk X.prog X.w X.K X.mg X.base CX0 k f fd ["self", "name"] sp) (hr : Room k X.A) (hb : Binds X.K fd ["self", "name"] []) : OpR X (compareOp .In) (rInOwn C sp fun b => b) := by
  intro pins s σ H x y v u Q I rx ry h
  obtain ⟨a, dx, fs, rfl, e, h⟩ := h
  obtain rfl : u = Value.ref a := ry
  obtain ⟨mA, O, _, _, _, _⟩ := ins_get I.hok e
  obtain ⟨od, at_, _⟩ := O.look
  obtain ⟨m, fr⟩ := I.fr
  refine PySem.W.in_K fr I.mod.kin at_ hm.at_ hm.fn ?_
  refine wpAny_mono (run_fn (us := [.ref a, v]) (vs := [.ref a, x]) F hr hb .nil pass0 I (.cons rfl (.cons rx .nil)) h) (fun r s' hq => ?_) fun _ _ z => z
  obtain ⟨z, H1, I1, rz, b, rfl, q⟩ := hq
  obtain rfl : r = Value.bool b := rz
  exact wpAny_truthy_bool ⟨.bl b, H1, I1, rfl, q⟩
theorem op_notInOwn (hm : Meth X.K C "__contains__" f) (F : FnOk X.prog X.w X.K X.mg X.base CX0 k f fd ["self", "name"] sp) (hr : Room k X.A) (hb : Binds X.K fd ["self", "name"] []) : OpR X (compareOp .NotIn) (rInOwn C sp fun b => !b) := by
  intro pins s σ H x y v u Q I rx ry h
  obtain ⟨a, dx, fs, rfl, e, h⟩ := h
  obtain rfl : u = Value.ref a := ry
  obtain ⟨mA, O, _, _, _, _⟩ := ins_get I.hok e
  obtain ⟨od, at_, _⟩ := O.look
  obtain ⟨m, fr⟩ := I.fr
  refine PySem.W.notIn_K fr I.mod.kin at_ hm.at_ hm.fn ?_
  refine wpAny_mono (run_fn (us := [.ref a, v]) (vs := [.ref a, x]) F hr hb .nil pass0 I (.cons rfl (.cons rx .nil)) h) (fun r s' hq => ?_) fun _ _ z => z
  obtain ⟨z, H1, I1, rz, b, rfl, q⟩ := hq
  obtain rfl : r = Value.bool b := rz
  exact wpAny_truthy_bool ⟨.bl (!b), H1, I1, rfl, q⟩
/-- o op u, both of the class C, by its own method -/
def rOpOwn (C : Addr) (sp : Sp) : R2 := fun x y H Q => ∃ a dx fs b dy gs, x = .ref a ∧ y = .ref b ∧ H a = some (.ins C dx fs) ∧ H b = some (.ins C dy gs) ∧ sp [.ref a, .ref b] H (fun v H1 => Q v H1) E0
theorem op_own {op : Operator} {ps : List Str} (hs : PySem.W.selfFirst X.K C = true) (hm : Meth X.K C (PySem.dunder op.info.2) f) (F : FnOk X.prog X.w X.K X.mg X.base CX0 k f fd ps sp) (hr : Room k X.A) (hb : Binds X.K fd ps []) : OpR X (binaryOp op) (rOpOwn C sp) := by
  intro pins s σ H x y v u Q I rx ry h
  obtain ⟨a, dx, fs, b, dy, gs, rfl, rfl, e, e', h⟩ := h
  obtain rfl : v = Value.ref a := rx
  obtain rfl : u = Value.ref b := ry
  obtain ⟨mA, O, _, _, _, _⟩ := ins_get I.hok e
  obtain ⟨od, at_, _⟩ := O.look
  obtain ⟨mB, O', _, _, _, _⟩ := ins_get I.hok e'
  obtain ⟨od', at', _⟩ := O'.look
  obtain ⟨m, fr⟩ := I.fr
  refine PySem.W.binop_K fr I.mod.kin at_ at'.type hs hm.at_ hm.fn ?_
  refine wpAny_mono (run_fn (us := [.ref a, .ref b]) (vs := [.ref a, .ref b]) F hr hb .nil pass0 I (.cons rfl (.cons rfl .nil)) h) (fun r s' hq => ?_) fun _ _ z => z
  obtain ⟨z, H1, I1, rz, q⟩ := hq
  cases z with
  | non => cases rz; exact ⟨.non, H1, I1, rfl, q⟩
  | bl b => cases rz; exact ⟨.bl b, H1, I1, rfl, q⟩
  | int i => obtain ⟨t, rfl⟩ := rz; exact ⟨.int i, H1, I1, ⟨t, rfl⟩, q⟩
  | str i => obtain ⟨t, rfl⟩ := rz; exact ⟨.str i, H1, I1, ⟨t, rfl⟩, q⟩
  | byt i => obtain ⟨t, rfl⟩ := rz; exact ⟨.byt i, H1, I1, ⟨t, rfl⟩, q⟩
  | flt i => obtain ⟨t, rfl⟩ := rz; exact ⟨.flt i, H1, I1, ⟨t, rfl⟩, q⟩
  | ref i => cases rz; exact ⟨.ref i, H1, I1, rfl, q⟩
  | ty i => cases rz; exact ⟨.ty i, H1, I1, rfl, q⟩
end
/-! ### iter(t), t a tuple; walks by an own __iter__ that hands it back -/
abbrev itT (l : Addr) : Obj := { cls := .type "tuple_iterator", data := .fields #[.ref l, .int 0 0] }
def ItTO (l it : Addr) : HO := .ext fun h => h.get? it = some (itT l)
theorem itTO_ok {P : Program} {w : World} {H : Hp} {h : Heap} {l it : Addr} (e : h.get? it = some (itT l)) : ObjOk P w H h it (ItTO l it) := ⟨e, ⟨_, e⟩, fun h1 h2 q k => k _ q⟩
theorem call_iter_tup {prog : Program} {w : World} {A : Around} {E : Value → Shared → Prop} {s : Shared} {l : Addr} {items : Array Value} {Q : Value → Shared → Prop} (hl : s.heap.IsTuple l items) (h : Q (.ref s.heap.objs.size) { s with heap := s.heap.push (itT l) }) : wpAny (model prog w) A (call (.builtin "iter") [.ref l]) Q E s := by
  refine Calls.call_function_entry (by decide +kernel) (by decide +kernel) PySem.W.kdk_entry_iter (PySem.W.kdk_args_iter _) ?_
  unfold Builtin.«iter»
  refine wpAny_bind (m := PySem.someArgs "iter" 1 2 _) (wpAny_of_eq (a := [Value.ref l]) (by first | rfl | kernel_rfl!) ?_)
  show wpAny _ _ (pyIter (.ref l) >>= _) _ _ _
  refine wpAny_bind (wpAny_pyIter_tuple hl ?_)
  exact wpAny_pure ⟨_, rfl, h⟩
def rIterT (K : PySem.W.Frag) (n : Nat) : List V → Hp → VK → Prop := fun xs H Q => ∃ (l : Addr) (zs : List V), xs = [.ref l] ∧ SqT K H l zs ∧ ∀ it, H it = none → n ≤ it → Q (.ref it) (upd H it (ItTO l it))
theorem call_iterT {X : Cx} : CallR X (.builtin "iter") (rIterT X.K X.s_0.heap.objs.size) := by
  intro pins s σ H xs us Q I r h
  obtain ⟨l, zs, rfl, hq, q⟩ := h
  obtain ⟨u, rfl, ru⟩ := vals1 r
  cases ru
  obtain ⟨its, rv, pl, hz⟩ := I.tuple hq
  refine call_iter_tup (show s.heap.IsTuple l its.toArray from pl) ?_
  exact ⟨.ref s.heap.objs.size, _, I.laid (t' := s.toks) (fun b u e => Heap.get?_push_of_some _ e) (Nat.le_refl _) (itTO_ok (Heap.get?_push_size _ rfl)), rfl, q _ (I.hok.fresh (Nat.le_refl _)) I.sz⟩
/-- a def whose promise knows how many objects there are at its entry -/
structure FnS (P : Program) (w : World) (K : PySem.W.Frag) (mg : Str → Option Value) (base : Heap) (k : Nat) (f : Addr) (fd : FuncData) (ps : List Str) (sp : Nat → Sp) : Prop where
  run : ∀ (A : Around) (outer : List Env) (s : Shared) (H : Hp) (args : Args) (us : List Value) (vs : List V) (Q : VK), Room k A → Env0 P w K mg base A outer s H → BindsTo s fd args (ps.zip us) → Vals vs us → sp s.heap.objs.size vs H Q E0 →
    codeAny (model P w) A (.call (.ref f) args) (CR CX0 outer P w H s Q E0) s
theorem _root_.L2.Fun.okS {P : Program} {w : World} {K : PySem.W.Frag} {mg : Str → Option Value} {base : Heap} {x qual : Str} {st : Stmt} {f : Addr} {fd : FuncData} {N ps : List Str} {k : Nat} {sp : Nat → Sp} (F : Fun K x qual st f fd) (S : FnScope N ps (defScope st)) (len : ∀ n vs H Q E, sp n vs H Q E → vs.length = ps.length)
    (hbody : ∀ (cdv : Value) (A : Around) (outer : List Env) (s : Shared) (H : Hp) (vs : List V) (Q : VK), Room k (A.deeper (envOfC qual (defScope st) s.heap.objs.size f cdv)) → sp s.heap.objs.size vs H Q E0 →
      ∃ t, PSs (cxOf CX0 P w K mg base N qual (defScope st) f cdv A outer s H E0) (defBody st) t ∧ t { nx := fun _ H' => Q .non H', rt := Q } (L2.start N vs) H) : FnS P w K mg base (k + 1) f fd ps sp := by
  obtain ⟨oc, od, kV, doc, pm, an, cdv, ct, osl, rfl, lk, hcd⟩ := F.ex
  exact ⟨fun A outer s H args us vs Q hr e0 hb r hsp => LamX.run_ofS lk hcd S hr e0 hb r (len _ _ _ _ _ hsp) fun hr' => hbody _ A outer s H vs Q hr' hsp⟩
/-- o walked: o's class at C has an own __iter__ that keeps sp and hands back a tuple's iterator -/
def iOwnT (K : PySem.W.Frag) (C : Addr) (sp : Nat → Sp) (te : TE) : TI := fun σ H R => te σ H fun x H1 => ∃ a dx fs, x = .ref a ∧ H1 a = some (.ins C dx fs) ∧
  ∀ n, sp n [.ref a] H1 (fun v H2 => ∃ it l xs, v = .ref it ∧ n ≤ it ∧ H2 it = some (ItTO l it) ∧ SqT K (ItX.dropH H2 it) l xs ∧ R (Itt K l) (ItX.dropH H2 it)) E0
theorem pi_ownT {X : Cx} {k : Nat} {f C : Addr} {fd : FuncData} {sp : Nat → Sp} {e tg : Expr} {te : TE} (hm : Meth X.K C "__iter__" f) (F : FnS X.prog X.w X.K X.mg X.base k f fd ["self"] sp) (hr : Room k X.A) (hb : Binds X.K fd ["self"] []) (he : PE X e te) : PI X tg e (iOwnT X.K C sp te) := by
  refine ⟨fun pins s σ H R I h => thn (he.run pins s σ H _ I h) fun v s1 ⟨x, H1, I1, r1, a, dx, fs, ex, ea, h⟩ => ?_⟩
  subst ex
  obtain rfl : v = Value.ref a := r1
  obtain ⟨mA, O, _, _, _, _⟩ := ins_get I1.hok ea
  obtain ⟨od, at_, _⟩ := O.look
  obtain ⟨m, fr⟩ := I1.fr
  refine PySem.W.owit_iter fr I1.mod.kin at_ hm.at_ hm.fn ?_
  refine wpAny_call (codeAny_mono (F.run X.A X.stack s1 H1 ⟨[.ref a], []⟩ [.ref a] [.ref a] _ hr I1.env0 (hb s1 [.ref a] I1.kIn rfl) (.cons rfl .nil) (h _)) fun r s2 hq => ?_)
  cases r with
  | error e => exact hq.elim
  | ok fl =>
    cases fl with
    | ret u =>
      obtain ⟨z, H2, os, bare, un, hok, rz, it, l, xs, rfl, young, hit, hl, hR⟩ := hq
      obtain rfl : u = Value.ref it := rz
      obtain ⟨hh, g, d, t, os'⟩ := s2
      obtain rfl : os' = s1.os := os
      have I2 : Inv X pins σ H2 ⟨hh, g, d, t, s1.os⟩ := I1.call (h' := hh) (g' := g) (d' := d) (t' := t) (ch := []) un hok bare (fun b z => absurd z (by simp))
      have I3 := ItX.inv_drop I2 hit
      have at3 : hh.get? it = some (itT l) := (I2.hok it _ hit).1
      unfold PySem.W.OwitIt
      have hst : hh.IsTupleIter it l 0 := ⟨_, at3, rfl, rfl⟩
      refine wpAny_specialOf (name := Str.ofString "__next__") (T := "tuple_iterator") (Heap.IsTupleIter.typeIs (s := ⟨hh, g, d, t, s1.os⟩) hst) PySem.F.slot_tuple_iterator_next.lookup ?_
      refine ⟨it, [it], _, Itt X.K l, _, rfl, I3, turn_tuple l it, hst, fun b hb => ?_, hR⟩
      have e : b = it := by simpa using hb
      subst e
      exact ItX.inv_fp I2 hit (Nat.le_trans I1.sz young)
    | next => exact False.elim hq
    | brk => exact False.elim hq
    | cont => exact False.elim hq
/-! ### a walk over a list or a tuple -/
def iSeq (K : PySem.W.Frag) (tl : TE) : TI := fun σ H R => tl σ H fun x H1 => ∃ a, x = .ref a ∧ (((∃ xs, SqL K H1 a xs) ∧ R (Itl K a) H1) ∨ ((∃ xs, SqT K H1 a xs) ∧ R (Itt K a) H1))
theorem pi_seq {X : Cx} {tg l : Expr} {tl : TE} (hl : PE X l tl) : PI X tg l (iSeq X.K tl) := by
  refine ⟨fun pins s σ H R I h => ?_⟩
  refine thn (hl.run pins s σ H _ I h) fun v s1 ⟨x, H1, I1, r1, q1⟩ => ?_
  obtain ⟨a, e, q⟩ := q1
  subst e
  cases r1
  rcases q with ⟨⟨xs, hq⟩, q⟩ | ⟨⟨xs, hq⟩, q⟩
  · obtain ⟨its, rv, p, hz⟩ := I1.list hq
    refine wpAny_pyIter_list p.isList ?_
    refine ⟨s1.heap.objs.size, [s1.heap.objs.size], _, _, H1, rfl, I1.kept (t' := s1.toks) fun b o e => Heap.get?_push_of_some _ e, turn_list a _, ⟨_, Heap.get?_push_size _ rfl, rfl, rfl⟩, fun b hb => ?_, q⟩
    have e : b = s1.heap.objs.size := by simpa using hb
    subst e
    exact I1.fpOk (Nat.le_refl _) (I1.hok.fresh (Nat.le_refl _))
  · obtain ⟨its, rv, p, hz⟩ := I1.tuple hq
    refine wpAny_pyIter_tuple (show s1.heap.IsTuple a its.toArray from p) ?_
    refine ⟨s1.heap.objs.size, [s1.heap.objs.size], _, _, H1, rfl, I1.kept (t' := s1.toks) fun b o e => Heap.get?_push_of_some _ e, turn_tuple a _, ⟨_, Heap.get?_push_size _ rfl, rfl, rfl⟩, fun b hb => ?_, q⟩
    have e : b = s1.heap.objs.size := by simpa using hb
    subst e
    exact I1.fpOk (Nat.le_refl _) (I1.hok.fresh (Nat.le_refl _))
/-! ### enumerate of a tuple that may be written -/
def iEnumT (K : PySem.W.Frag) (ta : TA) : TI := fun σ H R => ta σ H fun vs H1 => ∃ a xs, vs = [.ref a] ∧ SqT K H1 a xs ∧ R (IteT K a) H1
theorem pi_enumT {X : Cx} {e : Expr} {ta : TA} {p pos tpos : Pos} {elts : List Expr} {kk : Nat} (hg : Gl X "enumerate") (hm : X.mg "enumerate" = none) (ha : PA X [e] ta) (hs : starEach [e] X.env = [(false, eval e X.env)] := by rfl) :
    PI X (.Tuple elts kk tpos) (.Call (.Name "enumerate" p) [e] [] pos) (iEnumT X.K ta) := by
  refine ⟨fun pins s σ H R I h => ?_⟩
  refine Call_ (ld_blt I hg hm boot_enumerate (PyProof.Rows.callWith_type1 (thn (ha.run pos pins s σ H _ I h) fun us s1 ⟨vs, H1, I1, r1, q1⟩ => ?_) hs rfl))
  obtain ⟨a, xs, ex, hq, q⟩ := q1
  subst ex
  cases r1 with
  | cons r rr =>
    cases rr
    cases r
    have fp : ∀ b, b = s1.heap.objs.size + 1 ∨ b = s1.heap.objs.size → FpOk X pins H1 b := fun b e' => by
      have hle : s1.heap.objs.size ≤ b := by
        rcases e' with z | z
        · rw [z]; exact Nat.le_add_right _ _
        · rw [z]; exact Nat.le_refl _
      exact I1.fpOk hle (I1.hok.fresh hle)
    obtain ⟨its, rv, p', hz⟩ := I1.tuple hq
    refine call_enumerate_tuple p' fun h' he hit hsz hk => wpAny_pyIter_enum he ?_
    have I2 : Inv X pins σ H1 { s1 with heap := h' } := I1.kept (t' := s1.toks) hk
    refine ⟨s1.heap.objs.size + 1, [s1.heap.objs.size + 1, s1.heap.objs.size], _, _, H1, rfl, I2, turn_enumT a (s1.heap.objs.size + 1) s1.heap.objs.size, ⟨⟨.none, he⟩, hit, Nat.succ_ne_self _⟩, fun b hb => fp b (by simpa using hb), q⟩
/-! ### an object made, a static method called, where the body may raise -/
section
variable {X : Cx} {CX : CXT} {k : Nat} {f C g : Addr} {mc : Value} {fd : FuncData} {ps : List Str} {sp : Sp} {E : L2.St → XK} {x m : Str} {p pos apos : Pos} {e : Expr} {es : List Expr} {t : TA} {pl : Sem Bool}
theorem run_makeS {pins : List (Addr × Obj)} {σ : L2.St} {H : Hp} {s : Shared} {Q : VK} {us : List Value} {vs : List V} (M : Mk X.K C f) (F : FnOk X.prog X.w X.K X.mg X.base CX k f fd ps sp) (hr : Room (k + 1) X.A) (hb : Binds X.K fd ps []) (hx : PassesAt CX X σ (E σ)) (I : Inv X pins σ H s) (r : Vals vs us)
    (h : ∀ x dx, H x = none → H dx = none → dx ≠ x → sp (.ref x :: vs) (upd (upd H dx (.own x)) x (.ins C dx [])) (fun v H2 => v = .non ∧ Q (.ref x) H2) (E σ)) :
    wpAny (model X.prog X.w) X.A (call (.ref C) us) (EP X pins σ Q) X.xe s := by
  have hq := h (s.heap.objs.size + 1) s.heap.objs.size (I.hok.fresh (Nat.le_succ _)) (I.hok.fresh (Nat.le_refl _)) (Nat.ne_of_lt (Nat.lt_succ_self _))
  have I2 := Inv.made (C := C) I
  have r2 : Vals (V.ref (s.heap.objs.size + 1) :: vs) (Value.ref (s.heap.objs.size + 1) :: us) := .cons rfl r
  have hl : (Value.ref (s.heap.objs.size + 1) :: us).length = ps.length := by
    have e := r2.length
    rw [F.len _ _ _ _ hq] at e
    exact e.symm
  have b := hb _ (Value.ref (s.heap.objs.size + 1) :: us) I2.kIn (by rw [List.append_nil]; exact hl)
  rw [List.append_nil] at b
  refine wpAny_call (make_map (f := f) I.kIn M.makes M.init (beq_iff_eq.mp M.fn) (codeAny_mono (F.run _ X.stack _ _ ⟨Value.ref (s.heap.objs.size + 1) :: us, []⟩ (Value.ref (s.heap.objs.size + 1) :: us) _ _ (E σ) (hr.make C us [])
    (I2.env0.make C us []) b r2 hq) fun r s' hq' => ?_))
  cases r with
  | error e => exact hx pins _ _ e s' I2 hq'
  | ok fl =>
    cases fl with
    | ret u =>
      obtain ⟨v, H', I3, rv, ev, q3⟩ := I2.after hq'
      subst ev
      exact ⟨rv, ⟨V.ref (s.heap.objs.size + 1), H', I3, rfl, q3⟩⟩
    | next => exact False.elim hq'
    | brk => exact False.elim hq'
    | cont => exact False.elim hq'
def tMakeS (C : Addr) (sp : Sp) (E : L2.St → XK) (t : TA) : TE := fun σ H Q => t σ H fun vs H1 => ∀ x dx, H1 x = none → H1 dx = none → dx ≠ x → sp (.ref x :: vs) (upd (upd H1 dx (.own x)) x (.ins C dx [])) (fun v H2 => v = .non ∧ Q (.ref x) H2) (E σ)
theorem pe_makeS (M : Mk X.K C f) (F : FnOk X.prog X.w X.K X.mg X.base CX k f fd ps sp) (hr : Room (k + 1) X.A) (hg : Gl X x) (hm : X.mg x = some (.ref C)) (hb : Binds X.K fd ps []) (hx : ∀ σ, PassesAt CX X σ (E σ))
    (ha : PA X (e :: es) t) (hdb : (x == ("__debug__" : Str)) = false := by decide) (he : starEach (e :: es) X.env = (false, eval e X.env) :: starEach es X.env := by rfl) (hpl : (backTo pos (starEach es X.env)).any (·.1) = false := by rfl) :
    PE X (.Call (.Name x p) (e :: es) [] pos) (tMakeS C sp E t) := by
  refine ⟨fun pins s σ H Q I h => ?_⟩
  refine wpAny_Call_Name_kw (ld_glob I hg hm ?_ hdb)
  refine PySem.W.callWith_K (h₀ := X.base) I.ok.mod.kin M.kp (thn (ha.run pos pins s σ H _ I h) fun us s1 ⟨vs, H1, I1, r, q⟩ => ⟨I1.kIn, ?_⟩) he hpl
  exact run_makeS M F hr hb (hx σ) I1 r q
def tSMethS (sp : Sp) (E : L2.St → XK) (t : TA) : TE := fun σ H Q => t σ H fun vs H2 => sp vs H2 Q (E σ)
theorem pe_smethS (hmx : X.mg x = some (.ref C)) (r : ClX.CRead X.K C mc) (c : SMet X.K C mc m g) (F : FnOk X.prog X.w X.K X.mg X.base CX k g fd ps sp) (hr : Room k X.A) (hb : Binds X.K fd ps []) (hx : ∀ σ, PassesAt CX X σ (E σ)) (ha : PA X (e :: es) t) (hg : Gl X x := by rfl) (hdb : (x == ("__debug__" : Str)) = false := by decide)
    (hst : starEach (e :: es) X.env = (false, eval e X.env) :: starEach es X.env := by rfl) (hpl : (backTo pos (starEach es X.env)).any (·.1) = false := by rfl)
    (ht : eval (.Call (.Attribute (.Name x p) m apos) (e :: es) [] pos) X.env = (do
      let ov ← eval (.Name x p) X.env
      standAt apos.atName
      let (f, first) ← holding [ov] (getMethod ov m pl)
      callWith pos f first (backTo pos (starEach (e :: es) X.env)) (backToKw pos (keywordEach [] X.env))) := by rfl) :
    PE X (.Call (.Attribute (.Name x p) m apos) (e :: es) [] pos) (tSMethS sp E t) := by
  obtain ⟨q, at_, ⟨rest, hp⟩, hk⟩ := c.ex
  refine ⟨fun pins s σ H Q I h => ?_⟩
  refine PySem.W.methodCall_KW (pl := pl) (ld_glob I hg hmx ?_ hdb) ht
  refine PySem.W.method_cls I.kIn r.ga (PySem.W.cls_bind I.kIn r.rd at_ ?_)
  refine wpAny_call (PySem.W.sm_get (s := { s with toks := s.toks + 1 }) I.kIn hp (PySem.W.handed_on rfl ?_))
  refine PySem.W.callWith_K (f := .ref g) (first := []) (h₀ := X.base) I.ok.mod.kin hk (thn (ha.run pos pins _ σ H _ (I.tok _) h) fun us s1 ⟨vs, H1, I1, r1, q1⟩ => ⟨I1.kIn, ?_⟩) hst hpl
  exact run_fnS F hr hb (hx σ) I1 r1 q1
theorem pe_smeth0 (hmx : X.mg x = some (.ref C)) (r : ClX.CRead X.K C mc) (c : SMet X.K C mc m g) {E : XK} (F : FnOk X.prog X.w X.K X.mg X.base CX k g fd ps sp) (hr : Room k X.A) (hb : Binds X.K fd ps []) (hx : Passes CX X E) (hg : Gl X x := by rfl) (hdb : (x == ("__debug__" : Str)) = false := by decide)
    (ht : eval (.Call (.Attribute (.Name x p) m apos) [] [] pos) X.env = (do
      let ov ← eval (.Name x p) X.env
      standAt apos.atName
      let (f, first) ← holding [ov] (getMethod ov m pl)
      callWith pos f first (backTo pos (starEach [] X.env)) (backToKw pos (keywordEach [] X.env))) := by rfl) :
    PE X (.Call (.Attribute (.Name x p) m apos) [] [] pos) (fun σ H Q => sp [] H Q E) := by
  obtain ⟨q, at_, ⟨rest, hp⟩, hk⟩ := c.ex
  refine ⟨fun pins s σ H Q I h => ?_⟩
  refine PySem.W.methodCall_KW (pl := pl) (ld_glob I hg hmx ?_ hdb) ht
  refine PySem.W.method_cls I.kIn r.ga (PySem.W.cls_bind I.kIn r.rd at_ ?_)
  refine wpAny_call (PySem.W.sm_get (s := { s with toks := s.toks + 1 }) I.kIn hp (PySem.W.handed_on rfl ?_))
  exact PySem.W.callWith_K0 (first := []) (I.tok (s.toks + 1)).kIn hk (run_fn (us := []) (vs := []) F hr hb .nil hx (I.tok (s.toks + 1)) .nil h)
end
/-! ### isinstance(e, (c1, c2, ..)), e the exception that the suite holds -/
def rIsET (K : PySem.W.Frag) (D a : Addr) : List V → Hp → VK → Prop := fun xs H Q => ∃ (tp : Addr) (cs : List V) (us : List Value) (b : Bool), xs = [.ref a, .ref tp] ∧ H tp = some (.tup cs) ∧ Paired ClsV cs us ∧ PySem.W.kitAny K (.ref D) us = some b ∧ Q (.bl b) H
theorem call_isET {X : Cx} {a D : Addr} {oe : Obj} {pn : List (Addr × Obj)} (C : ExcC X.K D) (hz : Zc (.ref D) none oe) (hf : ∃ vs, oe.data = .fields vs) : CallR (X.suite a ((a, oe) :: pn)) (.builtin "isinstance") (rIsET X.K D a) := by
  intro pins s σ H xs us Q I r h
  obtain ⟨tp, cs, ws, b, rfl, hT, k, e, q⟩ := h
  cases r with
  | cons rx rr =>
    cases rr with
    | cons rt rr =>
      cases rr
      cases rx
      cases rt
      obtain ⟨hget, _⟩ := I.pin (a, oe) (List.mem_append.mpr (.inl List.mem_cons_self))
      obtain ⟨vs, hv⟩ := hf
      have J : PySem.W.InstAt s.heap a oe D none := by
        obtain ⟨oc, od, oda, osl⟩ := oe
        obtain ⟨h1, h2⟩ := hz
        dsimp only at h1 h2 hv
        subst h1 h2 hv
        exact ⟨hget, rfl, rfl, trivial⟩
      obtain ⟨_, its, rv, o, h1, h2, n, h3⟩ := (show ObjOk X.prog X.w H s.heap tp (.tup cs) from I.hok tp _ hT)
      have e3 := ClsV.all k rv
      subst e3
      obtain ⟨oc, od, dt, sl⟩ := o
      simp only at h2 h3
      subst h2 h3
      exact PySem.W.kia_tup (PySem.W.handS_kitx_exc C.hg C.hk C.hs C.hd C.ha C.hn C.ht C.hm) I.kIn J h1 e (fun z => nomatch z) fun tk => ⟨.bl b, H, I.kept (t' := tk) fun _ _ z => z, rfl, q⟩
end Rg
namespace Rg
open PySem PySem.Spec PyProof.Rows L2
theorem op_inK {X : Cx} {K : PySem.W.Frag} (hK : X.K = K := by rfl) : OpR X (compareOp .In) (rIn K false) := by
  subst hK
  exact op_in_seq
theorem pg_tupK {X : Cx} {K : PySem.W.Frag} {es : List Expr} {k n : Nat} {pos : Pos} {t : TGs} (hc : X.calm = true) (h : PGs X es t) (hn : (assignEach es X.env).length = n := by rfl) (hst : (assignEach es X.env).findIdx? (·.1) = none := by rfl) (hK : X.K = K := by rfl) : PG X (.Tuple es k pos) (gTup K n t) := by
  subst hK
  exact pg_tup hc h hn hst
def tTru (K : PySem.W.Frag) (ta : TE) : TT := fun σ H Q => ta σ H fun x H' => ∃ k, TruV K x H' k ∧ Q k H'
theorem pt_truthK {X : Cx} {K : PySem.W.Frag} {a : Expr} {ta : TE} (ha : PE X a ta) (he : ∀ whole, isTrue a X.env whole = (do let v ← whole; standAt a.pos; holding [v] (truthy v))) (hK : X.K = K := by rfl) : PT X a (tTru K ta) := by
  subst hK
  exact pt_truth ha he
theorem op_notInK {X : Cx} {K : PySem.W.Frag} (hK : X.K = K := by rfl) : OpR X (compareOp .NotIn) (rIn K true) := by
  subst hK
  exact op_notIn_seq
end Rg
/-! ### all, any of a generator expression whose element calls one's own defs -/
namespace GxL
open PySem PySem.Spec PyProof.Rows L2
open Sem (wp)
/-- the state is the same but for the generators' table, what was drawn, the tokens -/
def Slept (s s' : Shared) : Prop := s'.os = s.os ∧ AllBare s'.gens ∧ s'.heap = s.heap
theorem Slept.trans {a b c : Shared} (x : Slept a b) (y : Slept b c) : Slept a c := ⟨y.1.trans x.1, y.2.1, y.2.2.trans x.2.2⟩
theorem bare_set {gs : Array GenState} {g : Nat} {x : GenState} (h : AllBare gs) (hx : x.bare = true) : AllBare (gs.setIfInBounds g x) := fun y hy => by
  obtain ⟨i, hi, rfl⟩ := Array.mem_iff_getElem.mp hy
  rw [Array.getElem_setIfInBounds (by simpa using hi)]
  split
  · exact hx
  · exact h _ (Array.getElem_mem _)
theorem Slept.set {s : Shared} {g : Nat} {x : GenState} (h : AllBare s.gens) (hx : x.bare = true) : Slept s (s.setGen g x) := ⟨rfl, bare_set h hx, rfl⟩
/-- the generator's frame, entered at s: its iterator's objects at fp -/
def genCx (X : Cx) (s : Shared) (H : Hp) (cenv : Env) (fp : List Addr) : Cx where
  prog := X.prog
  w := X.w
  K := X.K
  mg := X.mg
  base := X.base
  A := X.A.in1.in1.deeper cenv
  N := X.N
  s_0 := s
  H_0 := H
  env := cenv
  outer := X.stack
  stack := cenv :: X.stack
  ex := fp
  fn := fun _ => false
  calm := true
  pn := []
  xe := fun _ _ => False
/-- the generator's frame's environment over the def's -/
abbrev gEnv (X : Cx) (scope : Scope) (C : Addr) (code : Value) : Env := genEnv scope (cloFrom X.env.cells scope.names []) C code builtinsNs X.env
section
variable {X : Cx} {pins : List (Addr × Obj)} {σ : L2.St} {H H' : Hp} {s : Shared}
theorem slept_inv (I : Inv X pins σ H s) {s' : Shared} (h : Slept s s') : Inv X pins σ H s' := by
  refine I.call' (ch := []) h.1 (Un.kept fun b u e => by rw [h.2.2]; exact e) (by rw [h.2.2]; exact I.hok) h.2.1 fun b z => absurd z (by simp)
/-- a generator's scope -/
structure GSc (scope : Scope) : Prop where
  co : scope.isCoroutine = false
  cell : ∀ y ∈ scope.names, y.2 ≠ .cell
  dot : scope.names.lookup (".0" : Str) = some NameKind.local
def gscB (scope : Scope) : Bool := !scope.isCoroutine && (scope.names.all fun y => !decide (y.2 = .cell)) && decide (scope.names.lookup (".0" : Str) = some NameKind.local)
theorem gsc_by {scope : Scope} (h : gscB scope = true) : GSc scope := by
  unfold gscB at h
  simp only [Bool.and_eq_true, Bool.not_eq_true', decide_eq_true_eq, decide_eq_false_iff_not, List.all_eq_true] at h
  exact ⟨h.1.1, fun y hy => h.1.2 y hy, h.2⟩
theorem gen_start {scope : Scope} {own : List (Str × Nat)} {fp : List Addr} {code : Value} {m : Str → Option Value} {s5 : Shared} (I : Inv X pins σ H s) (ok : BlkOk X.N X.env.scope scope own) (S : GSc scope) (hN : X.N.Nodup) (hd : X.A.handled = none)
    (hfp : ∀ b ∈ fp, FpOk X pins H b ∧ b < s.heap.objs.size) (ho : s5.os = s.os) (hb : AllBare s5.gens) (hns : s5.heap.Ns s.heap.objs.size m) (kp : ∀ b o, s.heap.get? b = some o → s5.heap.get? b = some o) :
    Inv (genCx X s H (gEnv X scope s.heap.objs.size code) fp) [] (wipe σ (own.map (·.2))) H s5 := by
  have hfree : ∀ y ∈ scope.names, y.2 = .free → ∃ c, X.env.cells.lookup y.1 = some c := fun y hy e => by
    rcases ok.free y hy e with k | k
    · exact I.ok.has _ (.inl k)
    · exact I.ok.has _ (.inr k)
  have cm : ∀ {y c}, (cloFrom X.env.cells scope.names []).lookup y = some c → X.env.cells.lookup y = some c := fun {y c} e => by
    rcases cloFrom_mem (PySem.mem_of_lookup e) with hm | ⟨h1, h2⟩
    · cases hm
    · obtain ⟨c1, hc⟩ := hfree _ h1 rfl
      have hc : X.env.cells.lookup y = some c1 := hc
      have e2 : c = c1 := by
        rw [h2, hc] <;> rfl
      rw [e2]
      exact hc
  have look : ∀ {y}, scope.names.lookup y = some .free → ∃ c, (cloFrom X.env.cells scope.names []).lookup y = some c := fun {y} hl => by
    have hy : (y, NameKind.free) ∈ scope.names := PySem.mem_of_lookup hl
    exact mem_lookup (cloFrom_has (cells := X.env.cells) (acc := []) hy)
  have okB : (genCx X s H (gEnv X scope s.heap.objs.size code) fp).Ok := by
    refine ⟨I.ok.mod, ok.kind, I.ok.glob, rfl, Nat.le_refl _, fun y z c e1 e2 => I.ok.inj y z c (cm e1) (cm e2), fun y hy => ?_, fun y c z _ => ?_, fun _ => hd, Around.frames_deeper I.ok.frames, .inr ⟨rfl, rfl⟩, fun b hb => ⟨?_, fun y c e z => ?_⟩, I.bs, Nat.le_trans I.ok.bsz I.sz,
      fun b o e hb => ?_, fun b hb z => ?_, I.stack, I.stkFree⟩
    · have hy : scope.names.lookup y = some .cell ∨ scope.names.lookup y = some .free := hy
      rcases hy with hy | hy
      · exact absurd rfl (S.cell _ (PySem.mem_of_lookup hy))
      · exact look hy
    · have z : false = true := z
      cases z
    · exact Nat.ne_of_lt (hfp b hb).2
    · exact (hfp b hb).1.2.2.2.2.1 y c (cm e) z
    · rcases (hfp b hb).1.2.2.2.1 with z | z
      · exact I.ok.noex b o e z
      · exact absurd (Nat.lt_of_lt_of_le (Heap.lt_size e) (Nat.le_trans I.ok.bsz z)) (Nat.lt_irrefl _)
    · rcases List.mem_cons.mp (I.stkSub b z) with z | z
      · exact (hfp b hb).1.2.1 z
      · exact (hfp b hb).1.2.2.1 z
  refine ⟨okB, ho, hb, Un.kept kp, ⟨m, hns, fun i y av e1 e2 e3 => ?_⟩, fun y c e => ?_, I.hok.fresh (Nat.le_refl _), fun y c e => I.freeC y c (cm e), fun p hp => absurd (show p ∈ ([] : List (Addr × Obj)) ++ [] from hp) (by simp), I.hok.kept kp, by rw [wipe_length]; exact I.len⟩
  · obtain ⟨e2, hne⟩ := wipe_some e2
    have e3 : Vis scope y := e3
    have no : ∀ k, scope.names.lookup y = some k → ¬ (k = .local ∨ k = .cell) := fun k e hh => by
      rcases ok.own _ (PySem.mem_of_lookup e) hh with e' | e'
      · obtain ⟨p, hp, hpy⟩ := List.mem_map.mp e'
        have e3 := ok.ix p hp
        have : p.1 = y := hpy
        rw [this] at e3
        exact hne (List.mem_map.mpr ⟨p, hp, nodup_ix hN e3 e1⟩)
      · exact e' (List.mem_of_getElem? e1)
    rcases e3 with k | k | k
    · exact absurd (.inl rfl) (no _ k)
    · exact absurd (.inr rfl) (no _ k)
    · obtain ⟨m, hn, hl⟩ := I.loc
      have hvis : Vis X.env.scope y := (ok.free _ (PySem.mem_of_lookup k) rfl).elim (fun k => .inr (.inl k)) (fun k => .inr (.inr k))
      obtain ⟨w', r, q⟩ := hl i y av e1 e2 hvis
      obtain ⟨c2, h2⟩ := look k
      refine ⟨w', r, .inr ⟨.inr k, c2, h2, ?_⟩⟩
      have c1 := cm h2
      rcases q with ⟨k', _⟩ | ⟨_, c3, e', z⟩
      · have k' : X.env.scope.names.lookup y = some .local := k'
        rcases ok.free _ (PySem.mem_of_lookup k) rfl with k2 | k2 <;> rw [show X.env.scope.names.lookup y = _ from k2] at k' <;> cases k'
      · rw [c1] at e'
        cases e'
        exact z.keeps kp
  · obtain ⟨w', z⟩ := I.cell y c (cm e)
    exact ⟨w', z.keeps kp⟩
end
end GxL
namespace GxL
open PySem PySem.Spec PyProof.Rows L2
open Sem (wp)
theorem over_gen {A : Around} {elt tg iter : Expr} {ifs : List Expr} {scope : Scope} {pos : Pos} {it acc : Value} {env : Env} : A.over (.compLoop (.GeneratorExp elt [⟨tg, iter, ifs, 0⟩] scope pos) 0 it acc env) [] = A.deeper env := by
  first
    | rfl
    | (obtain ⟨hd, d, fr, gs, u⟩ := A; simp [Around.over, Around.deeper, marksOver, frameCount, unitsOf, envsOf, guardsOf, pushEnvs, pushGuards, Code.envs, Code.env?, Code.isFrame, Code.guards, Code.isGuard, Code.weight, Code.frames, Code.isCreation, Code.isCaller, Code.cUnits])
theorem over_gstart {A : Around} {elt tg iter : Expr} {ifs : List Expr} {scope : Scope} {pos : Pos} {it acc : Value} {env : Env} : A.over (.compStart (.GeneratorExp elt [⟨tg, iter, ifs, 0⟩] scope pos) 0 it acc env) [] = A.deeper env := by
  first
    | rfl
    | (obtain ⟨hd, d, fr, gs, u⟩ := A; simp [Around.over, Around.deeper, marksOver, frameCount, unitsOf, envsOf, guardsOf, pushEnvs, pushGuards, Code.envs, Code.env?, Code.isFrame, Code.guards, Code.isGuard, Code.weight, Code.frames, Code.isCreation, Code.isCaller, Code.cUnits])
/-- the whole turn's reading: c: all's true, any's false; W by the turn and a measure -/
def GTurn (c : Bool) (J : It) (g : TG) (tt : TT) (te : TE) (vs : List Nat) (σ : L2.St) (Q : VK) (W : Nat → Nat → Hp → Prop) : Prop :=
  ∀ i m H, W i m H → (J.stop i H ∧ Q (.bl c) H) ∨ (J.go i H ∧ ∃ Nx : Hp → Prop, (∀ H', Nx H' → ∃ m', m' < m ∧ W (i + 1) m' H') ∧ ∀ x H', J.yld i H x H' → g x (wipe σ vs) H' fun σ2 H2 => wipe σ2 vs = wipe σ vs ∧ tt σ2 H2 fun b H3 =>
    if b = true then te σ2 H3 fun y H4 => ∃ k, y = .bl k ∧ if k = c then Nx H4 else Q (.bl (!c)) H4 else Nx H3)
/-- the generator's end, its protocol -/
def gR (G : Cx) (pn : List (Addr × Obj)) (σ : L2.St) (Q : Hp → Prop) : GenEnd := fun _ _ r s₁ => r = .ok .next ∧ ∃ H', Inv G pn σ H' s₁ ∧ Q H'
def gY (G : Cx) (pn : List (Addr × Obj)) (σ : L2.St) (c : Bool) (Q : Hp → Prop) : Protocol := fun _ _ v s₁ kap => ∃ k H', v = .bool k ∧ Inv G pn σ H' s₁ ∧ if k = c then ∀ s'', Slept s₁ s'' → kap (.send .none) s'' else Q H'
section
variable {X : Cx}
theorem thnS {α : Type} {t : Sem α} {Q Q' : α → Shared → Prop} {M : Model} {A : Around} {E : Value → Shared → Prop} {s : Shared} (h : wpAny M A t Q (fun _ _ => False) s) (hQ : ∀ a s, Q a s → Q' a s) : wpAny M A t Q' E s := wpAny_mono h hQ fun _ _ z => False.elim z
theorem gen_seg {s3 : Shared} {H3 : Hp} {cenv : Env} {fp : List Addr} {it a : Addr} {ob : Obj} {tn : Nat → Heap → Prop} {J : It} {elt tg iter : Expr} {ifs : List Expr} {scope : Scope} {pos : Pos} {g : TG} {tt : TT} {te : TE} {vs : List Nat} {σ : L2.St} {c : Bool} {Q : VK} {W : Nat → Nat → Hp → Prop}
    (T : Turn X.prog X.w X.K tg J fp it tn) (hco : cenv.scope.isCoroutine = false) (ha : ∀ b ∈ fp, a ≠ b)
    (hg : PG (genCx X s3 H3 cenv fp) tg g) (ht : PTs (genCx X s3 H3 cenv fp) ifs tt) (he : PE (genCx X s3 H3 cenv fp) elt te) (turn : GTurn c J g tt te vs σ Q W) :
    ∀ (m n i : Nat) (s₀ s : Shared) (H : Hp), m < n → Inv (genCx X s3 H3 cenv fp) [(a, ob)] (wipe σ vs) H s → tn i s.heap → (∀ b ∈ fp, H b = none) → W i m H →
      Seg (model X.prog X.w) X.A.in1.in1 (gR (genCx X s3 H3 cenv fp) [(a, ob)] (wipe σ vs) (Q (.bl c))) (gY (genCx X s3 H3 cenv fp) [(a, ob)] (wipe σ vs) c (Q (.bl (!c)))) n s₀
        (.compLoop (.GeneratorExp elt [⟨tg, iter, ifs, 0⟩] scope pos) 0 (.ref it) .none cenv)
        ((model X.prog X.w).den (.compLoop (.GeneratorExp elt [⟨tg, iter, ifs, 0⟩] scope pos) 0 (.ref it) .none cenv)) [] s := by
  intro m
  induction m using Nat.strongRecOn with
  | ind m ih =>
  intro n i s₀ s H hmn I st nf w
  have stat : ∀ {σ' : L2.St} {H' : Hp} {s' : Shared}, Inv (genCx X s3 H3 cenv fp) [(a, ob)] σ' H' s' → (∀ b ∈ fp, H' b = none) → ∀ b ∈ fp, FpOk (genCx X s3 H3 cenv fp) [(a, ob)] H' b := fun {σ' H' s'} I' hn b hb =>
    ⟨hn b hb, (I'.ok.exf b hb).1, I'.ok.exfs b hb, .inl hb, fun x c e => (I'.ok.exf b hb).2 x c e, fun p hp => by
      have hp : p ∈ ([] : List (Addr × Obj)) ++ [(a, ob)] := hp
      simp at hp
      rw [hp]
      exact ha b hb⟩
  show Seg _ _ _ _ _ s₀ _ ((compTurn (.GeneratorExp elt [⟨tg, iter, ifs, 0⟩] scope pos) 0 (.ref it) .none cenv).onRaise (leaving cenv)) [] s
  rw [compTurn_gen, Sem.onRaise_eq_wrap]
  refine seg_bind_wrap (wpAny_standAt ?_)
  rcases turn i m H w with ⟨stop, qq⟩ | ⟨go, Nx, hNx, step⟩
  · have td := T.done (genCx X s3 H3 cenv fp) rfl rfl rfl rfl i [(a, ob)] s _ H (fun _ _ => False) I (stat I nf) st stop
    refine seg_bind_wrap ?_
    rw [over_gen]
    refine thnS td fun r s6 ⟨hr, I6⟩ => ?_
    subst hr
    exact seg_end (.ok .next) ⟨rfl, H, I6, qq⟩
  · have ti := T.item (genCx X s3 H3 cenv fp) rfl rfl rfl rfl i [(a, ob)] s _ H (fun _ _ => False) I (stat I nf) st go
    refine seg_bind_wrap ?_
    rw [over_gen]
    refine thnS ti fun r s6 ⟨u, hr, h6⟩ => ?_
    subst hr
    refine seg_bind_wrap ?_
    rw [over_gen]
    refine thnS h6 fun _ s7 ⟨x, H7, I7, r7, y7, st7, n7⟩ => ?_
    have I7' := I7.pinned (stat I7 n7) (T.obj _ _ st7)
    refine seg_bind_wrap ?_
    rw [over_gen]
    refine thnS (hg.run _ s7 _ H7 x u _ I7' r7 (step x H7 y7)) fun _ s8 ⟨σ8, H8, I8, hw8, q8⟩ => ?_
    refine seg_bind_wrap ?_
    rw [over_gen]
    refine thnS (ht.run _ s8 σ8 H8 _ I8 q8) fun b s9 ⟨H9, I9, q9⟩ => ?_
    -- the turn's end
    have fin : ∀ {s' : Shared} {H' : Hp}, Inv (genCx X s3 H3 cenv fp) ([(a, ob)] ++ pinsAt fp s7.heap) σ8 H' s' → Inv (genCx X s3 H3 cenv fp) [(a, ob)] (wipe σ vs) H' s' ∧ tn (i + 1) s'.heap ∧ ∀ b ∈ fp, H' b = none := fun {s' H'} I' => by
      have pin' : ∀ b ∈ fp, ∀ o, s7.heap.get? b = some o → s'.heap.get? b = some o ∧ H' b = none := fun b hb o e =>
        let z := I'.pin (b, o) (List.mem_append_right _ (List.mem_append_right _ (mem_pinsAt hb e)))
        ⟨z.1, z.2.1⟩
      have hl : (wipe σ vs).length = σ8.length := by rw [← hw8, wipe_length]
      refine ⟨(I'.unpinned (pins := [(a, ob)])).weak hl (fun j v e => ?_), T.keep _ _ _ st7 fun b hb o e => (pin' b hb o e).1, fun b hb => ?_⟩
      · rw [← hw8] at e
        exact (wipe_some e).1
      · obtain ⟨o, e, _⟩ := T.obj _ _ st7 b hb
        exact (pin' b hb o e).2
    cases b with
    | false =>
      simp only [Bool.false_eq_true, if_false] at q9 ⊢
      obtain ⟨m', hm, w'⟩ := hNx H9 q9
      obtain ⟨J1, J2, J3⟩ := fin I9
      exact seg_again rfl (ih m' hm n (i + 1) s₀ s9 H9 (by omega) J1 J2 J3 w')
    | true =>
      simp only [if_true] at q9 ⊢
      have hy : ∀ v, yieldOut cenv v = yieldValue v := fun v => by simp only [yieldOut, hco, Bool.false_eq_true, if_false]
      simp only [hy]
      rw [Sem.bind_eq_wrap', Sem.bind_eq_wrap', Sem.wrap_wrap, Sem.wrap_wrap]
      refine seg_wrap ?_
      rw [over_gen]
      refine thnS (he.run _ s9 σ8 H9 _ I9 q9) fun z s10 ⟨yv, H10, I10, r10, k, ek, q10⟩ => ?_
      subst ek
      obtain rfl : z = Value.bool k := r10
      obtain ⟨J1, J2, J3⟩ := fin I10
      obtain ⟨n', rfl⟩ : ∃ n', n = n' + 1 := by
        cases n with
        | succ n' => exact ⟨n', rfl⟩
        | zero => exact absurd hmn (Nat.not_lt_zero _)
      refine seg_at (seg_yield rfl rfl rfl ⟨k, H10, rfl, J1, ?_⟩)
      by_cases hk : k = c
      · rw [if_pos hk] at q10 ⊢
        intro s'' hs
        obtain ⟨m', hm, w'⟩ := hNx H10 q10
        exact seg_again rfl (ih m' hm n' (i + 1) s'' s'' H10 (by omega) (slept_inv J1 hs) (by rw [hs.2.2]; exact J2) J3 w')
      · rw [if_neg hk] at q10 ⊢
        exact q10
/-- the generator's start -/
theorem gen_seg0 {s3 : Shared} {H3 : Hp} {cenv : Env} {fp : List Addr} {it a : Addr} {ob : Obj} {tn : Nat → Heap → Prop} {J : It} {elt tg iter : Expr} {ifs : List Expr} {scope : Scope} {pos : Pos} {g : TG} {tt : TT} {te : TE} {vs : List Nat} {σ : L2.St} {c : Bool} {Q : VK} {W : Nat → Nat → Hp → Prop}
    (T : Turn X.prog X.w X.K tg J fp it tn) (hco : cenv.scope.isCoroutine = false) (ha : ∀ b ∈ fp, a ≠ b)
    (hg : PG (genCx X s3 H3 cenv fp) tg g) (ht : PTs (genCx X s3 H3 cenv fp) ifs tt) (he : PE (genCx X s3 H3 cenv fp) elt te) (turn : GTurn c J g tt te vs σ Q W)
    {m n : Nat} {s₀ s : Shared} {H : Hp} (hmn : m < n) (I : Inv (genCx X s3 H3 cenv fp) [(a, ob)] (wipe σ vs) H s) (st : tn 0 s.heap) (nf : ∀ b ∈ fp, H b = none) (w : W 0 m H) :
      Seg (model X.prog X.w) X.A.in1.in1 (gR (genCx X s3 H3 cenv fp) [(a, ob)] (wipe σ vs) (Q (.bl c))) (gY (genCx X s3 H3 cenv fp) [(a, ob)] (wipe σ vs) c (Q (.bl (!c)))) n s₀
        (.compStart (.GeneratorExp elt [⟨tg, iter, ifs, 0⟩] scope pos) 0 (.ref it) .none cenv)
        ((model X.prog X.w).den (.compStart (.GeneratorExp elt [⟨tg, iter, ifs, 0⟩] scope pos) 0 (.ref it) .none cenv)) [] s := by
  have loop := gen_seg (pos := pos) (iter := iter) (scope := scope) T hco ha hg ht he turn m n 0 s₀ s H hmn I st nf w
  show Seg _ _ _ _ _ s₀ _ ((compStart (.GeneratorExp elt [⟨tg, iter, ifs, 0⟩] scope pos) 0 (.ref it) .none cenv).onRaise (leaving cenv)) [] s
  unfold compStart
  rw [Sem.onRaise_eq_wrap]
  show Seg _ _ _ _ _ s₀ _ ((ask >>= _).wrap _ _ _ _) [] s
  refine seg_bind_wrap (wpAny_askSetting ?_)
  split
  · exact seg_again rfl loop
  · first
      | exact seg_bind_wrap (wpAny_rule (seg_bind_wrap (wpAny_standAt (seg_bind_wrap (T.self _ 0 s _ _ st (seg_again rfl loop))))))
      | (refine seg_bind_wrap (wpAny_rule ?_); show Seg _ _ _ _ _ s₀ _ ((standAt iter.pos >>= _).wrap _ _ _ _) [] s; exact seg_bind_wrap (wpAny_standAt (seg_bind_wrap (T.self _ 0 s _ _ st (seg_again rfl loop)))))
/-- the generator's object: its number gi -/
structure GOb (ob : Obj) (gi : Nat) : Prop where
  cls : ob.cls = .type "generator"
  data : ∃ nm qn : Value, ob.data = .fields #[.int gi 0, nm, qn]
  slots : ob.slots = #[]
theorem GOb.at {ob : Obj} {gi : Nat} (h : GOb ob gi) {hp : Heap} {a : Addr} (e : hp.get? a = some ob) : hp.IsGen a gi := by
  obtain ⟨nm, qn, hd⟩ := h.data
  exact ⟨ob, nm, qn, e, h.cls, hd, h.slots⟩
/-- the generator at a, ready to be walked: n bounds its turns -/
def GReady (X : Cx) (G : Cx) (a : Addr) (ob : Obj) (gi : Nat) (σ : L2.St) (c : Bool) (Qs Qb : Hp → Prop) (n : Nat) (s : Shared) : Prop :=
  s.heap.NoLimit ∧ AllBare s.gens ∧ s.heap.get? a = some ob ∧ ∃ gs, s.gens[gi]? = some gs ∧ ∀ s'', Slept s s'' → gs.Goes (model X.prog X.w) X.A.in1.in1 (gR G [(a, ob)] σ Qs) (gY G [(a, ob)] σ c Qb) n (.send .none) s''
/-- a turn of the consumer -/
theorem gen_next {G : Cx} {a : Addr} {ob : Obj} {gi : Nat} {σ : L2.St} {c : Bool} {Qs Qb : Hp → Prop} {n : Nat} {s : Shared} {E : Value → Shared → Prop} {Q' : Option Value → Shared → Prop} {k : Nat} (hr : Room k X.A)
    (hob : GOb ob gi) (R : GReady X G a ob gi σ c Qs Qb n s)
    (hend : ∀ s' H', Inv G [(a, ob)] σ H' s' → Qs H' → Q' none s')
    (hgo : ∀ n' s', n = n' + 1 → GReady X G a ob gi σ c Qs Qb n' s' → Q' (some (.bool c)) s')
    (hbr : ∀ s' H', Inv G [(a, ob)] σ H' s' → Qb H' → Q' (some (.bool (!c))) s') :
    wpAny (model X.prog X.w) X.A.in1 (pyNext (.ref a)) Q' E s := by
  obtain ⟨lim, bare, hG, gs, hgs, goes⟩ := R
  have hlt : gi < s.gens.size := (Array.getElem?_eq_some_iff.mp hgs).1
  refine GenW.wpAny_gsz (n := s.gens.size) (Nat.le_refl _) ?_
  refine wpAny_pyNext_genexpQ (A := X.A.in1) (P := fun _ _ s₁ => ∃ H', Inv G [(a, ob)] σ H' s₁ ∧ Qs H') hr.hd lim (by have := hr.dp; show X.A.depth < _; omega) (hob.at hG) hgs (goes _ (Slept.set bare rfl)) (fun v s₁ gs' hb hv => ?_) (fun s₁ hp h' hk => ?_)
  · intro hsz
    obtain ⟨kk, H', rfl, I', hk⟩ := hv
    by_cases e : kk = c
    · subst e
      rw [if_pos rfl] at hk
      have sl : Slept s₁ (s₁.setGen gi gs') := Slept.set I'.bare hb
      cases n with
      | zero => exact False.elim (hk s₁ ⟨rfl, I'.bare, rfl⟩)
      | succ n' =>
        have hlt' : gi < s₁.gens.size := by
          rw [GenW.setGen_size] at hsz
          exact Nat.lt_of_lt_of_le hlt hsz
        refine hgo n' _ rfl ⟨I'.nolimit, (slept_inv I' sl).bare, (I'.pin (a, ob) (List.mem_append_right _ (by simp))).1, gs', ?_, fun s'' hs => hk s'' (sl.trans hs)⟩
        simp [Shared.setGen, hlt']
    · rw [if_neg e] at hk
      have e2 : kk = !c := by cases kk <;> cases c <;> simp_all
      rw [e2]
      exact hbr _ H' (slept_inv I' (Slept.set I'.bare hb)) hk
  · intro _
    obtain ⟨H', I', q⟩ := hp
    have I2 := slept_inv I' (Slept.set (g := gi) (x := .finished) I'.bare rfl)
    exact hend _ H' (I2.kept (t' := (s₁.setGen gi .finished).toks) hk) q
/-- all's loop, any's loop -/
theorem all_loop {G : Cx} {a : Addr} {ob : Obj} {gi : Nat} {σ : L2.St} {Qs Qb : Hp → Prop} {k : Nat} {R : Result → Shared → Prop} (hr : Room k X.A) (hob : GOb ob gi)
    (hs : ∀ s' H', Inv G [(a, ob)] σ H' s' → Qs H' → R (.ok (.ret (.bool true))) s') (hb : ∀ s' H', Inv G [(a, ob)] σ H' s' → Qb H' → R (.ok (.ret (.bool false))) s') :
    ∀ (n : Nat) (s : Shared), GReady X G a ob gi σ true Qs Qb n s → codeAny (model X.prog X.w) X.A (.builtin "all.loop" ⟨[.ref a], []⟩) R s := by
  intro n
  induction n with
  | zero =>
    intro s g
    refine codeAny_builtin F.entry_all_loop ?_
    rw [Around.under_plainId F.plain_all_loop _]
    show wpAny _ X.A.in1 (pyNext (.ref a) >>= _) _ _ s
    refine wpAny_bind (gen_next hr hob g (fun s' H' I q => ?_) (fun n' s' e => by cases e) (fun s' H' I q => ?_))
    · exact wpAny_bind (wpAny_rule (wpAny_pure (hs s' H' I q)))
    · refine wpAny_bind (wpAny_holding (wpAny_truthy_bool ?_))
      refine wpAny_bind (wpAny_letGo ?_)
      simp only [Bool.not_true, Bool.false_eq_true, if_false]
      exact wpAny_bind (wpAny_rule (wpAny_pure (hb s' H' I q)))
  | succ n ih =>
    intro s g
    refine codeAny_builtin F.entry_all_loop ?_
    rw [Around.under_plainId F.plain_all_loop _]
    show wpAny _ X.A.in1 (pyNext (.ref a) >>= _) _ _ s
    refine wpAny_bind (gen_next hr hob g (fun s' H' I q => ?_) (fun n' s' e g' => ?_) (fun s' H' I q => ?_))
    · exact wpAny_bind (wpAny_rule (wpAny_pure (hs s' H' I q)))
    · cases e
      refine wpAny_bind (wpAny_holding (wpAny_truthy_bool ?_))
      refine wpAny_bind (wpAny_letGo ?_)
      simp only [if_true]
      exact wpAny_pure ⟨plainId_quiet F.plain_all_loop _, ih s' g'⟩
    · refine wpAny_bind (wpAny_holding (wpAny_truthy_bool ?_))
      refine wpAny_bind (wpAny_letGo ?_)
      simp only [Bool.not_true, Bool.false_eq_true, if_false]
      exact wpAny_bind (wpAny_rule (wpAny_pure (hb s' H' I q)))
theorem any_loop {G : Cx} {a : Addr} {ob : Obj} {gi : Nat} {σ : L2.St} {Qs Qb : Hp → Prop} {k : Nat} {R : Result → Shared → Prop} (hr : Room k X.A) (hob : GOb ob gi)
    (hs : ∀ s' H', Inv G [(a, ob)] σ H' s' → Qs H' → R (.ok (.ret (.bool false))) s') (hb : ∀ s' H', Inv G [(a, ob)] σ H' s' → Qb H' → R (.ok (.ret (.bool true))) s') :
    ∀ (n : Nat) (s : Shared), GReady X G a ob gi σ false Qs Qb n s → codeAny (model X.prog X.w) X.A (.builtin "any.loop" ⟨[.ref a], []⟩) R s := by
  intro n
  induction n with
  | zero =>
    intro s g
    refine codeAny_builtin F.entry_any_loop ?_
    rw [Around.under_plainId F.plain_any_loop _]
    show wpAny _ X.A.in1 (pyNext (.ref a) >>= _) _ _ s
    refine wpAny_bind (gen_next hr hob g (fun s' H' I q => ?_) (fun n' s' e => by cases e) (fun s' H' I q => ?_))
    · exact wpAny_bind (wpAny_rule (wpAny_pure (hs s' H' I q)))
    · refine wpAny_bind (wpAny_holding (wpAny_truthy_bool ?_))
      refine wpAny_bind (wpAny_letGo ?_)
      simp only [Bool.not_false, if_true]
      exact wpAny_bind (wpAny_rule (wpAny_pure (hb s' H' I q)))
  | succ n ih =>
    intro s g
    refine codeAny_builtin F.entry_any_loop ?_
    rw [Around.under_plainId F.plain_any_loop _]
    show wpAny _ X.A.in1 (pyNext (.ref a) >>= _) _ _ s
    refine wpAny_bind (gen_next hr hob g (fun s' H' I q => ?_) (fun n' s' e g' => ?_) (fun s' H' I q => ?_))
    · exact wpAny_bind (wpAny_rule (wpAny_pure (hs s' H' I q)))
    · cases e
      refine wpAny_bind (wpAny_holding (wpAny_truthy_bool ?_))
      refine wpAny_bind (wpAny_letGo ?_)
      simp only [Bool.false_eq_true, if_false]
      exact wpAny_pure ⟨plainId_quiet F.plain_any_loop _, ih s' g'⟩
    · refine wpAny_bind (wpAny_holding (wpAny_truthy_bool ?_))
      refine wpAny_bind (wpAny_letGo ?_)
      simp only [Bool.not_false, if_true]
      exact wpAny_bind (wpAny_rule (wpAny_pure (hb s' H' I q)))
end
end GxL
namespace GxL
open PySem PySem.Spec PyProof.Rows L2
open Sem (wp)
/-- all(..) (c: true), any(..) (c: false) of a generator expression; the def's table at P may have grown -/
def tGx (c : Bool) (P : Addr) (wi : TI) (g : TG) (tt : TT) (te : TE) (vs : List Nat) : TE := fun σ H Q => wi σ H fun J H1 => GxR.TabG H1 P ∧ ∀ H2, GxR.Tabbed P H1 H2 → ∃ W : Nat → Nat → Hp → Prop, (∃ m, W 0 m H2) ∧ GTurn c J g tt te vs σ Q W
section
variable {X : Cx}
theorem gen_made {cc P : Addr} {c : Bool} {elt tg iter : Expr} {ifs : List Expr} {scope : Scope} {own : List (Str × Nat)} {gpos : Pos} {wi : TI} {g : TG} {tt : TT} {te : TE} {k : Nat} {pins : List (Addr × Obj)} {s : Shared} {σ : L2.St} {H : Hp} {Q : VK} {Q' : Value → Shared → Prop}
    (hr : Room (k + 3) X.A) (TB : LamX.TabB X.base X.mg cc P) (hcode : X.env.code = .ref cc) (S : GSc scope) (ok : BlkOk X.N X.env.scope scope own) (hN : X.N.Nodup) (hi : PI X tg iter wi)
    (hg : ∀ (s : Shared) (H : Hp) (C : Addr) (code : Value) (fp : List Addr), PG (genCx X s H (gEnv X scope C code) fp) tg g) (ht : ∀ (s : Shared) (H : Hp) (C : Addr) (code : Value) (fp : List Addr), Room k (genCx X s H (gEnv X scope C code) fp).A → PTs (genCx X s H (gEnv X scope C code) fp) ifs tt)
    (he : ∀ (s : Shared) (H : Hp) (C : Addr) (code : Value) (fp : List Addr), Room k (genCx X s H (gEnv X scope C code) fp).A → PE (genCx X s H (gEnv X scope C code) fp) elt te) (hs : ∀ v, genFold iter X.env v = pure v)
    (I : Inv X pins σ H s) (h : tGx c P wi g tt te (own.map (·.2)) σ H Q)
    (hQ : ∀ (G : Cx) (a : Addr) (ob : Obj) (gi n : Nat) (s5 : Shared), GOb ob gi → GReady X G a ob gi (wipe σ (own.map (·.2))) c (Q (.bl c)) (Q (.bl (!c))) n s5 → (∀ s' H', Inv G [(a, ob)] (wipe σ (own.map (·.2))) H' s' → Inv X pins σ H' s') → Q' (.ref a) s5) :
    wpAny (model X.prog X.w) X.A (eval (.GeneratorExp elt [⟨tg, iter, ifs, 0⟩] scope gpos) X.env) Q' X.xe s := by
  have hfree : ∀ y ∈ scope.names, y.2 = .free → ∃ c, X.env.cells.lookup y.1 = some c := fun y hy e => by
    rcases ok.free y hy e with k | k
    · exact I.ok.has _ (.inl k)
    · exact I.ok.has _ (.inr k)
  refine wpAny_GeneratorExp_make S.co (closure_ok hfree) S.cell S.dot ok.kind (by have := hr.dp; omega) ?_ hs
  refine thn (hi.run pins s σ H _ I h) fun xv s1 h1 => thn h1 fun itv s2 h2 => ?_
  obtain ⟨it, fp, tn, J, H2, e, I2, T, st2, f2, ⟨ps, hP, hto⟩, q⟩ := h2
  subst e
  have hPs : s2.heap.get? P = some { cls := .none, data := .fields ps } := I2.hok P _ hP
  have cd : PySem.W.CodeHd s2.heap cc P := TB.code.keeps I2.bk
  have sz : ∀ b ∈ fp, b < s2.heap.objs.size := fun b hb => by
    obtain ⟨o, e, _⟩ := T.obj _ _ st2 b hb
    exact Heap.lt_size e
  have nfP : ∀ b ∈ fp, b ≠ P := fun b hb z => by
    have z1 := (f2 b hb).1
    rw [z, hP] at z1
    cases z1
  have cont : ∀ (code : Value) (h3 : Heap) (tk : Nat) (more : Array Value), Heap.ExtBut P s2.heap h3 → s2.heap.objs.size ≤ h3.objs.size → h3.get? P = some { cls := .none, data := .fields (ps ++ more) } → TriplesOk (ps ++ more).toList →
      wpAny (model X.prog X.w) X.A (builtinsFor X.env.globals X.env.builtins) (fun bi s₄ =>
        ∀ h', h'.Ns s₄.heap.objs.size (fun y => if y = ".0" then some (.ref it) else none) → Heap.SameBut s₄.heap.objs.size (s₄.heap.push { cls := .type "frame", data := .dict #[] }) h' →
          Q' (.ref h'.objs.size) { s₄ with
            gens := s₄.gens.push (.fresh (.compStart (.GeneratorExp elt [⟨tg, iter, ifs, 0⟩] scope gpos) 0 (.ref it) .none (genEnv scope (cloFrom X.env.cells scope.names []) s₄.heap.objs.size code bi X.env))),
            toks := s₄.toks + 1 + 1 + 1,
            heap := h'.push { cls := .type "generator", data := .fields #[.int s₄.gens.size 0, .str "<genexpr>" (s₄.toks + 1), .str (X.env.qual ++ "<genexpr>") (s₄.toks + 1 + 1)] } }) X.xe { s2 with heap := h3, toks := tk } := by
    intro code h3 tk more hx hsz hP3 ht3
    have I3 : Inv X pins σ (upd H2 P (.tbl (ps ++ more))) { s2 with heap := h3, gens := s2.gens, drawn := s2.drawn, toks := tk } := GxR.inv_tab I2 hP (fun b o hb e => hx b o hb e) hP3 I2.bare
    obtain ⟨bm, ob, e1, e2, e3, e4, e5, e6, e7, e8⟩ := TB.bm
    have keep3 : ∀ b u, b ≠ P → s2.heap.get? b = some u → h3.get? b = some u := fun b u hb e => hx b u hb e
    refine wpAny_builtinsFor (m := X.mg) (by rw [I2.ok.glob]; exact (I2.mod.glob.keeps I2.bk).extBut hx TB.gP) e1 e2 (keep3 _ _ e4 (I2.bk _ _ e5)) e6 e7 e8 ?_
    intro h' hns hsb
    obtain ⟨W, ⟨m0, w0⟩, turn⟩ := q (upd H2 P (.tbl (ps ++ more))) ⟨⟨ps ++ more, upd_same, ht3⟩, fun b hb => upd_ne hb⟩
    generalize hH3 : upd H2 P (.tbl (ps ++ more)) = H3 at I3 w0
    have n3 : ∀ b ∈ fp, H3 b = none := fun b hb => by rw [← hH3, upd_ne (nfP b hb)]; exact (f2 b hb).1
    generalize hs3 : ({ s2 with heap := h3, gens := s2.gens, drawn := s2.drawn, toks := tk } : Shared) = s3 at I3
    have es3 : ({ s2 with heap := h3, toks := tk } : Shared) = s3 := by rw [← hs3]
    have eh3 : h3 = s3.heap := by rw [← hs3]
    rw [show ({ s2 with heap := h3, toks := tk } : Shared).heap = s3.heap from by rw [es3]] at hns hsb
    have f3 : ∀ b ∈ fp, FpOk X pins H3 b ∧ b < s3.heap.objs.size := fun b hb => ⟨⟨n3 b hb, (f2 b hb).2⟩, by rw [← eh3]; exact Nat.lt_of_lt_of_le (sz b hb) hsz⟩
    have szh : h'.objs.size = s3.heap.objs.size + 1 := by rw [hsb.1, Heap.size_push]
    have kp' : ∀ b o, s3.heap.get? b = some o → h'.get? b = some o := fun b o e => hsb.extBut b o (Nat.ne_of_lt (Heap.lt_size e)) (Heap.get?_push_of_some _ e)
    generalize hob : ({ cls := .type "generator", data := .fields #[.int s3.gens.size 0, .str "<genexpr>" (s3.toks + 1), .str (X.env.qual ++ "<genexpr>") (s3.toks + 1 + 1)] } : Obj) = og
    have GO : GOb og s3.gens.size := by
      rw [← hob]
      exact ⟨rfl, ⟨_, _, rfl⟩, rfl⟩
    have kp5 : ∀ b o, s3.heap.get? b = some o → (h'.push og).get? b = some o := fun b o e => Heap.get?_push_of_some _ (kp' b o e)
    have ga : (h'.push og).get? h'.objs.size = some og := Heap.get?_push_size _ (by rw [← hob]; rfl)
    refine hQ (genCx X s3 H3 (gEnv X scope s3.heap.objs.size code) fp) h'.objs.size og s3.gens.size (m0 + 1) _ GO ?_ fun s' H' I' => ?_
    · generalize hs5 : ({ s3 with
            gens := s3.gens.push (.fresh (.compStart (.GeneratorExp elt [⟨tg, iter, ifs, 0⟩] scope gpos) 0 (.ref it) .none (genEnv scope (cloFrom X.env.cells scope.names []) s3.heap.objs.size code builtinsNs X.env))),
            toks := s3.toks + 1 + 1 + 1, heap := h'.push og } : Shared) = s5
      have eh5 : s5.heap = h'.push og := by rw [← hs5]
      have I5 : Inv (genCx X s3 H3 (gEnv X scope s3.heap.objs.size code) fp) [] (wipe σ (own.map (·.2))) H3 s5 :=
        gen_start I3 ok S hN hr.hd f3 (by rw [← hs5]) (by rw [← hs5]; exact I3.bare.push rfl) (by rw [eh5]; exact hns.push _) (by rw [eh5]; exact kp5)
      have I6 : Inv (genCx X s3 H3 (gEnv X scope s3.heap.objs.size code) fp) [(h'.objs.size, og)] (wipe σ (own.map (·.2))) H3 s5 := by
        refine I5.pins_of fun p hp => ?_
        have hp : p = (h'.objs.size, og) := by simpa using hp
        rw [hp]
        have hge : s3.heap.objs.size ≤ h'.objs.size := by omega
        refine ⟨by rw [eh5]; exact ga, I3.hok.fresh hge, ?_, fun z => ?_, fun v z => ?_⟩
        · show h'.objs.size ≠ s3.heap.objs.size
          omega
        · obtain ⟨_, o, ho, _⟩ := I5.ok.funs.mem z
          have ho : s3.heap.get? h'.objs.size = some o := ho
          exact absurd (Nat.lt_of_lt_of_le (Heap.lt_size ho) hge) (Nat.lt_irrefl _)
        · rw [← hob] at z
          cases z
      have st5 : tn 0 s5.heap := T.keep _ _ _ st2 fun b hb o e => by rw [eh5]; exact kp5 b o (by rw [← eh3]; exact keep3 b o (nfP b hb) e)
      have hgs : s5.gens[s3.gens.size]? = some (.fresh (.compStart (.GeneratorExp elt [⟨tg, iter, ifs, 0⟩] scope gpos) 0 (.ref it) .none (gEnv X scope s3.heap.objs.size code))) := by
        rw [← hs5]
        exact Array.getElem?_push_size ..
      refine ⟨I6.nolimit, I6.bare, by rw [eh5]; exact ga, _, hgs, fun s'' hsl => ⟨rfl, ?_⟩⟩
      have hab : ∀ b ∈ fp, h'.objs.size ≠ b := fun b hb z => by
        have h1 := (f3 b hb).2
        rw [← z] at h1
        have h1 : h'.objs.size < s3.heap.objs.size := h1
        omega
      exact gen_seg0 T S.co hab (hg _ _ _ _ _) (ht _ _ _ _ _ (hr.in1.in1.deeper _)) (he _ _ _ _ _ (hr.in1.in1.deeper _)) turn (Nat.lt_succ_self m0) (slept_inv I6 hsl) (by rw [hsl.2.2]; exact st5) n3 w0
    · exact I3.call' (ch := fp) I'.os I'.base I'.hok I'.bare fun b hb => ⟨(f3 b hb).1.2.2.2.1, (f3 b hb).1.2.1, (f3 b hb).1.2.2.2.2.1, (f3 b hb).1.2.2.2.2.2⟩
  refine ⟨I2.nolimit, ?_⟩
  cases hf : codeAmong gpos ps.toList with
  | none =>
    refine wpAny_genexprCodeX hcode (cd.code hPs hto) (cd.tab hPs) hf fun c' h' tk hx hge hlt hco' _ htab' _ => ?_
    obtain ⟨o1, vs, f1, tf, fl, tg, inF, tx, tt, op, _, _, _, _, _, _, _, _, _, htr, _⟩ := hco'
    exact cont _ h' tk _ hx (Nat.le_trans hge (Nat.le_of_lt hlt)) htab'.2 htr
  | some cv =>
    refine wpAny_genexprCode_hit hcode (cd.code hPs hto) hf ?_
    exact cont cv s2.heap s2.toks #[] (Heap.ExtBut.refl _ _) (Nat.le_refl _) (by simpa using hPs) (by simpa using hto)
/-- all(.. for .. in ..) -/
theorem pe_allG {cc P : Addr} {elt tg iter : Expr} {ifs : List Expr} {scope : Scope} {own : List (Str × Nat)} {p pos gpos : Pos} {wi : TI} {g : TG} {tt : TT} {te : TE} {k : Nat}
    (hr : Room (k + 3) X.A) (hgl : Gl X "all") (hm : X.mg "all" = none) (TB : LamX.TabB X.base X.mg cc P) (hcode : X.env.code = .ref cc) (S : GSc scope) (ok : BlkOk X.N X.env.scope scope own) (hN : X.N.Nodup) (hi : PI X tg iter wi)
    (hg : ∀ (s : Shared) (H : Hp) (C : Addr) (code : Value) (fp : List Addr), PG (genCx X s H (gEnv X scope C code) fp) tg g) (ht : ∀ (s : Shared) (H : Hp) (C : Addr) (code : Value) (fp : List Addr), Room k (genCx X s H (gEnv X scope C code) fp).A → PTs (genCx X s H (gEnv X scope C code) fp) ifs tt)
    (he : ∀ (s : Shared) (H : Hp) (C : Addr) (code : Value) (fp : List Addr), Room k (genCx X s H (gEnv X scope C code) fp).A → PE (genCx X s H (gEnv X scope C code) fp) elt te) (hb : bootBuiltins "all" = some (.builtin "all") := by rfl) (hs : ∀ v, genFold iter X.env v = pure v := by intro _; rfl)
    (hst : starEach [.GeneratorExp elt [⟨tg, iter, ifs, 0⟩] scope gpos] X.env = (false, eval (.GeneratorExp elt [⟨tg, iter, ifs, 0⟩] scope gpos) X.env) :: starEach [] X.env := by rfl) :
    PE X (.Call (.Name "all" p) [.GeneratorExp elt [⟨tg, iter, ifs, 0⟩] scope gpos] [] pos) (tGx true P wi g tt te (own.map (·.2))) := by
  refine ⟨fun pins s σ H Q I h => ?_⟩
  refine wpAny_Call_Name_kw (ld_blt I hgl hm hb ?_)
  refine PyProof.Rows.callWith_builtin1 ?_ hst (by rfl)
  rw [hst]
  show wpAny _ _ (spliced ((false, eval (.GeneratorExp elt [⟨tg, iter, ifs, 0⟩] scope gpos) X.env) :: backTo pos (starEach [] X.env))) _ _ s
  refine Calls.spliced_cons (gen_made hr TB hcode S ok hN hi hg ht he hs I h fun G a ob gi n s5 hob R back => ?_)
  refine Calls.spliced_nil ?_
  refine call_function_tree F.kind_all F.plain_all F.entry_all (F.args_all1 _) ?_
  unfold Builtin.«all»
  refine wpAny_bind (m := oneArg "all" _) (wpAny_pure ?_)
  refine wpAny_bind (wpAny_pyIter_gen (hob.at R.2.2.1) ?_)
  exact wpAny_pure ⟨plainId_quiet F.plain_all_loop _, all_loop hr hob (fun s' H' I' q => ⟨.bl true, H', back s' H' I', rfl, q⟩) (fun s' H' I' q => ⟨.bl false, H', back s' H' I', rfl, q⟩) n s5 R⟩
/-- any(.. for .. in ..) -/
theorem pe_anyG {cc P : Addr} {elt tg iter : Expr} {ifs : List Expr} {scope : Scope} {own : List (Str × Nat)} {p pos gpos : Pos} {wi : TI} {g : TG} {tt : TT} {te : TE} {k : Nat}
    (hr : Room (k + 3) X.A) (hgl : Gl X "any") (hm : X.mg "any" = none) (TB : LamX.TabB X.base X.mg cc P) (hcode : X.env.code = .ref cc) (S : GSc scope) (ok : BlkOk X.N X.env.scope scope own) (hN : X.N.Nodup) (hi : PI X tg iter wi)
    (hg : ∀ (s : Shared) (H : Hp) (C : Addr) (code : Value) (fp : List Addr), PG (genCx X s H (gEnv X scope C code) fp) tg g) (ht : ∀ (s : Shared) (H : Hp) (C : Addr) (code : Value) (fp : List Addr), Room k (genCx X s H (gEnv X scope C code) fp).A → PTs (genCx X s H (gEnv X scope C code) fp) ifs tt)
    (he : ∀ (s : Shared) (H : Hp) (C : Addr) (code : Value) (fp : List Addr), Room k (genCx X s H (gEnv X scope C code) fp).A → PE (genCx X s H (gEnv X scope C code) fp) elt te) (hs : ∀ v, genFold iter X.env v = pure v := by intro _; rfl)
    (hst : starEach [.GeneratorExp elt [⟨tg, iter, ifs, 0⟩] scope gpos] X.env = (false, eval (.GeneratorExp elt [⟨tg, iter, ifs, 0⟩] scope gpos) X.env) :: starEach [] X.env := by rfl) :
    PE X (.Call (.Name "any" p) [.GeneratorExp elt [⟨tg, iter, ifs, 0⟩] scope gpos] [] pos) (tGx false P wi g tt te (own.map (·.2))) := by
  refine ⟨fun pins s σ H Q I h => ?_⟩
  refine wpAny_Call_Name_kw (ld_blt I hgl hm boot_any ?_)
  refine PyProof.Rows.callWith_builtin1 ?_ hst (by rfl)
  rw [hst]
  show wpAny _ _ (spliced ((false, eval (.GeneratorExp elt [⟨tg, iter, ifs, 0⟩] scope gpos) X.env) :: backTo pos (starEach [] X.env))) _ _ s
  refine Calls.spliced_cons (gen_made hr TB hcode S ok hN hi hg ht he hs I h fun G a ob gi n s5 hob R back => ?_)
  refine Calls.spliced_nil ?_
  refine call_function_tree F.kind_any F.plain_any F.entry_any (F.args_any1 _) ?_
  unfold Builtin.«any»
  refine wpAny_bind (m := oneArg "any" _) (wpAny_pure ?_)
  refine wpAny_bind (wpAny_pyIter_gen (hob.at R.2.2.1) ?_)
  exact wpAny_pure ⟨plainId_quiet F.plain_any_loop _, any_loop hr hob (fun s' H' I' q => ⟨.bl false, H', back s' H' I', rfl, q⟩) (fun s' H' I' q => ⟨.bl true, H', back s' H' I', rfl, q⟩) n s5 R⟩
end
end GxL
namespace Rg
open PySem PySem.Spec PyProof.Rows L2
/-! ### tables of code objects: all the law's tables stand, all else is kept -/
def Tab (Ps : List Addr) (H : Hp) : Prop := ∀ p ∈ Ps, GxR.TabG H p
structure Tk (Ps : List Addr) (H H' : Hp) : Prop where
  tab : Tab Ps H'
  kp : Kp Ps H H'
section
variable {Ps : List Addr} {H H1 H2 : Hp} {a P : Addr} {o : HO}
theorem Tk.refl (t : Tab Ps H) : Tk Ps H H := ⟨t, .refl⟩
theorem Tk.trans (x : Tk Ps H H1) (y : Tk Ps H1 H2) : Tk Ps H H2 := ⟨y.tab, x.kp.trans y.kp⟩
theorem Tab.same (t : Tab Ps H) (s : Same H H1) : Tab Ps H1 := fun p hp => let ⟨ps, e, r⟩ := t p hp; ⟨ps, s _ _ e, r⟩
theorem Tk.of (t : Tab Ps H) (s : Same H H1) : Tk Ps H H1 := ⟨t.same s, .of s⟩
theorem Tk.same (x : Tk Ps H H1) (s : Same H1 H2) : Tk Ps H H2 := x.trans (.of x.tab s)
theorem Tab.new (t : Tab Ps H) (h : H a = none) : Tab Ps (upd H a o) := t.same (same_upd h)
theorem Tk.new (x : Tk Ps H H1) (h : H1 a = none) : Tk Ps H (upd H1 a o) := x.same (same_upd h)
theorem Tab.ne (t : Tab Ps H) (hp : P ∈ Ps) (h : H a = some o) (n : ∀ ps, o ≠ .tbl ps) : a ≠ P := fun z => by
  obtain ⟨ps, e, _⟩ := t P hp
  rw [z, e] at h
  exact n ps (Option.some.inj h).symm
theorem Tab.nin (t : Tab Ps H) (h : H a = some o) (n : ∀ ps, o ≠ .tbl ps) : a ∉ Ps := fun z => t.ne z h n rfl
theorem Tab.ninN (t : Tab Ps H) (h : H a = none) : a ∉ Ps := fun z => by
  obtain ⟨ps, e, _⟩ := t a z
  rw [h] at e
  cases e
/-- what is no table is kept -/
theorem Tk.at (x : Tk Ps H H1) (t : Tab Ps H) (h : H a = some o) (n : ∀ ps, o ≠ .tbl ps := by intro _ z; cases z) : H1 a = some o := x.kp a o h (t.nin h n)
theorem Tk.at' (x : Tk Ps H H1) (h : H a = some o) (n : a ∉ Ps) : H1 a = some o := x.kp a o h n
theorem Tk.free (x : Tk Ps H H1) (h : H1 a = none) : H a = none := x.kp.free (x.tab.ninN h) h
theorem Tab.upd (t : Tab Ps H) (h : H a = some o) (n : ∀ ps, o ≠ .tbl ps) {u : HO} : Tab Ps (upd H a u) := fun p hp => by
  obtain ⟨ps, e, r⟩ := t p hp
  exact ⟨ps, by rw [upd_ne (t.ne hp h n).symm]; exact e, r⟩
/-- one table has grown -/
theorem Tk.tabbed (t : Tab Ps H) (hp : P ∈ Ps) (h : GxR.Tabbed P H H1) : Tk Ps H H1 := by
  refine ⟨fun p q => ?_, fun x o e n => by rw [h.2 x fun z => n (z ▸ hp)]; exact e⟩
  by_cases z : p = P
  · rw [z]; exact h.1
  · obtain ⟨ps, e, r⟩ := t p q
    exact ⟨ps, by rw [h.2 p z]; exact e, r⟩
end
/-! ### all, any: the forms one uses -/
theorem gx_by {c : Bool} {J : It} {g : TG} {tt : TT} {te : TE} {vs : List Nat} {σ : L2.St} {Q : VK} {H2 : Hp} (n : Nat) (Pv : Nat → Hp → Prop) (h0 : Pv 0 H2) (hgo : ∀ i H, i < n → Pv i H → J.go i H) (hstop : ∀ H, Pv n H → J.stop n H)
    (hs : ∀ i x H H', i < n → Pv i H → J.yld i H x H' → g x (wipe σ vs) H' fun σ2 H2 => wipe σ2 vs = wipe σ vs ∧ tt σ2 H2 fun b H3 => if b = true then te σ2 H3 fun y H4 => ∃ k, y = .bl k ∧ if k = c then Pv (i + 1) H4 else Q (.bl (!c)) H4 else Pv (i + 1) H3)
    (hd : ∀ H, Pv n H → Q (.bl c) H) : ∃ W : Nat → Nat → Hp → Prop, (∃ m, W 0 m H2) ∧ GxL.GTurn c J g tt te vs σ Q W := by
  refine ⟨fun i m H => m = n - i ∧ i ≤ n ∧ Pv i H, ⟨n, by simp, Nat.zero_le _, h0⟩, ?_⟩
  rintro i m H ⟨rfl, hi, p⟩
  by_cases hlt : i < n
  · exact .inr ⟨hgo i H hlt p, Pv (i + 1), fun H' p' => ⟨n - (i + 1), by omega, rfl, hlt, p'⟩, fun x H' y => hs i x H H' hlt p y⟩
  · have e : i = n := by omega
    subst e
    exact .inl ⟨hstop H p, hd H p⟩
/-- over a list -/
theorem gx_list {K : PySem.W.Frag} {a : Addr} {xs : List V} {c : Bool} {g : TG} {tt : TT} {te : TE} {vs : List Nat} {σ : L2.St} {Q : VK} {H2 : Hp} (Pv : Nat → Hp → Prop) (h0 : Pv 0 H2) (hl : ∀ i H, i ≤ xs.length → Pv i H → SqL K H a xs)
    (hs : ∀ i x H, xs[i]? = some x → Pv i H → g x (wipe σ vs) H fun σ2 H2 => wipe σ2 vs = wipe σ vs ∧ tt σ2 H2 fun b H3 => if b = true then te σ2 H3 fun y H4 => ∃ k, y = .bl k ∧ if k = c then Pv (i + 1) H4 else Q (.bl (!c)) H4 else Pv (i + 1) H3)
    (hd : ∀ H, Pv xs.length H → Q (.bl c) H) : ∃ W : Nat → Nat → Hp → Prop, (∃ m, W 0 m H2) ∧ GxL.GTurn c (Itl K a) g tt te vs σ Q W := by
  refine gx_by xs.length Pv h0 (fun i H hi p => ⟨xs, xs[i], hl i H (Nat.le_of_lt hi) p, by simp [hi]⟩) (fun H p => ⟨xs, hl _ H (Nat.le_refl _) p, Nat.le_refl _⟩) (fun i x H H' hi p y => ?_) hd
  obtain ⟨e, y⟩ := y
  subst e
  exact hs i x _ (y xs (hl i _ (Nat.le_of_lt hi) p)) p
/-- over a tuple -/
theorem gx_tup {K : PySem.W.Frag} {a : Addr} {xs : List V} {c : Bool} {g : TG} {tt : TT} {te : TE} {vs : List Nat} {σ : L2.St} {Q : VK} {H2 : Hp} (Pv : Nat → Hp → Prop) (h0 : Pv 0 H2) (hl : ∀ i H, i ≤ xs.length → Pv i H → SqT K H a xs)
    (hs : ∀ i x H, xs[i]? = some x → Pv i H → g x (wipe σ vs) H fun σ2 H2 => wipe σ2 vs = wipe σ vs ∧ tt σ2 H2 fun b H3 => if b = true then te σ2 H3 fun y H4 => ∃ k, y = .bl k ∧ if k = c then Pv (i + 1) H4 else Q (.bl (!c)) H4 else Pv (i + 1) H3)
    (hd : ∀ H, Pv xs.length H → Q (.bl c) H) : ∃ W : Nat → Nat → Hp → Prop, (∃ m, W 0 m H2) ∧ GxL.GTurn c (Itt K a) g tt te vs σ Q W := by
  refine gx_by xs.length Pv h0 (fun i H hi p => ⟨xs, xs[i], hl i H (Nat.le_of_lt hi) p, by simp [hi]⟩) (fun H p => ⟨xs, hl _ H (Nat.le_refl _) p, Nat.le_refl _⟩) (fun i x H H' hi p y => ?_) hd
  obtain ⟨e, y⟩ := y
  subst e
  exact hs i x _ (y xs (hl i _ (Nat.le_of_lt hi) p)) p
/-- over the signs of a text -/
theorem gx_str {x : Str} {c : Bool} {g : TG} {tt : TT} {te : TE} {vs : List Nat} {σ : L2.St} {Q : VK} {H2 : Hp} (Pv : Nat → Hp → Prop) (h0 : Pv 0 H2)
    (hs : ∀ i s H, x.cps[i]? = some s → Pv i H → g (.str ⟨#[s]⟩) (wipe σ vs) H fun σ2 H2 => wipe σ2 vs = wipe σ vs ∧ tt σ2 H2 fun b H3 => if b = true then te σ2 H3 fun y H4 => ∃ k, y = .bl k ∧ if k = c then Pv (i + 1) H4 else Q (.bl (!c)) H4 else Pv (i + 1) H3)
    (hd : ∀ H, Pv x.cps.size H → Q (.bl c) H) : ∃ W : Nat → Nat → Hp → Prop, (∃ m, W 0 m H2) ∧ GxL.GTurn c (Its x) g tt te vs σ Q W := by
  refine gx_by x.cps.size Pv h0 (fun i H hi p => hi) (fun H p => Nat.le_refl _) (fun i v H H' hi p y => ?_) hd
  obtain ⟨rfl, s, e, rfl⟩ := y
  exact hs i s _ e p
/-- a test of every item by a Bool, nothing changed but the tables: all(f(x) for x in xs), any(..) -/
def allB (c : Bool) {α : Type} (f : α → Bool) (xs : List α) : Bool := if c = true then xs.all f else xs.any f
/-! ### a def whose code object is known -/
section
variable {P : Program} {w : World} {K : PySem.W.Frag} {mg : Str → Option Value} {base : Heap}
theorem fun_okC {x qual : Str} {st : Stmt} {f cc : Addr} {fd : FuncData} {N ps : List Str} {k : Nat} {sp : Sp} (F : Fun K x qual st f fd) (hc : fd.code = .ref cc) (S : FnScope N ps (defScope st)) (len : ∀ vs H Q E, sp vs H Q E → vs.length = ps.length)
    (hbody : ∀ (A : Around) (outer : List Env) (s : Shared) (H : Hp) (vs : List V) (Q : VK) (E : XK), Room k (A.deeper (envOfC qual (defScope st) s.heap.objs.size f (.ref cc))) → sp vs H Q E →
      ∃ t, PSs (cxOf CX0 P w K mg base N qual (defScope st) f (.ref cc) A outer s H E).nox (defBody st) t ∧ t { nx := fun _ H' => Q .non H', rt := Q } (start N vs) H) : FnOk P w K mg base CX0 (k + 1) f fd ps sp := by
  obtain ⟨oc, od, kV, doc, pm, an, cdv, ct, osl, rfl, lk, hcd⟩ := F.ex
  obtain rfl : cdv = .ref cc := hc
  refine fn_of lk hcd S len fun A outer s H vs Q E hr hsp => ?_
  obtain ⟨t, h, q⟩ := hbody A outer s H vs Q E hr hsp
  exact ⟨t, h.nox, q⟩
end
/-! ### the end: a top def's table is empty at the law's entry -/
def TabsOf (q : Program) (mg : Str → Option Value) (h : Heap) : Prop := ∀ d ∈ recsOf q, ∃ a o fd c P, mg d.name = some (.ref a) ∧ h.get? a = some o ∧ o.data = .func fd ∧ fd.code = .ref c ∧ h.IsCode c P #[] ∧ h.TableAt c P #[]
theorem tab_of {q : Program} {K : PySem.W.Frag} {mg : Str → Option Value} {h : Heap} {x : Str} {a c P : Addr} {oc : Value} {od : Option Addr} {osl : Array (Option Value)} {fd : FuncData} (T : TabsOf q mg h) (KX : K.In h) (hx : (recsOf q).any (fun d => d.name == x) = true)
    (hm : mg x = some (.ref a)) (lk : K.lookup a = some ⟨oc, od, .func fd, osl⟩) (hc : fd.code = .ref c) (hh : PySem.W.codeHdIn K c P = true) : h.get? P = some { cls := .none, data := .fields #[] } := by
  obtain ⟨d, hd, e⟩ := List.any_eq_true.mp hx
  have e : d.name = x := by simpa using e
  obtain ⟨a', o, fd', c', P', m1, m2, m3, m4, m5, m6⟩ := T d hd
  rw [e, hm] at m1
  cases m1
  rw [KX _ _ lk] at m2
  cases m2
  cases m3
  rw [hc] at m4
  cases m4
  obtain ⟨o1, vs, _, _, _, _, _, _, _, g1, g2, g3, g4, _⟩ := PySem.W.codeHd_of_K KX hh
  obtain ⟨⟨o2, vs2, f1, f2, f3, f4⟩, f5⟩ := m6
  rw [g1] at f1
  cases f1
  rw [g3] at f3
  cases f3
  rw [g4] at f4
  cases f4
  exact f5
theorem walk_ofG {l : PySem.W.OpenLaw} {n k : Nat} {q : Program} {loose : List Str} {XP : (Str → Option Value) → Heap → Prop} {YP : World → Heap → Prop} {d : DefRec} {K : Params → PySem.W.Frag} {CX : World → CXT} {x : Str}
    (hn : l.most = some n) (hn2 : n ≤ sizeLine) (hdf : d.params.defaults = []) (hr : Room k callerA) (hY : ∀ (w : World) (h : Heap), YP w h → (K w.params).In h)
    (F : ∀ (w : World) (mg : Str → Option Value) (fa : Addr) (h : Heap), TabsOf q mg h → YP w h → (K w.params).In h → h.Ns mainGlobals mg → mg d.name = some (.ref fa) → LamX.LawAtS l w (K w.params) (CX w) k n x mg fa h)
    (hCX : ∀ (w : World) (H : Hp) (s : Shared) (e : Value) (s' : Shared), CX w [] H s (fun _ _ _ => False) e s' → False) :
    PySem.W.WalkO q loose XP YP l.row.toRowW d [] (fun f vs => PySem.call f vs) := by
  refine Att.attach_callB hn hdf fun w s₀ s₁ mg mb fa o pm cd doc a vs ns G Y ho hd hcd hmg hobj hints hlen hbits hg => ?_
  have KX := hY w _ Y
  obtain ⟨fd, cs, sp, hT, nT, C, hb, hsp, hF⟩ := F w mg fa _ G.T.tab Y KX G.T.g hmg
  exact LamX.law_callTs KX G.T.g G.T.b G.T.builtins G.T.nolimit hg hT nT C G.T.bmain hobj hints (Nat.le_trans hlen hn2) hr hF hb (fun H hH hS => hsp H a ns hlen hbits hH hS) fun H e s' => hCX w H s₁ e s'
end Rg
namespace Rg
open PySem PySem.Spec PyProof.Rows L2
/-! ### x is True, x is not False: bools told by value -/
theorem op_isV {X : Cx} : OpR X (compareOp .Is) (fun x y H Q => ∃ a c, x = .bl a ∧ y = .bl c ∧ Q (.bl (decide (a = c))) H) := by
  intro pins s σ H x y v u Q I rx ry h
  obtain ⟨a, c, rfl, rfl, q⟩ := h
  cases rx
  cases ry
  by_cases e : a = c
  · subst e
    rw [decide_eq_true rfl] at q
    exact wpAny_is_self rfl ⟨.bl true, H, I, rfl, q⟩
  · rw [decide_eq_false e] at q
    exact wpAny_is_other rfl (fun z => e (by injection z)) ⟨.bl false, H, I, rfl, q⟩
theorem op_notV {X : Cx} : OpR X (compareOp .IsNot) (fun x y H Q => ∃ a c, x = .bl a ∧ y = .bl c ∧ Q (.bl (!decide (a = c))) H) := by
  intro pins s σ H x y v u Q I rx ry h
  obtain ⟨a, c, rfl, rfl, q⟩ := h
  cases rx
  cases ry
  by_cases e : a = c
  · subst e
    rw [decide_eq_true rfl] at q
    exact wpAny_isNot_self rfl ⟨.bl false, H, I, rfl, q⟩
  · rw [decide_eq_false e] at q
    exact wpAny_isNot_other rfl (fun z => e (by injection z)) ⟨.bl true, H, I, rfl, q⟩
theorem take_snoc {α : Type} {l : List α} {i : Nat} {c : α} (h : l[i]? = some c) : l.take (i + 1) = l.take i ++ [c] := by
  rw [List.take_succ, h]
  rfl
theorem atN {α : Type} {xs : List α} {z : Int} {j : Nat} {v : α} (e : z = (j : Int)) (h : xs[j]? = some v) : atI xs z = some v := by
  subst e
  exact atI_nat h
theorem S_at {l : List Nat} {i c : Nat} (h : (SX.S l).cps[i]? = some c) : l[i]? = some c := by simpa using h
/-! ### a loop over the signs of a text -/
theorem for_str {x : Str} {g : TG} {tb : TS} {D : Ends} {σ : L2.St} {H : Hp} (Pv : Nat → L2.St → Hp → Prop) (h0 : Pv 0 σ H)
    (hs : ∀ i s σ H, x.cps[i]? = some s → Pv i σ H → g (.str ⟨#[s]⟩) σ H fun σ2 H2 => tb { D with nx := Pv (i + 1), ct := Pv (i + 1), bk := D.nx } σ2 H2) (hd : ∀ σ H, Pv x.cps.size σ H → D.nx σ H) :
    ∃ W : Nat → Nat → L2.St → Hp → Prop, (∃ m, W 0 m σ H) ∧ ∀ i m σ H, W i m σ H →
      ((Its x).stop i H ∧ D.nx σ H) ∨ ((Its x).go i H ∧ ∃ N : L2.St → Hp → Prop, (∀ σ' H', N σ' H' → ∃ m', m' < m ∧ W (i + 1) m' σ' H') ∧ ∀ v H', (Its x).yld i H v H' → g v σ H' fun σ2 H2 => tb { D with nx := N, ct := N, bk := D.nx } σ2 H2) := by
  refine ⟨fun i m σ H => m = x.cps.size - i ∧ i ≤ x.cps.size ∧ Pv i σ H, ⟨x.cps.size, by simp, Nat.zero_le _, h0⟩, ?_⟩
  rintro i m σ H ⟨rfl, hi, p⟩
  by_cases hlt : i < x.cps.size
  · refine .inr ⟨hlt, Pv (i + 1), fun σ' H' p' => ⟨x.cps.size - (i + 1), by omega, rfl, hlt, p'⟩, fun v H' y => ?_⟩
    obtain ⟨rfl, s, e, rfl⟩ := y
    exact hs i s σ _ e p
  · have e : i = x.cps.size := by omega
    subst e
    exact .inl ⟨Nat.le_refl _, hd σ H p⟩
end Rg
namespace Rg
open PySem PySem.Spec PyProof.Rows L2
/-! ### t[lo:hi], the whole of t: t itself -/
section
variable {prog : Program} {w : World} {A : Around} {E : Value → Shared → Prop} {s : Shared}
theorem getItem_tuple_all {t sl : Addr} {items : Array Value} {vl vu : Value} {lo hi : Option Int} {Q : Value → Shared → Prop} (ht : IsTup s.heap t items) (hs : s.heap.IsSliceOf sl vl vu .none) (pl : IsPart vl lo) (pu : IsPart vu hi)
    (hw : HT.sIx items.size 0 lo = 0 ∧ HT.sIx items.size items.size hi = items.size) (h : Q (.ref t) s) : wpAny (model prog w) A (getItem (.ref t) (.ref sl)) Q E s := by
  obtain ⟨os, hos, hcs, hds⟩ := id hs
  have hTs : s.TypeIs (.ref sl) "slice" := ⟨os, hos, hcs⟩
  unfold getItem
  try with_reducible refine wpAny_holding ?_
  first | refine wpAny_bind (wpAny_pure ?_) | skip
  refine wpAny_bind (wpAny_sequenceKey ht.typeIs (by decide) ?_)
  refine wpAny_bind (wpAny_callSpecial?_slot (name := Str.ofString "__getitem__") ht.typeIs PyProof.Rows.slot_tuple_getitem
    (wpAny_call_entry PyProof.Rows.slot_tuple_getitem ht.typeIs entry_tuple_getitem ?_ (args_tuple_getitem _ _)))
  show wpAny _ _ (Builtin.Tuple.tupleItemsOf (.ref t) >>= _) _ _ s
  refine wpAny_bind (tupleItemsOf_ ht ?_)
  refine wpAny_bind (wpAny_typeOf hTs ?_)
  rw [if_pos (by decide)]
  refine wpAny_bind (HT.sliceApplied_gen hs pl pu ?_)
  have hyes : (((HT.sIx items.size 0 lo : Nat) : Int) == 0 && (1 : Int) == 1 && (HT.sIx items.size items.size hi - HT.sIx items.size 0 lo) == items.size) = true := by
    rw [hw.1, hw.2]
    simp
  show wpAny _ _ (if (((HT.sIx items.size 0 lo : Nat) : Int) == 0 && (1 : Int) == 1 && (HT.sIx items.size items.size hi - HT.sIx items.size 0 lo) == items.size) = true then _ else _) _ _ s
  rw [if_pos hyes]
  refine wpAny_bind (m := Builtin.Tuple.tupleIsExact _) ?_
  unfold Builtin.Tuple.tupleIsExact
  refine wpAny_bind (wpAny_typeOf ht.typeIs (wpAny_pure ?_))
  show wpAny _ _ (if ((Value.type "tuple" == Value.type "tuple") = true) then _ else _) _ _ s
  rw [if_pos (by decide)]
  refine wpAny_bind (wpAny_rule (wpAny_pure ?_))
  exact ⟨_, rfl, wpAny_pure h⟩
end
/-- the whole of a tuple, by values -/
def rSlTA (K : PySem.W.Frag) : V → Option Int → Option Int → Hp → VK → Prop := fun x lo hi H Q => ∃ a xs, x = .ref a ∧ SqT K H a xs ∧ HT.sIx xs.length 0 lo = 0 ∧ HT.sIx xs.length xs.length hi = xs.length ∧ Q (.ref a) H
theorem sl_tupA {X : Cx} : SlR X (rSlTA X.K) := by
  intro pins s σ H x v vl vu lo hi sl Q I rx hs pl pu h
  obtain ⟨a, xs, rfl, hx, h1, h2, q⟩ := h
  cases rx
  obtain ⟨its, r, ht, hz⟩ := I.tuple hx
  have hlen : its.toArray.size = xs.length := by rw [List.size_toArray]; exact r.length.symm
  refine ⟨"tuple", _, PyProof.Rows.slot_tuple_getitem.lookup, ht.typeIs, ?_⟩
  exact getItem_tuple_all ht hs pl pu (by rw [hlen]; exact ⟨h1, h2⟩) ⟨.ref a, H, I, rfl, q⟩
theorem ixN_at {n : Nat} {z : Int} {i : Nat} (e : z = i) (h : i < n) : ixN n z = some i := by
  subst e
  exact Evl.ixN_nat h
theorem pe_ixTK {X : Cx} {K : PySem.W.Frag} {a b : Expr} {pos : Pos} {ta tb : TE} (ha : PE X a ta) (hb : PE X b tb) (hs : PlainIx b) (hK : X.K = K := by rfl) : PE X (.Subscript a b pos) (tOp (rIxT K) ta tb) := by
  subst hK
  exact pe_ix ix_tup ha hb hs
theorem op_repTK {X : Cx} {K : PySem.W.Frag} (hK : X.K = K := by rfl) : OpR X (binaryOp .Mult) (rRepT K) := by
  subst hK
  exact op_repT
/-! ### what is kept -/
section
variable {K : PySem.W.Frag} {Ps : List Addr} {H H1 : Hp} {a : Addr} {xs : List V}
theorem sameT (e : Same H H1) (h : SqT K H a xs) : SqT K H1 a xs := by
  rcases h with (h | ⟨o, h⟩) | h
  · exact .inl (.inl (e _ _ h))
  · exact .inl (.inr ⟨o, e _ _ h⟩)
  · exact .inr h
theorem Tk.seqT (k : Tk Ps H H1) (t : Tab Ps H) (h : SqT K H a xs) : SqT K H1 a xs := by
  rcases h with (h | ⟨o, h⟩) | h
  · exact .inl (.inl (k.at t h))
  · exact .inl (.inr ⟨o, k.at t h⟩)
  · exact .inr h
theorem Tk.seqL (k : Tk Ps H H1) (t : Tab Ps H) (h : SqL K H a xs) : SqL K H1 a xs := by
  rcases h with (h | ⟨o, h⟩) | h
  · exact .inl (.inl (k.at t h))
  · exact .inl (.inr ⟨o, k.at t h⟩)
  · exact .inr h
/-- what was new is written again -/
theorem Tk.put {o u : HO} (k : Tk Ps H H1) (h : H a = none) (e : H1 a = some o) (n : ∀ ps, o ≠ .tbl ps := by intro _ z; cases z) : Tk Ps H (upd H1 a u) := ⟨k.tab.upd e n, fun b v eb nb => by
  rw [upd_ne (ne_of_none eb h)]
  exact k.kp b v eb nb⟩
theorem tyT (h : SqT K H a xs) : TyX K H (.ref a) (.type "tuple") := by
  rcases h with (h | ⟨o, h⟩) | ⟨o, its, n, e, c, _⟩
  · exact .base (.tup h)
  · exact .fTuple h
  · exact .kTuple e c
end
/-! ### all, any over zip -/
theorem gx_zipL {K : PySem.W.Frag} {a b : Addr} {xs ys : List V} {c : Bool} {g : TG} {tt : TT} {te : TE} {vs : List Nat} {σ : L2.St} {Q : VK} {H2 : Hp} (hl : ys.length ≤ xs.length) (Pv : Nat → Hp → Prop) (h0 : Pv 0 H2) (hq : ∀ i H, Pv i H → SqL K H a xs ∧ SqL K H b ys)
    (hs : ∀ i x y T H, xs[i]? = some x → ys[i]? = some y → Pv i H → H T = none → g (.ref T) (wipe σ vs) (upd H T (.tup [x, y])) fun σ2 H2 => wipe σ2 vs = wipe σ vs ∧ tt σ2 H2 fun b H3 => if b = true then te σ2 H3 fun y H4 => ∃ k, y = .bl k ∧ if k = c then Pv (i + 1) H4 else Q (.bl (!c)) H4 else Pv (i + 1) H3)
    (hd : ∀ H, Pv ys.length H → Q (.bl c) H) : ∃ W : Nat → Nat → Hp → Prop, (∃ m, W 0 m H2) ∧ GxL.GTurn c (Itz K a b) g tt te vs σ Q W := by
  refine gx_by ys.length Pv h0 (fun i H hi p => ?_) (fun H p => ⟨xs, ys, (hq _ H p).1, (hq _ H p).2, .inr (Nat.le_refl _)⟩) (fun i x H H' hi p y => ?_) hd
  · exact ⟨xs, ys, xs[i], ys[i], (hq i H p).1, (hq i H p).2, List.getElem?_eq_getElem (by omega), List.getElem?_eq_getElem hi⟩
  · obtain ⟨T, x', y', rfl, hT, rfl, f1, f2⟩ := y
    exact hs i x' y' T H (f1 xs (hq i H p).1) (f2 ys (hq i H p).2) p hT
theorem gx_zipT {K : PySem.W.Frag} {a b : Addr} {xs ys : List V} {c : Bool} {g : TG} {tt : TT} {te : TE} {vs : List Nat} {σ : L2.St} {Q : VK} {H2 : Hp} (hl : ys.length ≤ xs.length) (Pv : Nat → Hp → Prop) (h0 : Pv 0 H2) (hq : ∀ i H, Pv i H → SqT K H a xs ∧ SqT K H b ys)
    (hs : ∀ i x y T H, xs[i]? = some x → ys[i]? = some y → Pv i H → H T = none → g (.ref T) (wipe σ vs) (upd H T (.tup [x, y])) fun σ2 H2 => wipe σ2 vs = wipe σ vs ∧ tt σ2 H2 fun b H3 => if b = true then te σ2 H3 fun y H4 => ∃ k, y = .bl k ∧ if k = c then Pv (i + 1) H4 else Q (.bl (!c)) H4 else Pv (i + 1) H3)
    (hd : ∀ H, Pv ys.length H → Q (.bl c) H) : ∃ W : Nat → Nat → Hp → Prop, (∃ m, W 0 m H2) ∧ GxL.GTurn c (RZ.ItzT K a b) g tt te vs σ Q W := by
  refine gx_by ys.length Pv h0 (fun i H hi p => ?_) (fun H p => ⟨xs, ys, (hq _ H p).1, (hq _ H p).2, .inr (Nat.le_refl _)⟩) (fun i x H H' hi p y => ?_) hd
  · exact ⟨xs, ys, xs[i], ys[i], (hq i H p).1, (hq i H p).2, List.getElem?_eq_getElem (by omega), List.getElem?_eq_getElem hi⟩
  · obtain ⟨T, x', y', rfl, hT, rfl, f1, f2⟩ := y
    exact hs i x' y' T H (f1 xs (hq i H p).1) (f2 ys (hq i H p).2) p hT
end Rg
namespace K78
open PySem PySem.Spec PyProof.Rows L2 Rg
def top (i : Nat) : Stmt := PySem.Challenge.pw_lotsandties_k78_images_of_cells.main.body.getD i (.Pass ⟨0, 0, 0, 0⟩)
abbrev s_Lfeed : Stmt := top 32
abbrev s_Lpick : Stmt := top 33
abbrev s_Lsame : Stmt := top 34
abbrev s_Lstate : Stmt := top 35
abbrev s_Lall : Stmt := top 36
abbrev s_Lcopy : Stmt := top 37
abbrev s_Lkind : Stmt := top 38
abbrev s_Lrows : Stmt := top 39
abbrev s_Lof_cells : Stmt := top 40
abbrev s_Lfresh : Stmt := top 41
abbrev s_Lplan_alone : Stmt := top 42
abbrev s_Llists : Stmt := top 43
abbrev s_Ltold_good : Stmt := top 44
abbrev s_Ltake : Stmt := top 45
abbrev s_Ldue_take : Stmt := top 46
abbrev s_Lgive : Stmt := top 47
abbrev s_Lput : Stmt := top 48
abbrev s_Ldeed_good : Stmt := top 49
abbrev s_law : Stmt := top 50
abbrev s_Plan___init__ : Stmt := inClass (top 28) 6
abbrev s_Plan_map_place : Stmt := inClass (top 28) 9
abbrev s_Plan_node_block : Stmt := inClass (top 28) 10
abbrev s_Plan_data_blocks : Stmt := inClass (top 28) 11
abbrev s_Image___init__ : Stmt := inClass (top 30) 0
abbrev s_Image_begin : Stmt := inClass (top 30) 3
abbrev s_Image_settle : Stmt := inClass (top 30) 4
abbrev s_Image_twin : Stmt := inClass (top 30) 5
abbrev s_Image_take : Stmt := inClass (top 30) 6
abbrev s_Image_give : Stmt := inClass (top 30) 7
abbrev s_Image__put_block : Stmt := inClass (top 30) 8
abbrev s_Image_free_blocks : Stmt := inClass (top 30) 9
abbrev s_Image_kind : Stmt := inClass (top 30) 10
abbrev s_Image_identity : Stmt := inClass (top 30) 11
abbrev s_Image_fresh : Stmt := inClass (top 30) 1
abbrev s_Image_of_cells : Stmt := inClass (top 30) 2
theorem sc_Lfeed : FnScope ["_law_script", "_law_feed_here", "_law_cell", "_law_rest", "_law_k"] ["_law_script"] (defScope s_Lfeed) := ⟨rfl, rfl, rfl, by decide +kernel, rfl, by decide +kernel, by decide +kernel⟩
theorem sc_Lpick : FnScope ["_law_feed_here", "_law_limit"] ["_law_feed_here", "_law_limit"] (defScope s_Lpick) := ⟨rfl, rfl, rfl, by decide +kernel, rfl, by decide +kernel, by decide +kernel⟩
theorem sc_Lsame : FnScope ["_law_actual", "_law_due", "_law_k"] ["_law_actual", "_law_due"] (defScope s_Lsame) := ⟨rfl, rfl, rfl, by decide +kernel, rfl, by decide +kernel, by decide +kernel⟩
theorem sc_Lstate : FnScope ["_law_image", "_law_handles", "_law_n", "_law_row"] ["_law_image"] (defScope s_Lstate) := ⟨rfl, rfl, rfl, by decide +kernel, rfl, by decide +kernel, by decide +kernel⟩
theorem sc_Lall : FnScope ["_law_image"] ["_law_image"] (defScope s_Lall) := ⟨rfl, rfl, rfl, by decide +kernel, rfl, by decide +kernel, by decide +kernel⟩
theorem sc_Lcopy : FnScope ["_law_model", "_law_cells", "_law_holdings", "_law_stamps", "_law_handles", "_law_row"] ["_law_model"] (defScope s_Lcopy) := ⟨rfl, rfl, rfl, by decide +kernel, rfl, by decide +kernel, by decide +kernel⟩
theorem sc_Lkind : FnScope ["_law_cells", "_law_first", "_law_x", "_law_told"] ["_law_cells", "_law_first", "_law_x"] (defScope s_Lkind) := ⟨rfl, rfl, rfl, by decide +kernel, rfl, by decide +kernel, by decide +kernel⟩
theorem sc_Lrows : FnScope ["_law_feed_here", "_law_blocks", "_law_maps", "_law_seed", "_law_rows_here", "_law_x", "_law_j", "_law_u", "_law_k", "_law_code", "_law_row", "_law_number"] ["_law_feed_here", "_law_blocks", "_law_maps"] (defScope s_Lrows) := ⟨rfl, rfl, rfl, by decide +kernel, rfl, by decide +kernel, by decide +kernel⟩
theorem sc_Lof_cells : FnScope ["_law_rows_here", "_law_first", "_law_sizes", "_law_cells", "_law_row", "_law_held", "_law_x"] ["_law_rows_here", "_law_first", "_law_sizes"] (defScope s_Lof_cells) := ⟨rfl, rfl, rfl, by decide +kernel, rfl, by decide +kernel, by decide +kernel⟩
theorem sc_Lfresh : FnScope ["_law_blocks", "_law_maps", "_law_first", "_law_sizes", "_law_rows_here", "_law_x", "_law_row"] ["_law_blocks", "_law_maps", "_law_first", "_law_sizes"] (defScope s_Lfresh) := ⟨rfl, rfl, rfl, by decide +kernel, rfl, by decide +kernel, by decide +kernel⟩
theorem sc_Lplan_alone : FnScope ["_law_blocks", "_law_sizes", "_law_zeros", "_law_x", "_law_rows_here"] ["_law_blocks", "_law_sizes"] (defScope s_Lplan_alone) := ⟨rfl, rfl, rfl, by decide +kernel, rfl, by decide +kernel, by decide +kernel⟩
theorem sc_Llists : FnScope ["_law_image", "_law_others", "_law_row"] ["_law_image"] (defScope s_Llists) := ⟨rfl, rfl, rfl, by decide +kernel, rfl, by decide +kernel, by decide +kernel⟩
theorem sc_Ltold_good : FnScope ["_law_image", "_law_model", "_law_first", "_law_blocks", "_law_x", "_law_free", "_law_told"] ["_law_image", "_law_model", "_law_first"] (defScope s_Ltold_good) := ⟨rfl, rfl, rfl, by decide +kernel, rfl, by decide +kernel, by decide +kernel⟩
theorem sc_Ltake : FnScope ["_law_image", "_law_kind_here", "_law_owner"] ["_law_image", "_law_kind_here", "_law_owner"] (defScope s_Ltake) := ⟨rfl, rfl, rfl, by decide +kernel, rfl, by decide +kernel, by decide +kernel⟩
theorem sc_Ldue_take : FnScope ["_law_model", "_law_first", "_law_kind_here", "_law_owner", "_law_cells", "_law_holdings", "_law_stamps", "_law_sums", "_law_free", "_law_x", "_law_let", "_law_y", "_law_row"] ["_law_model", "_law_first", "_law_kind_here", "_law_owner"] (defScope s_Ldue_take) := ⟨rfl, rfl, rfl, by decide +kernel, rfl, by decide +kernel, by decide +kernel⟩
theorem sc_Lgive : FnScope ["_law_image", "_law_model", "_law_first", "_law_owner", "_law_where", "_law_cells", "_law_holdings", "_law_stamps", "_law_held", "_law_x", "_law_sums", "_law_told", "_law_row"] ["_law_image", "_law_model", "_law_first", "_law_owner", "_law_where"] (defScope s_Lgive) := ⟨rfl, rfl, rfl, by decide +kernel, rfl, by decide +kernel, by decide +kernel⟩
theorem sc_Lput : FnScope ["_law_image", "_law_model", "_law_before", "_law_maps", "_law_first", "_law_draw", "_law_act", "_law_where", "_law_number", "_law_cells", "_law_held", "_law_x", "_law_row", "_law_due", "_law_j"] ["_law_image", "_law_model", "_law_before", "_law_maps", "_law_first", "_law_draw"] (defScope s_Lput) := ⟨rfl, rfl, rfl, by decide +kernel, rfl, by decide +kernel, by decide +kernel⟩
theorem sc_Ldeed_good : FnScope ["_law_image", "_law_model", "_law_maps", "_law_first", "_law_draw", "_law_wished", "_law_closed", "_law_handle", "_law_steps", "_law_after", "_law_before", "_law_code", "_law_number", "_law_act", "_law_owner", "_law_opened", "_law_pair", "_law_x", "_law_stamps"] ["_law_image", "_law_model", "_law_maps", "_law_first", "_law_draw"] (defScope s_Ldeed_good) := ⟨rfl, rfl, rfl, by decide +kernel, rfl, by decide +kernel, by decide +kernel⟩
theorem sc_law : FnScope ["_law_script", "_law_feed_here", "_law_blocks", "_law_maps", "_law_many", "_law_sizes", "_law_first", "_law_draws", "_law_k", "_law_shape", "_law_closed", "_law_wished", "_law_steps", "_law_j", "_law_rows_here", "_law_kept", "_law_row", "_law_plan", "_law_image", "_law_model", "_law_mixed", "_law_x", "_law_other", "_law_spoilt", "_law_draw", "_law_fresh_here"] ["_law_script"] (defScope s_law) := ⟨rfl, rfl, rfl, by decide +kernel, rfl, by decide +kernel, by decide +kernel⟩
theorem sc_Plan___init__ : FnScope ["self", "blocks", "nodes", "slots"] ["self", "blocks", "nodes", "slots"] (defScope s_Plan___init__) := ⟨rfl, rfl, rfl, by decide +kernel, rfl, by decide +kernel, by decide +kernel⟩
theorem sc_Plan_map_place : FnScope ["self", "x"] ["self", "x"] (defScope s_Plan_map_place) := ⟨rfl, rfl, rfl, by decide +kernel, rfl, by decide +kernel, by decide +kernel⟩
theorem sc_Plan_node_block : FnScope ["self", "n"] ["self", "n"] (defScope s_Plan_node_block) := ⟨rfl, rfl, rfl, by decide +kernel, rfl, by decide +kernel, by decide +kernel⟩
theorem sc_Plan_data_blocks : FnScope ["self"] ["self"] (defScope s_Plan_data_blocks) := ⟨rfl, rfl, rfl, by decide +kernel, rfl, by decide +kernel, by decide +kernel⟩
theorem sc_Image___init__ : FnScope ["self", "plan", "_"] ["self", "plan"] (defScope s_Image___init__) := ⟨rfl, rfl, rfl, by decide +kernel, rfl, by decide +kernel, by decide +kernel⟩
theorem sc_Image_begin : FnScope ["self", "wish", "barred"] ["self", "wish", "barred"] (defScope s_Image_begin) := ⟨rfl, rfl, rfl, by decide +kernel, rfl, by decide +kernel, by decide +kernel⟩
theorem sc_Image_settle : FnScope ["self", "before", "x", "changed"] ["self", "before"] (defScope s_Image_settle) := ⟨rfl, rfl, rfl, by decide +kernel, rfl, by decide +kernel, by decide +kernel⟩
theorem sc_Image_twin : FnScope ["self", "other", "row"] ["self"] (defScope s_Image_twin) := ⟨rfl, rfl, rfl, by decide +kernel, rfl, by decide +kernel, by decide +kernel⟩
theorem sc_Image_take : FnScope ["self", "kind", "owner", "sums", "limit", "free", "x", "wished"] ["self", "kind", "owner"] (defScope s_Image_take) := ⟨rfl, rfl, rfl, by decide +kernel, rfl, by decide +kernel, by decide +kernel⟩
theorem sc_Image_give : FnScope ["self", "x", "owner"] ["self", "x", "owner"] (defScope s_Image_give) := ⟨rfl, rfl, rfl, by decide +kernel, rfl, by decide +kernel, by decide +kernel⟩
theorem sc_Image__put_block : FnScope ["self", "x", "kind", "serial", "block", "cell"] ["self", "x", "kind", "serial"] (defScope s_Image__put_block) := ⟨rfl, rfl, rfl, by decide +kernel, rfl, by decide +kernel, by decide +kernel⟩
theorem sc_Image_free_blocks : FnScope ["self", "x"] ["self"] (defScope s_Image_free_blocks) := ⟨rfl, rfl, rfl, by decide +kernel, rfl, by decide +kernel, by decide +kernel⟩
theorem sc_Image_kind : FnScope ["self", "x", "block", "cell", "kind"] ["self", "x"] (defScope s_Image_kind) := ⟨rfl, rfl, rfl, by decide +kernel, rfl, by decide +kernel, by decide +kernel⟩
theorem sc_Image_identity : FnScope ["self", "x"] ["self", "x"] (defScope s_Image_identity) := ⟨rfl, rfl, rfl, by decide +kernel, rfl, by decide +kernel, by decide +kernel⟩
theorem sc_Image_fresh : FnScope ["plan", "image", "x", "block", "cell", "root"] ["plan"] (defScope s_Image_fresh) := ⟨rfl, rfl, rfl, by decide +kernel, rfl, by decide +kernel, by decide +kernel⟩
theorem sc_Image_of_cells : FnScope ["plan", "rows", "image", "row", "x"] ["plan", "rows"] (defScope s_Image_of_cells) := ⟨rfl, rfl, rfl, by decide +kernel, rfl, by decide +kernel, by decide +kernel⟩

structure Tx (K : PySem.W.Frag) (mg : Str → Option Value) where
  f_Lfeed : Addr
  fd_Lfeed : FuncData
  F_Lfeed : Fun K "_law_feed" "_law_feed" s_Lfeed f_Lfeed fd_Lfeed
  mg_Lfeed : mg "_law_feed" = some (.ref f_Lfeed)
  f_Lpick : Addr
  fd_Lpick : FuncData
  F_Lpick : Fun K "_law_pick" "_law_pick" s_Lpick f_Lpick fd_Lpick
  mg_Lpick : mg "_law_pick" = some (.ref f_Lpick)
  f_Lsame : Addr
  fd_Lsame : FuncData
  F_Lsame : Fun K "_law_same" "_law_same" s_Lsame f_Lsame fd_Lsame
  mg_Lsame : mg "_law_same" = some (.ref f_Lsame)
  f_Lstate : Addr
  fd_Lstate : FuncData
  F_Lstate : Fun K "_law_state" "_law_state" s_Lstate f_Lstate fd_Lstate
  mg_Lstate : mg "_law_state" = some (.ref f_Lstate)
  f_Lall : Addr
  fd_Lall : FuncData
  F_Lall : Fun K "_law_all" "_law_all" s_Lall f_Lall fd_Lall
  mg_Lall : mg "_law_all" = some (.ref f_Lall)
  f_Lcopy : Addr
  fd_Lcopy : FuncData
  F_Lcopy : Fun K "_law_copy" "_law_copy" s_Lcopy f_Lcopy fd_Lcopy
  mg_Lcopy : mg "_law_copy" = some (.ref f_Lcopy)
  f_Lkind : Addr
  fd_Lkind : FuncData
  F_Lkind : Fun K "_law_kind" "_law_kind" s_Lkind f_Lkind fd_Lkind
  mg_Lkind : mg "_law_kind" = some (.ref f_Lkind)
  f_Lrows : Addr
  fd_Lrows : FuncData
  F_Lrows : Fun K "_law_rows" "_law_rows" s_Lrows f_Lrows fd_Lrows
  mg_Lrows : mg "_law_rows" = some (.ref f_Lrows)
  f_Lof_cells : Addr
  fd_Lof_cells : FuncData
  F_Lof_cells : Fun K "_law_of_cells" "_law_of_cells" s_Lof_cells f_Lof_cells fd_Lof_cells
  mg_Lof_cells : mg "_law_of_cells" = some (.ref f_Lof_cells)
  f_Lfresh : Addr
  fd_Lfresh : FuncData
  F_Lfresh : Fun K "_law_fresh" "_law_fresh" s_Lfresh f_Lfresh fd_Lfresh
  mg_Lfresh : mg "_law_fresh" = some (.ref f_Lfresh)
  f_Lplan_alone : Addr
  fd_Lplan_alone : FuncData
  F_Lplan_alone : Fun K "_law_plan_alone" "_law_plan_alone" s_Lplan_alone f_Lplan_alone fd_Lplan_alone
  mg_Lplan_alone : mg "_law_plan_alone" = some (.ref f_Lplan_alone)
  f_Llists : Addr
  fd_Llists : FuncData
  F_Llists : Fun K "_law_lists" "_law_lists" s_Llists f_Llists fd_Llists
  mg_Llists : mg "_law_lists" = some (.ref f_Llists)
  f_Ltold_good : Addr
  fd_Ltold_good : FuncData
  F_Ltold_good : Fun K "_law_told_good" "_law_told_good" s_Ltold_good f_Ltold_good fd_Ltold_good
  mg_Ltold_good : mg "_law_told_good" = some (.ref f_Ltold_good)
  f_Ltake : Addr
  fd_Ltake : FuncData
  F_Ltake : Fun K "_law_take" "_law_take" s_Ltake f_Ltake fd_Ltake
  mg_Ltake : mg "_law_take" = some (.ref f_Ltake)
  f_Ldue_take : Addr
  fd_Ldue_take : FuncData
  F_Ldue_take : Fun K "_law_due_take" "_law_due_take" s_Ldue_take f_Ldue_take fd_Ldue_take
  mg_Ldue_take : mg "_law_due_take" = some (.ref f_Ldue_take)
  f_Lgive : Addr
  fd_Lgive : FuncData
  F_Lgive : Fun K "_law_give" "_law_give" s_Lgive f_Lgive fd_Lgive
  mg_Lgive : mg "_law_give" = some (.ref f_Lgive)
  f_Lput : Addr
  fd_Lput : FuncData
  F_Lput : Fun K "_law_put" "_law_put" s_Lput f_Lput fd_Lput
  mg_Lput : mg "_law_put" = some (.ref f_Lput)
  f_Ldeed_good : Addr
  fd_Ldeed_good : FuncData
  F_Ldeed_good : Fun K "_law_deed_good" "_law_deed_good" s_Ldeed_good f_Ldeed_good fd_Ldeed_good
  mg_Ldeed_good : mg "_law_deed_good" = some (.ref f_Ldeed_good)
  f_law : Addr
  fd_law : FuncData
  F_law : Fun K "law" "law" s_law f_law fd_law
  mg_law : mg "law" = some (.ref f_law)
  f_Plan___init__ : Addr
  fd_Plan___init__ : FuncData
  F_Plan___init__ : Fun K "__init__" "Plan.__init__" s_Plan___init__ f_Plan___init__ fd_Plan___init__
  f_Plan_map_place : Addr
  fd_Plan_map_place : FuncData
  F_Plan_map_place : Fun K "map_place" "Plan.map_place" s_Plan_map_place f_Plan_map_place fd_Plan_map_place
  f_Plan_node_block : Addr
  fd_Plan_node_block : FuncData
  F_Plan_node_block : Fun K "node_block" "Plan.node_block" s_Plan_node_block f_Plan_node_block fd_Plan_node_block
  f_Plan_data_blocks : Addr
  fd_Plan_data_blocks : FuncData
  F_Plan_data_blocks : Fun K "data_blocks" "Plan.data_blocks" s_Plan_data_blocks f_Plan_data_blocks fd_Plan_data_blocks
  f_Image___init__ : Addr
  fd_Image___init__ : FuncData
  F_Image___init__ : Fun K "__init__" "Image.__init__" s_Image___init__ f_Image___init__ fd_Image___init__
  f_Image_begin : Addr
  fd_Image_begin : FuncData
  F_Image_begin : Fun K "begin" "Image.begin" s_Image_begin f_Image_begin fd_Image_begin
  f_Image_settle : Addr
  fd_Image_settle : FuncData
  F_Image_settle : Fun K "settle" "Image.settle" s_Image_settle f_Image_settle fd_Image_settle
  f_Image_twin : Addr
  fd_Image_twin : FuncData
  F_Image_twin : Fun K "twin" "Image.twin" s_Image_twin f_Image_twin fd_Image_twin
  f_Image_take : Addr
  fd_Image_take : FuncData
  F_Image_take : Fun K "take" "Image.take" s_Image_take f_Image_take fd_Image_take
  f_Image_give : Addr
  fd_Image_give : FuncData
  F_Image_give : Fun K "give" "Image.give" s_Image_give f_Image_give fd_Image_give
  f_Image__put_block : Addr
  fd_Image__put_block : FuncData
  F_Image__put_block : Fun K "_put_block" "Image._put_block" s_Image__put_block f_Image__put_block fd_Image__put_block
  f_Image_free_blocks : Addr
  fd_Image_free_blocks : FuncData
  F_Image_free_blocks : Fun K "free_blocks" "Image.free_blocks" s_Image_free_blocks f_Image_free_blocks fd_Image_free_blocks
  f_Image_kind : Addr
  fd_Image_kind : FuncData
  F_Image_kind : Fun K "kind" "Image.kind" s_Image_kind f_Image_kind fd_Image_kind
  f_Image_identity : Addr
  fd_Image_identity : FuncData
  F_Image_identity : Fun K "identity" "Image.identity" s_Image_identity f_Image_identity fd_Image_identity
  f_Image_fresh : Addr
  fd_Image_fresh : FuncData
  F_Image_fresh : Fun K "fresh" "Image.fresh" s_Image_fresh f_Image_fresh fd_Image_fresh
  f_Image_of_cells : Addr
  fd_Image_of_cells : FuncData
  F_Image_of_cells : Fun K "of_cells" "Image.of_cells" s_Image_of_cells f_Image_of_cells fd_Image_of_cells
  C_Plan : Addr
  mg_Plan : mg "Plan" = some (.ref C_Plan)
  cl_Plan : Cls K C_Plan
  na_Plan_blocks : NoAttr K C_Plan "blocks"
  na_Plan_nodes : NoAttr K C_Plan "nodes"
  na_Plan_slots : NoAttr K C_Plan "slots"
  na_Plan_maps : NoAttr K C_Plan "maps"
  na_Plan_first_node : NoAttr K C_Plan "first_node"
  na_Plan_first_data : NoAttr K C_Plan "first_data"
  mk_Plan : Mk K C_Plan f_Plan___init__
  mc_Plan : Value
  cr_Plan : ClX.CRead K C_Plan mc_Plan
  cv_Plan_WIDTH : ∃ u, ClX.CVal K C_Plan mc_Plan "WIDTH" (.int 8) u
  cv_Plan_OWNERS : ∃ u, ClX.CVal K C_Plan mc_Plan "OWNERS" (.int 4) u
  cv_Plan_FREE : ∃ u, ClX.CVal K C_Plan mc_Plan "FREE" (.int 0) u
  cv_Plan_LOGGED : ∃ u, ClX.CVal K C_Plan mc_Plan "LOGGED" (.int 1) u
  cv_Plan_PLAIN : ∃ u, ClX.CVal K C_Plan mc_Plan "PLAIN" (.int 2) u
  con_Plan_WIDTH : ∃ u, Con K C_Plan "WIDTH" (.int 8) u
  C_Image : Addr
  mg_Image : mg "Image" = some (.ref C_Image)
  cl_Image : Cls K C_Image
  na_Image_plan : NoAttr K C_Image "plan"
  na_Image_cells : NoAttr K C_Image "cells"
  na_Image_holdings : NoAttr K C_Image "holdings"
  na_Image_stamps : NoAttr K C_Image "stamps"
  na_Image_handles : NoAttr K C_Image "handles"
  na_Image_serial : NoAttr K C_Image "serial"
  na_Image_wish : NoAttr K C_Image "wish"
  na_Image_barred : NoAttr K C_Image "barred"
  mk_Image : Mk K C_Image f_Image___init__
  mc_Image : Value
  cr_Image : ClX.CRead K C_Image mc_Image
  m_Plan_map_place : Meth K C_Plan "map_place" f_Plan_map_place
  m_Plan_node_block : Meth K C_Plan "node_block" f_Plan_node_block
  m_Plan_data_blocks : Meth K C_Plan "data_blocks" f_Plan_data_blocks
  m_Image_begin : Meth K C_Image "begin" f_Image_begin
  m_Image_settle : Meth K C_Image "settle" f_Image_settle
  m_Image_twin : Meth K C_Image "twin" f_Image_twin
  m_Image_take : Meth K C_Image "take" f_Image_take
  m_Image_give : Meth K C_Image "give" f_Image_give
  m_Image__put_block : Meth K C_Image "_put_block" f_Image__put_block
  m_Image_free_blocks : Meth K C_Image "free_blocks" f_Image_free_blocks
  m_Image_kind : Meth K C_Image "kind" f_Image_kind
  m_Image_identity : Meth K C_Image "identity" f_Image_identity
  sm_Image_fresh : SMet K C_Image mc_Image "fresh" f_Image_fresh
  sm_Image_of_cells : SMet K C_Image mc_Image "of_cells" f_Image_of_cells
  C_BlocksFull : Addr
  mg_BlocksFull : mg "BlocksFull" = some (.ref C_BlocksFull)
  be_BlocksFull : PySem.W.subIn K (.ref C_BlocksFull) (.type "BaseException") = some true
  te_BlocksFull : PySem.W.typeIn K (.ref C_BlocksFull) = some (.type "type")
  ie_BlocksFull : PySem.W.isClsIn K C_BlocksFull = true
  xe_BlocksFull : PySem.W.excIn K C_BlocksFull [.type "ValueError", .type "Exception", .type "BaseException", .type "object"] "ValueError.__new__" = true
  ke_BlocksFull : PySem.W.keepIn K (.ref C_BlocksFull) = true
  ec_BlocksFull : ExcC K C_BlocksFull
  C_OverQuota : Addr
  mg_OverQuota : mg "OverQuota" = some (.ref C_OverQuota)
  be_OverQuota : PySem.W.subIn K (.ref C_OverQuota) (.type "BaseException") = some true
  te_OverQuota : PySem.W.typeIn K (.ref C_OverQuota) = some (.type "type")
  ie_OverQuota : PySem.W.isClsIn K C_OverQuota = true
  xe_OverQuota : PySem.W.excIn K C_OverQuota [.type "ValueError", .type "Exception", .type "BaseException", .type "object"] "ValueError.__new__" = true
  ke_OverQuota : PySem.W.keepIn K (.ref C_OverQuota) = true
  ec_OverQuota : ExcC K C_OverQuota
  sub_BlocksFull_BlocksFull : PySem.W.subIn K (.ref C_BlocksFull) (.ref C_BlocksFull) = some true
  sub_BlocksFull_OverQuota : PySem.W.subIn K (.ref C_BlocksFull) (.ref C_OverQuota) = some false
  sub_OverQuota_BlocksFull : PySem.W.subIn K (.ref C_OverQuota) (.ref C_BlocksFull) = some false
  sub_OverQuota_OverQuota : PySem.W.subIn K (.ref C_OverQuota) (.ref C_OverQuota) = some true
  c_SUMS_BLOCK : ∃ t, mg "SUMS_BLOCK" = some (.int 0 t)
  c_ROOT : ∃ t, mg "ROOT" = some (.int 1 t)
  c_KIND : ∃ t, mg "KIND" = some (.int 0 t)
  c_LINKS : ∃ t, mg "LINKS" = some (.int 1 t)
  c_MAKING : ∃ t, mg "MAKING" = some (.int 7 t)
  c_FOLDER : ∃ t, mg "FOLDER" = some (.int 2 t)
  c_LEAST_BLOCKS : ∃ t, mg "LEAST_BLOCKS" = some (.int 8 t)
  c_MOST_BLOCKS : ∃ t, mg "MOST_BLOCKS" = some (.int 64 t)
  c_LEAST_NODES : ∃ t, mg "LEAST_NODES" = some (.int 2 t)
  c_MOST_NODES : ∃ t, mg "MOST_NODES" = some (.int 16 t)
  c_MOST_SLOTS : ∃ t, mg "MOST_SLOTS" = some (.int 200 t)
  c_LEAST_DATA : ∃ t, mg "LEAST_DATA" = some (.int 2 t)
  c_FIRST_MAP : ∃ t, mg "FIRST_MAP" = some (.int 2 t)
  b_abs : mg "abs" = none
  b_bool : mg "bool" = none
  b_dict : mg "dict" = none
  b_int : mg "int" = none
  b_isinstance : mg "isinstance" = none
  b_len : mg "len" = none
  b_list : mg "list" = none
  b_min : mg "min" = none
  b_range : mg "range" = none
  b_sorted : mg "sorted" = none
  b_str : mg "str" = none
  b_tuple : mg "tuple" = none

section
variable {P : Program} {w : World} {K : PySem.W.Frag} {mg : Str → Option Value} {base : Heap}
theorem b_Lfeed (T : Tx K mg) : Binds K T.fd_Lfeed ["_law_script"] [] := T.F_Lfeed.binds (ps := ["_law_script"]) fun _ _ _ _ _ _ us hl => match us, hl with | [_], _ => rfl
theorem b_Lpick (T : Tx K mg) : Binds K T.fd_Lpick ["_law_feed_here", "_law_limit"] [] := T.F_Lpick.binds (ps := ["_law_feed_here", "_law_limit"]) fun _ _ _ _ _ _ us hl => match us, hl with | [_, _], _ => rfl
theorem b_Lsame (T : Tx K mg) : Binds K T.fd_Lsame ["_law_actual", "_law_due"] [] := T.F_Lsame.binds (ps := ["_law_actual", "_law_due"]) fun _ _ _ _ _ _ us hl => match us, hl with | [_, _], _ => rfl
theorem b_Lstate (T : Tx K mg) : Binds K T.fd_Lstate ["_law_image"] [] := T.F_Lstate.binds (ps := ["_law_image"]) fun _ _ _ _ _ _ us hl => match us, hl with | [_], _ => rfl
theorem b_Lall (T : Tx K mg) : Binds K T.fd_Lall ["_law_image"] [] := T.F_Lall.binds (ps := ["_law_image"]) fun _ _ _ _ _ _ us hl => match us, hl with | [_], _ => rfl
theorem b_Lcopy (T : Tx K mg) : Binds K T.fd_Lcopy ["_law_model"] [] := T.F_Lcopy.binds (ps := ["_law_model"]) fun _ _ _ _ _ _ us hl => match us, hl with | [_], _ => rfl
theorem b_Lkind (T : Tx K mg) : Binds K T.fd_Lkind ["_law_cells", "_law_first", "_law_x"] [] := T.F_Lkind.binds (ps := ["_law_cells", "_law_first", "_law_x"]) fun _ _ _ _ _ _ us hl => match us, hl with | [_, _, _], _ => rfl
theorem b_Lrows (T : Tx K mg) : Binds K T.fd_Lrows ["_law_feed_here", "_law_blocks", "_law_maps"] [] := T.F_Lrows.binds (ps := ["_law_feed_here", "_law_blocks", "_law_maps"]) fun _ _ _ _ _ _ us hl => match us, hl with | [_, _, _], _ => rfl
theorem b_Lof_cells (T : Tx K mg) : Binds K T.fd_Lof_cells ["_law_rows_here", "_law_first", "_law_sizes"] [] := T.F_Lof_cells.binds (ps := ["_law_rows_here", "_law_first", "_law_sizes"]) fun _ _ _ _ _ _ us hl => match us, hl with | [_, _, _], _ => rfl
theorem b_Lfresh (T : Tx K mg) : Binds K T.fd_Lfresh ["_law_blocks", "_law_maps", "_law_first", "_law_sizes"] [] := T.F_Lfresh.binds (ps := ["_law_blocks", "_law_maps", "_law_first", "_law_sizes"]) fun _ _ _ _ _ _ us hl => match us, hl with | [_, _, _, _], _ => rfl
theorem b_Lplan_alone (T : Tx K mg) : Binds K T.fd_Lplan_alone ["_law_blocks", "_law_sizes"] [] := T.F_Lplan_alone.binds (ps := ["_law_blocks", "_law_sizes"]) fun _ _ _ _ _ _ us hl => match us, hl with | [_, _], _ => rfl
theorem b_Llists (T : Tx K mg) : Binds K T.fd_Llists ["_law_image"] [] := T.F_Llists.binds (ps := ["_law_image"]) fun _ _ _ _ _ _ us hl => match us, hl with | [_], _ => rfl
theorem b_Ltold_good (T : Tx K mg) : Binds K T.fd_Ltold_good ["_law_image", "_law_model", "_law_first"] [] := T.F_Ltold_good.binds (ps := ["_law_image", "_law_model", "_law_first"]) fun _ _ _ _ _ _ us hl => match us, hl with | [_, _, _], _ => rfl
theorem b_Ltake (T : Tx K mg) : Binds K T.fd_Ltake ["_law_image", "_law_kind_here", "_law_owner"] [] := T.F_Ltake.binds (ps := ["_law_image", "_law_kind_here", "_law_owner"]) fun _ _ _ _ _ _ us hl => match us, hl with | [_, _, _], _ => rfl
theorem b_Ldue_take (T : Tx K mg) : Binds K T.fd_Ldue_take ["_law_model", "_law_first", "_law_kind_here", "_law_owner"] [] := T.F_Ldue_take.binds (ps := ["_law_model", "_law_first", "_law_kind_here", "_law_owner"]) fun _ _ _ _ _ _ us hl => match us, hl with | [_, _, _, _], _ => rfl
theorem b_Lgive (T : Tx K mg) : Binds K T.fd_Lgive ["_law_image", "_law_model", "_law_first", "_law_owner", "_law_where"] [] := T.F_Lgive.binds (ps := ["_law_image", "_law_model", "_law_first", "_law_owner", "_law_where"]) fun _ _ _ _ _ _ us hl => match us, hl with | [_, _, _, _, _], _ => rfl
theorem b_Lput (T : Tx K mg) : Binds K T.fd_Lput ["_law_image", "_law_model", "_law_before", "_law_maps", "_law_first", "_law_draw"] [] := T.F_Lput.binds (ps := ["_law_image", "_law_model", "_law_before", "_law_maps", "_law_first", "_law_draw"]) fun _ _ _ _ _ _ us hl => match us, hl with | [_, _, _, _, _, _], _ => rfl
theorem b_Ldeed_good (T : Tx K mg) : Binds K T.fd_Ldeed_good ["_law_image", "_law_model", "_law_maps", "_law_first", "_law_draw"] [] := T.F_Ldeed_good.binds (ps := ["_law_image", "_law_model", "_law_maps", "_law_first", "_law_draw"]) fun _ _ _ _ _ _ us hl => match us, hl with | [_, _, _, _, _], _ => rfl
theorem b_law (T : Tx K mg) : Binds K T.fd_law ["_law_script"] [] := T.F_law.binds (ps := ["_law_script"]) fun _ _ _ _ _ _ us hl => match us, hl with | [_], _ => rfl
theorem b_Plan_map_place (T : Tx K mg) : Binds K T.fd_Plan_map_place ["self", "x"] [] := T.F_Plan_map_place.binds (ps := ["self", "x"]) fun _ _ _ _ _ _ us hl => match us, hl with | [_, _], _ => rfl
theorem b_Plan_node_block (T : Tx K mg) : Binds K T.fd_Plan_node_block ["self", "n"] [] := T.F_Plan_node_block.binds (ps := ["self", "n"]) fun _ _ _ _ _ _ us hl => match us, hl with | [_, _], _ => rfl
theorem b_Plan_data_blocks (T : Tx K mg) : Binds K T.fd_Plan_data_blocks ["self"] [] := T.F_Plan_data_blocks.binds (ps := ["self"]) fun _ _ _ _ _ _ us hl => match us, hl with | [_], _ => rfl
theorem b_Image___init__ (T : Tx K mg) : Binds K T.fd_Image___init__ ["self", "plan"] [] := T.F_Image___init__.binds (ps := ["self", "plan"]) fun _ _ _ _ _ _ us hl => match us, hl with | [_, _], _ => rfl
theorem b_Image_begin (T : Tx K mg) : Binds K T.fd_Image_begin ["self", "wish", "barred"] [] := T.F_Image_begin.binds (ps := ["self", "wish", "barred"]) fun _ _ _ _ _ _ us hl => match us, hl with | [_, _, _], _ => rfl
theorem b_Image_settle (T : Tx K mg) : Binds K T.fd_Image_settle ["self", "before"] [] := T.F_Image_settle.binds (ps := ["self", "before"]) fun _ _ _ _ _ _ us hl => match us, hl with | [_, _], _ => rfl
theorem b_Image_twin (T : Tx K mg) : Binds K T.fd_Image_twin ["self"] [] := T.F_Image_twin.binds (ps := ["self"]) fun _ _ _ _ _ _ us hl => match us, hl with | [_], _ => rfl
theorem b_Image_take (T : Tx K mg) : Binds K T.fd_Image_take ["self", "kind", "owner"] [] := T.F_Image_take.binds (ps := ["self", "kind", "owner"]) fun _ _ _ _ _ _ us hl => match us, hl with | [_, _, _], _ => rfl
theorem b_Image_give (T : Tx K mg) : Binds K T.fd_Image_give ["self", "x", "owner"] [] := T.F_Image_give.binds (ps := ["self", "x", "owner"]) fun _ _ _ _ _ _ us hl => match us, hl with | [_, _, _], _ => rfl
theorem b_Image__put_block (T : Tx K mg) : Binds K T.fd_Image__put_block ["self", "x", "kind", "serial"] [] := T.F_Image__put_block.binds (ps := ["self", "x", "kind", "serial"]) fun _ _ _ _ _ _ us hl => match us, hl with | [_, _, _, _], _ => rfl
theorem b_Image_free_blocks (T : Tx K mg) : Binds K T.fd_Image_free_blocks ["self"] [] := T.F_Image_free_blocks.binds (ps := ["self"]) fun _ _ _ _ _ _ us hl => match us, hl with | [_], _ => rfl
theorem b_Image_kind (T : Tx K mg) : Binds K T.fd_Image_kind ["self", "x"] [] := T.F_Image_kind.binds (ps := ["self", "x"]) fun _ _ _ _ _ _ us hl => match us, hl with | [_, _], _ => rfl
theorem b_Image_identity (T : Tx K mg) : Binds K T.fd_Image_identity ["self", "x"] [] := T.F_Image_identity.binds (ps := ["self", "x"]) fun _ _ _ _ _ _ us hl => match us, hl with | [_, _], _ => rfl
theorem b_Image_fresh (T : Tx K mg) : Binds K T.fd_Image_fresh ["plan"] [] := T.F_Image_fresh.binds (ps := ["plan"]) fun _ _ _ _ _ _ us hl => match us, hl with | [_], _ => rfl
theorem b_Image_of_cells (T : Tx K mg) : Binds K T.fd_Image_of_cells ["plan", "rows"] [] := T.F_Image_of_cells.binds (ps := ["plan", "rows"]) fun _ _ _ _ _ _ us hl => match us, hl with | [_, _], _ => rfl
end
end K78
namespace K78
open PySem PySem.Spec PyProof.Rows L2 Rg
section
variable {P : Program} {w : World} {K : PySem.W.Frag} {mg : Str → Option Value} {base : Heap}
/-! ### _law_pick -/
def sp_Lpick : Sp := fun vs H Q _ => ∃ (p : Addr) (fs : List Int) (lim : Int), vs = [.ref p, .int lim] ∧ H p = some (.lst (fs.map V.int)) ∧ 0 < lim ∧
  ∀ (r : Int) (fs' : List Int), 0 ≤ r → r < lim → fs'.length ≤ fs.length → Q (.int r) (upd H p (.lst (fs'.map V.int)))
theorem ok_Lpick (T : Tx K mg) : FnOk P w K mg base CX0 1 T.f_Lpick T.fd_Lpick ["_law_feed_here", "_law_limit"] sp_Lpick := by
  refine T.F_Lpick.ok sc_Lpick (fun vs H Q E h => ?_) (fun cdv A outer s H vs Q E hr h => ?_)
  · obtain ⟨p, fs, lim, rfl, _⟩ := h
    rfl
  · obtain ⟨p, fs, lim, rfl, hp, hl, k⟩ := h
    refine ⟨_, (pss_cons (ps_if (pt_cmpR op_eq (pe_callB call_len_seq rfl T.b_len (by decide +kernel) (pa_cons (pv 0) pa_nil)) pe_int (nomark _))
        (pss_one (ps_ret pe_int))
        pss_nil)
      (pss_one (ps_ret (pe_op op_mod (pe_callTy call_int1 rfl T.b_int (by decide +kernel) (pa_cons (pe_bm PySem.F.plainAttrs_list PySem.F.slot_list_pop PySem.F.type_list_pop mt_popAt (pv 0) (pa_cons pe_int pa_nil)) pa_nil)) (pv 1))))), ?_⟩
    refine ⟨_, rfl, p, fs.map V.int, rfl, .inl (.inl (.inl hp)), rfl, _, rfl, ite2 (fun e => ?_) (fun e => ?_)⟩
    · have := k 0 fs (Int.le_refl _) hl (Nat.le_refl _)
      rw [upd_id hp] at this
      exact this
    · cases fs with
      | nil => exact absurd (decide_eq_true rfl) e
      | cons x r =>
        refine ⟨.ref p, rfl, .inl ⟨rfl, _, .inl (.inl hp)⟩, p, _, 0, 0, .int x, rfl, rfl, hp, by decide, by decide, ?_, rfl, .inl ⟨x, rfl, ?_⟩⟩
        · rw [List.length_map]; simp [seqIndex?]
        · refine ⟨.int lim, rfl, _, _, rfl, rfl, hl, ?_⟩
          exact k _ r (Int.emod_nonneg _ (by omega)) (Int.emod_lt_of_pos _ hl) (by simp)

/-! ### _law_feed -/
def sp_Lfeed (K : PySem.W.Frag) : Sp := fun vs H Q _ => ∃ (a : Addr) (ns : List Int), vs = [.ref a] ∧ SqL K H a (ns.map V.int) ∧ ns.length ≤ 63 ∧
  ∀ (H' : Hp) (p : Addr) (fs : List Int), Same H H' → H p = none → H' p = some (.lst (fs.map V.int)) → fs.length ≤ 5000 → Q (.ref p) H'
theorem ok_Lfeed (T : Tx K mg) : FnOk P w K mg base CX0 1 T.f_Lfeed T.fd_Lfeed ["_law_script"] (sp_Lfeed K) := by
  refine T.F_Lfeed.ok sc_Lfeed (fun vs H Q E h => ?_) (fun cdv A outer s H vs Q E hr h => ?_)
  · obtain ⟨_, _, rfl, _⟩ := h; rfl
  · obtain ⟨a, ns, rfl, hS, hlen, k⟩ := h
    refine ⟨_, (pss_cons (ps_set (i := 1) sc_Lfeed.nd rfl (.inl rfl) (pe_lst pa_nil))
      (pss_cons (ps_for PassesOwn.never rfl (pi_list (pv 0)) (pg_name (i := 2) sc_Lfeed.nd rfl (.inl rfl))
        (pss_cons (ps_set (i := 3) sc_Lfeed.nd rfl (.inl rfl) (pe_callB call_abs rfl T.b_abs (by decide +kernel) (pa_cons (pv 2) pa_nil)))
        (Evl.pss_cut (ps_if (pt_cmpR op_lt (pv 3) (pe_op op_pow pe_int pe_int) (nomark _))
          (pss_cons (ps_set (i := 3) sc_Lfeed.nd rfl (.inl rfl) (pe_op op_mod (pe_callTy call_int1 rfl T.b_int (by decide +kernel) (pa_cons (pe_op op_add (pe_op op_mul (pv 3) pe_int) pe_int) pa_nil)) pe_int))
          (pss_cons (ps_expr (pe_bm PySem.F.plainAttrs_list PySem.F.slot_list_append PySem.F.type_list_append mt_append (pv 1) (pa_cons (pe_op op_mod (pe_callTy call_int1 rfl T.b_int (by decide +kernel) (pa_cons (pe_op op_add (pe_op op_mul (pv 3) pe_int) pe_int) pa_nil)) pe_int) pa_nil)))
          (pss_one (ps_set (i := 3) sc_Lfeed.nd rfl (.inl rfl) pe_int))))
          pss_nil)
        (pss_one (ps_for PassesOwn.never rfl (pi_range1 rfl T.b_range (pa_cons pe_int pa_nil)) (pg_name (i := 4) sc_Lfeed.nd rfl (.inl rfl))
          (pss_one (ps_if (pt_cmpR op_gt (pv 3) pe_int (nomark _))
            (pss_cons (ps_expr (pe_bm PySem.F.plainAttrs_list PySem.F.slot_list_append PySem.F.type_list_append mt_append (pv 1) (pa_cons (pe_op op_mod (pe_callTy call_int1 rfl T.b_int (by decide +kernel) (pa_cons (pv 3) pa_nil)) pe_int) pa_nil)))
            (pss_one (ps_set (i := 3) sc_Lfeed.nd rfl (.inl rfl) (pe_op op_fdiv (pv 3) pe_int))))
            pss_nil)))))))
      (pss_one (ps_ret (pv 1))))), ?_⟩
    refine ⟨Nat.zero_le _, fun p np => ?_⟩
    have s0 : Same H (upd H p (.lst [])) := same_upd np
    have npa : ∀ H2, SqL K H2 a (ns.map V.int) → True := fun _ _ => trivial
    refine ⟨_, rfl, a, rfl, ⟨_, s0.seq hS⟩, for_list (K := K) (a := a) (xs := ns.map V.int) (fun i σ H2 => ∃ (fs : List Int) (v2 v3 v4 : Option V), σ = [some (.ref a), some (.ref p), v2, v3, v4] ∧ H2 = upd H p (.lst (fs.map V.int)) ∧ fs.length ≤ 61 * i)
      ⟨[], none, none, none, rfl, rfl, Nat.zero_le _⟩ (fun i σ H2 _ ⟨_, _, _, _, _, e, _⟩ => by rw [e]; exact (same_upd np).seq hS) ?_ ?_⟩
    · rintro i y σ H2 hi ⟨fs, v2, v3, v4, rfl, rfl, hl⟩
      have hil : i < 63 := by
        have := (List.getElem?_eq_some_iff.mp hi).1
        rw [List.length_map] at this
        omega
      obtain ⟨z, rfl⟩ : ∃ z, y = V.int z := by
        rw [List.getElem?_map] at hi
        cases e : ns[i]? with
        | none => rw [e] at hi; cases hi
        | some z => rw [e] at hi; exact ⟨z, (Option.some.inj hi).symm⟩
      refine ⟨_, rfl, z, rfl, ?_⟩
      refine ⟨fun σ' H' => ∃ (fs : List Int) (R : Int) (v4 : Option V), σ' = [some (.ref a), some (.ref p), some (.int z), some (.int R), v4] ∧ H' = upd H p (.lst (fs.map V.int)) ∧ 0 ≤ R ∧ fs.length ≤ 61 * i + 1, ?_, ?_⟩
      · have hz : 0 ≤ (if z < 0 then -z else z) := by split <;> omega
        refine ⟨_, rfl, _, _, rfl, rfl, ⟨by decide, by decide, by decide⟩, _, _, rfl, rfl, _, rfl, ite2 (fun e => ?_) (fun e => ?_)⟩
        · have e1 : (if z < 0 then -z else z) < 10 ^ 18 := of_decide_eq_true e
          refine ⟨_, rfl, _, _, rfl, rfl, .inl ⟨by omega, by omega⟩, _, _, rfl, rfl, .inl ⟨_, rfl, _, _, rfl, rfl, (by show (0 : Int) < _; decide), ?_⟩⟩
          refine ⟨.ref p, rfl, .inl ⟨rfl, _, .inl (.inl upd_same)⟩, _, rfl, _, _, rfl, rfl, .inr ⟨by decide, by decide⟩, _, _, rfl, rfl, .inl ⟨_, rfl, _, _, rfl, rfl, (by show (0 : Int) < _; decide), p, _, _, rfl, rfl, upd_same, ?_, ?_⟩⟩
          · rw [List.length_map]; exact Nat.lt_of_lt_of_le (Nat.lt_succ_of_le hl) (by unfold sizeLine; omega)
          · exact ⟨fs ++ [_], 0, v4, rfl, upd_app, Int.le_refl _, by rw [List.length_append]; simp; omega⟩
        · exact ⟨fs, _, v4, rfl, rfl, hz, by omega⟩
      · rintro σ' H' ⟨fs, R, v4, rfl, rfl, hR, hl⟩
        refine ⟨60, rfl, by decide, by decide, for_range (lo := 0) (n := 60) (fun j σ' H' => ∃ (fs : List Int) (R : Int) (v4 : Option V), σ' = [some (.ref a), some (.ref p), some (.int z), some (.int R), v4] ∧ H' = upd H p (.lst (fs.map V.int)) ∧ 0 ≤ R ∧ fs.length ≤ 61 * i + 1 + j)
          ⟨fs, R, v4, rfl, rfl, hR, hl⟩ ?_ ?_⟩
        · rintro j σ' H' hj ⟨fs, R, v4, rfl, rfl, hR, hl⟩
          refine ⟨_, rfl, _, _, rfl, rfl, _, rfl, ite2 (fun e => ?_) (fun e => ?_)⟩
          · refine ⟨.ref p, rfl, .inl ⟨rfl, _, .inl (.inl upd_same)⟩, _, rfl, .inl ⟨_, rfl, _, _, rfl, rfl, (by show (0 : Int) < _; decide), p, _, _, rfl, rfl, upd_same, ?_, ?_⟩⟩
            · rw [List.length_map]; exact Nat.lt_of_lt_of_le (Nat.lt_succ_of_le hl) (by unfold sizeLine; omega)
            · refine ⟨_, rfl, _, _, rfl, rfl, ⟨by decide, by decide⟩, fs ++ [_], _, _, rfl, upd_app, Int.ediv_nonneg hR (by decide), by rw [List.length_append]; simp; omega⟩
          · exact ⟨fs, R, _, rfl, rfl, hR, by omega⟩
        · rintro σ' H' ⟨fs, R, v4, rfl, rfl, hR, hl⟩
          exact ⟨fs, _, _, _, rfl, rfl, by omega⟩
    · rintro σ H2 ⟨fs, v2, v3, v4, rfl, rfl, hl⟩
      rw [List.length_map] at hl
      exact ⟨_, rfl, k _ p fs (same_upd np) np upd_same (by omega)⟩
end
end K78
namespace K78
open PySem PySem.Spec PyProof.Rows L2 Rg
section
variable {P : Program} {w : World} {K : PySem.W.Frag} {mg : Str → Option Value} {base : Heap}
/-! ### plans -/
def planF (b n s : Int) : List (Str × V) := [("blocks", .int b), ("nodes", .int n), ("slots", .int s), ("maps", .int ((b + 8 - 1) / 8)), ("first_node", .int (2 + (b + 8 - 1) / 8)), ("first_data", .int (2 + (b + 8 - 1) / 8 + n))]
structure PlanAt (C : Addr) (H : Hp) (p : Addr) (b n s : Int) : Prop where
  ob : ∃ dx, H p = some (.ins C dx (planF b n s))
  b1 : 8 ≤ b
  b2 : b ≤ 64
  n1 : 2 ≤ n
  n2 : n ≤ 16
  s1 : b < s
  s2 : s ≤ 200
  d : 2 ≤ b - (2 + (b + 8 - 1) / 8 + n)
theorem PlanAt.same {C : Addr} {H H' : Hp} {p : Addr} {b n s : Int} (e : Same H H') (h : PlanAt C H p b n s) : PlanAt C H' p b n s :=
  let ⟨dx, z⟩ := h.ob
  ⟨⟨dx, e _ _ z⟩, h.b1, h.b2, h.n1, h.n2, h.s1, h.s2, h.d⟩
theorem PlanAt.of {C : Addr} {H H' : Hp} {p : Addr} {b n s : Int} (h : PlanAt C H p b n s) (e : ∀ o, H p = some o → H' p = some o) : PlanAt C H' p b n s :=
  let ⟨dx, z⟩ := h.ob
  ⟨⟨dx, e _ z⟩, h.b1, h.b2, h.n1, h.n2, h.s1, h.s2, h.d⟩
def sp_Plan_init (C : Addr) : Sp := fun vs H Q _ => ∃ (p dx : Addr) (b n s : Int), vs = [.ref p, .int b, .int n, .int s] ∧ H p = some (.ins C dx []) ∧ 8 ≤ b ∧ b ≤ 64 ∧ 2 ≤ n ∧ n ≤ 16 ∧ b < s ∧ s ≤ 200 ∧ 2 ≤ b - (2 + (b + 8 - 1) / 8 + n) ∧
  Q .non (upd H p (.ins C dx (planF b n s)))
theorem ok_Plan_init (T : Tx K mg) : FnOk P w K mg base CX0 1 T.f_Plan___init__ T.fd_Plan___init__ ["self", "blocks", "nodes", "slots"] (sp_Plan_init T.C_Plan) := by
  refine T.F_Plan___init__.ok sc_Plan___init__ (fun vs H Q E h => ?_) (fun cdv A outer s H vs Q E hr h => ?_)
  · obtain ⟨_, _, _, _, _, rfl, _⟩ := h; rfl
  · obtain ⟨p, dx, b, n, sl, rfl, hp, h1, h2, h3, h4, h5, h6, h7, k⟩ := h
    refine ⟨_, (pss_cons (ps_if (pt_not (pt_chain op_le op_le (pe_gc T.c_LEAST_BLOCKS) (pv 1) (pe_gc T.c_MOST_BLOCKS)))
        (pss_one ps_never)
        pss_nil)
      (pss_cons (ps_if (pt_not (pt_chain op_le op_le (pe_gc T.c_LEAST_NODES) (pv 2) (pe_gc T.c_MOST_NODES)))
        (pss_one ps_never)
        pss_nil)
      (pss_cons (ps_if (pt_not (pt_chain op_lt op_le (pv 1) (pv 3) (pe_gc T.c_MOST_SLOTS)))
        (pss_one ps_never)
        pss_nil)
      (pss_cons (ps_fld (pv 0) (pv 1) rfl)
      (pss_cons (ps_fld (pv 0) (pv 2) rfl)
      (pss_cons (ps_fld (pv 0) (pv 3) rfl)
      (pss_cons (ps_fld (pv 0) (pe_op op_fdiv (pe_op op_sub (pe_op op_add (pv 1) (pe_con (pv 0) rfl)) pe_int) (pe_con (pv 0) rfl)) rfl)
      (pss_cons (ps_fld (pv 0) (pe_op op_add (pe_gc T.c_FIRST_MAP) (pe_fld (pv 0) rfl)) rfl)
      (pss_cons (ps_fld (pv 0) (pe_op op_add (pe_fld (pv 0) rfl) (pv 2)) rfl)
      (pss_one (ps_if (pt_cmpR op_lt (pe_op op_sub (pv 1) (pe_fld (pv 0) rfl)) (pe_gc T.c_LEAST_DATA) (nomark _))
        (pss_one ps_never)
        pss_nil))))))))))), ?_⟩
    obtain ⟨uW, cW⟩ := T.con_Plan_WIDTH
    refine ⟨_, rfl, _, _, rfl, rfl, _, rfl, ?_⟩
    rw [decide_eq_true h1]
    refine iteT ⟨_, _, rfl, rfl, _, rfl, ?_⟩
    rw [decide_eq_true h2]
    refine iteF ⟨_, rfl, _, _, rfl, rfl, _, rfl, ?_⟩
    rw [decide_eq_true h3]
    refine iteT ⟨_, _, rfl, rfl, _, rfl, ?_⟩
    rw [decide_eq_true h4]
    refine iteF ⟨_, rfl, _, rfl, _, _, rfl, rfl, _, rfl, ?_⟩
    rw [decide_eq_true h5]
    refine iteT ⟨_, _, rfl, rfl, _, rfl, ?_⟩
    rw [decide_eq_true h6]
    refine iteF ⟨_, rfl, _, rfl, p, _, dx, _, rfl, hp, T.cl_Plan, T.na_Plan_blocks, (by show 0 < 1000; decide), ?_⟩
    refine ⟨_, rfl, _, rfl, p, _, dx, _, rfl, upd_same, T.cl_Plan, T.na_Plan_nodes, (by show 1 < 1000; decide), ?_⟩
    refine ⟨_, rfl, _, rfl, p, _, dx, _, rfl, upd_same, T.cl_Plan, T.na_Plan_slots, (by show 2 < 1000; decide), ?_⟩
    refine ⟨_, rfl, _, rfl, p, _, dx, _, _, _, rfl, upd_same, T.cl_Plan, cW, rfl, _, _, rfl, rfl, _, _, rfl, rfl, _, rfl, p, _, dx, _, _, _, rfl, upd_same, T.cl_Plan, cW, rfl, _, _, rfl, rfl, ⟨by decide, by decide⟩, ?_⟩
    refine ⟨_, rfl, p, _, dx, _, rfl, upd_same, T.cl_Plan, T.na_Plan_maps, (by show 3 < 1000; decide), ?_⟩
    refine ⟨_, rfl, p, _, dx, _, _, rfl, upd_same, T.cl_Plan, T.na_Plan_maps, rfl, _, _, rfl, rfl, _, rfl, p, _, dx, _, rfl, upd_same, T.cl_Plan, T.na_Plan_first_node, (by show 4 < 1000; decide), ?_⟩
    refine ⟨_, rfl, p, _, dx, _, _, rfl, upd_same, T.cl_Plan, T.na_Plan_first_node, rfl, _, rfl, _, _, rfl, rfl, _, rfl, p, _, dx, _, rfl, upd_same, T.cl_Plan, T.na_Plan_first_data, (by show 5 < 1000; decide), ?_⟩
    refine ⟨_, rfl, _, rfl, p, _, dx, _, _, rfl, upd_same, T.cl_Plan, T.na_Plan_first_data, rfl, _, _, rfl, rfl, _, _, rfl, rfl, _, rfl, ?_⟩
    rw [decide_eq_false (by omega)]
    refine iteF ?_
    rw [upd_upd, upd_upd, upd_upd, upd_upd, upd_upd]
    exact k
/-- the call Plan(b, nodes=n, slots=s) -/
theorem kb_Plan (T : Tx K mg) : KBn K T.fd_Plan___init__ ["self", "blocks", "nodes", "slots"] 2 ["nodes", "slots"] (fun us ws => us ++ ws) (fun us ws => us ++ ws) := by
  obtain ⟨oc, od, kV, doc, pm, an, cdv, ct, osl, e, lk, hcd⟩ := T.F_Plan___init__.ex
  refine ⟨fun s us ws _ l1 l2 => ?_, fun r1 r2 => r1.append r2⟩
  rw [e]
  match us, ws, l1, l2 with
  | [_, _], [_, _], _, _ => exact .of_eq rfl
def sp_map_place (C : Addr) : Sp := fun vs H Q _ => ∃ (p : Addr) (b n s x : Int), vs = [.ref p, .int x] ∧ PlanAt C H p b n s ∧ ∀ t, H t = none → Q (.ref t) (upd H t (.tup [.int (2 + x / 8), .int (x % 8)]))
theorem ok_Plan_map_place (T : Tx K mg) : FnOk P w K mg base CX0 1 T.f_Plan_map_place T.fd_Plan_map_place ["self", "x"] (sp_map_place T.C_Plan) := by
  refine T.F_Plan_map_place.ok sc_Plan_map_place (fun vs H Q E h => ?_) (fun cdv A outer s H vs Q E hr h => ?_)
  · obtain ⟨_, _, _, _, _, rfl, _⟩ := h; rfl
  · obtain ⟨p, b, n, sl, x, rfl, hP, k⟩ := h
    obtain ⟨dx, hp⟩ := hP.ob
    obtain ⟨uW, cW⟩ := T.con_Plan_WIDTH
    refine ⟨_, (pss_one (ps_ret (pe_tup (pa_cons (pe_op op_add (pe_gc T.c_FIRST_MAP) (pe_op op_fdiv (pv 1) (pe_con (pv 0) rfl))) (pa_cons (pe_op op_mod (pv 1) (pe_con (pv 0) rfl)) pa_nil))))), ?_⟩
    refine ⟨_, rfl, _, rfl, p, _, dx, _, _, _, rfl, hp, T.cl_Plan, cW, rfl, _, _, rfl, rfl, ⟨by decide, by decide⟩, _, _, rfl, rfl, _, rfl, _, rfl, p, _, dx, _, _, _, rfl, hp, T.cl_Plan, cW, rfl, _, _, rfl, rfl, (by show (0 : Int) < _; decide), (by show 2 ≤ sizeLine; decide), k⟩
def sp_node_block (C : Addr) : Sp := fun vs H Q _ => ∃ (p : Addr) (b n s x : Int), vs = [.ref p, .int x] ∧ PlanAt C H p b n s ∧ Q (.int (2 + (b + 8 - 1) / 8 + x - 1)) H
theorem ok_Plan_node_block (T : Tx K mg) : FnOk P w K mg base CX0 1 T.f_Plan_node_block T.fd_Plan_node_block ["self", "n"] (sp_node_block T.C_Plan) := by
  refine T.F_Plan_node_block.ok sc_Plan_node_block (fun vs H Q E h => ?_) (fun cdv A outer s H vs Q E hr h => ?_)
  · obtain ⟨_, _, _, _, _, rfl, _⟩ := h; rfl
  · obtain ⟨p, b, n, sl, x, rfl, hP, k⟩ := h
    obtain ⟨dx, hp⟩ := hP.ob
    refine ⟨_, (pss_one (ps_ret (pe_op op_sub (pe_op op_add (pe_fld (pv 0) rfl) (pv 1)) pe_int))), ?_⟩
    exact ⟨_, rfl, p, _, dx, _, _, rfl, hp, T.cl_Plan, T.na_Plan_first_node, rfl, _, rfl, _, _, rfl, rfl, _, _, rfl, rfl, k⟩
end
end K78
namespace K78
open PySem PySem.Spec PyProof.Rows L2 Rg
/-! ### a list of lists of ints -/
structure Grid (H : Hp) (ca : Addr) (rs : List Addr) (M : List (List Int)) : Prop where
  out : H ca = some (.lst (rs.map V.ref))
  len : rs.length = M.length
  row : ∀ (i : Nat) (r : Addr) (m : List Int), rs[i]? = some r → M[i]? = some m → H r = some (.lst (m.map V.int))
  nd : rs.Nodup
  nin : ca ∉ rs
theorem Grid.held {H : Hp} {ca : Addr} {rs : List Addr} {M : List (List Int)} (G : Grid H ca rs M) {r : Addr} (h : r ∈ rs) : ∃ o, H r = some o := by
  obtain ⟨i, hi, e⟩ := List.getElem_of_mem h
  have hm : i < M.length := by rw [← G.len]; exact hi
  exact ⟨_, G.row i r M[i] (by rw [List.getElem?_eq_getElem hi, e]) (List.getElem?_eq_getElem hm)⟩
theorem Grid.same {H H' : Hp} {ca : Addr} {rs : List Addr} {M : List (List Int)} (G : Grid H ca rs M) (s : Same H H') : Grid H' ca rs M :=
  ⟨s _ _ G.out, G.len, fun i r m a b => s _ _ (G.row i r m a b), G.nd, G.nin⟩
/-- kept where it stands -/
theorem Grid.keep {H H' : Hp} {ca : Addr} {rs : List Addr} {M : List (List Int)} (G : Grid H ca rs M) (h : ∀ b o, b = ca ∨ b ∈ rs → H b = some o → H' b = some o) : Grid H' ca rs M :=
  ⟨h _ _ (.inl rfl) G.out, G.len, fun i r m a b => h _ _ (.inr (List.mem_of_getElem? a)) (G.row i r m a b), G.nd, G.nin⟩
theorem Grid.get {H : Hp} {ca : Addr} {rs : List Addr} {M : List (List Int)} (G : Grid H ca rs M) {i : Nat} {m : List Int} (h : M[i]? = some m) : ∃ r, rs[i]? = some r ∧ H r = some (.lst (m.map V.int)) ∧ r ≠ ca := by
  have hi : i < rs.length := by rw [G.len]; exact (List.getElem?_eq_some_iff.mp h).1
  refine ⟨rs[i], List.getElem?_eq_getElem hi, G.row i _ m (List.getElem?_eq_getElem hi) h, fun e => G.nin ?_⟩
  rw [← e]
  exact List.getElem_mem hi
/-- one row stored anew -/
theorem Grid.put {H : Hp} {ca : Addr} {rs : List Addr} {M : List (List Int)} (G : Grid H ca rs M) {i : Nat} {r : Addr} {m : List Int} (hr : rs[i]? = some r) : Grid (upd H r (.lst (m.map V.int))) ca rs (M.set i m) := by
  have hi : i < rs.length := (List.getElem?_eq_some_iff.mp hr).1
  have hir : rs[i] = r := (List.getElem?_eq_some_iff.mp hr).2
  have rin : r ∈ rs := List.mem_of_getElem? hr
  refine ⟨?_, by rw [List.length_set]; exact G.len, fun j q m' hj hm => ?_, G.nd, G.nin⟩
  · rw [upd_ne (fun e => G.nin (by rw [e]; exact rin))]
    exact G.out
  · by_cases e : i = j
    · subst e
      rw [hr] at hj
      cases hj
      rw [List.getElem?_set_self (by rw [← G.len]; exact hi)] at hm
      cases hm
      exact upd_same
    · rw [List.getElem?_set_ne e] at hm
      have hq : q ≠ r := fun z => by
        subst z
        have hjl : j < rs.length := (List.getElem?_eq_some_iff.mp hj).1
        have := (List.getElem?_eq_some_iff.mp hj).2
        exact e ((List.getElem_inj G.nd).mp (hir.trans this.symm))
      rw [upd_ne hq]
      exact G.row j q m' hj hm
theorem map_set {α β : Type} (f : α → β) (l : List α) (i : Nat) (x : α) : (l.map f).set i (f x) = (l.set i x).map f := by
  rw [List.map_set]
/-- a grid that is new -/
structure NewGrid (H0 H : Hp) (D : Addr) (qs : List Addr) (M : List (List Int)) : Prop where
  grid : Grid H D qs M
  fresh : ∀ q ∈ qs, H0 q = none
  freshD : H0 D = none
  same : Same H0 H
theorem NewGrid.start {H0 H : Hp} {D : Addr} (s : Same H0 H) (hD : H0 D = none) (hn : H D = none) : NewGrid H0 (upd H D (.lst [])) D [] [] :=
  ⟨⟨by rw [upd_same]; rfl, rfl, fun i r m a _ => by simp at a, List.nodup_nil, by simp⟩, fun q h => (by cases h), hD, s.trans (same_upd hn)⟩
theorem NewGrid.snoc {H0 H H1 : Hp} {D : Addr} {qs : List Addr} {M : List (List Int)} {p : Addr} {m : List Int} (G : NewGrid H0 H D qs M) (s : Same H H1) (hp : H p = none) (h1 : H1 p = some (.lst (m.map V.int))) :
    NewGrid H0 (upd H1 D (.lst (qs.map V.ref ++ [V.ref p]))) D (qs ++ [p]) (M ++ [m]) := by
  have pD : p ≠ D := fun e => by
    rw [e, G.grid.out] at hp
    cases hp
  have pq : p ∉ qs := fun h => by
    obtain ⟨o, z⟩ := G.grid.held h
    rw [hp] at z
    cases z
  refine ⟨⟨by rw [upd_same, List.map_append]; rfl, by simp [G.grid.len], fun i r m' hi hm => ?_, ?_, ?_⟩, ?_, G.freshD, ?_⟩
  · by_cases e : i < qs.length
    · rw [List.getElem?_append_left e] at hi
      rw [List.getElem?_append_left (by rw [← G.grid.len]; exact e)] at hm
      have hr : r ∈ qs := List.mem_of_getElem? hi
      rw [upd_ne (fun z => G.grid.nin (by rw [← z]; exact hr))]
      exact s _ _ (G.grid.row i r m' hi hm)
    · have hi2 : i = qs.length := by
        have := (List.getElem?_eq_some_iff.mp hi).1
        simp at this
        omega
      subst hi2
      rw [List.getElem?_append_right (Nat.le_refl _)] at hi
      rw [G.grid.len, List.getElem?_append_right (Nat.le_refl _)] at hm
      simp at hi hm
      subst hi hm
      rw [upd_ne pD]
      exact h1
  · exact List.nodup_append.mpr ⟨G.grid.nd, by simp, fun a ha b hb => by simp at hb; subst hb; exact fun e => pq (e ▸ ha)⟩
  · simp
    exact ⟨G.grid.nin, fun e => pD e.symm⟩
  · intro q hq
    rcases List.mem_append.mp hq with h | h
    · exact G.fresh q h
    · simp at h
      subst h
      exact G.same.free hp
  · intro b o e
    rw [upd_ne (ne_of_none e G.freshD)]
    exact s _ _ (G.same _ _ e)
theorem NewGrid.nin0 {H0 H : Hp} {D : Addr} {qs : List Addr} {M : List (List Int)} (G : NewGrid H0 H D qs M) {b : Addr} {o : HO} (h : H0 b = some o) : b ≠ D ∧ b ∉ qs :=
  ⟨ne_of_none h G.freshD, fun z => by rw [G.fresh b z] at h; cases h⟩
end K78
namespace K78
open PySem PySem.Spec PyProof.Rows L2 Rg
/-! ### images -/
structure IA where
  (dx pl ca : Addr) (rs : List Addr) (ho st hd ba : Addr)
structure IV where
  (M : List (List Int)) (ho st : List Int) (hd : List (Int × Int)) (se wi : Int) (ba : List Int)
def imgF (A : IA) (v : IV) : List (Str × V) := [("plan", .ref A.pl), ("cells", .ref A.ca), ("holdings", .ref A.ho), ("stamps", .ref A.st), ("handles", .ref A.hd), ("serial", .int v.se), ("wish", .int v.wi), ("barred", .ref A.ba)]
def hdK (h : List (Int × Int)) : List (Key × V) := h.map fun p => (Sum.inl p.1, V.int p.2)
structure ImgAt (CI CP : Addr) (H : Hp) (im : Addr) (A : IA) (v : IV) (b n s : Int) : Prop where
  ob : H im = some (.ins CI A.dx (imgF A v))
  pl : PlanAt CP H A.pl b n s
  gr : Grid H A.ca A.rs v.M
  ho : H A.ho = some (.lst (v.ho.map V.int))
  st : H A.st = some (.lst (v.st.map V.int))
  hd : H A.hd = some (.dK (hdK v.hd))
  ba : H A.ba = some (.tup (v.ba.map V.int))
  n1 : A.ho ∉ A.rs
  n2 : A.st ∉ A.rs
  n3 : A.ho ≠ A.st
  n4 : A.ca ≠ A.ho
  n5 : A.ca ≠ A.st
  d0 : (v.M.length : Int) = b
  d1 : ∀ m ∈ v.M, m.length = 8
  d2 : (v.ho.length : Int) = b
  d3 : (v.st.length : Int) = b
/-- where an image may be changed -/
def IA.foot (A : IA) (im : Addr) : List Addr := im :: A.ca :: A.ho :: A.st :: A.hd :: A.rs
/-- its parts are new -/
structure IA.New (A : IA) (H0 : Hp) : Prop where
  ca : H0 A.ca = none
  rs : ∀ q ∈ A.rs, H0 q = none
  ho : H0 A.ho = none
  st : H0 A.st = none
  hd : H0 A.hd = none
theorem ImgAt.keep {CI CP : Addr} {H H' : Hp} {im : Addr} {A : IA} {v : IV} {b n s : Int} (I : ImgAt CI CP H im A v b n s) (h : ∀ x o, H x = some o → H' x = some o) : ImgAt CI CP H' im A v b n s :=
  { I with ob := h _ _ I.ob, pl := I.pl.same h, gr := I.gr.same h, ho := h _ _ I.ho, st := h _ _ I.st, hd := h _ _ I.hd, ba := h _ _ I.ba }
theorem rep_flat {α : Type} (n : Nat) (x : α) : (List.replicate n [x]).flatten = List.replicate n x := by
  induction n with
  | zero => rfl
  | succ n ih => rw [List.replicate_succ, List.flatten_cons, ih, List.replicate_succ]; rfl
theorem rep_map (n : Nat) (x : Int) : (List.replicate n (V.int x)) = (List.replicate n x).map V.int := by rw [List.map_replicate]
def zeroV (b : Int) : IV := ⟨List.replicate b.toNat (List.replicate 8 0), List.replicate b.toNat 0, List.replicate b.toNat 0, [], 0, 0, []⟩
section
variable {P : Program} {w : World} {K : PySem.W.Frag} {mg : Str → Option Value} {base : Heap}
def sp_Image_init (CI CP : Addr) : Sp := fun vs H Q _ => ∃ (p dx pl : Addr) (b n s : Int), vs = [.ref p, .ref pl] ∧ H p = some (.ins CI dx []) ∧ PlanAt CP H pl b n s ∧
  ∀ (H' : Hp) (A : IA), (∀ x o, H x = some o → x ≠ p → H' x = some o) → ImgAt CI CP H' p A (zeroV b) b n s → A.New H → A.pl = pl → Q .non H'
theorem ok_Image_init (T : Tx K mg) : FnOk P w K mg base CX0 1 T.f_Image___init__ T.fd_Image___init__ ["self", "plan"] (sp_Image_init T.C_Image T.C_Plan) := by
  refine T.F_Image___init__.ok sc_Image___init__ (fun vs H Q E h => ?_) (fun cdv A outer s H vs Q E hr h => ?_)
  · obtain ⟨_, _, _, _, _, _, rfl, _⟩ := h; rfl
  · obtain ⟨p, dx, pl, b, n, sl, rfl, hp, hP, k⟩ := h
    refine ⟨_, (pss_cons (ps_fld (pv 0) (pv 1) rfl)
      (pss_cons (ps_fld (pv 0) (pe_lc rfl (own := [("_", 2)]) (g := gName 2) (tt := tYes) sc_Image___init__.nd (pi_range1 rfl T.b_range (pa_cons (pe_fld (pv 1) rfl) pa_nil)) (blkOk_by (N := ["self", "plan", "_"]) (sc := defScope s_Image___init__) (by decide +kernel)) (fun _ _ _ _ _ => pg_name (i := 2) sc_Image___init__.nd rfl (Or.inl rfl)) (fun _ _ _ _ _ => pts_nil) (fun _ _ _ _ _ => (pe_op op_rep (pe_lst (pa_cons pe_int pa_nil)) (pe_cv T.mg_Plan T.cr_Plan T.cv_Plan_WIDTH)))) rfl)
      (pss_cons (ps_fld (pv 0) (pe_op op_rep (pe_lst (pa_cons pe_int pa_nil)) (pe_fld (pv 1) rfl)) rfl)
      (pss_cons (ps_fld (pv 0) (pe_op op_rep (pe_lst (pa_cons pe_int pa_nil)) (pe_fld (pv 1) rfl)) rfl)
      (pss_cons (ps_fld (pv 0) pe_dnewK rfl)
      (pss_cons (ps_fld (pv 0) pe_int rfl)
      (pss_cons (ps_fld (pv 0) pe_int rfl)
      (pss_one (ps_fld (pv 0) (pe_tup pa_nil) rfl))))))))), ?_⟩
    obtain ⟨dxp, hpl⟩ := hP.ob
    have hb1 := hP.b1
    have hb2 := hP.b2
    have nppl : pl ≠ p := fun e => by
      rw [e, hp] at hpl
      have := HO.ins.inj (Option.some.inj hpl)
      have := this.2.2
      simp [planF] at this
    -- self.plan = plan
    refine ⟨_, rfl, _, rfl, p, _, dx, _, rfl, hp, T.cl_Image, T.na_Image_plan, (by show 0 < 1000; decide), ?_⟩
    generalize hH1 : upd H p _ = H1
    obtain ⟨e1, k1, n1⟩ := own_f hH1
    have pl1 := k1.at1 hpl nppl
    -- self.cells = [[0] * Plan.WIDTH for _ in range(plan.blocks)]
    refine ⟨_, rfl, pl, _, dxp, _, _, rfl, pl1, T.cl_Plan, T.na_Plan_blocks, rfl, b, rfl, by omega, by omega, fun D hD => ?_⟩
    refine lc_range (lo := 0) (n := b.toNat) (fun i H' => ∃ qs, NewGrid H1 H' D qs (List.replicate i (List.replicate 8 0)))
      ⟨[], NewGrid.start (Same.refl _) hD hD⟩ ?_ ?_
    · rintro i H' hi ⟨qs, G⟩
      refine ⟨rfl, ?_⟩
      refine yes_ ?_
      refine ⟨by show 1 ≤ sizeLine; decide, fun l hl => ?_⟩
      refine ⟨l, 8, _, rfl, rfl, upd_same, by decide, by decide, by show 1 * 8 ≤ sizeLine; decide, fun q hq => ?_⟩
      have hq0 : H' q = none := un hq
      have hlD : H' D = some (.lst (qs.map V.ref)) := G.grid.out
      have hq1 : (upd (upd H' l (.lst [V.int 0])) q (.lst (List.replicate (8 : Int).toNat [V.int 0]).flatten)) q = some (.lst ((List.replicate 8 (0 : Int)).map V.int)) := by rw [upd_same]; rfl
      have sm : Same H' (upd (upd H' l (.lst [V.int 0])) q (.lst (List.replicate (8 : Int).toNat [V.int 0]).flatten)) := (same_upd hl).trans (same_upd hq)
      refine ⟨_, sm _ _ hlD, ?_, qs ++ [q], ?_⟩
      · rw [List.length_map, G.grid.len, List.length_replicate]
        exact small1000 (by omega)
      · rw [List.replicate_succ']
        exact G.snoc sm hq0 hq1
    rintro H2 ⟨qs, G⟩
    have e2 := G.same _ _ e1
    have pl2 := G.same _ _ pl1
    have npD : p ≠ D := ne_of_none e1 G.freshD
    refine ⟨_, rfl, p, _, dx, _, rfl, e2, T.cl_Image, T.na_Image_cells, (by show 1 < 1000; decide), ?_⟩
    generalize hH3 : upd H2 p _ = H3
    obtain ⟨e3, k3, n3⟩ := own_f hH3
    have pl3 := k3.at1 pl2 nppl
    -- self.holdings = [0] * plan.blocks
    refine ⟨by show 1 ≤ sizeLine; decide, fun l hl => ?_⟩
    generalize hH4 : upd H3 l _ = H4
    obtain ⟨e4, s4, n4⟩ := new_f hH4 hl
    have pl4 := s4 _ _ pl3
    refine ⟨_, rfl, pl, _, dxp, _, _, rfl, pl4, T.cl_Plan, T.na_Plan_blocks, rfl, l, b, _, rfl, rfl, e4, by omega, by omega, (by show 1 * b.toNat ≤ sizeLine; exact Nat.le_of_lt (small1000 (by omega))), fun ho hho => ?_⟩
    rw [rep_flat, rep_map]
    generalize hH5 : upd H4 ho _ = H5
    obtain ⟨e5, s5, n5⟩ := new_f hH5 hho
    refine ⟨_, rfl, p, _, dx, _, rfl, s5 _ _ (s4 _ _ e3), T.cl_Image, T.na_Image_holdings, (by show 2 < 1000; decide), ?_⟩
    generalize hH6 : upd H5 p _ = H6
    obtain ⟨e6, k6, n6⟩ := own_f hH6
    have pl6 := k6.at1 (s5 _ _ pl4) nppl
    have nho : ho ≠ p := (ne_of_none (s4 _ _ e3) hho).symm
    have ho6 := k6.at1 e5 nho
    -- self.stamps = [0] * plan.blocks
    refine ⟨by show 1 ≤ sizeLine; decide, fun l2 hl2 => ?_⟩
    generalize hH7 : upd H6 l2 _ = H7
    obtain ⟨e7, s7, n7⟩ := new_f hH7 hl2
    refine ⟨_, rfl, pl, _, dxp, _, _, rfl, s7 _ _ pl6, T.cl_Plan, T.na_Plan_blocks, rfl, l2, b, _, rfl, rfl, e7, by omega, by omega, (by show 1 * b.toNat ≤ sizeLine; exact Nat.le_of_lt (small1000 (by omega))), fun st hst => ?_⟩
    rw [rep_flat, rep_map]
    generalize hH8 : upd H7 st _ = H8
    obtain ⟨e8, s8, n8⟩ := new_f hH8 hst
    refine ⟨_, rfl, p, _, dx, _, rfl, s8 _ _ (s7 _ _ e6), T.cl_Image, T.na_Image_stamps, (by show 3 < 1000; decide), ?_⟩
    generalize hH9 : upd H8 p _ = H9
    obtain ⟨e9, k9, n9⟩ := own_f hH9
    have nst : st ≠ p := (ne_of_none (s7 _ _ e6) hst).symm
    have nsth : st ≠ ho := (ne_of_none (s7 _ _ ho6) hst).symm
    have st9 := k9.at1 e8 nst
    have ho9 := k9.at1 (s8 _ _ (s7 _ _ ho6)) nho
    -- self.handles = {}; serial, wish, barred
    intro hd hhd
    generalize hH10 : upd H9 hd _ = H10
    obtain ⟨e10, s10, n10⟩ := new_f hH10 hhd
    have nhd : hd ≠ p := (ne_of_none e9 hhd).symm
    refine ⟨_, rfl, p, _, dx, _, rfl, s10 _ _ e9, T.cl_Image, T.na_Image_handles, (by show 4 < 1000; decide), ?_⟩
    generalize hH11 : upd H10 p _ = H11
    obtain ⟨e11, k11, n11⟩ := own_f hH11
    refine ⟨_, rfl, p, _, dx, _, rfl, e11, T.cl_Image, T.na_Image_serial, (by show 5 < 1000; decide), ?_⟩
    generalize hH12 : upd H11 p _ = H12
    obtain ⟨e12, k12, n12⟩ := own_f hH12
    refine ⟨_, rfl, p, _, dx, _, rfl, e12, T.cl_Image, T.na_Image_wish, (by show 6 < 1000; decide), ?_⟩
    generalize hH13 : upd H12 p _ = H13
    obtain ⟨e13, k13, n13⟩ := own_f hH13
    refine ⟨by show 0 ≤ sizeLine; decide, fun ba hba => ?_⟩
    generalize hH14 : upd H13 ba _ = H14
    obtain ⟨e14, s14, n14⟩ := new_f hH14 hba
    have nba : ba ≠ p := (ne_of_none e13 hba).symm
    refine ⟨_, rfl, p, _, dx, _, rfl, s14 _ _ e13, T.cl_Image, T.na_Image_barred, (by show 7 < 1000; decide), ?_⟩
    generalize hH15 : upd H14 p _ = H15
    obtain ⟨e15, k15, n15⟩ := own_f hH15
    -- what stands
    have k10 : Kp [p] H10 H15 := (((k11.trans k12).trans k13).same s14).trans k15
    have k2 : Kp [p] H2 H15 := ((((((k3.same s4).same s5).trans k6).same s7).same s8).trans (k9.same s10)).trans k10
    have k0 : Kp [p] H H15 := (k1.same G.same).trans k2
    have f_ho : H2 ho = none := (n3 _ (n4 _ hho).1).1
    have f_st : H2 st = none := (n3 _ (n4 _ (n5 _ (n6 _ (n7 _ hst).1).1).1).1).1
    have f_hd : H2 hd = none := (n3 _ (n4 _ (n5 _ (n6 _ (n7 _ (n8 _ (n9 _ hhd).1).1).1).1).1).1).1
    have fr : ∀ x, H2 x = none → H x = none := fun x e => (n1 _ (G.same.free e)).1
    have qp : ∀ q ∈ qs, q ≠ p := fun q hq e => by
      have := G.fresh q hq
      rw [e, e1] at this
      cases this
    have qn : ∀ x, H2 x = none → x ∉ qs := fun x e hq => by
      obtain ⟨o, z⟩ := G.grid.held hq
      rw [e] at z
      cases z
    refine k _ ⟨dx, pl, D, qs, ho, st, hd, ba⟩ (fun x o e ne => k0.at1 e ne)
      ⟨e15, hP.of fun o e => k0.at1 e nppl, G.grid.keep fun x o hx e => k2.at1 e ?_, k10.at1 (s10 _ _ ho9) nho, k10.at1 (s10 _ _ st9) nst, k10.at1 e10 nhd, k15.at1 e14 nba, qn _ f_ho, qn _ f_st, nsth.symm, ne_of_none G.grid.out f_ho, ne_of_none G.grid.out f_st, ?_, ?_, ?_, ?_⟩
      ⟨(n1 _ G.freshD).1, fun q hq => (n1 _ (G.fresh q hq)).1, fr _ f_ho, fr _ f_st, fr _ f_hd⟩ rfl
    · rcases hx with rfl | hx
      · exact npD.symm
      · exact qp x hx
    · show ((List.replicate b.toNat (List.replicate 8 (0 : Int))).length : Int) = b
      rw [List.length_replicate]
      omega
    · intro m hm
      rw [List.eq_of_mem_replicate hm]
      rfl
    · show ((List.replicate b.toNat (0 : Int)).length : Int) = b
      rw [List.length_replicate]
      omega
    · show ((List.replicate b.toNat (0 : Int)).length : Int) = b
      rw [List.length_replicate]
      omega
end
end K78
namespace K78
open PySem PySem.Spec PyProof.Rows L2 Rg
def cellAt (M : List (List Int)) (i j : Nat) : Int := ((M[i]?.getD [])[j]?).getD 0
theorem cellAt_of {M : List (List Int)} {i j : Nat} {m : List Int} {x : Int} (h : M[i]? = some m) (hj : m[j]? = some x) : cellAt M i j = x := by
  unfold cellAt
  rw [h]
  show (m[j]?).getD 0 = x
  rw [hj]
  rfl
def kindOf (b n : Int) (M : List (List Int)) (x : Int) : Int :=
  if x < 2 + (b + 8 - 1) / 8 + n then 1 else if cellAt M (2 + x / 8).toNat (x % 8).toNat = 1 ∨ cellAt M (2 + x / 8).toNat (x % 8).toNat = 2 then cellAt M (2 + x / 8).toNat (x % 8).toNat else 0
section
variable {P : Program} {w : World} {K : PySem.W.Frag} {mg : Str → Option Value} {base : Heap}
def sp_Image_kind (CI CP : Addr) : Sp := fun vs H Q _ => ∃ (im : Addr) (A : IA) (v : IV) (b n s x : Int), vs = [.ref im, .int x] ∧ ImgAt CI CP H im A v b n s ∧ 0 ≤ x ∧ x < b ∧
  ∀ H', Same H H' → Q (.int (kindOf b n v.M x)) H'
theorem ok_Image_kind (T : Tx K mg) : FnOk P w K mg base CX0 2 T.f_Image_kind T.fd_Image_kind ["self", "x"] (sp_Image_kind T.C_Image T.C_Plan) := by
  refine T.F_Image_kind.ok sc_Image_kind (fun vs H Q E h => ?_) (fun cdv A0 outer s H vs Q E hr h => ?_)
  · obtain ⟨_, _, _, _, _, _, _, rfl, _⟩ := h; rfl
  · obtain ⟨im, A, v, b, n, sl, x, rfl, I, hx0, hxb, k⟩ := h
    refine ⟨_, (pss_cons (ps_if (pt_cmpR op_lt (pv 1) (pe_fld (pe_fld (pv 0) rfl) rfl) (nomark _))
        (pss_one (ps_ret (pe_cv T.mg_Plan T.cr_Plan T.cv_Plan_LOGGED)))
        pss_nil)
      (pss_cons (ps_asg (pe_meth (pe_fld (pv 0) rfl) T.cl_Plan T.m_Plan_map_place (ok_Plan_map_place T) hr (b_Plan_map_place T) .nil pass0 (pa_cons (pv 1) pa_nil)) (pg_tup rfl (pgs_cons (pg_name (i := 2) sc_Image_kind.nd rfl (.inl rfl)) (pgs_cons (pg_name (i := 3) sc_Image_kind.nd rfl (.inl rfl)) pgs_nil))))
      (pss_cons (ps_set (i := 4) sc_Image_kind.nd rfl (.inl rfl) (pe_ix ix_list (pe_ix ix_list (pe_fld (pv 0) rfl) (pv 2) (fun _ _ => rfl)) (pv 3) (fun _ _ => rfl)))
      (pss_one (ps_ret (pe_ifExp (pt_cmpR op_in_seq (pv 4) (pe_tup (pa_cons (pe_cv T.mg_Plan T.cr_Plan T.cv_Plan_LOGGED) (pa_cons (pe_cv T.mg_Plan T.cr_Plan T.cv_Plan_PLAIN) pa_nil))) rfl) (pv 4) (pe_cv T.mg_Plan T.cr_Plan T.cv_Plan_FREE))))))), ?_⟩
    obtain ⟨dxp, hpl⟩ := I.pl.ob
    have b1 := I.pl.b1
    have b2 := I.pl.b2
    have n1 := I.pl.n1
    refine ⟨_, rfl, _, rfl, im, _, _, _, _, rfl, I.ob, T.cl_Image, T.na_Image_plan, rfl, A.pl, _, dxp, _, _, rfl, hpl, T.cl_Plan, T.na_Plan_first_data, rfl, _, _, rfl, rfl, _, rfl, ite2 (fun e => ?_) (fun e => ?_)⟩
    · have e' := of_decide_eq_true e
      have := k H (Same.refl _)
      unfold kindOf at this
      rw [if_pos e'] at this
      exact this
    · have e' : ¬ x < 2 + (b + 8 - 1) / 8 + n := fun z => e (decide_eq_true z)
      -- the cell
      have d0 := I.d0
      have hi : (2 + x / 8).toNat < v.M.length := by omega
      obtain ⟨r, hr1, hr2, _⟩ := I.gr.get (List.getElem?_eq_getElem hi)
      have hj : (x % 8).toNat < (v.M[(2 + x / 8).toNat]).length := by
        rw [I.d1 _ (List.getElem_mem hi)]
        omega
      have hc : cellAt v.M (2 + x / 8).toNat (x % 8).toNat = (v.M[(2 + x / 8).toNat])[(x % 8).toNat] := cellAt_of (List.getElem?_eq_getElem hi) (List.getElem?_eq_getElem hj)
      refine ⟨_, rfl, im, _, _, _, _, rfl, I.ob, T.cl_Image, T.na_Image_plan, rfl, A.pl, dxp, _, rfl, hpl, rfl, _, rfl, A.pl, b, n, sl, x, rfl, I.pl, fun t ht => ?_⟩
      have st := same_upd (o := .tup [.int (2 + x / 8), .int (x % 8)]) ht
      refine ⟨t, _, rfl, .inl (.inl upd_same), rfl, _, _, rfl, _, _, rfl, rfl, ?_⟩
      refine ⟨_, rfl, im, _, _, _, _, rfl, st _ _ I.ob, T.cl_Image, T.na_Image_cells, rfl, _, rfl, A.ca, _, _, .ref r, rfl, rfl, .inl (.inl (st _ _ I.gr.out)), at_of (j := (2 + x / 8).toNat) (by omega) (by rw [List.getElem?_map, hr1]; rfl), _, rfl, r, _, _, _, rfl, rfl, .inl (.inl (st _ _ hr2)), at_of (j := (x % 8).toNat) (by omega) (by rw [List.getElem?_map, List.getElem?_eq_getElem hj]; rfl), ?_⟩
      refine ⟨_, rfl, (by show 2 ≤ sizeLine; decide), fun t2 ht2 => ?_⟩
      have st2 := same_upd (o := .tup [.int 1, .int 2]) ht2
      have kk := k _ (st.trans st2)
      unfold kindOf at kk
      rw [if_neg e', hc] at kk
      generalize (v.M[(2 + x / 8).toNat])[(x % 8).toNat] = c at kk ⊢
      refine ⟨t2, _, rfl, .inr (.inl (.inl upd_same)), rfl, rfl, _, rfl, ite2 (fun q => ?_) (fun q => ?_)⟩
      · have hq : c = 1 ∨ c = 2 := by
          simp [inV, eqV] at q
          omega
        rw [if_pos hq] at kk
        exact ⟨_, rfl, kk⟩
      · have hq : ¬ (c = 1 ∨ c = 2) := fun z => q (by
          simp [inV, eqV]
          omega)
        rw [if_neg hq] at kk
        exact kk
end
end K78
namespace K78
open PySem PySem.Spec PyProof.Rows L2 Rg
theorem mem_set_of {α : Type} {l : List α} {i : Nat} {x y : α} (h : y ∈ l.set i x) : y = x ∨ y ∈ l := by
  rcases List.mem_or_eq_of_mem_set h with h | h
  · exact .inr h
  · exact .inl h
theorem nodup_set {α : Type} : ∀ {l : List α} {i : Nat} {x : α}, l.Nodup → x ∉ l → (l.set i x).Nodup
  | [], _, _, h, _ => by simp
  | y :: l, 0, x, h, n => by
    rw [List.set_cons_zero]
    rw [List.nodup_cons] at h ⊢
    exact ⟨fun z => n (List.mem_cons_of_mem _ z), h.2⟩
  | y :: l, i + 1, x, h, n => by
    rw [List.set_cons_succ]
    rw [List.nodup_cons] at h ⊢
    refine ⟨fun z => ?_, nodup_set h.2 fun z => n (List.mem_cons_of_mem _ z)⟩
    rcases mem_set_of z with e | e
    · exact n (by rw [e]; exact List.mem_cons_self)
    · exact h.1 e
/-- a row replaced by a new one -/
theorem Grid.swap {H H1 : Hp} {ca : Addr} {rs : List Addr} {M : List (List Int)} {i : Nat} {q : Addr} {m : List Int} (G : Grid H ca rs M) (s1 : Same H H1) (hq : H q = none) (h1 : H1 q = some (.lst (m.map V.int))) :
    Grid (upd H1 ca (.lst ((rs.map V.ref).set i (V.ref q)))) ca (rs.set i q) (M.set i m) := by
  have qr : q ∉ rs := fun h => by
    obtain ⟨o, z⟩ := G.held h
    rw [hq] at z
    cases z
  have qc : q ≠ ca := fun e => by
    rw [e, G.out] at hq
    cases hq
  refine ⟨by rw [upd_same, ← List.map_set], by rw [List.length_set, List.length_set]; exact G.len, fun j r m' hj hm => ?_, nodup_set G.nd qr, fun z => ?_⟩
  · by_cases e : i = j
    · subst e
      have hi : i < rs.length := by
        have := (List.getElem?_eq_some_iff.mp hj).1
        rw [List.length_set] at this
        exact this
      rw [List.getElem?_set_self hi] at hj
      rw [List.getElem?_set_self (by rw [← G.len]; exact hi)] at hm
      cases hj
      cases hm
      rw [upd_ne qc]
      exact h1
    · rw [List.getElem?_set_ne e] at hj hm
      rw [upd_ne fun z => G.nin (by rw [← z]; exact List.mem_of_getElem? hj)]
      exact s1 _ _ (G.row j r m' hj hm)
  · rcases mem_set_of z with e | e
    · exact qc e.symm
    · exact G.nin e
section
variable {CI CP : Addr} {H : Hp} {im : Addr} {A : IA} {v : IV} {b n s : Int}
theorem ImgAt.fresh_n (I : ImgAt CI CP H im A v b n s) {q : Addr} (hq : H q = none) : q ≠ im ∧ q ≠ A.ca ∧ q ≠ A.ho ∧ q ≠ A.st ∧ q ≠ A.hd ∧ q ∉ A.rs :=
  ⟨(ne_of_none I.ob hq).symm, (ne_of_none I.gr.out hq).symm, (ne_of_none I.ho hq).symm, (ne_of_none I.st hq).symm, (ne_of_none I.hd hq).symm, fun h => by
    obtain ⟨o, z⟩ := I.gr.held h
    rw [hq] at z
    cases z⟩
/-- image.cells[i] = a new row -/
theorem ImgAt.swap {H1 : Hp} {i : Nat} {q : Addr} {m : List Int} (I : ImgAt CI CP H im A v b n s) (s1 : Same H H1) (hq : H q = none) (h1 : H1 q = some (.lst (m.map V.int))) (hm : m.length = 8) :
    ImgAt CI CP (upd H1 A.ca (.lst ((A.rs.map V.ref).set i (V.ref q)))) im { A with rs := A.rs.set i q } { v with M := v.M.set i m } b n s := by
  obtain ⟨f1, f2, f3, f4, f5, f6⟩ := I.fresh_n hq
  obtain ⟨dxp, hpl⟩ := I.pl.ob
  have oc := I.gr.out
  refine { ob := ?_, pl := I.pl.of fun o e => ?_, gr := I.gr.swap s1 hq h1, ho := ?_, st := ?_, hd := ?_, ba := ?_, n1 := fun z => ?_, n2 := fun z => ?_, n3 := I.n3, n4 := I.n4, n5 := I.n5, d0 := ?_, d1 := fun m' hm' => ?_, d2 := I.d2, d3 := I.d3 }
  · rw [upd_ne (ne_of I.ob oc (by intro z; cases z))]; exact s1 _ _ I.ob
  · rw [upd_ne (ne_of hpl oc (by intro z; cases z))]; exact s1 _ _ e
  · rw [upd_ne I.n4.symm]; exact s1 _ _ I.ho
  · rw [upd_ne I.n5.symm]; exact s1 _ _ I.st
  · rw [upd_ne (ne_of I.hd oc (by intro z; cases z))]; exact s1 _ _ I.hd
  · rw [upd_ne (ne_of I.ba oc (by intro z; cases z))]; exact s1 _ _ I.ba
  · rcases mem_set_of z with e | e
    · exact f3 e.symm
    · exact I.n1 e
  · rcases mem_set_of z with e | e
    · exact f4 e.symm
    · exact I.n2 e
  · show ((v.M.set i m).length : Int) = b
    rw [List.length_set]
    exact I.d0
  · rcases mem_set_of hm' with e | e
    · rw [e]; exact hm
    · exact I.d1 _ e
/-- image.holdings[i] = x -/
theorem ImgAt.putHo {i : Nat} {x : Int} (I : ImgAt CI CP H im A v b n s) : ImgAt CI CP (upd H A.ho (.lst ((v.ho.map V.int).set i (V.int x)))) im A { v with ho := v.ho.set i x } b n s := by
  obtain ⟨dxp, hpl⟩ := I.pl.ob
  have oc := I.ho
  refine { I with ob := ?_, pl := I.pl.of fun o e => ?_, gr := I.gr.keep fun y o hy e => ?_, ho := by rw [upd_same, ← List.map_set], st := ?_, hd := ?_, ba := ?_, d2 := ?_ }
  · rw [upd_ne (ne_of I.ob oc (by intro z; cases z))]; exact I.ob
  · rw [upd_ne (ne_of hpl oc (by intro z; cases z))]; exact e
  · rw [upd_ne]
    · exact e
    · rcases hy with rfl | hy
      · exact I.n4
      · exact fun z => I.n1 (z ▸ hy)
  · rw [upd_ne I.n3.symm]; exact I.st
  · rw [upd_ne (ne_of I.hd oc (by intro z; cases z))]; exact I.hd
  · rw [upd_ne (ne_of I.ba oc (by intro z; cases z))]; exact I.ba
  · show ((v.ho.set i x).length : Int) = b
    rw [List.length_set]
    exact I.d2
/-- image.stamps[i] = x -/
theorem ImgAt.putSt {i : Nat} {x : Int} (I : ImgAt CI CP H im A v b n s) : ImgAt CI CP (upd H A.st (.lst ((v.st.map V.int).set i (V.int x)))) im A { v with st := v.st.set i x } b n s := by
  obtain ⟨dxp, hpl⟩ := I.pl.ob
  have oc := I.st
  refine { I with ob := ?_, pl := I.pl.of fun o e => ?_, gr := I.gr.keep fun y o hy e => ?_, st := by rw [upd_same, ← List.map_set], ho := ?_, hd := ?_, ba := ?_, d3 := ?_ }
  · rw [upd_ne (ne_of I.ob oc (by intro z; cases z))]; exact I.ob
  · rw [upd_ne (ne_of hpl oc (by intro z; cases z))]; exact e
  · rw [upd_ne]
    · exact e
    · rcases hy with rfl | hy
      · exact I.n5
      · exact fun z => I.n2 (z ▸ hy)
  · rw [upd_ne I.n3]; exact I.ho
  · rw [upd_ne (ne_of I.hd oc (by intro z; cases z))]; exact I.hd
  · rw [upd_ne (ne_of I.ba oc (by intro z; cases z))]; exact I.ba
  · show ((v.st.set i x).length : Int) = b
    rw [List.length_set]
    exact I.d3
/-- one row changed: image.cells[i][j] = x and the like -/
theorem ImgAt.putRow {i : Nat} {r : Addr} {m : List Int} (I : ImgAt CI CP H im A v b n s) (hr : A.rs[i]? = some r) (hm : m.length = 8) : ImgAt CI CP (upd H r (.lst (m.map V.int))) im A { v with M := v.M.set i m } b n s := by
  obtain ⟨dxp, hpl⟩ := I.pl.ob
  have rin : r ∈ A.rs := List.mem_of_getElem? hr
  have hi : i < v.M.length := by rw [← I.gr.len]; exact (List.getElem?_eq_some_iff.mp hr).1
  have oc := I.gr.row i r _ hr (List.getElem?_eq_getElem hi)
  refine { I with ob := ?_, pl := I.pl.of fun o e => ?_, gr := I.gr.put hr, st := ?_, ho := ?_, hd := ?_, ba := ?_, d0 := ?_, d1 := fun m' hm' => ?_ }
  · rw [upd_ne (ne_of I.ob oc (by intro z; cases z))]; exact I.ob
  · rw [upd_ne (ne_of hpl oc (by intro z; cases z))]; exact e
  · rw [upd_ne (fun z : A.ho = r => I.n1 (by rw [z]; exact rin))]; exact I.ho
  · rw [upd_ne (fun z : A.st = r => I.n2 (by rw [z]; exact rin))]; exact I.st
  · rw [upd_ne (ne_of I.hd oc (by intro z; cases z))]; exact I.hd
  · rw [upd_ne (ne_of I.ba oc (by intro z; cases z))]; exact I.ba
  · show ((v.M.set i m).length : Int) = b
    rw [List.length_set]
    exact I.d0
  · rcases mem_set_of hm' with e | e
    · rw [e]; exact hm
    · exact I.d1 _ e
end
end K78
namespace K78
open PySem PySem.Spec PyProof.Rows L2 Rg
/-- what of_cells makes of the rows, the blocks before i looked at -/
def ofM (b n : Int) (R : List (List Int)) (i : Nat) : List (List Int) := (List.range b.toNat).map fun x => if x < i ∧ kindOf b n R x = 0 then List.replicate 8 0 else R[x]?.getD []
def ofH (b n : Int) (R : List (List Int)) (i : Nat) : List Int := (List.range b.toNat).map fun x => if x < i ∧ ¬ kindOf b n R x = 0 then 1 else 0
def ofV (b n : Int) (R : List (List Int)) (i : Nat) : IV := ⟨ofM b n R i, ofH b n R i, ofH b n R i, [], 1, 0, []⟩
theorem kindOf_fix {b n : Int} {R : List (List Int)} {x : Int} (h : x < 2 + (b + 8 - 1) / 8 + n) : kindOf b n R x = 1 := by
  unfold kindOf
  rw [if_pos h]
theorem cellAt_congr {M R : List (List Int)} {i j : Nat} (h : M[i]? = R[i]?) : cellAt M i j = cellAt R i j := by
  unfold cellAt
  rw [h]
theorem kindOf_congr {b n : Int} {M R : List (List Int)} {x : Int} (hn : 0 ≤ n) (h0 : 0 ≤ x) (hb : x < b) (h : ∀ y : Nat, (y : Int) < 2 + (b + 8 - 1) / 8 + n → M[y]? = R[y]?) : kindOf b n M x = kindOf b n R x := by
  unfold kindOf
  rw [cellAt_congr (h (2 + x / 8).toNat (by omega))]
theorem ofM_get {b n : Int} {R : List (List Int)} {i x : Nat} (hx : x < b.toNat) : (ofM b n R i)[x]? = some (if x < i ∧ kindOf b n R x = 0 then List.replicate 8 0 else R[x]?.getD []) := by
  unfold ofM
  rw [List.getElem?_map, List.getElem?_range hx]
  rfl
theorem ofM_fix {b n : Int} {R : List (List Int)} {i y : Nat} (hR : (R.length : Int) = b) (hb : 2 + (b + 8 - 1) / 8 + n ≤ b) (hy : (y : Int) < 2 + (b + 8 - 1) / 8 + n) : (ofM b n R i)[y]? = R[y]? := by
  rw [ofM_get (by omega), kindOf_fix hy, if_neg (fun z => by simp at z), List.getElem?_eq_getElem (show y < R.length by omega)]
  rfl
theorem ofM_zero {b n : Int} {R : List (List Int)} (hR : (R.length : Int) = b) : ofM b n R 0 = R := by
  apply List.ext_getElem?
  intro x
  by_cases hx : x < b.toNat
  · rw [ofM_get hx, if_neg (fun z => by simp at z), List.getElem?_eq_getElem (show x < R.length by omega)]
    rfl
  · rw [List.getElem?_eq_none (by unfold ofM; simp; omega), List.getElem?_eq_none (by omega)]
theorem ofM_succ {b n : Int} {R : List (List Int)} {i : Nat} (hi : i < b.toNat) : ofM b n R (i + 1) = if kindOf b n R i = 0 then (ofM b n R i).set i (List.replicate 8 0) else ofM b n R i := by
  apply List.ext_getElem?
  intro x
  by_cases hx : x < b.toNat
  · rw [ofM_get hx]
    by_cases hk : kindOf b n R i = 0
    · rw [if_pos hk]
      by_cases e : i = x
      · subst e
        rw [List.getElem?_set_self (by unfold ofM; simp; omega), if_pos ⟨Nat.lt_succ_self _, hk⟩]
      · rw [List.getElem?_set_ne e, ofM_get hx]
        by_cases h : x < i
        · simp only [show (x < i + 1) ↔ (x < i) by omega]
        · simp only [show (x < i + 1) ↔ (x < i) by omega]
    · rw [if_neg hk, ofM_get hx]
      by_cases e : i = x
      · subst e
        rw [if_neg (fun z => hk z.2), if_neg (fun z => hk z.2)]
      · simp only [show (x < i + 1) ↔ (x < i) by omega]
  · have l1 : (ofM b n R (i + 1)).length = b.toNat := by unfold ofM; simp
    have l2 : (ofM b n R i).length = b.toNat := by unfold ofM; simp
    rw [List.getElem?_eq_none (by omega)]
    split
    · rw [List.getElem?_eq_none (by rw [List.length_set]; omega)]
    · rw [List.getElem?_eq_none (by omega)]
theorem ofH_get {b n : Int} {R : List (List Int)} {i x : Nat} (hx : x < b.toNat) : (ofH b n R i)[x]? = some (if x < i ∧ ¬ kindOf b n R x = 0 then 1 else 0) := by
  unfold ofH
  rw [List.getElem?_map, List.getElem?_range hx]
  rfl
theorem ofH_zero {b n : Int} {R : List (List Int)} : ofH b n R 0 = List.replicate b.toNat 0 := by
  apply List.ext_getElem?
  intro x
  by_cases hx : x < b.toNat
  · rw [ofH_get hx, if_neg (fun z => by simp at z), List.getElem?_replicate, if_pos hx]
  · rw [List.getElem?_eq_none (by unfold ofH; simp; omega), List.getElem?_eq_none (by simp; omega)]
theorem ofH_succ {b n : Int} {R : List (List Int)} {i : Nat} (hi : i < b.toNat) : ofH b n R (i + 1) = if kindOf b n R i = 0 then ofH b n R i else (ofH b n R i).set i 1 := by
  apply List.ext_getElem?
  intro x
  by_cases hx : x < b.toNat
  · rw [ofH_get hx]
    by_cases hk : kindOf b n R i = 0
    · rw [if_pos hk, ofH_get hx]
      by_cases e : i = x
      · subst e
        rw [if_neg (fun z => z.2 hk), if_neg (fun z => z.2 hk)]
      · simp only [show (x < i + 1) ↔ (x < i) by omega]
    · rw [if_neg hk]
      by_cases e : i = x
      · subst e
        rw [List.getElem?_set_self (by unfold ofH; simp; omega), if_pos ⟨Nat.lt_succ_self _, hk⟩]
      · rw [List.getElem?_set_ne e, ofH_get hx]
        simp only [show (x < i + 1) ↔ (x < i) by omega]
  · have l1 : (ofH b n R (i + 1)).length = b.toNat := by unfold ofH; simp
    have l2 : (ofH b n R i).length = b.toNat := by unfold ofH; simp
    rw [List.getElem?_eq_none (by omega)]
    split
    · rw [List.getElem?_eq_none (by omega)]
    · rw [List.getElem?_eq_none (by rw [List.length_set]; omega)]
section
variable {P : Program} {w : World} {K : PySem.W.Frag} {mg : Str → Option Value} {base : Heap}
/-- rows that are lists or tuples -/
structure GridM (H : Hp) (ca : Addr) (rs : List Addr) (M : List (List Int)) : Prop where
  out : H ca = some (.lst (rs.map V.ref))
  len : rs.length = M.length
  row : ∀ (i : Nat) (r : Addr) (m : List Int), rs[i]? = some r → M[i]? = some m → H r = some (.lst (m.map V.int)) ∨ H r = some (.tup (m.map V.int))
theorem Grid.mixed {H : Hp} {ca : Addr} {rs : List Addr} {M : List (List Int)} (G : Grid H ca rs M) : GridM H ca rs M := ⟨G.out, G.len, fun i r m a b => .inl (G.row i r m a b)⟩
def sp_of_cells (CI CP : Addr) : Sp := fun vs H Q _ => ∃ (pl ra : Addr) (rr : List Addr) (R : List (List Int)) (b n s : Int), vs = [.ref pl, .ref ra] ∧ PlanAt CP H pl b n s ∧ GridM H ra rr R ∧ (R.length : Int) = b ∧ (∀ m ∈ R, m.length = 8) ∧
  ∀ (H' : Hp) (im : Addr) (A : IA), Same H H' → H im = none → ImgAt CI CP H' im A (ofV b n R b.toNat) b n s → A.New H → A.pl = pl → Q (.ref im) H'
theorem ok_of_cells (T : Tx K mg) : FnOk P w K mg base CX0 3 T.f_Image_of_cells T.fd_Image_of_cells ["plan", "rows"] (sp_of_cells T.C_Image T.C_Plan) := by
  refine T.F_Image_of_cells.ok sc_Image_of_cells (fun vs H Q E h => ?_) (fun cdv A0 outer s H vs Q E hr h => ?_)
  · obtain ⟨_, _, _, _, _, _, _, rfl, _⟩ := h; rfl
  · obtain ⟨pl, ra, rr, R, b, n, sl, rfl, hP, GR, hR, hR8, k⟩ := h
    have hr2 : Room 2 _ := hr.mono (by decide)
    refine ⟨_, (pss_cons (ps_set (i := 2) sc_Image_of_cells.nd rfl (.inl rfl) (pe_make T.mk_Image (ok_Image_init T) hr2 rfl T.mg_Image (b_Image___init__ T) .nil pass0 (pa_cons (pv 0) pa_nil)))
      (pss_cons (ps_fld (pv 2) (pe_lc rfl (own := [("row", 3)]) (g := gName 3) (tt := tYes) sc_Image_of_cells.nd (pi_list (pv 1)) (blkOk_by (N := ["plan", "rows", "image", "row", "x"]) (sc := defScope s_Image_of_cells) (by decide +kernel)) (fun _ _ _ _ _ => pg_name (i := 3) sc_Image_of_cells.nd rfl (Or.inl rfl)) (fun _ _ _ _ _ => pts_nil) (fun _ _ _ _ _ => (pe_listof (K := K) (pv 3) T.b_list))) rfl)
      (pss_cons (ps_fld (pv 2) pe_int rfl)
      (pss_cons (ps_for PassesOwn.never rfl (pi_range1 rfl T.b_range (pa_cons (pe_fld (pv 0) rfl) pa_nil)) (pg_name (i := 4) sc_Image_of_cells.nd rfl (.inl rfl))
        (pss_one (ps_if (pt_cmpR op_eq (pe_meth (pv 2) T.cl_Image T.m_Image_kind (ok_Image_kind T) hr2 (b_Image_kind T) .nil pass0 (pa_cons (pv 4) pa_nil)) (pe_cv T.mg_Plan T.cr_Plan T.cv_Plan_FREE) (nomark _))
          (pss_one (ps_asg (pe_op op_rep (pe_lst (pa_cons pe_int pa_nil)) (pe_cv T.mg_Plan T.cr_Plan T.cv_Plan_WIDTH)) (pg_sub (pe_fld (pv 2) rfl) (pv 4) set_list)))
          (pss_cons (ps_asg pe_int (pg_sub (pe_fld (pv 2) rfl) (pv 4) set_list))
          (pss_one (ps_asg pe_int (pg_sub (pe_fld (pv 2) rfl) (pv 4) set_list)))))))
      (pss_one (ps_ret (pv 2))))))), ?_⟩
    obtain ⟨dxp, hpl⟩ := hP.ob
    have hb1 := hP.b1
    have hb2 := hP.b2
    have hd := hP.d
    have hn1 := hP.n1
    -- image = Image(plan)
    refine ⟨_, rfl, fun x dx nx ndx nex => ?_⟩
    have s1 : Same H (upd (upd H dx (.own x)) x (.ins T.C_Image dx [])) := (same_upd ndx).trans (same_upd (by rw [upd_ne nex.symm]; exact nx))
    refine ⟨x, dx, pl, b, n, sl, rfl, upd_same, hP.same s1, fun H1 A1 k1 I1 N1 eA => ⟨rfl, ?_⟩⟩
    have k1' : ∀ y o, H y = some o → H1 y = some o := fun y o e => k1 y o (s1 _ _ e) (ne_of_none e nx)
    have xs1 : ∀ y, (upd (upd H dx (.own x)) x (.ins T.C_Image dx [])) y = none → H y = none := fun y e => un (un e)
    -- image.cells = [list(row) for row in rows]
    refine ⟨_, rfl, ra, rfl, ⟨_, .of (k1' _ _ GR.out)⟩, fun D hD => ?_⟩
    refine lc_list (K := K) (a := ra) (xs := rr.map V.ref) (fun i H' => ∃ qs, NewGrid H1 H' D qs (R.take i))
      ⟨[], NewGrid.start (Same.refl _) hD hD⟩ (fun i H' _ ⟨qs, G⟩ => .of (G.same _ _ (k1' _ _ GR.out))) ?_ ?_
    · rintro i y H' hi ⟨qs, G⟩
      have hil : i < rr.length := by
        have := (List.getElem?_eq_some_iff.mp hi).1
        rw [List.length_map] at this
        exact this
      rw [List.getElem?_map, List.getElem?_eq_getElem hil] at hi
      have hi : V.ref rr[i] = y := Option.some.inj hi
      subst hi
      have hiR : i < R.length := by rw [← GR.len]; exact hil
      have hrow := GR.row i rr[i] R[i] (List.getElem?_eq_getElem hil) (List.getElem?_eq_getElem hiR)
      have hrow : SqL K H' rr[i] (R[i].map V.int) ∨ SqT K H' rr[i] (R[i].map V.int) := hrow.imp (fun h => .of (G.same _ _ (k1' _ _ h))) (fun h => .of (G.same _ _ (k1' _ _ h)))
      refine ⟨rfl, ?_⟩
      refine yes_ ?_
      refine ⟨_, rfl, rr[i], _, rfl, hrow, fun q hq => ?_⟩
      refine ⟨_, by rw [upd_ne (ne_of_none G.grid.out hq)]; exact G.grid.out, ?_, qs ++ [q], ?_⟩
      · rw [List.length_map, G.grid.len, List.length_take]
        exact small1000 (by omega)
      · rw [List.take_succ, List.getElem?_eq_getElem hiR]
        exact G.snoc (same_upd hq) hq upd_same
    rintro H2 ⟨qs, G⟩
    rw [List.length_map, GR.len, List.take_length] at G
    have I2 : ImgAt T.C_Image T.C_Plan H2 x A1 (zeroV b) b n sl := I1.keep G.same
    refine ⟨_, rfl, x, _, _, _, rfl, I2.ob, T.cl_Image, T.na_Image_cells, (by show 8 < 1000; decide), ?_⟩
    generalize hH3 : upd H2 x _ = H3
    obtain ⟨e3, k3, n3⟩ := own_f hH3
    refine ⟨_, rfl, x, _, _, _, rfl, e3, T.cl_Image, T.na_Image_serial, (by show 8 < 1000; decide), ?_⟩
    generalize hH4 : upd H3 x _ = H4
    obtain ⟨e4, k4, n4⟩ := own_f hH4
    have k24 : Kp [x] H2 H4 := k3.trans k4
    have kx : ∀ y o, H2 y = some o → y ≠ x → H4 y = some o := fun y o e ne => k24.at1 e ne
    have npl : pl ≠ x := ne_of_none hpl nx
    have pl2 : H2 A1.pl = some (.ins T.C_Plan dxp (planF b n sl)) := by rw [eA]; exact G.same _ _ (k1' _ _ hpl)
    have xD : x ≠ D := ne_of_none I1.ob G.freshD
    have xq : x ∉ qs := (G.nin0 I1.ob).2
    have I4 : ImgAt T.C_Image T.C_Plan H4 x { A1 with ca := D, rs := qs } (ofV b n R 0) b n sl := by
      refine { ob := e4, pl := I2.pl.of fun o e => kx _ _ e (by show A1.pl ≠ x; rw [eA]; exact npl), gr := ?_, ho := ?_, st := ?_, hd := ?_, ba := ?_, n1 := (G.nin0 I1.ho).2, n2 := (G.nin0 I1.st).2, n3 := I1.n3, n4 := (G.nin0 I1.ho).1.symm, n5 := (G.nin0 I1.st).1.symm, d0 := ?_, d1 := ?_, d2 := ?_, d3 := ?_ }
      · show Grid H4 D qs (ofM b n R 0)
        rw [ofM_zero hR]
        refine G.grid.keep fun y o hy e => kx _ _ e ?_
        rcases hy with rfl | hy
        · exact xD.symm
        · exact fun z => xq (by rw [← z]; exact hy)
      · show H4 A1.ho = some (.lst ((ofH b n R 0).map V.int))
        rw [ofH_zero]
        exact kx _ _ I2.ho (ne_of I2.ho I2.ob (by intro z; cases z))
      · show H4 A1.st = some (.lst ((ofH b n R 0).map V.int))
        rw [ofH_zero]
        exact kx _ _ I2.st (ne_of I2.st I2.ob (by intro z; cases z))
      · exact kx _ _ I2.hd (ne_of I2.hd I2.ob (by intro z; cases z))
      · exact kx _ _ I2.ba (ne_of I2.ba I2.ob (by intro z; cases z))
      · show ((ofM b n R 0).length : Int) = b
        rw [ofM_zero hR]
        exact hR
      · show ∀ m ∈ ofM b n R 0, m.length = 8
        rw [ofM_zero hR]
        exact hR8
      · show ((ofH b n R 0).length : Int) = b
        rw [ofH_zero, List.length_replicate]
        omega
      · show ((ofH b n R 0).length : Int) = b
        rw [ofH_zero, List.length_replicate]
        omega
    have N0 : ∀ y, H1 y = none → H y = none := fun y e => by
      cases q : H y with
      | none => rfl
      | some o => rw [k1' y o q] at e; cases e
    have N4 : ({ A1 with ca := D, rs := qs } : IA).New H := ⟨N0 _ G.freshD, fun q hq => N0 _ (G.fresh q hq), xs1 _ N1.ho, xs1 _ N1.st, xs1 _ N1.hd⟩
    have S4 : Same H H4 := fun y o e => kx _ _ (G.same _ _ (k1' _ _ e)) (ne_of_none e nx)
    -- for x in range(plan.blocks)
    have hpl4 : H4 pl = some (.ins T.C_Plan dxp (planF b n sl)) := S4 _ _ hpl
    refine ⟨_, rfl, pl, _, dxp, _, _, rfl, hpl4, T.cl_Plan, T.na_Plan_blocks, rfl, b, rfl, by omega, by omega, for_range (lo := 0) (n := b.toNat) (fun i σ H' => ∃ (A : IA) (u3 u4 : Option V), σ = [some (.ref pl), some (.ref ra), some (.ref x), u3, u4] ∧ ImgAt T.C_Image T.C_Plan H' x A (ofV b n R i) b n sl ∧ Same H H' ∧ A.New H ∧ A.pl = pl)
      ⟨_, _, _, rfl, I4, S4, N4, eA⟩ ?_ ?_⟩
    · rintro i σ H' hi ⟨A, u3, u4, rfl, I, S, N, eA⟩
      have hib : (i : Int) < b := by omega
      refine ⟨_, rfl, x, _, _, rfl, I.ob, rfl, _, rfl, x, A, ofV b n R i, b, n, sl, _, rfl, I, by omega, by omega, fun H5 s5 => ?_⟩
      have ek : kindOf b n (ofV b n R i).M (0 + (i : Int)) = kindOf b n R i := by
        rw [show (0 : Int) + (i : Int) = i by omega]
        exact kindOf_congr (by omega) (by omega) hib fun y hy => ofM_fix hR (by omega) hy
      rw [ek]
      have I5 := I.keep s5
      have S5 := S.trans s5
      refine ⟨rfl, _, rfl, ite2 (fun e => ?_) (fun e => ?_)⟩
      · have hk : kindOf b n R i = 0 := V.int.inj (of_decide_eq_true e)
        refine ⟨by show 1 ≤ sizeLine; decide, fun l hl => ?_⟩
        refine ⟨l, 8, _, rfl, rfl, upd_same, by decide, by decide, by show 1 * 8 ≤ sizeLine; decide, fun q hq => ?_⟩
        have sm : Same H5 (upd (upd H5 l (.lst [V.int 0])) q (.lst (List.replicate (8 : Int).toNat [V.int 0]).flatten)) := (same_upd hl).trans (same_upd hq)
        have hq5 : H5 q = none := un hq
        have hq1 : (upd (upd H5 l (.lst [V.int 0])) q (.lst (List.replicate (8 : Int).toNat [V.int 0]).flatten)) q = some (.lst ((List.replicate 8 (0 : Int)).map V.int)) := by rw [upd_same]; rfl
        generalize hH6 : upd (upd H5 l (.lst [V.int 0])) q (.lst (List.replicate (8 : Int).toNat [V.int 0]).flatten) = H6 at sm hq1 ⊢
        refine ⟨_, rfl, x, _, _, _, _, rfl, sm _ _ I5.ob, T.cl_Image, T.na_Image_cells, rfl, _, rfl, A.ca, _, _, i, rfl, rfl, sm _ _ I5.gr.out, ?_, ?_⟩
        · unfold ixN
          rw [if_pos (by omega), List.length_map, if_pos (by rw [I5.gr.len]; show (0 : Int) + i < (ofM b n R i).length; unfold ofM; simp; omega)]
          congr 1
          omega
        · refine ⟨{ A with rs := A.rs.set i q }, u3, _, rfl, ?_, ?_, ⟨N.ca, fun z hz => ?_, N.ho, N.st, N.hd⟩, eA⟩
          rotate_left
          · exact fun y o e => by
              rw [upd_ne (ne_of_none e N.ca)]
              exact sm _ _ (S5 _ _ e)
          · rcases mem_set_of hz with e | e
            · rw [e]; exact S5.free hq5
            · exact N.rs z e
          · have := I5.swap (i := i) sm hq5 hq1 (by rfl)
            unfold ofV at this ⊢
            dsimp only at this ⊢
            rw [ofM_succ (by omega), if_pos hk, ofH_succ (by omega), if_pos hk]
            exact this
      · have hk : ¬ kindOf b n R i = 0 := fun z => e (by rw [z]; exact decide_eq_true rfl)
        have ix : ∀ (xs : List V), xs.length = b.toNat → ixN xs.length (0 + (i : Int)) = some i := fun xs hx => by
          unfold ixN
          rw [if_pos (by omega), if_pos (by omega)]
          congr 1
          omega
        have lh : ((ofH b n R i).map V.int).length = b.toNat := by unfold ofH; simp
        refine ⟨_, rfl, x, _, _, _, _, rfl, I5.ob, T.cl_Image, T.na_Image_holdings, rfl, _, rfl, A.ho, _, _, i, rfl, rfl, I5.ho, ix _ lh, ?_⟩
        have I6 := I5.putHo (i := i) (x := 1)
        refine ⟨_, rfl, x, _, _, _, _, rfl, I6.ob, T.cl_Image, T.na_Image_stamps, rfl, _, rfl, A.st, _, _, i, rfl, rfl, I6.st, ix _ lh, ?_⟩
        have I7 := I6.putSt (i := i) (x := 1)
        refine ⟨_, u3, _, rfl, ?_, ?_, N, eA⟩
        · unfold ofV at I7 ⊢
          dsimp only at I7 ⊢
          rw [ofM_succ (by omega), if_neg hk, ofH_succ (by omega), if_neg hk]
          exact I7
        · exact fun y o e => by
            rw [upd_ne (ne_of_none e N.st), upd_ne (ne_of_none e N.ho)]
            exact S5 _ _ e
    · rintro σ H' ⟨A, u3, u4, rfl, I, S, N, eA⟩
      exact ⟨_, rfl, k H' x A S nx I N eA⟩
end
end K78
namespace K78
open PySem PySem.Spec PyProof.Rows L2 Rg
def setC (M : List (List Int)) (i j : Nat) (x : Int) : List (List Int) := M.set i ((M[i]?.getD []).set j x)
theorem setC_len {M : List (List Int)} {i j : Nat} {x : Int} : (setC M i j x).length = M.length := by
  unfold setC
  rw [List.length_set]
theorem setC_at {M : List (List Int)} {i j : Nat} {x : Int} {m : List Int} (h : M[i]? = some m) : (setC M i j x)[i]? = some (m.set j x) := by
  have hi := (List.getElem?_eq_some_iff.mp h).1
  unfold setC
  rw [List.getElem?_set_self hi, h]
  rfl
theorem ImgAt.setC {CI CP : Addr} {H : Hp} {im : Addr} {A : IA} {v : IV} {b n s : Int} (I : ImgAt CI CP H im A v b n s) {i j : Nat} {x : Int} {r : Addr} {m : List Int} (hr : A.rs[i]? = some r) (hm : v.M[i]? = some m) :
    ImgAt CI CP (upd H r (.lst ((m.map V.int).set j (V.int x)))) im A { v with M := setC v.M i j x } b n s := by
  have h8 : m.length = 8 := I.d1 m (List.mem_of_getElem? hm)
  have := I.putRow (m := m.set j x) hr (by rw [List.length_set]; exact h8)
  rw [List.map_set] at this
  unfold K78.setC
  rw [hm]
  exact this
/-- the index i of a list of a known length -/
theorem ixN_nat {n : Nat} {z : Int} {i : Nat} (e : z = i) (h : i < n) : ixN n z = some i := by
  subst e
  unfold ixN
  rw [if_pos (by omega), if_pos (by omega)]
  rfl
def zerosM (b : Int) : List (List Int) := List.replicate b.toNat (List.replicate 8 0)
def fmM (b : Int) : Nat → List (List Int)
  | 0 => zerosM b
  | k + 1 => setC (fmM b k) (2 + k / 8) (k % 8) 1
def freshM (b n : Int) : List (List Int) :=
  let r := (2 + (b + 8 - 1) / 8).toNat
  setC (setC (setC (fmM b (r + n.toNat)) r 0 2) r 1 1) r 7 1
section
variable {P : Program} {w : World} {K : PySem.W.Frag} {mg : Str → Option Value} {base : Heap}
def sp_fresh (CI CP : Addr) : Sp := fun vs H Q _ => ∃ (pl : Addr) (b n s : Int), vs = [.ref pl] ∧ PlanAt CP H pl b n s ∧
  ∀ (H' : Hp) (im : Addr) (A : IA), Same H H' → H im = none → ImgAt CI CP H' im A (ofV b n (freshM b n) b.toNat) b n s → A.New H → A.pl = pl → Q (.ref im) H'
theorem ok_fresh (T : Tx K mg) : FnOk P w K mg base CX0 4 T.f_Image_fresh T.fd_Image_fresh ["plan"] (sp_fresh T.C_Image T.C_Plan) := by
  refine T.F_Image_fresh.ok sc_Image_fresh (fun vs H Q E h => ?_) (fun cdv A0 outer s H vs Q E hr h => ?_)
  · obtain ⟨_, _, _, _, rfl, _⟩ := h; rfl
  · obtain ⟨pl, b, n, sl, rfl, hP, k⟩ := h
    have hr1 : Room 1 _ := hr.mono (by decide)
    have hr2 : Room 2 _ := hr.mono (by decide)
    refine ⟨_, (pss_cons (ps_set (i := 1) sc_Image_fresh.nd rfl (.inl rfl) (pe_make T.mk_Image (ok_Image_init T) hr2 rfl T.mg_Image (b_Image___init__ T) .nil pass0 (pa_cons (pv 0) pa_nil)))
      (pss_cons (ps_for PassesOwn.never rfl (pi_range1 rfl T.b_range (pa_cons (pe_fld (pv 0) rfl) pa_nil)) (pg_name (i := 2) sc_Image_fresh.nd rfl (.inl rfl))
        (pss_cons (ps_asg (pe_meth (pv 0) T.cl_Plan T.m_Plan_map_place (ok_Plan_map_place T) hr1 (b_Plan_map_place T) .nil pass0 (pa_cons (pv 2) pa_nil)) (pg_tup rfl (pgs_cons (pg_name (i := 3) sc_Image_fresh.nd rfl (.inl rfl)) (pgs_cons (pg_name (i := 4) sc_Image_fresh.nd rfl (.inl rfl)) pgs_nil))))
        (pss_one (ps_asg (pe_cv T.mg_Plan T.cr_Plan T.cv_Plan_LOGGED) (pg_sub (pe_ix ix_list (pe_fld (pv 1) rfl) (pv 3) (fun _ _ => rfl)) (pv 4) set_list)))))
      (pss_cons (ps_set (i := 5) sc_Image_fresh.nd rfl (.inl rfl) (pe_ix ix_list (pe_fld (pv 1) rfl) (pe_meth (pv 0) T.cl_Plan T.m_Plan_node_block (ok_Plan_node_block T) hr1 (b_Plan_node_block T) .nil pass0 (pa_cons (pe_gc T.c_ROOT) pa_nil)) (fun _ _ => rfl)))
      (pss_cons (ps_asg (pe_gc T.c_FOLDER) (pg_sub (pv 5) (pe_gc T.c_KIND) set_list))
      (pss_cons (ps_asg pe_int (pg_sub (pv 5) (pe_gc T.c_LINKS) set_list))
      (pss_cons (ps_asg pe_int (pg_sub (pv 5) (pe_gc T.c_MAKING) set_list))
      (pss_one (ps_ret (pe_smeth T.mg_Image T.cr_Image T.sm_Image_of_cells (ok_of_cells T) hr (b_Image_of_cells T) .nil pass0 (pa_cons (pv 0) (pa_cons (pe_fld (pv 1) rfl) pa_nil))))))))))), ?_⟩
    obtain ⟨dxp, hpl⟩ := hP.ob
    have hb1 := hP.b1
    have hb2 := hP.b2
    have hd := hP.d
    have hn1 := hP.n1
    -- image = Image(plan)
    refine ⟨_, rfl, fun x dx nx ndx nex => ?_⟩
    have s1 : Same H (upd (upd H dx (.own x)) x (.ins T.C_Image dx [])) := (same_upd ndx).trans (same_upd (by rw [upd_ne nex.symm]; exact nx))
    refine ⟨x, dx, pl, b, n, sl, rfl, upd_same, hP.same s1, fun H1 A k1 I1 N1 eA => ⟨rfl, ?_⟩⟩
    have S1 : Same H H1 := fun y o e => k1 y o (s1 _ _ e) (ne_of_none e nx)
    have Nrs : ∀ q ∈ A.rs, H q = none := fun q hq => un (un (N1.rs q hq))
    have pr : pl ∉ A.rs := fun z => by rw [Nrs _ z] at hpl; cases hpl
    -- the map
    refine ⟨_, rfl, pl, _, dxp, _, _, rfl, S1 _ _ hpl, T.cl_Plan, T.na_Plan_first_data, rfl, _, rfl, by omega, by omega, for_range (lo := 0) (n := (2 + (b + 8 - 1) / 8 + n).toNat) (fun i σ H' => ∃ (u2 u3 u4 : Option V), σ = [some (.ref pl), some (.ref x), u2, u3, u4, none] ∧ ImgAt T.C_Image T.C_Plan H' x A { zeroV b with M := fmM b i } b n sl ∧ Same H H')
      ⟨_, _, _, rfl, I1, S1⟩ ?_ ?_⟩
    · rintro i σ H' hi ⟨u2, u3, u4, rfl, I, S⟩
      refine ⟨_, rfl, pl, dxp, _, rfl, S _ _ hpl, rfl, _, rfl, pl, b, n, sl, _, rfl, hP.same S, fun t ht => ?_⟩
      have st := same_upd (o := .tup [.int (2 + (0 + (i : Int)) / 8), .int ((0 + (i : Int)) % 8)]) ht
      refine ⟨t, _, rfl, .inl (.inl upd_same), rfl, _, _, rfl, _, _, rfl, rfl, ?_⟩
      have It := I.keep st
      have d0 := It.d0
      have hl : 2 + i / 8 < (fmM b i).length := by
        have : ((fmM b i).length : Int) = b := d0
        omega
      obtain ⟨r, hr1, hr2, _⟩ := It.gr.get (List.getElem?_eq_getElem hl)
      have h8 : ((fmM b i)[2 + i / 8]).length = 8 := It.d1 _ (List.getElem_mem hl)
      refine ⟨_, rfl, x, _, _, _, _, rfl, It.ob, T.cl_Image, T.na_Image_cells, rfl, _, rfl, A.ca, _, _, .ref r, rfl, rfl, .of It.gr.out, at_of (j := 2 + i / 8) (by omega) (by rw [List.getElem?_map, hr1]; rfl), _, rfl, r, _, _, i % 8, rfl, rfl, hr2, ixN_nat (by omega) (by rw [List.length_map, h8]; omega), ?_⟩
      refine ⟨_, _, _, rfl, It.setC (j := i % 8) (x := 1) hr1 (List.getElem?_eq_getElem hl), fun y o e => ?_⟩
      rw [upd_ne (ne_of_none e (Nrs r (List.mem_of_getElem? hr1)))]
      exact st _ _ (S _ _ e)
    · rintro σ H' ⟨u2, u3, u4, rfl, I, S⟩
      have d0 := I.d0
      -- root = ..
      have hl : (2 + (b + 8 - 1) / 8).toNat < (fmM b (2 + (b + 8 - 1) / 8 + n).toNat).length := by
        have : ((fmM b (2 + (b + 8 - 1) / 8 + n).toNat).length : Int) = b := d0
        omega
      obtain ⟨r, hr1, hr2, _⟩ := I.gr.get (List.getElem?_eq_getElem hl)
      generalize hm : (fmM b (2 + (b + 8 - 1) / 8 + n).toNat)[(2 + (b + 8 - 1) / 8).toNat] = m at hr2
      have hm' : (fmM b (2 + (b + 8 - 1) / 8 + n).toNat)[(2 + (b + 8 - 1) / 8).toNat]? = some m := by rw [List.getElem?_eq_getElem hl, hm]
      have h8 : m.length = 8 := I.d1 _ (List.mem_of_getElem? hm')
      refine ⟨_, rfl, x, _, _, _, _, rfl, I.ob, T.cl_Image, T.na_Image_cells, rfl, _, rfl, pl, dxp, _, rfl, S _ _ hpl, rfl, pl, b, n, sl, 1, rfl, hP.same S, A.ca, _, _, .ref r, rfl, rfl, .of I.gr.out, at_of (j := (2 + (b + 8 - 1) / 8).toNat) (by omega) (by rw [List.getElem?_map, hr1]; rfl), ?_⟩
      refine ⟨_, rfl, r, _, _, 0, rfl, rfl, hr2, ixN_nat rfl (by rw [List.length_map, h8]; omega), ?_⟩
      have I1 := I.setC (j := 0) (x := 2) hr1 hm'
      refine ⟨_, rfl, r, _, _, 1, rfl, rfl, upd_same, ixN_nat rfl (by simp [h8]), ?_⟩
      have e1 : (m.map V.int).set 0 (V.int 2) = (m.set 0 2).map V.int := List.map_set.symm
      rw [e1] at I1 ⊢
      have I2 := I1.setC (j := 1) (x := 1) hr1 (setC_at hm')
      refine ⟨_, rfl, r, _, _, 7, rfl, rfl, upd_same, ixN_nat rfl (by simp [h8]), ?_⟩
      have e2 : ((m.set 0 2).map V.int).set 1 (V.int 1) = ((m.set 0 2).set 1 1).map V.int := List.map_set.symm
      rw [e2] at I2 ⊢
      have I3 := I2.setC (j := 7) (x := 1) hr1 (setC_at (setC_at hm'))
      rw [upd_upd, upd_upd]
      rw [upd_upd, upd_upd] at I3
      generalize hHf : upd H' r (.lst ((((m.set 0 2).set 1 1).map V.int).set 7 (V.int 1))) = Hf at I3 ⊢
      have Sf : Same H Hf := fun y o e => by
        rw [← hHf, upd_ne (ne_of_none e (Nrs r (List.mem_of_getElem? hr1)))]
        exact S _ _ e
      have eM : freshM b n = setC (setC (setC (fmM b (2 + (b + 8 - 1) / 8 + n).toNat) (2 + (b + 8 - 1) / 8).toNat 0 2) (2 + (b + 8 - 1) / 8).toNat 1 1) (2 + (b + 8 - 1) / 8).toNat 7 1 := by
        unfold freshM
        rw [show (2 + (b + 8 - 1) / 8 + n).toNat = (2 + (b + 8 - 1) / 8).toNat + n.toNat by omega]
      refine ⟨_, rfl, _, rfl, x, _, _, _, _, rfl, I3.ob, T.cl_Image, T.na_Image_cells, rfl, pl, A.ca, A.rs, _, b, n, sl, rfl, hP.same Sf, I3.gr.mixed, I3.d0, I3.d1, fun H2 im A2 S2 nim I2 N2 eA2 => ?_⟩
      have fr : ∀ y, Hf y = none → H y = none := fun y e => Sf.free e
      refine k H2 im A2 (Sf.trans S2) (fr _ nim) ?_ ⟨fr _ N2.ca, fun q hq => fr _ (N2.rs q hq), fr _ N2.ho, fr _ N2.st, fr _ N2.hd⟩ eA2
      rw [eM]
      exact I2
end
end K78
namespace K78
open PySem PySem.Spec PyProof.Rows L2 Rg
section
variable {P : Program} {w : World} {K : PySem.W.Frag} {mg : Str → Option Value} {base : Heap}
def sp_twin (CI CP : Addr) : Sp := fun vs H Q _ => ∃ (im : Addr) (A : IA) (v : IV) (b n s : Int), vs = [.ref im] ∧ ImgAt CI CP H im A v b n s ∧
  ∀ (H' : Hp) (im' : Addr) (A' : IA), Same H H' → H im' = none → ImgAt CI CP H' im' A' v b n s → A'.New H → A'.pl = A.pl → A'.ba = A.ba → Q (.ref im') H'
theorem ok_twin (T : Tx K mg) : FnOk P w K mg base CX0 3 T.f_Image_twin T.fd_Image_twin ["self"] (sp_twin T.C_Image T.C_Plan) := by
  refine T.F_Image_twin.ok sc_Image_twin (fun vs H Q E h => ?_) (fun cdv A0 outer s H vs Q E hr h => ?_)
  · obtain ⟨_, _, _, _, _, _, rfl, _⟩ := h; rfl
  · obtain ⟨im, A, v, b, n, sl, rfl, I, k⟩ := h
    refine ⟨_, (pss_cons (ps_set (i := 1) sc_Image_twin.nd rfl (.inl rfl) (pe_make T.mk_Image (ok_Image_init T) hr rfl T.mg_Image (b_Image___init__ T) .nil pass0 (pa_cons (pe_fld (pv 0) rfl) pa_nil)))
      (pss_cons (ps_fld (pv 1) (pe_lc rfl (own := [("row", 2)]) (g := gName 2) (tt := tYes) sc_Image_twin.nd (pi_list (pe_fld (pv 0) rfl)) (blkOk_by (N := ["self", "other", "row"]) (sc := defScope s_Image_twin) (by decide +kernel)) (fun _ _ _ _ _ => pg_name (i := 2) sc_Image_twin.nd rfl (Or.inl rfl)) (fun _ _ _ _ _ => pts_nil) (fun _ _ _ _ _ => (pe_listof (K := K) (pv 2) T.b_list))) rfl)
      (pss_cons (ps_fld (pv 1) (pe_listof (K := K) (pe_fld (pv 0) rfl) T.b_list) rfl)
      (pss_cons (ps_fld (pv 1) (pe_listof (K := K) (pe_fld (pv 0) rfl) T.b_list) rfl)
      (pss_cons (ps_fld (pv 1) (pe_callTy call_dictD rfl T.b_dict (by decide +kernel) (pa_cons (pe_fld (pv 0) rfl) pa_nil)) rfl)
      (pss_cons (ps_fld (pv 1) (pe_fld (pv 0) rfl) rfl)
      (pss_cons (ps_fld (pv 1) (pe_fld (pv 0) rfl) rfl)
      (pss_cons (ps_fld (pv 1) (pe_fld (pv 0) rfl) rfl)
      (pss_one (ps_ret (pv 1))))))))))), ?_⟩
    obtain ⟨dxp, hpl⟩ := I.pl.ob
    have hb1 := I.pl.b1
    have hb2 := I.pl.b2
    -- other = Image(self.plan)
    refine ⟨_, rfl, im, _, _, _, _, rfl, I.ob, T.cl_Image, T.na_Image_plan, rfl, fun x dx nx ndx nex => ?_⟩
    have s1 : Same H (upd (upd H dx (.own x)) x (.ins T.C_Image dx [])) := (same_upd ndx).trans (same_upd (by rw [upd_ne nex.symm]; exact nx))
    refine ⟨x, dx, A.pl, b, n, sl, rfl, upd_same, I.pl.same s1, fun H1 A1 k1 I1 N1 eA => ⟨rfl, ?_⟩⟩
    have S1 : Same H H1 := fun y o e => k1 y o (s1 _ _ e) (ne_of_none e nx)
    have J1 := I.keep S1
    -- other.cells
    refine ⟨_, rfl, im, _, _, _, _, rfl, J1.ob, T.cl_Image, T.na_Image_cells, rfl, A.ca, rfl, ⟨_, .of J1.gr.out⟩, fun D hD => ?_⟩
    refine lc_list (K := K) (a := A.ca) (xs := A.rs.map V.ref) (fun i H' => ∃ qs, NewGrid H1 H' D qs (v.M.take i))
      ⟨[], NewGrid.start (Same.refl _) hD hD⟩ (fun i H' _ ⟨qs, G⟩ => .of (G.same _ _ J1.gr.out)) ?_ ?_
    · rintro i y H' hi ⟨qs, G⟩
      have hil : i < A.rs.length := by
        have := (List.getElem?_eq_some_iff.mp hi).1
        rw [List.length_map] at this
        exact this
      rw [List.getElem?_map, List.getElem?_eq_getElem hil] at hi
      have hi : V.ref A.rs[i] = y := Option.some.inj hi
      subst hi
      have hiR : i < v.M.length := by rw [← J1.gr.len]; exact hil
      have hrow := G.same _ _ (J1.gr.row i A.rs[i] v.M[i] (List.getElem?_eq_getElem hil) (List.getElem?_eq_getElem hiR))
      have d0 := I.d0
      refine ⟨rfl, ?_⟩
      refine yes_ ?_
      refine ⟨_, rfl, A.rs[i], _, rfl, .inl (.of hrow), fun q hq => ?_⟩
      refine ⟨_, by rw [upd_ne (ne_of_none G.grid.out hq)]; exact G.grid.out, ?_, qs ++ [q], ?_⟩
      · rw [List.length_map, G.grid.len, List.length_take]
        exact small1000 (by omega)
      · rw [List.take_succ, List.getElem?_eq_getElem hiR]
        exact G.snoc (same_upd hq) hq upd_same
    rintro H2 ⟨qs, G⟩
    rw [List.length_map, J1.gr.len, List.take_length] at G
    have I2 : ImgAt T.C_Image T.C_Plan H2 x A1 (zeroV b) b n sl := I1.keep G.same
    have J2 := J1.keep G.same
    have nix : im ≠ x := ne_of_none I.ob nx
    refine ⟨_, rfl, x, _, _, _, rfl, I2.ob, T.cl_Image, T.na_Image_cells, (by show 8 < 1000; decide), ?_⟩
    generalize hH3 : upd H2 x _ = H3
    obtain ⟨e3, k3, n3⟩ := own_f hH3
    have o3 := k3.at1 J2.ob nix
    have nxho : A.ho ≠ x := ne_of_none I.ho nx
    have nxst : A.st ≠ x := ne_of_none I.st nx
    have nxhd : A.hd ≠ x := ne_of_none I.hd nx
    -- other.holdings
    refine ⟨_, rfl, im, _, _, _, _, rfl, o3, T.cl_Image, T.na_Image_holdings, rfl, A.ho, _, rfl, .inl (.of (k3.at1 J2.ho nxho)), fun ho hho => ?_⟩
    generalize hH4 : upd H3 ho _ = H4
    obtain ⟨e4, s4, n4⟩ := new_f hH4 hho
    refine ⟨_, rfl, x, _, _, _, rfl, s4 _ _ e3, T.cl_Image, T.na_Image_holdings, (by show 8 < 1000; decide), ?_⟩
    generalize hH5 : upd H4 x _ = H5
    obtain ⟨e5, k5, n5⟩ := own_f hH5
    have o5 := k5.at1 (s4 _ _ o3) nix
    have nhox : ho ≠ x := (ne_of_none e3 hho).symm
    have ho5 := k5.at1 e4 nhox
    -- other.stamps
    refine ⟨_, rfl, im, _, _, _, _, rfl, o5, T.cl_Image, T.na_Image_stamps, rfl, A.st, _, rfl, .inl (.of (k5.at1 (s4 _ _ (k3.at1 J2.st nxst)) nxst)), fun st hst => ?_⟩
    generalize hH6 : upd H5 st _ = H6
    obtain ⟨e6, s6, n6⟩ := new_f hH6 hst
    refine ⟨_, rfl, x, _, _, _, rfl, s6 _ _ e5, T.cl_Image, T.na_Image_stamps, (by show 8 < 1000; decide), ?_⟩
    generalize hH7 : upd H6 x _ = H7
    obtain ⟨e7, k7, n7⟩ := own_f hH7
    have o7 := k7.at1 (s6 _ _ o5) nix
    have nstx : st ≠ x := (ne_of_none e5 hst).symm
    have nstho : st ≠ ho := (ne_of_none ho5 hst).symm
    have st7 := k7.at1 e6 nstx
    have ho7 := k7.at1 (s6 _ _ ho5) nhox
    -- other.handles
    have hd7 := k7.at1 (s6 _ _ (k5.at1 (s4 _ _ (k3.at1 J2.hd nxhd)) nxhd)) nxhd
    refine ⟨_, rfl, im, _, _, _, _, rfl, o7, T.cl_Image, T.na_Image_handles, rfl, A.hd, _, rfl, .inl hd7, fun hd hhd => ?_⟩
    generalize hH8 : upd H7 hd _ = H8
    obtain ⟨e8, s8, n8⟩ := new_f hH8 hhd
    refine ⟨_, rfl, x, _, _, _, rfl, s8 _ _ e7, T.cl_Image, T.na_Image_handles, (by show 8 < 1000; decide), ?_⟩
    generalize hH9 : upd H8 x _ = H9
    obtain ⟨e9, k9, n9⟩ := own_f hH9
    have nhdx : hd ≠ x := (ne_of_none e7 hhd).symm
    have o9 := k9.at1 (s8 _ _ o7) nix
    -- serial, wish, barred
    refine ⟨_, rfl, im, _, _, _, _, rfl, o9, T.cl_Image, T.na_Image_serial, rfl, _, rfl, x, _, _, _, rfl, e9, T.cl_Image, T.na_Image_serial, (by show 8 < 1000; decide), ?_⟩
    generalize hH10 : upd H9 x _ = H10
    obtain ⟨e10, k10, n10⟩ := own_f hH10
    refine ⟨_, rfl, im, _, _, _, _, rfl, k10.at1 o9 nix, T.cl_Image, T.na_Image_wish, rfl, _, rfl, x, _, _, _, rfl, e10, T.cl_Image, T.na_Image_wish, (by show 8 < 1000; decide), ?_⟩
    generalize hH11 : upd H10 x _ = H11
    obtain ⟨e11, k11, n11⟩ := own_f hH11
    refine ⟨_, rfl, im, _, _, _, _, rfl, k11.at1 (k10.at1 o9 nix) nix, T.cl_Image, T.na_Image_barred, rfl, _, rfl, x, _, _, _, rfl, e11, T.cl_Image, T.na_Image_barred, (by show 8 < 1000; decide), ?_⟩
    generalize hH12 : upd H11 x _ = H12
    obtain ⟨e12, k12, n12⟩ := own_f hH12
    have k9' : Kp [x] H9 H12 := (k10.trans k11).trans k12
    have k2' : Kp [x] H2 H12 := (((((k3.same s4).trans k5).same s6).trans k7).same s8).trans (k9.trans k9')
    have S12 : Same H H12 := fun y o e => k2'.at1 (G.same _ _ (S1 _ _ e)) (ne_of_none e nx)
    have N1' : ∀ y, H1 y = none → H y = none := fun y e => S1.free e
    have f_ho : H2 ho = none := (n3 _ hho).1
    have f_st : H2 st = none := (n3 _ (n4 _ (n5 _ hst).1).1).1
    have f_hd : H2 hd = none := (n3 _ (n4 _ (n5 _ (n6 _ (n7 _ hhd).1).1).1).1).1
    have fr : ∀ y, H2 y = none → H y = none := fun y e => N1' _ (G.same.free e)
    have xD : x ≠ D := ne_of_none I1.ob G.freshD
    have xq : x ∉ qs := (G.nin0 I1.ob).2
    have qn : ∀ y, H2 y = none → y ∉ qs := fun y e hq => by
      obtain ⟨o, z⟩ := G.grid.held hq
      rw [e] at z
      cases z
    refine ⟨_, rfl, k H12 x ⟨A1.dx, A1.pl, D, qs, ho, st, hd, A.ba⟩ S12 nx
      { ob := e12, pl := ?_, gr := G.grid.keep fun y o hy e => k2'.at1 e ?_, ho := k9'.at1 (k9.at1 (s8 _ _ ho7) nhox) nhox, st := k9'.at1 (k9.at1 (s8 _ _ st7) nstx) nstx, hd := k9'.at1 (k9.at1 e8 nhdx) nhdx, ba := S12 _ _ I.ba, n1 := qn _ f_ho, n2 := qn _ f_st, n3 := nstho.symm, n4 := ne_of_none G.grid.out f_ho, n5 := ne_of_none G.grid.out f_st, d0 := I.d0, d1 := I.d1, d2 := I.d2, d3 := I.d3 }
      ⟨N1' _ G.freshD, fun q hq => N1' _ (G.fresh q hq), fr _ f_ho, fr _ f_st, fr _ f_hd⟩ eA rfl⟩
    · show PlanAt T.C_Plan H12 A1.pl b n sl
      rw [eA]
      exact I.pl.same S12
    · rcases hy with rfl | hy
      · exact xD.symm
      · exact fun z => xq (by rw [← z]; exact hy)
end
end K78
namespace K78
open PySem PySem.Spec PyProof.Rows L2 Rg
/-- what an image is read from -/
def IA.reads (A : IA) (im : Addr) : List Addr := im :: A.pl :: A.ca :: A.ho :: A.st :: A.hd :: A.ba :: A.rs
section
variable {CI CP : Addr} {H : Hp} {im : Addr} {A : IA} {v : IV} {b n s : Int}
theorem ImgAt.keepF {H' : Hp} (I : ImgAt CI CP H im A v b n s) (h : ∀ x o, x ∈ A.reads im → H x = some o → H' x = some o) : ImgAt CI CP H' im A v b n s :=
  { I with ob := h _ _ (by simp [IA.reads]) I.ob, pl := I.pl.of fun o e => h _ _ (by simp [IA.reads]) e, gr := I.gr.keep fun x o hx e => h _ _ (by rcases hx with rfl | hx <;> simp [IA.reads, *]) e, ho := h _ _ (by simp [IA.reads]) I.ho, st := h _ _ (by simp [IA.reads]) I.st, hd := h _ _ (by simp [IA.reads]) I.hd, ba := h _ _ (by simp [IA.reads]) I.ba }
theorem ImgAt.held (I : ImgAt CI CP H im A v b n s) {x : Addr} (h : x ∈ A.reads im) : ∃ o, H x = some o := by
  obtain ⟨dxp, hpl⟩ := I.pl.ob
  simp only [IA.reads, List.mem_cons] at h
  rcases h with rfl | rfl | rfl | rfl | rfl | rfl | rfl | h
  · exact ⟨_, I.ob⟩
  · exact ⟨_, hpl⟩
  · exact ⟨_, I.gr.out⟩
  · exact ⟨_, I.ho⟩
  · exact ⟨_, I.st⟩
  · exact ⟨_, I.hd⟩
  · exact ⟨_, I.ba⟩
  · exact I.gr.held h
/-- the fields of begin -/
theorem ImgAt.beg {t : Addr} {se wi : Int} {bs : List Int} (I : ImgAt CI CP H im A v b n s) (ht : H t = some (.tup (bs.map V.int))) :
    ImgAt CI CP (upd H im (.ins CI A.dx (imgF { A with ba := t } { v with se := se, wi := wi, ba := bs }))) im { A with ba := t } { v with se := se, wi := wi, ba := bs } b n s := by
  obtain ⟨dxp, hpl⟩ := I.pl.ob
  have oc := I.ob
  refine { I with ob := upd_same, pl := I.pl.of fun o e => ?_, gr := I.gr.keep fun y o hy e => ?_, ho := ?_, st := ?_, hd := ?_, ba := ?_ }
  · rw [upd_ne (fun z : A.pl = im => ?_)]
    · exact e
    · rw [z, oc] at hpl
      have := HO.ins.inj (Option.some.inj hpl)
      have := this.2.2
      simp [planF, imgF] at this
  · rw [upd_ne]
    · exact e
    · rcases hy with rfl | hy
      · exact ne_of I.gr.out oc (by intro z; cases z)
      · rintro rfl
        obtain ⟨i, hi, e2⟩ := List.getElem_of_mem hy
        have hm : i < v.M.length := by rw [← I.gr.len]; exact hi
        have := I.gr.row i y v.M[i] (by rw [List.getElem?_eq_getElem hi, e2]) (List.getElem?_eq_getElem hm)
        rw [oc] at this
        cases this
  · rw [upd_ne (ne_of I.ho oc (by intro z; cases z))]; exact I.ho
  · rw [upd_ne (ne_of I.st oc (by intro z; cases z))]; exact I.st
  · rw [upd_ne (ne_of I.hd oc (by intro z; cases z))]; exact I.hd
  · rw [upd_ne (ne_of ht oc (by intro z; cases z))]; exact ht
end
/-- places that stand apart, each with what it holds -/
structure Fr (L : List (Addr × HO)) (H : Hp) : Prop where
  at_ : ∀ p ∈ L, H p.1 = some p.2
  nd : (L.map (·.1)).Nodup
theorem Fr.get {L : List (Addr × HO)} {H : Hp} (F : Fr L H) (i : Nat) {a : Addr} {o : HO} (h : L[i]? = some (a, o)) : H a = some o := F.at_ _ (List.mem_of_getElem? h)
theorem Fr.keep {L : List (Addr × HO)} {H H' : Hp} (F : Fr L H) (h : ∀ p ∈ L, ∀ o, H p.1 = some o → H' p.1 = some o) : Fr L H' := ⟨fun p hp => h p hp _ (F.at_ p hp), F.nd⟩
theorem Fr.same {L : List (Addr × HO)} {H H' : Hp} (F : Fr L H) (h : Same H H') : Fr L H' := F.keep fun _ _ _ e => h _ _ e
theorem Fr.put {L : List (Addr × HO)} {H : Hp} (F : Fr L H) (i : Nat) {a : Addr} {o o' : HO} (h : L[i]? = some (a, o)) : Fr (L.set i (a, o')) (upd H a o') := by
  have hi : i < L.length := (List.getElem?_eq_some_iff.mp h).1
  have e : (L.set i (a, o')).map (·.1) = L.map (·.1) := by
    apply List.ext_getElem?
    intro j
    rw [List.getElem?_map, List.getElem?_map]
    by_cases q : i = j
    · subst q
      rw [List.getElem?_set_self hi, h]
      rfl
    · rw [List.getElem?_set_ne q]
  refine ⟨fun p hp => ?_, by rw [e]; exact F.nd⟩
  obtain ⟨j, hj, ej⟩ := List.getElem_of_mem hp
  by_cases q : i = j
  · subst q
    rw [List.getElem_set_self] at ej
    rw [← ej]
    exact upd_same
  · rw [List.getElem_set_ne q] at ej
    have hjl : j < L.length := by rw [List.length_set] at hj; exact hj
    have hpL : p ∈ L := by rw [← ej]; exact List.getElem_mem hjl
    rw [upd_ne]
    · exact F.at_ p hpL
    · intro z
      have n1 : (L.map (·.1))[i]? = some a := by rw [List.getElem?_map, h]; rfl
      have n2 : (L.map (·.1))[j]? = some a := by rw [List.getElem?_map, List.getElem?_eq_getElem hjl, ej, ← z]; rfl
      have il : i < (L.map (·.1)).length := by rw [List.length_map]; exact hi
      have jl : j < (L.map (·.1)).length := by rw [List.length_map]; exact hjl
      rw [List.getElem?_eq_getElem il] at n1
      rw [List.getElem?_eq_getElem jl] at n2
      exact q ((List.getElem_inj F.nd).mp ((Option.some.inj n1).trans (Option.some.inj n2).symm))
theorem Fr.held {L : List (Addr × HO)} {H : Hp} (F : Fr L H) {a : Addr} (h : H a = none) : ∀ p ∈ L, p.1 ≠ a := fun p hp z => by
  have := F.at_ p hp
  rw [z, h] at this
  cases this
/-- one more, at a new place -/
theorem Fr.cons {L : List (Addr × HO)} {H : Hp} (F : Fr L H) {a : Addr} {o : HO} (h : H a = none) : Fr ((a, o) :: L) (upd H a o) := by
  refine ⟨fun p hp => ?_, ?_⟩
  · rcases List.mem_cons.mp hp with rfl | hp
    · exact upd_same
    · rw [upd_ne (F.held h p hp)]
      exact F.at_ p hp
  · rw [List.map_cons, List.nodup_cons]
    refine ⟨fun z => ?_, F.nd⟩
    obtain ⟨p, hp, e⟩ := List.mem_map.mp z
    exact F.held h p hp e
theorem Fr.nil {H : Hp} : Fr [] H := ⟨fun _ h => absurd h List.not_mem_nil, List.nodup_nil⟩
/-- an image, and places apart from it -/
structure SI (CI CP : Addr) (H : Hp) (im : Addr) (A : IA) (v : IV) (b n s : Int) (L : List (Addr × HO)) : Prop where
  I : ImgAt CI CP H im A v b n s
  F : Fr L H
  ap : ∀ p ∈ L, p.1 ∉ A.reads im
section
variable {CI CP : Addr} {H : Hp} {im : Addr} {A : IA} {v : IV} {b n s : Int} {L : List (Addr × HO)}
theorem SI.same {H' : Hp} (S : SI CI CP H im A v b n s L) (h : Same H H') : SI CI CP H' im A v b n s L := ⟨S.I.keep h, S.F.same h, S.ap⟩
theorem SI.put (S : SI CI CP H im A v b n s L) (i : Nat) {a : Addr} {o o' : HO} (h : L[i]? = some (a, o)) : SI CI CP (upd H a o') im A v b n s (L.set i (a, o')) := by
  have ha := S.ap _ (List.mem_of_getElem? h)
  refine ⟨S.I.keepF fun x q hx e => ?_, S.F.put i h, fun p hp => ?_⟩
  · rw [upd_ne fun z => ha (by rw [← z]; exact hx)]
    exact e
  · rcases mem_set_of hp with e | e
    · rw [e]; exact ha
    · exact S.ap p e
/-- the image changed, at its own places -/
theorem SI.img {H' : Hp} {A' : IA} {v' : IV} (S : SI CI CP H im A v b n s L) (I' : ImgAt CI CP H' im A' v' b n s) (k : Kp (A.reads im) H H') (hr : ∀ x ∈ A'.reads im, x ∈ A.reads im ∨ H x = none) : SI CI CP H' im A' v' b n s L :=
  ⟨I', S.F.keep fun p hp o e => k _ _ e (S.ap p hp), fun p hp z => by
    rcases hr _ z with e | e
    · exact S.ap p hp e
    · exact S.F.held e p hp rfl⟩
end
section
variable {X : Cx}
def rGetL (K : PySem.W.Frag) : V → V → Hp → VK → Prop := fun x y H Q => ∃ p xs j v, x = .ref p ∧ y = .int ((j : Nat) : Int) ∧ SqL K H p xs ∧ xs[j]? = some v ∧ Q v H
theorem get_list : PGet X (rGetL X.K) := by
  intro pins s σ H o i ov iv Q I ro ri h
  obtain ⟨p, xs, j, v, rfl, rfl, hq, he, q⟩ := h
  cases ro
  obtain ⟨t, rfl⟩ := ri
  obtain ⟨its, r, pl, hz⟩ := I.list hq
  obtain ⟨w, ew, rw'⟩ := r.get he
  have hn := line63
  have hl := r.length
  have hj := (List.getElem?_eq_some_iff.mp he).1
  exact wpAny_getItem_list pl.isList (by omega) (by omega) (by simpa using ew) ⟨v, H, I, rw', q⟩
end
section
variable {P : Program} {w : World} {K : PySem.W.Frag} {mg : Str → Option Value} {base : Heap}
/-! ### begin -/
def sp_begin (CI CP : Addr) : Sp := fun vs H Q _ => ∃ (im : Addr) (A : IA) (v : IV) (b n s wi : Int) (q : Addr) (bs : List Int), vs = [.ref im, .int wi, .ref q] ∧ ImgAt CI CP H im A v b n s ∧ (H q = some (.lst (bs.map V.int)) ∨ H q = some (.tup (bs.map V.int))) ∧
  ∀ (H' : Hp) (t : Addr), ImgAt CI CP H' im { A with ba := t } { v with se := v.se + 1, wi := wi, ba := bs } b n s → Kp [im] H H' → (H t = none ∨ t = q) → Q .non H'
theorem ok_begin (T : Tx K mg) : FnOk P w K mg base CX0 1 T.f_Image_begin T.fd_Image_begin ["self", "wish", "barred"] (sp_begin T.C_Image T.C_Plan) := by
  refine T.F_Image_begin.ok sc_Image_begin (fun vs H Q E h => ?_) (fun cdv A0 outer s H vs Q E hr h => ?_)
  · obtain ⟨_, _, _, _, _, _, _, _, _, rfl, _⟩ := h; rfl
  · obtain ⟨im, A, v, b, n, sl, wi, q, bs, rfl, I, hq, k⟩ := h
    refine ⟨_, (pss_cons (ps_fldaug (pv 0) pe_int in_add)
      (pss_cons (ps_fld (pv 0) (pv 1) rfl)
      (pss_one (ps_fld (pv 0) (pe_callTy call_tuple_of rfl T.b_tuple (by decide +kernel) (pa_cons (pv 2) pa_nil)) rfl)))), ?_⟩
    refine ⟨_, rfl, im, _, _, _, _, rfl, I.ob, T.cl_Image, T.na_Image_serial, rfl, _, _, rfl, rfl, _, _, I.ob, (by show 8 < 1000; decide), ?_⟩
    refine ⟨_, rfl, _, rfl, im, _, _, _, rfl, upd_same, T.cl_Image, T.na_Image_wish, (by show 8 < 1000; decide), ?_⟩
    rw [upd_upd]
    have k0 : ∀ o, Kp [im] H (upd H im o) := fun o => Kp.refl.own1
    have qn : q ≠ im := fun z => by
      rw [z, I.ob] at hq
      rcases hq with e | e <;> cases e
    refine ⟨_, rfl, q, bs.map V.int, rfl, ?_⟩
    rcases hq with hq | hq
    · refine .inl ⟨.of ((k0 _).at1 hq qn), fun t ht => ?_⟩
      refine ⟨_, rfl, im, _, A.dx, _, rfl, (by rw [upd_ne (unn' ht), upd_same]), T.cl_Image, T.na_Image_barred, (by show 8 < 1000; decide), ?_⟩
      have ti := unn' ht
      have t0 := un ht
      have e1 : ∀ o1 o2 o3, upd (upd (upd H im o1) t o2) im o3 = upd (upd H t o2) im o3 := fun o1 o2 o3 => by
        rw [upd_comm ti, upd_upd]
      rw [e1]
      exact k _ t ((I.keep (same_upd t0)).beg upd_same) ((Kp.of (same_upd t0)).own1) (.inl t0)
    · refine .inr ⟨.of ((k0 _).at1 hq qn), ?_⟩
      refine ⟨_, rfl, im, _, A.dx, _, rfl, upd_same, T.cl_Image, T.na_Image_barred, (by show 8 < 1000; decide), ?_⟩
      rw [upd_upd]
      exact k _ q (I.beg hq) (k0 _) (.inr rfl)
/-! ### data_blocks, free_blocks, identity -/
def rng (lo : Int) (n : Nat) : List Int := (List.range n).map fun i => lo + (i : Nat)
theorem rng_succ {lo : Int} {n : Nat} : rng lo (n + 1) = rng lo n ++ [lo + n] := by
  unfold rng
  rw [List.range_succ, List.map_append]
  rfl
theorem rng_len {lo : Int} {n : Nat} : (rng lo n).length = n := by unfold rng; simp
theorem rng_get {lo : Int} {n i : Nat} (h : i < n) : (rng lo n)[i]? = some (lo + i) := by
  unfold rng
  rw [List.getElem?_map, List.getElem?_range h]
  rfl
theorem rng_mem {lo x : Int} {n : Nat} (h : x ∈ rng lo n) : lo ≤ x ∧ x < lo + n := by
  unfold rng at h
  obtain ⟨i, hi, e⟩ := List.mem_map.mp h
  rw [List.mem_range] at hi
  omega
theorem rgV_rng (a b : Int) : rgV a b = (rng a (b - a).toNat).map V.int := by
  unfold rgV rng
  rw [List.map_map]
  rfl
def sp_data_blocks (CP : Addr) : Sp := fun vs H Q _ => ∃ (p : Addr) (b n s : Int), vs = [.ref p] ∧ PlanAt CP H p b n s ∧ ∀ q, H q = none → Q (.ref q) (upd H q (.lst ((rng (2 + (b + 8 - 1) / 8 + n) (b - (2 + (b + 8 - 1) / 8 + n)).toNat).map V.int)))
theorem ok_data_blocks (T : Tx K mg) : FnOk P w K mg base CX0 1 T.f_Plan_data_blocks T.fd_Plan_data_blocks ["self"] (sp_data_blocks T.C_Plan) := by
  refine T.F_Plan_data_blocks.ok sc_Plan_data_blocks (fun vs H Q E h => ?_) (fun cdv A0 outer s H vs Q E hr h => ?_)
  · obtain ⟨_, _, _, _, rfl, _⟩ := h; rfl
  · obtain ⟨p, b, n, sl, rfl, hP, k⟩ := h
    refine ⟨_, (pss_one (ps_ret (pe_listRg rfl rfl T.b_list (prg_2 rfl T.b_range (pe_fld (pv 0) rfl) (pe_fld (pv 0) rfl))))), ?_⟩
    obtain ⟨dxp, hpl⟩ := hP.ob
    have b1 := hP.b1
    have b2 := hP.b2
    have n1 := hP.n1
    have n2 := hP.n2
    refine ⟨_, rfl, p, _, dxp, _, _, rfl, hpl, T.cl_Plan, T.na_Plan_first_data, rfl, _, rfl, p, _, dxp, _, _, rfl, hpl, T.cl_Plan, T.na_Plan_blocks, rfl, _, _, rfl, rfl, ⟨by omega, by omega, by omega, by omega, by omega⟩, fun q hq => ?_⟩
    rw [rgV_rng]
    exact k q hq
def fdOf (b n : Int) : Int := 2 + (b + 8 - 1) / 8 + n
/-- the free data blocks -/
def freeL (b n : Int) (M : List (List Int)) : List Int := (rng (fdOf b n) (b - fdOf b n).toNat).filter fun x => decide (kindOf b n M x = 0)
def sp_free_blocks (CI CP : Addr) : Sp := fun vs H Q _ => ∃ (im : Addr) (A : IA) (v : IV) (b n s : Int), vs = [.ref im] ∧ ImgAt CI CP H im A v b n s ∧ ∀ H' p, Same H H' → H p = none → H' p = some (.lst ((freeL b n v.M).map V.int)) → Q (.ref p) H'
theorem filt_len {l : List Int} {p : Int → Bool} {m : Nat} (h : l.length ≤ m) : (l.filter p).length ≤ m := Nat.le_trans (List.length_filter_le _ _) h
theorem take_get {l : List Int} {i : Nat} {x : Int} (h : l[i]? = some x) : l.take (i + 1) = l.take i ++ [x] := by
  rw [List.take_succ, h]
  rfl
theorem ok_free_blocks (T : Tx K mg) : FnOk P w K mg base CX0 3 T.f_Image_free_blocks T.fd_Image_free_blocks ["self"] (sp_free_blocks T.C_Image T.C_Plan) := by
  refine T.F_Image_free_blocks.ok sc_Image_free_blocks (fun vs H Q E h => ?_) (fun cdv A0 outer s H vs Q E hr h => ?_)
  · obtain ⟨_, _, _, _, _, _, rfl, _⟩ := h; rfl
  · obtain ⟨im, A, v, b, n, sl, rfl, I, k⟩ := h
    have hr1 : Room 1 _ := hr.mono (by decide)
    refine ⟨_, (pss_one (ps_ret (pe_lc rfl (own := [("x", 1)]) (g := gName 1) (tt := _) sc_Image_free_blocks.nd (pi_list (pe_meth0 (pe_fld (pv 0) rfl) T.cl_Plan T.m_Plan_data_blocks (ok_data_blocks T) hr1 (b_Plan_data_blocks T) .nil pass0)) (blkOk_by (N := ["self", "x"]) (sc := defScope s_Image_free_blocks) (by decide +kernel)) (fun _ _ _ _ _ => pg_name (i := 1) sc_Image_free_blocks.nd rfl (Or.inl rfl)) (fun _ _ _ _ _ => pts_one (pt_cmpR op_eq (pe_meth (pv 0) T.cl_Image T.m_Image_kind (ok_Image_kind T) hr (b_Image_kind T) .nil pass0 (pa_cons (pv 1) pa_nil)) (pe_cv T.mg_Plan T.cr_Plan T.cv_Plan_FREE) (nomark _))) (fun _ _ _ _ _ => (pv 1))))), ?_⟩
    obtain ⟨dxp, hpl⟩ := I.pl.ob
    have b1 := I.pl.b1
    have b2 := I.pl.b2
    have n1 := I.pl.n1
    refine ⟨_, rfl, im, _, _, _, _, rfl, I.ob, T.cl_Image, T.na_Image_plan, rfl, A.pl, dxp, _, rfl, hpl, rfl, A.pl, b, n, sl, rfl, I.pl, fun q hq => ?_⟩
    have sq := same_upd (o := .lst ((rng (2 + (b + 8 - 1) / 8 + n) (b - (2 + (b + 8 - 1) / 8 + n)).toNat).map V.int)) hq
    refine ⟨q, rfl, ⟨_, .of upd_same⟩, fun D hD => ?_⟩
    have hD0 := un hD
    have nqD : q ≠ D := unn' hD
    refine lc_list (K := K) (a := q) (xs := (rng (2 + (b + 8 - 1) / 8 + n) (b - (2 + (b + 8 - 1) / 8 + n)).toNat).map V.int) (fun i H' => Same H H' ∧ H' q = some (.lst ((rng (2 + (b + 8 - 1) / 8 + n) (b - (2 + (b + 8 - 1) / 8 + n)).toNat).map V.int)) ∧ H' D = some (.lst ((((rng (2 + (b + 8 - 1) / 8 + n) (b - (2 + (b + 8 - 1) / 8 + n)).toNat).take i).filter fun x => decide (kindOf b n v.M x = 0)).map V.int)))
      ⟨sq.trans (same_upd hD), by rw [upd_ne nqD, upd_same], upd_same⟩ (fun i H' _ ⟨_, e, _⟩ => .of e) ?_ ?_
    · rintro i y H' hi ⟨S, e1, e2⟩
      rw [List.getElem?_map] at hi
      obtain ⟨x, hx, rfl⟩ := Option.map_eq_some_iff.mp hi
      have hm := rng_mem (List.mem_of_getElem? hx)
      refine ⟨rfl, ?_⟩
      refine ⟨_, rfl, im, _, _, rfl, S _ _ I.ob, rfl, _, rfl, im, A, v, b, n, sl, x, rfl, I.keep S, by omega, by omega, fun H2 S2 => ?_⟩
      refine ⟨rfl, _, rfl, ?_⟩
      rw [dec_iv]
      by_cases hk : kindOf b n v.M x = 0
      · rw [decide_eq_true hk]
        refine iteT ⟨_, rfl, _, S2 _ _ e2, ?_, fun a o z => ?_, ?_, ?_⟩
        · rw [List.length_map]
          have := filt_len (p := fun x => decide (kindOf b n v.M x = 0)) (List.length_take_le i (rng (2 + (b + 8 - 1) / 8 + n) (b - (2 + (b + 8 - 1) / 8 + n)).toNat))
          have hl := (List.getElem?_eq_some_iff.mp hx).1
          rw [rng_len] at hl
          exact small1000 (by omega)
        · rw [upd_ne (ne_of_none z hD0)]
          exact S2 _ _ (S _ _ z)
        · rw [upd_ne nqD]
          exact S2 _ _ e1
        · rw [upd_same, take_get hx, List.filter_append, List.map_append]
          rw [List.filter_cons, if_pos (by exact decide_eq_true hk)]
          rfl
      · rw [decide_eq_false hk]
        refine iteF ⟨S.trans S2, S2 _ _ e1, ?_⟩
        rw [take_get hx, List.filter_append, List.filter_cons, if_neg (by simpa using hk)]
        rw [List.filter_nil, List.append_nil]
        exact S2 _ _ e2
    · rintro H' ⟨S, e1, e2⟩
      rw [List.length_map, List.take_length] at e2
      exact k H' D S hD0 e2
end
end K78
namespace K78
open PySem PySem.Spec PyProof.Rows L2 Rg
/-! ### lists of ints and lists of such lists, compared -/
def dI (ns : List Int) : PyData := .list (ns.map PyData.int)
def dG (M : List (List Int)) : PyData := .list (M.map dI)
theorem dpAllI {K : PySem.W.Frag} {H : Hp} : ∀ ns : List Int, DpAll K H (ns.map V.int) (ns.map PyData.int)
  | [] => .nil
  | n :: ns => .cons (.int n) (dpAllI ns)
theorem dpI {K : PySem.W.Frag} {H : Hp} {a : Addr} {ns : List Int} (h : H a = some (.lst (ns.map V.int))) : Dp K H (.ref a) (dI ns) := .lst (.of h) (dpAllI ns)
theorem dpAllG {K : PySem.W.Frag} {H : Hp} : ∀ (rs : List Addr) (M : List (List Int)), rs.length = M.length → (∀ (i : Nat) (r : Addr) (m : List Int), rs[i]? = some r → M[i]? = some m → H r = some (.lst (m.map V.int))) → DpAll K H (rs.map V.ref) (M.map dI)
  | [], [], _, _ => .nil
  | r :: rs, m :: M, hl, h => .cons (dpI (h 0 r m rfl rfl)) (dpAllG rs M (by simpa using hl) fun i q n a b => h (i + 1) q n (by simpa using a) (by simpa using b))
  | [], _ :: _, hl, _ => by simp at hl
  | _ :: _, [], hl, _ => by simp at hl
theorem dpG {K : PySem.W.Frag} {H : Hp} {ca : Addr} {rs : List Addr} {M : List (List Int)} (G : Grid H ca rs M) : Dp K H (.ref ca) (dG M) := .lst (.of G.out) (dpAllG rs M G.len G.row)
theorem canI : ∀ ns : List Int, PyData.canLayAll0 (ns.map PyData.int) = true
  | [] => rfl
  | n :: ns => by
    show (PyData.canLay0 (.int n) && PyData.canLayAll0 (ns.map PyData.int)) = true
    rw [canI ns]
    rfl
theorem canG : ∀ M : List (List Int), PyData.canLayAll0 (M.map dI) = true
  | [] => rfl
  | m :: M => by
    show (PyData.canLayAll0 (m.map PyData.int) && PyData.canLayAll0 (M.map dI)) = true
    rw [canI, canG M]
    rfl
theorem depI : ∀ ns : List Int, PyData.depthAll (ns.map PyData.int) = 0
  | [] => rfl
  | n :: ns => by
    show max (PyData.depth (.int n)) (PyData.depthAll (ns.map PyData.int)) = 0
    rw [depI ns]
    rfl
theorem depG : ∀ M : List (List Int), PyData.depthAll (M.map dI) ≤ 1
  | [] => Nat.zero_le _
  | m :: M => by
    show max (PyData.depthAll (m.map PyData.int) + 1) (PyData.depthAll (M.map dI)) ≤ 1
    rw [depI m]
    have := depG M
    omega
theorem shI (ns : List Int) : SeqAt.shaped (dI ns) = true := by
  unfold SeqAt.shaped dI
  rw [Bool.and_eq_true]
  refine ⟨canI ns, decide_eq_true ?_⟩
  show PyData.depthAll (ns.map PyData.int) + 1 ≤ 64
  rw [depI ns]
  decide
theorem shG (M : List (List Int)) : SeqAt.shaped (dG M) = true := by
  unfold SeqAt.shaped dG
  rw [Bool.and_eq_true]
  refine ⟨canG M, decide_eq_true ?_⟩
  show PyData.depthAll (M.map dI) + 1 ≤ 64
  have := depG M
  omega
theorem eqI (ns : List Int) : PyData.eqv (dI ns) (dI ns) = true := SeqAt.eqv_refl _ (canI ns)
theorem eqvAllI : ∀ a b : List Int, PyData.eqvAll (a.map PyData.int) (b.map PyData.int) = decide (a = b)
  | [], [] => by simp [PyData.eqvAll]
  | [], _ :: _ => by simp [PyData.eqvAll]
  | _ :: _, [] => by simp [PyData.eqvAll]
  | x :: a, y :: b => by
    rw [List.map_cons, List.map_cons, PyData.eqvAll, eqvAllI a b]
    by_cases e : x = y
    · subst e
      by_cases f : a = b
      · subst f; simp [PyData.eqv]
      · simp [PyData.eqv, f]
    · simp [PyData.eqv, e]
theorem eqvI (a b : List Int) : PyData.eqv (dI a) (dI b) = decide (a = b) := by
  unfold dI
  rw [PyData.eqv]
  exact eqvAllI a b
end K78
namespace K78
open PySem PySem.Spec PyProof.Rows L2 Rg
/-! ### settle -/
/-- block x gets a new stamp -/
def Chg (b n : Int) (M M0 : List (List Int)) (ho : List Int) (se : Int) (x : Nat) : Prop := (kindOf b n M x ≠ 0 ∧ M[x]? ≠ M0[x]?) ∨ ho[x]? = some se
instance {b n : Int} {M M0 : List (List Int)} {ho : List Int} {se : Int} {x : Nat} : Decidable (Chg b n M M0 ho se x) := by unfold Chg; infer_instance
def setl (b n : Int) (M M0 : List (List Int)) (ho : List Int) (se : Int) (st : List Int) : Nat → List Int
  | 0 => st
  | i + 1 => if Chg b n M M0 ho se i then (setl b n M M0 ho se st i).set i se else setl b n M M0 ho se st i
theorem setl_len {b n : Int} {M M0 : List (List Int)} {ho : List Int} {se : Int} {st : List Int} : ∀ i, (setl b n M M0 ho se st i).length = st.length
  | 0 => rfl
  | i + 1 => by
    unfold setl
    split
    · rw [List.length_set]; exact setl_len i
    · exact setl_len i
theorem setl_succ {b n : Int} {M M0 : List (List Int)} {ho : List Int} {se : Int} {st : List Int} {i : Nat} : setl b n M M0 ho se st (i + 1) = if Chg b n M M0 ho se i then (setl b n M M0 ho se st i).set i se else setl b n M M0 ho se st i := rfl
theorem setl_get {b n : Int} {M M0 : List (List Int)} {ho : List Int} {se : Int} {st : List Int} {x : Nat} (hx : x < st.length) : ∀ i, (setl b n M M0 ho se st i)[x]? = if x < i ∧ Chg b n M M0 ho se x then some se else st[x]?
  | 0 => by rw [if_neg (by omega)]; rfl
  | i + 1 => by
    have ih := setl_get (b := b) (n := n) (M := M) (M0 := M0) (ho := ho) (se := se) hx i
    unfold setl
    by_cases c : Chg b n M M0 ho se i
    · rw [if_pos c]
      by_cases e : i = x
      · subst e
        rw [List.getElem?_set_self (by rw [setl_len]; exact hx), if_pos ⟨Nat.lt_succ_self _, c⟩]
      · rw [List.getElem?_set_ne e, ih]
        simp only [show (x < i + 1) ↔ (x < i) by omega]
    · rw [if_neg c, ih]
      by_cases e : i = x
      · subst e
        rw [if_neg (fun z => c z.2), if_neg (fun z => c z.2)]
      · simp only [show (x < i + 1) ↔ (x < i) by omega]
section
variable {P : Program} {w : World} {K : PySem.W.Frag} {mg : Str → Option Value} {base : Heap}
def sp_settle (CI CP : Addr) : Sp := fun vs H Q _ => ∃ (im : Addr) (A : IA) (v : IV) (b n s : Int) (im0 : Addr) (A0 : IA) (v0 : IV), vs = [.ref im, .ref im0] ∧ ImgAt CI CP H im A v b n s ∧ ImgAt CI CP H im0 A0 v0 b n s ∧ A.st ∉ A0.reads im0 ∧
  ∀ H', ImgAt CI CP H' im A { v with st := setl b n v.M v0.M v.ho v.se v.st b.toNat } b n s → Kp [A.st] H H' → Q .non H'
theorem ok_settle (T : Tx K mg) : FnOk P w K mg base CX0 3 T.f_Image_settle T.fd_Image_settle ["self", "before"] (sp_settle T.C_Image T.C_Plan) := by
  refine T.F_Image_settle.ok sc_Image_settle (fun vs H Q E h => ?_) (fun cdv A1 outer s H vs Q E hr h => ?_)
  · obtain ⟨_, _, _, _, _, _, _, _, _, rfl, _⟩ := h; rfl
  · obtain ⟨im, A, v, b, n, sl, im0, A0, v0, rfl, I, I0, hap, k⟩ := h
    refine ⟨_, (pss_one (ps_for PassesOwn.never rfl (pi_range1 rfl T.b_range (pa_cons (pe_fld (pe_fld (pv 0) rfl) rfl) pa_nil)) (pg_name (i := 2) sc_Image_settle.nd rfl (.inl rfl))
        (Evl.pss_cut (ps_set (i := 3) sc_Image_settle.nd rfl (.inl rfl) (pe_and (pe_cmpR op_ne (pe_meth (pv 0) T.cl_Image T.m_Image_kind (ok_Image_kind T) hr (b_Image_kind T) .nil pass0 (pa_cons (pv 2) pa_nil)) (pe_cv T.mg_Plan T.cr_Plan T.cv_Plan_FREE) (nomark _)) (pe_one (pe_cmpR (op_neD hr.units) (pe_ix ix_list (pe_fld (pv 0) rfl) (pv 2) (fun _ _ => rfl)) (pe_ix ix_list (pe_fld (pv 1) rfl) (pv 2) (fun _ _ => rfl)) (nomark _)))))
        (pss_one (ps_if (PW.pt (pw_or (pt_val (pv 3)) (pw_or1 (pt_cmpR op_eq (pe_ix ix_list (pe_fld (pv 0) rfl) (pv 2) (fun _ _ => rfl)) (pe_fld (pv 0) rfl) (nomark _)))))
          (pss_one (ps_asg (pe_fld (pv 0) rfl) (pg_sub (pe_fld (pv 0) rfl) (pv 2) set_list)))
          pss_nil))))), ?_⟩
    obtain ⟨dxp, hpl⟩ := I.pl.ob
    have b1 := I.pl.b1
    have b2 := I.pl.b2
    have d0 := I.d0
    have d00 := I0.d0
    have d2 := I.d2
    have d3 := I.d3
    refine ⟨_, rfl, im, _, _, _, _, rfl, I.ob, T.cl_Image, T.na_Image_plan, rfl, A.pl, _, dxp, _, _, rfl, hpl, T.cl_Plan, T.na_Plan_blocks, rfl, b, rfl, by omega, by omega, for_range (lo := 0) (n := b.toNat) (fun i σ H' => ∃ u2 u3 : Option V, σ = [some (.ref im), some (.ref im0), u2, u3] ∧ ImgAt T.C_Image T.C_Plan H' im A { v with st := setl b n v.M v0.M v.ho v.se v.st i } b n sl ∧ Kp [A.st] H H') ⟨_, _, rfl, I, Kp.refl⟩ ?_ ?_⟩
    · rintro i σ H' hi ⟨u2, u3, rfl, I', k'⟩
      have J0 : ImgAt T.C_Image T.C_Plan H' im0 A0 v0 b n sl := I0.keepF fun x o hx e => k'.at1 e fun z => hap (by rw [← z]; exact hx)
      have hiM : i < v.M.length := by omega
      have hiM0 : i < v0.M.length := by omega
      obtain ⟨r, r1, r2, _⟩ := I'.gr.get (List.getElem?_eq_getElem hiM)
      obtain ⟨r0, r01, r02, _⟩ := J0.gr.get (List.getElem?_eq_getElem hiM0)
      have hiH : i < v.ho.length := by omega
      have hiS : i < (setl b n v.M v0.M v.ho v.se v.st i).length := by rw [setl_len]; omega
      have ez : (0 : Int) + (i : Int) = (i : Int) := by omega
      refine ⟨fun σ H2 => Same H' H2 ∧ ∃ c : Bool, σ = [some (.ref im), some (.ref im0), some (.int (i : Int)), some (.bl c)] ∧ (c = true ↔ kindOf b n v.M i ≠ 0 ∧ v.M[i]? ≠ v0.M[i]?), ?_, ?_⟩
      · refine ⟨_, rfl, im, _, _, rfl, I'.ob, rfl, _, rfl, im, A, _, b, n, sl, _, rfl, I', by omega, by omega, fun H2 S2 => ?_⟩
        have I2 := I'.keep S2
        have J2 := J0.keep S2
        rw [ez]
        refine ⟨rfl, _, rfl, ?_⟩
        rw [dec_iv]
        by_cases hk : kindOf b n v.M i = 0
        · rw [decide_eq_true hk]
          refine iteF ⟨S2, _, rfl, ?_⟩
          constructor
          · intro z; cases z
          · intro z; exact absurd hk z.1
        · rw [decide_eq_false hk]
          refine iteT ⟨_, rfl, im, _, _, _, _, rfl, I2.ob, T.cl_Image, T.na_Image_cells, rfl, _, rfl, A.ca, _, _, .ref r, rfl, rfl, .of I2.gr.out, atI_nat (by rw [List.getElem?_map, r1]; rfl), ?_⟩
          refine ⟨_, rfl, im0, _, _, _, _, rfl, J2.ob, T.cl_Image, T.na_Image_cells, rfl, _, rfl, A0.ca, _, _, .ref r0, rfl, rfl, .of J2.gr.out, atI_nat (by rw [List.getElem?_map, r01]; rfl), dI _, dI _, dpI (S2 _ _ r2), dpI (S2 _ _ r02), shI _, shI _, S2, _, rfl, ?_⟩
          rw [eqvI, List.getElem?_eq_getElem hiM, List.getElem?_eq_getElem hiM0]
          simp [hk]
      · rintro σ H2 ⟨S2, c, rfl, hc⟩
        have I2 := I'.keep S2
        have kk := k'.same S2
        have yes : Chg b n v.M v0.M v.ho v.se i → ∃ u2 u3 : Option V, [some (V.ref im), some (V.ref im0), some (V.int (i : Int)), some (V.bl c)] = [some (.ref im), some (.ref im0), u2, u3] ∧ ImgAt T.C_Image T.C_Plan (upd H2 A.st (.lst (((setl b n v.M v0.M v.ho v.se v.st i).map V.int).set i (V.int v.se)))) im A { v with st := setl b n v.M v0.M v.ho v.se v.st (i + 1) } b n sl ∧ Kp [A.st] H (upd H2 A.st (.lst (((setl b n v.M v0.M v.ho v.se v.st i).map V.int).set i (V.int v.se)))) := fun q => by
          refine ⟨_, _, rfl, ?_, kk.own1⟩
          rw [setl_succ, if_pos q]
          exact I2.putSt
        have no : ¬ Chg b n v.M v0.M v.ho v.se i → ∃ u2 u3 : Option V, [some (V.ref im), some (V.ref im0), some (V.int (i : Int)), some (V.bl c)] = [some (.ref im), some (.ref im0), u2, u3] ∧ ImgAt T.C_Image T.C_Plan H2 im A { v with st := setl b n v.M v0.M v.ho v.se v.st (i + 1) } b n sl ∧ Kp [A.st] H H2 := fun q => by
          refine ⟨_, _, rfl, ?_, kk⟩
          rw [setl_succ, if_neg q]
          exact I2
        have ixS : ixN ((setl b n v.M v0.M v.ho v.se v.st i).map V.int).length (i : Int) = some i := ixN_nat rfl (by rw [List.length_map]; exact hiS)
        refine ⟨_, rfl, _, rfl, ?_⟩
        cases c with
        | true =>
          refine iteT ⟨_, rfl, im, _, _, _, _, rfl, I2.ob, T.cl_Image, T.na_Image_serial, rfl, _, rfl, im, _, _, _, _, rfl, I2.ob, T.cl_Image, T.na_Image_stamps, rfl, _, rfl, A.st, _, _, i, rfl, rfl, I2.st, ixS, ?_⟩
          exact yes (.inl (hc.mp rfl))
        | false =>
          refine iteF ⟨_, rfl, im, _, _, _, _, rfl, I2.ob, T.cl_Image, T.na_Image_holdings, rfl, _, rfl, A.ho, _, _, _, rfl, rfl, .of I2.ho, atI_nat (by rw [List.getElem?_map, List.getElem?_eq_getElem hiH]; rfl), ?_⟩
          refine ⟨_, rfl, im, _, _, _, _, rfl, I2.ob, T.cl_Image, T.na_Image_serial, rfl, rfl, _, rfl, ?_⟩
          rw [dec_iv]
          by_cases hs : v.ho[i] = v.se
          · rw [decide_eq_true hs]
            refine iteT ⟨_, rfl, im, _, _, _, _, rfl, I2.ob, T.cl_Image, T.na_Image_serial, rfl, _, rfl, im, _, _, _, _, rfl, I2.ob, T.cl_Image, T.na_Image_stamps, rfl, _, rfl, A.st, _, _, i, rfl, rfl, I2.st, ixS, ?_⟩
            exact yes (.inr (by rw [List.getElem?_eq_getElem hiH, hs]))
          · rw [decide_eq_false hs]
            refine iteF (no ?_)
            rintro (q | q)
            · have := hc.mpr q
              cases this
            · rw [List.getElem?_eq_getElem hiH] at q
              exact hs (Option.some.inj q)
    · rintro σ H' ⟨u2, u3, rfl, I', k'⟩
      exact k H' I' k'
end
end K78
namespace K78
open PySem PySem.Spec PyProof.Rows L2 Rg
/-! ### _put_block, give, take -/
def putB (v : IV) (x : Nat) (kind serial : Int) : IV := { v with M := (setC v.M (2 + x / 8) (x % 8) kind).set x (List.replicate 8 0), ho := v.ho.set x serial, st := v.st.set x serial }
def giveV (v : IV) (x o : Nat) : IV := { putB v x 0 0 with M := setC (putB v x 0 0).M 0 o (cellAt v.M 0 o - 1) }
def takeV (v : IV) (x : Nat) (kind : Int) (o : Nat) : IV := { putB v x kind v.se with M := setC (putB v x kind v.se).M 0 o (cellAt v.M 0 o + 1) }
def quota (v : IV) (o : Nat) : Prop := cellAt v.M 0 (4 + o) ≠ 0 ∧ cellAt v.M 0 (4 + o) ≤ cellAt v.M 0 o
instance {v : IV} {o : Nat} : Decidable (quota v o) := by unfold quota; infer_instance
def letL (b n : Int) (M : List (List Int)) (kind : Int) (ba : List Int) : List Int := if kind = 2 then (freeL b n M).filter fun x => decide (x ∉ ba) else freeL b n M
def pickL (l : List Int) (wi : Int) : Option Int := (l.filter fun x => decide (wi ≤ x)).head?.or l.head?
theorem setC_row {M : List (List Int)} {i j k : Nat} {x : Int} (h : i ≠ k) : (setC M i j x)[k]? = M[k]? := by
  unfold setC
  rw [List.getElem?_set_ne h]
theorem inV_int (x : Int) (l : List Int) : inV (.int x) (l.map V.int) = decide (x ∈ l) := by
  induction l with
  | nil => simp [inV]
  | cons y l ih =>
    have : inV (.int x) ((y :: l).map V.int) = (eqV (.int y) (.int x) || inV (.int x) (l.map V.int)) := rfl
    rw [this, ih]
    simp only [eqV]
    by_cases e : y = x
    · subst e; simp
    · have e' : x ≠ y := fun z => e z.symm
      simp [e, e']
theorem flat_ints (l : List Int) : (l.map V.int).all flatV = true := by
  rw [List.all_eq_true]
  intro y hy
  obtain ⟨i, _, rfl⟩ := List.mem_map.mp hy
  rfl
theorem foot_mem {A : IA} {im x : Addr} (h : x ∈ A.ca :: A.ho :: A.st :: A.rs) : x ∈ A.reads im := by
  simp only [IA.reads, List.mem_cons] at h ⊢
  rcases h with h | h | h | h <;> simp [h]
section
variable {P : Program} {w : World} {K : PySem.W.Frag} {mg : Str → Option Value} {base : Heap}
def sp_put_block (CI CP : Addr) : Sp := fun vs H Q _ => ∃ (im : Addr) (A : IA) (v : IV) (b n s : Int) (x : Nat) (kind serial : Int), vs = [.ref im, .int x, .int kind, .int serial] ∧ ImgAt CI CP H im A v b n s ∧ fdOf b n ≤ x ∧ (x : Int) < b ∧
  ∀ H' q, H q = none → ImgAt CI CP H' im { A with rs := A.rs.set x q } (putB v x kind serial) b n s → Kp (A.ca :: A.ho :: A.st :: A.rs) H H' → Q .non H'
theorem ok_put_block (T : Tx K mg) : FnOk P w K mg base CX0 2 T.f_Image__put_block T.fd_Image__put_block ["self", "x", "kind", "serial"] (sp_put_block T.C_Image T.C_Plan) := by
  refine T.F_Image__put_block.ok sc_Image__put_block (fun vs H Q E h => ?_) (fun cdv A0 outer s H vs Q E hr h => ?_)
  · obtain ⟨_, _, _, _, _, _, _, _, _, rfl, _⟩ := h; rfl
  · obtain ⟨im, A, v, b, n, sl, x, kind, serial, rfl, I, hx0, hxb, k⟩ := h
    refine ⟨_, (pss_cons (ps_asg (pe_meth (pe_fld (pv 0) rfl) T.cl_Plan T.m_Plan_map_place (ok_Plan_map_place T) hr (b_Plan_map_place T) .nil pass0 (pa_cons (pv 1) pa_nil)) (pg_tup rfl (pgs_cons (pg_name (i := 4) sc_Image__put_block.nd rfl (.inl rfl)) (pgs_cons (pg_name (i := 5) sc_Image__put_block.nd rfl (.inl rfl)) pgs_nil))))
      (pss_cons (ps_asg (pv 2) (pg_sub (pe_ix ix_list (pe_fld (pv 0) rfl) (pv 4) (fun _ _ => rfl)) (pv 5) set_list))
      (pss_cons (ps_asg (pe_op op_rep (pe_lst (pa_cons pe_int pa_nil)) (pe_cv T.mg_Plan T.cr_Plan T.cv_Plan_WIDTH)) (pg_sub (pe_fld (pv 0) rfl) (pv 1) set_list))
      (pss_cons (ps_asg (pv 3) (pg_sub (pe_fld (pv 0) rfl) (pv 1) set_list))
      (pss_one (ps_asg (pv 3) (pg_sub (pe_fld (pv 0) rfl) (pv 1) set_list))))))), ?_⟩
    obtain ⟨dxp, hpl⟩ := I.pl.ob
    have b1 := I.pl.b1
    have n1 := I.pl.n1
    have d0 := I.d0
    have d2 := I.d2
    have d3 := I.d3
    have hx0' : 2 + (b + 8 - 1) / 8 + n ≤ x := hx0
    have hi : 2 + x / 8 < v.M.length := by omega
    have hx : x < v.M.length := by omega
    refine ⟨_, rfl, im, _, _, _, _, rfl, I.ob, T.cl_Image, T.na_Image_plan, rfl, A.pl, dxp, _, rfl, hpl, rfl, _, rfl, A.pl, b, n, sl, x, rfl, I.pl, fun t ht => ?_⟩
    have st := same_upd (o := .tup [.int (2 + (x : Int) / 8), .int ((x : Int) % 8)]) ht
    have I1 := I.keep st
    have k1 : Kp (A.ca :: A.ho :: A.st :: A.rs) H (upd H t (.tup [.int (2 + (x : Int) / 8), .int ((x : Int) % 8)])) := .of st
    have n1' : ∀ y, upd H t (.tup [.int (2 + (x : Int) / 8), .int ((x : Int) % 8)]) y = none → H y = none := fun y e => un e
    refine ⟨t, _, rfl, .inl (.inl upd_same), rfl, _, _, rfl, _, _, rfl, rfl, ?_⟩
    generalize upd H t (.tup [.int (2 + (x : Int) / 8), .int ((x : Int) % 8)]) = H1 at I1 k1 n1' ⊢
    obtain ⟨r, r1, r2, _⟩ := I1.gr.get (List.getElem?_eq_getElem hi)
    have h8 := I1.d1 _ (List.getElem_mem hi)
    refine ⟨_, rfl, _, rfl, im, _, _, _, _, rfl, I1.ob, T.cl_Image, T.na_Image_cells, rfl, _, rfl, A.ca, _, _, .ref r, rfl, rfl, .of I1.gr.out, at_of (j := 2 + x / 8) (by omega) (by rw [List.getElem?_map, r1]; rfl), _, rfl, r, _, _, x % 8, rfl, rfl, r2, ixN_nat (by omega) (by rw [List.length_map]; omega), ?_⟩
    have I2 := I1.setC (j := x % 8) (x := kind) r1 (List.getElem?_eq_getElem hi)
    have k2 : Kp (A.ca :: A.ho :: A.st :: A.rs) H (upd H1 r (.lst ((v.M[2 + x / 8].map V.int).set (x % 8) (V.int kind)))) := k1.own (by simp [List.mem_of_getElem? r1])
    have n2' : ∀ y, upd H1 r (.lst ((v.M[2 + x / 8].map V.int).set (x % 8) (V.int kind))) y = none → H y = none := fun y e => n1' _ (un e)
    generalize upd H1 r (.lst ((v.M[2 + x / 8].map V.int).set (x % 8) (V.int kind))) = H2 at I2 k2 n2' ⊢
    -- self.cells[x] = ..
    refine ⟨by show 1 ≤ sizeLine; decide, fun l hl => ?_⟩
    refine ⟨l, 8, _, rfl, rfl, upd_same, by decide, by decide, by show 1 * 8 ≤ sizeLine; decide, fun q hq => ?_⟩
    have hq0 : H2 q = none := un hq
    have sm : Same H2 (upd (upd H2 l (.lst [V.int 0])) q (.lst (List.replicate (8 : Int).toNat [V.int 0]).flatten)) := (same_upd hl).trans (same_upd hq)
    have eq3 : upd (upd H2 l (.lst [V.int 0])) q (.lst (List.replicate (8 : Int).toNat [V.int 0]).flatten) q = some (.lst ((List.replicate 8 (0 : Int)).map V.int)) := by rw [upd_same]; rfl
    have I3 := I2.swap (i := x) sm hq0 eq3 (by simp)
    have k3 : Kp (A.ca :: A.ho :: A.st :: A.rs) H (upd (upd (upd H2 l (.lst [V.int 0])) q (.lst (List.replicate (8 : Int).toNat [V.int 0]).flatten)) A.ca (.lst ((A.rs.map V.ref).set x (V.ref q)))) := (k2.same sm).own (by simp)
    have o3 := sm _ _ I2.gr.out
    have ob3 := sm _ _ I2.ob
    refine ⟨_, rfl, im, _, _, _, _, rfl, ob3, T.cl_Image, T.na_Image_cells, rfl, _, rfl, A.ca, _, _, x, rfl, rfl, o3, ixN_nat rfl (by rw [List.length_map, I.gr.len]; exact hx), ?_⟩
    change ImgAt T.C_Image T.C_Plan (upd (upd (upd H2 l (.lst [V.int 0])) q (.lst (List.replicate (8 : Int).toNat [V.int 0]).flatten)) A.ca (.lst ((A.rs.map V.ref).set x (V.ref q)))) _ _ _ _ _ _ at I3
    have hqH : H q = none := n2' _ hq0
    generalize upd (upd (upd H2 l (.lst [V.int 0])) q (.lst (List.replicate (8 : Int).toNat [V.int 0]).flatten)) A.ca (.lst ((A.rs.map V.ref).set x (V.ref q))) = H3 at I3 k3 ⊢
    refine ⟨_, rfl, _, rfl, im, _, _, _, _, rfl, I3.ob, T.cl_Image, T.na_Image_holdings, rfl, _, rfl, A.ho, _, _, x, rfl, rfl, I3.ho, ixN_nat rfl (by rw [List.length_map]; show x < v.ho.length; omega), ?_⟩
    have I4 := I3.putHo (i := x) (x := serial)
    have k4 := k3.own (a := A.ho) (o := .lst ((v.ho.map V.int).set x (V.int serial))) (by simp)
    dsimp only at I4 ⊢
    generalize upd H3 A.ho (.lst ((v.ho.map V.int).set x (V.int serial))) = H4 at I4 k4 ⊢
    refine ⟨_, rfl, _, rfl, im, _, _, _, _, rfl, I4.ob, T.cl_Image, T.na_Image_stamps, rfl, _, rfl, A.st, _, _, x, rfl, rfl, I4.st, ixN_nat rfl (by rw [List.length_map]; show x < v.st.length; omega), ?_⟩
    exact k _ q hqH (I4.putSt (i := x) (x := serial)) (k4.own (by simp))
end
end K78
namespace K78
open PySem PySem.Spec PyProof.Rows L2 Rg
section
variable {P : Program} {w : World} {K : PySem.W.Frag} {mg : Str → Option Value} {base : Heap}
/-- the row of the sums behind a put -/
theorem putB_row0 {v : IV} {x : Nat} {kind serial : Int} (hx : x ≠ 0) : (putB v x kind serial).M[0]? = v.M[0]? := by
  show ((setC v.M (2 + x / 8) (x % 8) kind).set x (List.replicate 8 0))[0]? = v.M[0]?
  rw [List.getElem?_set_ne hx, setC_row (by omega)]
theorem ImgAt.row0 {CI CP : Addr} {H : Hp} {im : Addr} {A : IA} {v : IV} {b n s : Int} (I : ImgAt CI CP H im A v b n s) : ∃ r m, A.rs[0]? = some r ∧ v.M[0]? = some m ∧ m.length = 8 ∧ H r = some (.lst (m.map V.int)) := by
  have d0 := I.d0
  have b1 := I.pl.b1
  have hl : 0 < v.M.length := by omega
  obtain ⟨r, r1, r2, _⟩ := I.gr.get (List.getElem?_eq_getElem hl)
  exact ⟨r, _, r1, List.getElem?_eq_getElem hl, I.d1 _ (List.getElem_mem hl), r2⟩
def sp_give (CI CP : Addr) : Sp := fun vs H Q _ => ∃ (im : Addr) (A : IA) (v : IV) (b n s : Int) (x o : Nat), vs = [.ref im, .int x, .int o] ∧ ImgAt CI CP H im A v b n s ∧ fdOf b n ≤ x ∧ (x : Int) < b ∧ o < 4 ∧
  ∀ H' q, H q = none → ImgAt CI CP H' im { A with rs := A.rs.set x q } (giveV v x o) b n s → Kp (A.ca :: A.ho :: A.st :: A.rs) H H' → Q .non H'
theorem ok_give (T : Tx K mg) : FnOk P w K mg base CX0 3 T.f_Image_give T.fd_Image_give ["self", "x", "owner"] (sp_give T.C_Image T.C_Plan) := by
  refine T.F_Image_give.ok sc_Image_give (fun vs H Q E h => ?_) (fun cdv A0 outer s H vs Q E hr h => ?_)
  · obtain ⟨_, _, _, _, _, _, _, _, rfl, _⟩ := h; rfl
  · obtain ⟨im, A, v, b, n, sl, x, o, rfl, I, hx0, hxb, ho, k⟩ := h
    refine ⟨_, (pss_cons (ps_expr (pe_meth (pv 0) T.cl_Image T.m_Image__put_block (ok_put_block T) hr (b_Image__put_block T) .nil pass0 (pa_cons (pv 1) (pa_cons (pe_cv T.mg_Plan T.cr_Plan T.cv_Plan_FREE) (pa_cons pe_int pa_nil)))))
      (pss_one (ps_augS (pe_ix ix_list (pe_fld (pv 0) rfl) (pe_gc T.c_SUMS_BLOCK) (fun _ _ => rfl)) (pv 2) get_list pe_int ip_sub set_list))), ?_⟩
    have b1 := I.pl.b1
    have n1 := I.pl.n1
    have hx0' : 2 + (b + 8 - 1) / 8 + n ≤ x := hx0
    refine ⟨_, rfl, im, _, _, rfl, I.ob, rfl, _, rfl, im, A, v, b, n, sl, x, 0, 0, rfl, I, hx0, hxb, fun H1 q hq I1 k1 => ?_⟩
    obtain ⟨r, m, r1, r2, r3, r4⟩ := I1.row0
    have r2' := r2
    rw [putB_row0 (by omega)] at r2'
    have rA : A.rs[0]? = some r := by
      have : (A.rs.set x q)[0]? = some r := r1
      rw [List.getElem?_set_ne (by omega)] at this
      exact this
    have hol : o < m.length := by omega
    have e0 : cellAt v.M 0 o = m[o] := cellAt_of r2' (List.getElem?_eq_getElem hol)
    refine ⟨_, rfl, im, _, _, _, _, rfl, I1.ob, T.cl_Image, T.na_Image_cells, rfl, A.ca, _, _, .ref r, rfl, rfl, .of I1.gr.out, at_of (j := 0) rfl (by rw [List.getElem?_map, r1]; rfl), _, rfl, r, _, o, _, rfl, rfl, .of r4, by rw [List.getElem?_map, List.getElem?_eq_getElem hol]; rfl, _, _, rfl, rfl, r, _, _, o, rfl, rfl, r4, ixN_nat rfl (by rw [List.length_map]; exact hol), ?_⟩
    have I2 := I1.setC (j := o) (x := m[o] - 1) r1 r2
    refine k _ q hq ?_ (k1.own (by simp [List.mem_of_getElem? rA]))
    unfold giveV
    rw [e0]
    exact I2
def sp_take (CI CP CO CB : Addr) : Sp := fun vs H Q E => ∃ (im : Addr) (A : IA) (v : IV) (b n s kind : Int) (o : Nat), vs = [.ref im, .int kind, .int o] ∧ ImgAt CI CP H im A v b n s ∧ o < 4 ∧ (cellAt v.M 0 o).natAbs.log2 < 1920 ∧
  (quota v o → ∀ H', Same H H' → E (.ref CO) none H') ∧
  (¬ quota v o → letL b n v.M kind v.ba = [] → ∀ H', Same H H' → E (.ref CB) none H') ∧
  (¬ quota v o → ∀ x : Nat, pickL (letL b n v.M kind v.ba) v.wi = some (x : Int) → ∀ H' q, H q = none → ImgAt CI CP H' im { A with rs := A.rs.set x q } (takeV v x kind o) b n s → Kp (A.ca :: A.ho :: A.st :: A.rs) H H' → Q (.int x) H')
theorem freeL_mem {b n x : Int} {M : List (List Int)} (h : x ∈ freeL b n M) : fdOf b n ≤ x ∧ x < fdOf b n + (b - fdOf b n).toNat ∧ kindOf b n M x = 0 := by
  unfold freeL at h
  have h1 := List.mem_filter.mp h
  have h2 := rng_mem h1.1
  exact ⟨h2.1, h2.2, of_decide_eq_true h1.2⟩
theorem letL_mem {b n x kind : Int} {M : List (List Int)} {ba : List Int} (h : x ∈ letL b n M kind ba) : x ∈ freeL b n M := by
  unfold letL at h
  split at h
  · exact (List.mem_filter.mp h).1
  · exact h
theorem pickL_mem {l : List Int} {wi x : Int} (h : pickL l wi = some x) : x ∈ l := by
  unfold pickL at h
  cases e : (l.filter fun x => decide (wi ≤ x)).head? with
  | none =>
    rw [e] at h
    exact List.mem_of_head? h
  | some y =>
    rw [e] at h
    cases h
    exact (List.mem_filter.mp (List.mem_of_head? e)).1
theorem freeL_len {b n : Int} {M : List (List Int)} : (freeL b n M).length ≤ (b - fdOf b n).toNat := by
  unfold freeL
  refine filt_len ?_
  rw [rng_len]
  exact Nat.le_refl _
/-- [x for x in l if ..], l a list that stands at a -/
theorem fstr_len {a c : Int} (ha : a.natAbs.log2 < 1920) (hc : c.natAbs.log2 < 1920) : (((((Str.empty ++ ("owner " : Str)) ++ (toString a : Str)) ++ (" uses " : Str)) ++ (toString c : Str)) ++ (" blocks" : Str)).length ≤ sizeLine := by
  have e1 := PySem.int_text_length_le (k := 1920) (by decide) ha
  have e2 := PySem.int_text_length_le (k := 1920) (by decide) hc
  have l1 : (("owner " : Str)).length = 6 := by decide
  have l2 : ((" uses " : Str)).length = 6 := by decide
  have l3 : ((" blocks" : Str)).length = 7 := by decide
  have l0 : (Str.empty).length = 0 := by decide
  rw [strLen_append, strLen_append, strLen_append, strLen_append, strLen_append, l0, l1, l2, l3, sizeLine_eq]
  have f1 : ((toString a : Str)).length = (toString a).length := PySem.ofString_length _
  have f2 : ((toString c : Str)).length = (toString c).length := PySem.ofString_length _
  rw [f1, f2]
  omega
end
end K78
namespace K78
open PySem PySem.Spec PyProof.Rows L2 Rg
/-- a comprehension that keeps some of l, i looked at -/
def PvF (H0 : Hp) (D : Addr) (l : List Int) (p : Int → Bool) (i : Nat) (H' : Hp) : Prop := Same H0 H' ∧ H' D = some (.lst (((l.take i).filter p).map V.int))
theorem PvF.start {H0 : Hp} {D : Addr} {l : List Int} {p : Int → Bool} (h : H0 D = none) : PvF H0 D l p 0 (upd H0 D (.lst [])) := ⟨same_upd h, upd_same⟩
theorem PvF.yes {H0 H' H2 : Hp} {D : Addr} {l : List Int} {p : Int → Bool} {i : Nat} {x : Int} (h : PvF H0 D l p i H') (hD : H0 D = none) (S : Same H' H2) (hx : l[i]? = some x) (hl : l.length < 1000) (hp : p x = true) :
    ∃ acc, H2 D = some (.lst acc) ∧ acc.length < sizeLine ∧ PvF H0 D l p (i + 1) (upd H2 D (.lst (acc ++ [V.int x]))) := by
  refine ⟨_, S _ _ h.2, ?_, fun a o z => ?_, ?_⟩
  · rw [List.length_map]
    have := filt_len (p := p) (List.length_take_le i l)
    have hi := (List.getElem?_eq_some_iff.mp hx).1
    exact small1000 (by omega)
  · rw [upd_ne (ne_of_none z hD)]
    exact S _ _ (h.1 _ _ z)
  · rw [upd_same, take_get hx, List.filter_append, List.map_append, List.filter_cons, if_pos hp]
    rfl
theorem PvF.no {H0 H' H2 : Hp} {D : Addr} {l : List Int} {p : Int → Bool} {i : Nat} {x : Int} (h : PvF H0 D l p i H') (S : Same H' H2) (hx : l[i]? = some x) (hp : p x = false) : PvF H0 D l p (i + 1) H2 := by
  refine ⟨h.1.trans S, ?_⟩
  rw [take_get hx, List.filter_append, List.filter_cons, if_neg (by rw [hp]; decide), List.filter_nil, List.append_nil]
  exact S _ _ h.2
theorem PvF.all {H0 H' : Hp} {D : Addr} {l : List Int} {p : Int → Bool} {n : Nat} (h : PvF H0 D l p n H') (e : n = l.length) : Same H0 H' ∧ H' D = some (.lst ((l.filter p).map V.int)) := by
  subst e
  have := h.2
  rw [List.take_length] at this
  exact ⟨h.1, this⟩
theorem op_notInK {X : Cx} {K : PySem.W.Frag} (hK : X.K = K := by rfl) : OpR X (compareOp .NotIn) (rIn K true) := by
  subst hK
  exact op_notIn_seq
theorem cell0 {v : IV} {m : List Int} {j : Nat} (h : v.M[0]? = some m) (hj : j < m.length) : cellAt v.M 0 j = m[j] := cellAt_of h (List.getElem?_eq_getElem hj)
section
variable {P : Program} {w : World} {K : PySem.W.Frag} {mg : Str → Option Value} {base : Heap}
theorem ok_take (T : Tx K mg) : FnOk P w K mg base (L2N.CX P w) 4 T.f_Image_take T.fd_Image_take ["self", "kind", "owner"] (sp_take T.C_Image T.C_Plan T.C_OverQuota T.C_BlocksFull) := by
  refine T.F_Image_take.okN sc_Image_take (fun vs H Q E h => ?_) (fun cdv A0 outer s H vs Q E hr h => ?_)
  · obtain ⟨_, _, _, _, _, _, _, _, rfl, _⟩ := h; rfl
  · obtain ⟨im, A, v, b, n, sl, kind, o, rfl, I, ho, hlg, kQ, kB, k⟩ := h
    have hr2 : Room 2 _ := hr.mono (by decide)
    refine ⟨_, (pss_cons (ps_set (i := 3) sc_Image_take.nd rfl (.inl rfl) (pe_ix ix_list (pe_fld (pv 0) rfl) (pe_gc T.c_SUMS_BLOCK) (fun _ _ => rfl)))
      (pss_cons (ps_set (i := 4) sc_Image_take.nd rfl (.inl rfl) (pe_ix ix_list (pv 3) (pe_op op_add (pe_cv T.mg_Plan T.cr_Plan T.cv_Plan_OWNERS) (pv 2)) (fun _ _ => rfl)))
      (Evl.pss_cut (ps_if (PW.pt (pw_and (pt_cmpR op_ne (pv 4) pe_int (nomark _)) (pw_and1 (pt_cmpR op_ge (pe_ix ix_list (pv 3) (pv 2) (fun _ _ => rfl)) (pv 4) (nomark _)))))
        (pss_one (L2N.ps_raise rfl (L2N.takes_of rfl rfl rfl rfl) (pmk_own1N PySem.F.excBase_ValueError T.xe_OverQuota T.mg_OverQuota T.ke_OverQuota (raises_own T.be_OverQuota T.te_OverQuota) rfl (pe_joined (.cons pe_str (.cons (pe_fmt (pv 2)) (.cons pe_str (.cons (pe_fmt (pe_ix ix_list (pv 3) (pv 2) (fun _ _ => rfl))) (.cons pe_str .nil)))))))))
        pss_nil)
      (pss_cons (ps_set (i := 5) sc_Image_take.nd rfl (.inl rfl) (pe_meth0 (pv 0) T.cl_Image T.m_Image_free_blocks (ok_free_blocks T) hr (b_Image_free_blocks T) .nil pass0))
      (Evl.pss_cut (ps_if (pt_cmpR op_eq (pv 1) (pe_cv T.mg_Plan T.cr_Plan T.cv_Plan_PLAIN) (nomark _))
        (pss_one (ps_setLc (i := 5) (own := [("x", 6)]) (g := gName 6) (tt := _) rfl sc_Image_take.nd rfl rfl (sw_true rfl rfl rfl (by decide +kernel)) (pi_list (pv 5)) (blkOk_by (N := ["self", "kind", "owner", "sums", "limit", "free", "x", "wished"]) (sc := defScope s_Image_take) (by decide +kernel)) (fun _ _ _ _ _ => pg_name (i := 6) sc_Image_take.nd rfl (Or.inl rfl)) (fun _ _ _ _ _ => pts_one (pt_cmpR (op_notInK (K := K)) (pv 6) (pe_fldK (K := K) (pv 0) rfl) rfl)) (fun _ _ _ _ _ => (pv 6))))
        pss_nil)
      (pss_cons (ps_if (pt_cmpR op_eq (pe_callB call_len_seq rfl T.b_len (by decide +kernel) (pa_cons (pv 5) pa_nil)) pe_int (nomark _))
        (pss_one (L2N.ps_raise rfl (L2N.takes_of rfl rfl rfl rfl) (L2N.pmk_own PySem.F.excBase_ValueError T.xe_BlocksFull T.mg_BlocksFull T.ke_BlocksFull (raises_own T.be_BlocksFull T.te_BlocksFull) rfl)))
        pss_nil)
      (PSs.nox (pss_cons (ps_setLc (i := 7) (own := [("x", 6)]) (g := gName 6) (tt := _) rfl sc_Image_take.nd rfl rfl (sw_true rfl rfl rfl (by decide +kernel)) (pi_list (pv 5)) (blkOk_by (N := ["self", "kind", "owner", "sums", "limit", "free", "x", "wished"]) (sc := defScope s_Image_take) (by decide +kernel)) (fun _ _ _ _ _ => pg_name (i := 6) sc_Image_take.nd rfl (Or.inl rfl)) (fun _ _ _ _ _ => pts_one (pt_cmpR op_ge (pv 6) (pe_fldK (K := K) (pv 0) rfl) (nomark _))) (fun _ _ _ _ _ => (pv 6)))
      (Evl.pss_cut (ps_set (i := 6) sc_Image_take.nd rfl (.inl rfl) (pe_ifExp (pt_truth (pv 7) (fun _ => rfl)) (pe_ix ix_list (pv 7) pe_int (fun _ _ => rfl)) (pe_ix ix_list (pv 5) pe_int (fun _ _ => rfl))))
      (pss_cons (ps_expr (pe_meth (pv 0) T.cl_Image T.m_Image__put_block (ok_put_block T) hr2 (b_Image__put_block T) .nil pass0 (pa_cons (pv 6) (pa_cons (pv 1) (pa_cons (pe_fld (pv 0) rfl) pa_nil)))))
      (pss_cons (ps_augS (pv 3) (pv 2) get_list pe_int ip_add set_list)
      (pss_one (ps_ret (pv 6)))))))))))))), ?_⟩
    obtain ⟨dxp, hpl⟩ := I.pl.ob
    have b1 := I.pl.b1
    have b2 := I.pl.b2
    have n1 := I.pl.n1
    obtain ⟨r, m, r1, r2, r3, r4⟩ := I.row0
    have h4o : 4 + o < m.length := by omega
    have hol : o < m.length := by omega
    have el := cell0 r2 h4o
    have eo := cell0 r2 hol
    refine ⟨_, rfl, im, _, _, _, _, rfl, I.ob, T.cl_Image, T.na_Image_cells, rfl, A.ca, _, _, .ref r, rfl, rfl, .of I.gr.out, at_of (j := 0) rfl (by rw [List.getElem?_map, r1]; rfl), ?_⟩
    refine ⟨_, rfl, _, rfl, _, _, rfl, rfl, r, _, _, _, rfl, rfl, .of r4, at_of (j := 4 + o) (by omega) (by rw [List.getElem?_map, List.getElem?_eq_getElem h4o]; rfl), ?_⟩
    have hlen : (letL b n v.M kind v.ba).length < 1000 := by
      have h1 := freeL_len (b := b) (n := n) (M := v.M)
      have h2 : (letL b n v.M kind v.ba).length ≤ (freeL b n v.M).length := by
        unfold letL
        split
        · exact List.length_filter_le _ _
        · exact Nat.le_refl _
      have h3 : 0 ≤ fdOf b n := by unfold fdOf; omega
      omega
    have hlenF : (freeL b n v.M).length < 1000 := by
      have h1 := freeL_len (b := b) (n := n) (M := v.M)
      have h3 : 0 ≤ fdOf b n := by unfold fdOf; omega
      omega
    refine ⟨fun σ H' => σ = [some (.ref im), some (.int kind), some (.int o), some (.ref r), some (.int m[4 + o]), none, none, none] ∧ H' = H ∧ ¬ quota v o, ?_, ?_⟩
    · refine ⟨_, rfl, rfl, _, rfl, ?_⟩
      rw [dec_iv]
      by_cases e1 : m[4 + o] = 0
      · rw [decide_eq_true e1]
        exact iteF ⟨rfl, rfl, fun z => z.1 (by rw [el]; exact e1)⟩
      · rw [decide_eq_false e1]
        refine iteT ⟨_, rfl, _, rfl, r, _, _, _, rfl, rfl, .of r4, atI_nat (by rw [List.getElem?_map, List.getElem?_eq_getElem hol]; rfl), _, rfl, _, _, rfl, rfl, _, rfl, ?_⟩
        by_cases e2 : m[o] ≥ m[4 + o]
        · rw [decide_eq_true e2]
          have la : (o : Int).natAbs.log2 < 1920 := by
            have : o = 0 ∨ o = 1 ∨ o = 2 ∨ o = 3 := by omega
            rcases this with rfl | rfl | rfl | rfl <;> decide
          have lc : m[o].natAbs.log2 < 1920 := by rw [← eo]; exact hlg
          have f5 := fstr_len la lc
          have mono : ∀ (x y : Str), (x ++ y).length ≤ sizeLine → x.length ≤ sizeLine := fun x y h => by rw [strLen_append] at h; omega
          have f4 := mono _ _ f5
          have f3 := mono _ _ f4
          have f2 := mono _ _ f3
          have f1 := mono _ _ f2
          refine iteT ⟨_, rfl, f1, _, rfl, .inr ⟨_, rfl, la, _, rfl, f2, _, rfl, f3, _, rfl, _, rfl, r, _, _, _, rfl, rfl, .of r4, atI_nat (by rw [List.getElem?_map, List.getElem?_eq_getElem hol]; rfl), .inr ⟨_, rfl, lc, _, rfl, f4, _, rfl, f5, ?_⟩⟩⟩
          exact kQ ⟨by rw [el]; exact e1, by rw [el, eo]; exact e2⟩ H (Same.refl _)
        · rw [decide_eq_false e2]
          exact iteF ⟨rfl, rfl, fun z => e2 (by have := z.2; rw [el, eo] at this; exact this)⟩
    rintro σ H' ⟨rfl, rfl, nq⟩
    -- the free blocks
    refine ⟨_, rfl, im, _, _, rfl, I.ob, rfl, im, A, v, b, n, sl, rfl, I, fun H1 fa S1 nfa efa => ?_⟩
    refine ⟨fun σ H2 => ∃ fb, σ = [some (.ref im), some (.int kind), some (.int o), some (.ref r), some (.int m[4 + o]), some (.ref fb), none, none] ∧ Same H' H2 ∧ H2 fb = some (.lst ((letL b n v.M kind v.ba).map V.int)), ?_, ?_⟩
    · refine ⟨_, rfl, rfl, _, rfl, ?_⟩
      rw [dec_iv]
      by_cases hk : kind = 2
      · rw [decide_eq_true hk]
        refine iteT ⟨_, rfl, fa, rfl, ⟨_, .of efa⟩, fun D hD => ?_⟩
        refine lc_list (K := K) (a := fa) (xs := (freeL b n v.M).map V.int) (PvF H1 D (freeL b n v.M) (fun x => decide (x ∉ v.ba))) (PvF.start hD) (fun i H2 _ Pv => .of (Pv.1 _ _ efa)) ?_ ?_
        · rintro i y H2 hi Pv
          rw [List.getElem?_map] at hi
          obtain ⟨x, hx, rfl⟩ := Option.map_eq_some_iff.mp hi
          refine ⟨rfl, ?_⟩
          have I2 := I.keep (S1.trans Pv.1)
          refine ⟨_, rfl, _, rfl, im, _, _, _, _, rfl, I2.ob, T.cl_Image, T.na_Image_barred, rfl, A.ba, _, rfl, .inr (.of I2.ba), rfl, flat_ints _, _, rfl, ?_⟩
          rw [inV_int]
          by_cases hb : x ∈ v.ba
          · rw [decide_eq_true hb]
            exact iteF (Pv.no (Same.refl _) hx (by simp [hb]))
          · rw [decide_eq_false hb]
            exact iteT ⟨_, rfl, Pv.yes hD (Same.refl _) hx hlenF (by simp [hb])⟩
        · intro H2 Pv
          obtain ⟨S2, e2⟩ := Pv.all (by rw [List.length_map])
          refine ⟨D, rfl, S1.trans S2, ?_⟩
          unfold letL
          rw [if_pos hk]
          exact e2
      · rw [decide_eq_false hk]
        refine iteF ⟨fa, rfl, S1, ?_⟩
        unfold letL
        rw [if_neg hk]
        exact efa
    rintro σ H2 ⟨fb, rfl, S2, e2⟩
    refine ⟨_, rfl, fb, _, rfl, .inl (.of e2), rfl, _, rfl, ite2 (fun z => ?_) (fun z => ?_)⟩
    · have z' := V.int.inj (of_decide_eq_true z)
      rw [List.length_map] at z'
      exact kB nq (List.length_eq_zero_iff.mp (by omega)) _ S2
    · have hne : letL b n v.M kind v.ba ≠ [] := fun q => z (decide_eq_true (by rw [q]; rfl))
      have I2 := I.keep S2
      refine ⟨_, rfl, fb, rfl, ⟨_, .of e2⟩, fun D hD => ?_⟩
      refine lc_list (K := K) (a := fb) (xs := (letL b n v.M kind v.ba).map V.int) (PvF H2 D (letL b n v.M kind v.ba) (fun x => decide (v.wi ≤ x))) (PvF.start hD) (fun i H3 _ Pv => .of (Pv.1 _ _ e2)) ?_ ?_
      · rintro i y H3 hi Pv
        rw [List.getElem?_map] at hi
        obtain ⟨x, hx, rfl⟩ := Option.map_eq_some_iff.mp hi
        refine ⟨rfl, ?_⟩
        have I3 := I2.keep Pv.1
        refine ⟨_, rfl, _, rfl, im, _, _, _, _, rfl, I3.ob, T.cl_Image, T.na_Image_wish, rfl, _, _, rfl, rfl, _, rfl, ?_⟩
        by_cases hb : x ≥ v.wi
        · rw [decide_eq_true hb]
          exact iteT ⟨_, rfl, Pv.yes hD (Same.refl _) hx hlen (decide_eq_true hb)⟩
        · rw [decide_eq_false hb]
          exact iteF (Pv.no (Same.refl _) hx (decide_eq_false hb))
      · intro H3 Pv
        obtain ⟨S3, e3⟩ := Pv.all (by rw [List.length_map])
        have I3 := I2.keep S3
        have S03 := S2.trans S3
        have e2' := S3 _ _ e2
        refine ⟨fun σ H4 => ∃ x : Nat, σ = [some (.ref im), some (.int kind), some (.int o), some (.ref r), some (.int m[4 + o]), some (.ref fb), some (.int (x : Int)), some (.ref D)] ∧ H4 = H3 ∧ pickL (letL b n v.M kind v.ba) v.wi = some (x : Int), ?_, ?_⟩
        · have nat : ∀ y : Int, pickL (letL b n v.M kind v.ba) v.wi = some y → ∃ x : Nat, y = x := fun y h => by
            have h1 := freeL_mem (letL_mem (pickL_mem h))
            have h3 : 0 ≤ fdOf b n := by unfold fdOf; omega
            exact ⟨y.toNat, by omega⟩
          refine ⟨_, rfl, _, .inl ⟨_, .of e3, rfl⟩, ?_⟩
          cases q : (letL b n v.M kind v.ba).filter (fun x => decide (v.wi ≤ x)) with
          | nil =>
            cases q2 : letL b n v.M kind v.ba with
            | nil => exact absurd q2 hne
            | cons y rest =>
              have hp : pickL (letL b n v.M kind v.ba) v.wi = some y := by unfold pickL; rw [q, q2]; rfl
              obtain ⟨x, rfl⟩ := nat y hp
              rw [q2] at e2' hp
              exact iteF ⟨_, rfl, fb, _, 0, .int (x : Int), rfl, rfl, .of e2', atI_nat (j := 0) rfl, x, rfl, rfl, hp⟩
          | cons y rest =>
            have hp : pickL (letL b n v.M kind v.ba) v.wi = some y := by unfold pickL; rw [q]; rfl
            obtain ⟨x, rfl⟩ := nat y hp
            rw [q] at e3
            exact iteT ⟨_, rfl, D, _, 0, .int (x : Int), rfl, rfl, .of e3, atI_nat (j := 0) rfl, x, rfl, rfl, hp⟩
        rintro σ H4 ⟨x, rfl, rfl, hp⟩
        have hm := freeL_mem (letL_mem (pickL_mem hp))
        have hf : fdOf b n = 2 + (b + 8 - 1) / 8 + n := rfl
        have hxb : (x : Int) < b := by omega
        have hx2 : x ≠ 0 := by omega
        refine ⟨_, rfl, im, _, _, rfl, I3.ob, rfl, _, rfl, _, rfl, _, rfl, im, _, _, _, _, rfl, I3.ob, T.cl_Image, T.na_Image_serial, rfl, im, A, v, b, n, sl, x, kind, v.se, rfl, I3, hm.1, hxb, fun H5 q hq I5 k5 => ?_⟩
        obtain ⟨r', m', r1', r2', r3', r4'⟩ := I5.row0
        have rA : A.rs[0]? = some r' := by
          have : (A.rs.set x q)[0]? = some r' := r1'
          rw [List.getElem?_set_ne hx2] at this
          exact this
        obtain rfl : r = r' := Option.some.inj (r1.symm.trans rA)
        have r2'' := r2'
        rw [putB_row0 hx2, r2] at r2''
        obtain rfl : m = m' := Option.some.inj r2''
        refine ⟨_, rfl, _, rfl, r, _, o, _, rfl, rfl, .of r4', by rw [List.getElem?_map, List.getElem?_eq_getElem hol]; rfl, _, _, rfl, rfl, r, _, _, o, rfl, rfl, r4', ixN_nat rfl (by rw [List.length_map]; exact hol), ?_⟩
        have I6 := I5.setC (j := o) (x := m[o] + 1) r1' r2'
        refine ⟨_, rfl, k nq x hp _ q (S03.free hq) ?_ ((Kp.of S03).trans (k5.own (by simp [List.mem_of_getElem? rA])))⟩
        unfold takeV
        rw [eo]
        exact I6
end
end K78
namespace K78
open PySem PySem.Spec PyProof.Rows L2 Rg
section
variable {P : Program} {w : World} {K : PySem.W.Frag} {mg : Str → Option Value} {base : Heap}
def sp_identity (CI CP : Addr) : Sp := fun vs H Q _ => ∃ (im : Addr) (A : IA) (v : IV) (b n s : Int) (x : Nat) (h t : Int), vs = [.ref im, .int x] ∧ ImgAt CI CP H im A v b n s ∧ v.ho[x]? = some h ∧ v.st[x]? = some t ∧ ∀ q, H q = none → Q (.ref q) (upd H q (.tup [.int h, .int t]))
theorem ok_identity (T : Tx K mg) : FnOk P w K mg base CX0 1 T.f_Image_identity T.fd_Image_identity ["self", "x"] (sp_identity T.C_Image T.C_Plan) := by
  refine T.F_Image_identity.ok sc_Image_identity (fun vs H Q E h => ?_) (fun cdv A0 outer s H vs Q E hr h => ?_)
  · obtain ⟨_, _, _, _, _, _, _, _, _, rfl, _⟩ := h; rfl
  · obtain ⟨im, A, v, b, n, sl, x, h, t, rfl, I, hh, ht, k⟩ := h
    refine ⟨_, (pss_one (ps_ret (pe_tup (pa_cons (pe_ix ix_list (pe_fld (pv 0) rfl) (pv 1) (fun _ _ => rfl)) (pa_cons (pe_ix ix_list (pe_fld (pv 0) rfl) (pv 1) (fun _ _ => rfl)) pa_nil))))), ?_⟩
    refine ⟨_, rfl, im, _, _, _, _, rfl, I.ob, T.cl_Image, T.na_Image_holdings, rfl, _, rfl, A.ho, _, _, _, rfl, rfl, .of I.ho, atI_nat (by rw [List.getElem?_map, hh]; rfl), ?_⟩
    refine ⟨_, rfl, im, _, _, _, _, rfl, I.ob, T.cl_Image, T.na_Image_stamps, rfl, _, rfl, A.st, _, _, _, rfl, rfl, .of I.st, atI_nat (by rw [List.getElem?_map, ht]; rfl), ?_⟩
    exact ⟨(by show 2 ≤ sizeLine; decide), k⟩
end
end K78
namespace K78
open PySem PySem.Spec PyProof.Rows L2 Rg
/-! ### two values that read alike -/
def flatE (x y : V) : Prop := x = y ∧ (x = .non ∨ (∃ b, x = .bl b) ∨ (∃ i, x = .int i) ∨ ∃ z, x = .str z)
def Sm (K : PySem.W.Frag) (H : Hp) : Nat → V → V → Prop
  | 0, x, y => flatE x y
  | n + 1, x, y => flatE x y ∨ ∃ a b xs ys, x = .ref a ∧ y = .ref b ∧ ((H a = some (.lst xs) ∧ H b = some (.lst ys)) ∨ (SqT K H a xs ∧ SqT K H b ys)) ∧ xs.length = ys.length ∧ ys.length < 1000 ∧ ∀ (i : Nat) (x y : V), xs[i]? = some x → ys[i]? = some y → Sm K H n x y
theorem Sm.same {K : PySem.W.Frag} {H H' : Hp} (s : Same H H') : ∀ {n : Nat} {x y : V}, Sm K H n x y → Sm K H' n x y
  | 0, _, _, h => h
  | n + 1, _, _, h => by
    rcases h with h | ⟨a, b, xs, ys, e1, e2, e3, e4, e5, e6⟩
    · exact .inl h
    · refine .inr ⟨a, b, xs, ys, e1, e2, ?_, e4, e5, fun i x y h1 h2 => Sm.same s (e6 i x y h1 h2)⟩
      rcases e3 with ⟨p, q⟩ | ⟨p, q⟩
      · exact .inl ⟨s _ _ p, s _ _ q⟩
      · exact .inr ⟨sameT s p, sameT s q⟩
theorem Sm.up {K : PySem.W.Frag} {H : Hp} : ∀ {n : Nat} {x y : V}, Sm K H n x y → Sm K H (n + 1) x y
  | 0, _, _, h => .inl h
  | n + 1, _, _, h => by
    rcases h with h | ⟨a, b, xs, ys, e1, e2, e3, e4, e5, e6⟩
    · exact .inl h
    · exact .inr ⟨a, b, xs, ys, e1, e2, e3, e4, e5, fun i x y h1 h2 => (e6 i x y h1 h2).up⟩
theorem Sm.flat {K : PySem.W.Frag} {H : Hp} {n : Nat} {x y : V} (h : flatE x y) : Sm K H n x y := by
  cases n with
  | zero => exact h
  | succ n => exact .inl h
theorem Sm.int {K : PySem.W.Frag} {H : Hp} {n : Nat} {i : Int} : Sm K H n (.int i) (.int i) := Sm.flat ⟨rfl, .inr (.inr (.inl ⟨i, rfl⟩))⟩
/-- x is True, x is False -/
theorem op_isB {X : Cx} (c : Bool) : OpR X (compareOp .Is) (fun x y H Q => y = .bl c ∧ Q (.bl (decide (x = .bl c))) H) := by
  intro pins s σ H x y v u Q I rx ry h
  obtain ⟨rfl, q⟩ := h
  cases ry
  cases x with
  | bl b =>
    cases rx
    by_cases e : b = c
    · subst e
      refine wpAny_is_self rfl ⟨.bl true, H, I, rfl, ?_⟩
      rw [decide_eq_true rfl] at q
      exact q
    · refine wpAny_is_other rfl (fun z => e (by injection z)) ⟨.bl false, H, I, rfl, ?_⟩
      rw [decide_eq_false (fun z => e (by injection z))] at q
      exact q
  | non => cases rx; exact wpAny_is_other rfl (fun z => nomatch z) ⟨.bl false, H, I, rfl, q⟩
  | int i => obtain ⟨t, rfl⟩ := rx; exact wpAny_is_other rfl (fun z => nomatch z) ⟨.bl false, H, I, rfl, q⟩
  | str i => obtain ⟨t, rfl⟩ := rx; exact wpAny_is_other rfl (fun z => nomatch z) ⟨.bl false, H, I, rfl, q⟩
  | byt i => obtain ⟨t, rfl⟩ := rx; exact wpAny_is_other rfl (fun z => nomatch z) ⟨.bl false, H, I, rfl, q⟩
  | flt i => obtain ⟨t, rfl⟩ := rx; exact wpAny_is_other rfl (fun z => nomatch z) ⟨.bl false, H, I, rfl, q⟩
  | ref i => cases rx; exact wpAny_is_other rfl (fun z => nomatch z) ⟨.bl false, H, I, rfl, q⟩
  | ty i => cases rx; exact wpAny_is_other rfl (fun z => nomatch z) ⟨.bl false, H, I, rfl, q⟩
theorem Sm.inv {K : PySem.W.Frag} {H : Hp} {n : Nat} {x y : V} (h : Sm K H n x y) : flatE x y ∨ ∃ m a b xs ys, n = m + 1 ∧ x = .ref a ∧ y = .ref b ∧ ((H a = some (.lst xs) ∧ H b = some (.lst ys)) ∨ (SqT K H a xs ∧ SqT K H b ys)) ∧ xs.length = ys.length ∧ ys.length < 1000 ∧ ∀ (i : Nat) (x y : V), xs[i]? = some x → ys[i]? = some y → Sm K H m x y := by
  cases n with
  | zero => exact .inl h
  | succ m =>
    rcases h with h | ⟨a, b, xs, ys, e⟩
    · exact .inl h
    · exact .inr ⟨m, a, b, xs, ys, rfl, e⟩
section
variable {P : Program} {w : World} {K : PySem.W.Frag} {mg : Str → Option Value} {base : Heap}
def sp_Lsame (K : PySem.W.Frag) (n : Nat) : Sp := fun vs H Q _ => ∃ x y, vs = [x, y] ∧ Sm K H n x y ∧ ∀ H', Same H H' → Q (.bl true) H'
/-- the body, its own call given -/
theorem ok_Lsame_step (T : Tx K mg) (n : Nat) (sp0 : Sp) (F0 : FnOk P w K mg base CX0 (n + 1) T.f_Lsame T.fd_Lsame ["_law_actual", "_law_due"] sp0) (hsp : ∀ (x y : V) (H : Hp) (Q : VK) (E : XK), (∃ m, n = m + 1 ∧ Sm K H m x y) → (∀ H', Same H H' → Q (.bl true) H') → sp0 [x, y] H Q E) : FnOk P w K mg base CX0 (n + 2) T.f_Lsame T.fd_Lsame ["_law_actual", "_law_due"] (sp_Lsame K n) := by
  refine T.F_Lsame.ok sc_Lsame (fun vs H Q E h => ?_) (fun cdv A outer s H vs Q E hr h => ?_)
  · obtain ⟨_, _, rfl, _⟩ := h; rfl
  · obtain ⟨x, y, rfl, hS, k⟩ := h
    refine ⟨_, (pss_cons (ps_if (PW.pt (pw_or (pt_cmpR op_isN (pv 1) pe_non (nomark _)) (pw_or (pt_cmpR (op_isB true) (pv 1) pe_bl (nomark _)) (pw_or1 (pt_cmpR (op_isB false) (pv 1) pe_bl (nomark _))))))
        (pss_one (ps_ret (pe_or (pe_and (pe_cmpR op_isN (pv 0) pe_non (nomark _)) (pe_one (pe_cmpR op_isN (pv 1) pe_non (nomark _)))) (pe_or (pe_and (pe_cmpR (op_isB true) (pv 0) pe_bl (nomark _)) (pe_one (pe_cmpR (op_isB true) (pv 1) pe_bl (nomark _)))) (pe_one (pe_and (pe_cmpR (op_isB false) (pv 0) pe_bl (nomark _)) (pe_one (pe_cmpR (op_isB false) (pv 1) pe_bl (nomark _)))))))))
        pss_nil)
      (pss_cons (ps_if (pt_val (pe_callB call_isi rfl T.b_isinstance (by decide +kernel) (pa_cons (pv 1) (pa_cons (pe_bltn (v := .ty "int") rfl T.b_int (by decide +kernel) rfl) pa_nil))))
        (pss_one (ps_ret (pe_and (pe_callB call_isi rfl T.b_isinstance (by decide +kernel) (pa_cons (pv 0) (pa_cons (pe_bltn (v := .ty "int") rfl T.b_int (by decide +kernel) rfl) pa_nil))) (pe_and (pe_not (pe_callB call_isi rfl T.b_isinstance (by decide +kernel) (pa_cons (pv 0) (pa_cons (pe_bltn (v := .ty "bool") rfl T.b_bool (by decide +kernel) rfl) pa_nil)))) (pe_one (pe_cmpR op_eq (pv 0) (pv 1) (nomark _)))))))
        pss_nil)
      (pss_cons (ps_if (pt_val (pe_callB call_isi rfl T.b_isinstance (by decide +kernel) (pa_cons (pv 1) (pa_cons (pe_bltn (v := .ty "str") rfl T.b_str (by decide +kernel) rfl) pa_nil))))
        (pss_one (ps_ret (pe_and (pe_callB call_isi rfl T.b_isinstance (by decide +kernel) (pa_cons (pv 0) (pa_cons (pe_bltn (v := .ty "str") rfl T.b_str (by decide +kernel) rfl) pa_nil))) (pe_one (pe_cmpR op_eq (pv 0) (pv 1) (nomark _))))))
        pss_nil)
      (pss_cons (ps_if (PW.pt (pw_and (pt_val (pe_callB call_isi rfl T.b_isinstance (by decide +kernel) (pa_cons (pv 1) (pa_cons (pe_bltn (v := .ty "tuple") rfl T.b_tuple (by decide +kernel) rfl) pa_nil)))) (pw_and1 (pt_not (pt_val (pe_callB call_isi rfl T.b_isinstance (by decide +kernel) (pa_cons (pv 0) (pa_cons (pe_bltn (v := .ty "tuple") rfl T.b_tuple (by decide +kernel) rfl) pa_nil))))))))
        (pss_one (ps_ret pe_bl))
        pss_nil)
      (pss_cons (ps_if (PW.pt (pw_and (pt_val (pe_callB call_isi rfl T.b_isinstance (by decide +kernel) (pa_cons (pv 1) (pa_cons (pe_bltn (v := .ty "list") rfl T.b_list (by decide +kernel) rfl) pa_nil)))) (pw_and1 (pt_not (pt_val (pe_callB call_isi rfl T.b_isinstance (by decide +kernel) (pa_cons (pv 0) (pa_cons (pe_bltn (v := .ty "list") rfl T.b_list (by decide +kernel) rfl) pa_nil))))))))
        (pss_one (ps_ret pe_bl))
        pss_nil)
      (pss_cons (ps_if (PW.pt (pw_or (pt_not (pt_val (pe_callB call_isiT rfl T.b_isinstance (by decide +kernel) (pa_cons (pv 0) (pa_cons (pe_tup (pa_cons (pe_bltn (v := .ty "tuple") rfl T.b_tuple (by decide +kernel) rfl) (pa_cons (pe_bltn (v := .ty "list") rfl T.b_list (by decide +kernel) rfl) pa_nil))) pa_nil))))) (pw_or1 (pt_cmpR op_ne (pe_callB call_len_seq rfl T.b_len (by decide +kernel) (pa_cons (pv 0) pa_nil)) (pe_callB call_len_seq rfl T.b_len (by decide +kernel) (pa_cons (pv 1) pa_nil)) (nomark _)))))
        (pss_one (ps_ret pe_bl))
        pss_nil)
      (pss_cons (ps_for PassesOwn.never rfl (pi_range1 rfl T.b_range (pa_cons (pe_callB call_len_seq rfl T.b_len (by decide +kernel) (pa_cons (pv 1) pa_nil)) pa_nil)) (pg_name (i := 2) sc_Lsame.nd rfl (.inl rfl))
        (pss_one (ps_if (pt_not (pt_val (pe_call F0 hr rfl T.mg_Lsame T.F_Lsame.kp (b_Lsame T) .nil pass0 (pa_cons (pe_ix (IxR.or ix_list ix_tup) (pv 0) (pv 2) (fun _ _ => rfl)) (pa_cons (pe_ix (IxR.or ix_list ix_tup) (pv 1) (pv 2) (fun _ _ => rfl)) pa_nil)))))
          (pss_one (ps_ret pe_bl))
          pss_nil)))
      (pss_one (ps_ret pe_bl))))))))), ?_⟩
    rcases hS.inv with hf | ⟨m, a, b, xs, ys, rfl, rfl, rfl, e3, e4, e5, e6⟩
    · obtain ⟨rfl, hf⟩ := hf
      rcases hf with rfl | ⟨b, rfl⟩ | ⟨i, rfl⟩ | ⟨z, rfl⟩
      · exact ⟨_, rfl, rfl, _, rfl, iteT ⟨_, rfl, rfl, _, rfl, iteT ⟨_, rfl, rfl, _, rfl, iteT (k H (Same.refl _))⟩⟩⟩
      · cases b with
        | true => exact ⟨_, rfl, rfl, _, rfl, iteF ⟨_, rfl, rfl, _, rfl, iteT ⟨_, rfl, rfl, _, rfl, iteF ⟨_, rfl, iteF ⟨_, rfl, rfl, _, rfl, iteT ⟨_, rfl, rfl, _, rfl, iteT (k H (Same.refl _))⟩⟩⟩⟩⟩⟩
        | false => exact ⟨_, rfl, rfl, _, rfl, iteF ⟨_, rfl, rfl, _, rfl, iteF ⟨_, rfl, rfl, _, rfl, iteT ⟨_, rfl, rfl, _, rfl, iteF ⟨_, rfl, iteF ⟨_, rfl, rfl, _, rfl, iteF ⟨_, rfl, iteF ⟨_, rfl, rfl, _, rfl, iteT ⟨_, rfl, rfl, k H (Same.refl _)⟩⟩⟩⟩⟩⟩⟩⟩⟩
      · refine ⟨_, rfl, rfl, _, rfl, iteF ⟨_, rfl, rfl, _, rfl, iteF ⟨_, rfl, rfl, _, rfl, iteF ⟨_, rfl, _, _, _, _, true, rfl, .ty _, .base (.int _), kit_ty (by decide +kernel), _, rfl, iteT ⟨_, rfl, _, _, _, _, true, rfl, .ty _, .base (.int _), kit_ty (by decide +kernel), _, rfl, iteT ⟨_, rfl, _, _, _, _, false, rfl, .ty _, .base (.int _), kit_ty (by decide +kernel), _, rfl, _, rfl, iteT ⟨_, rfl, _, rfl, rfl, ?_⟩⟩⟩⟩⟩⟩⟩
        rw [decide_eq_true rfl]
        exact k H (Same.refl _)
      · refine ⟨_, rfl, rfl, _, rfl, iteF ⟨_, rfl, rfl, _, rfl, iteF ⟨_, rfl, rfl, _, rfl, iteF ⟨_, rfl, _, _, _, _, false, rfl, .ty _, .base (.str _), kit_ty (by decide +kernel), _, rfl, iteF ⟨_, rfl, _, _, _, _, true, rfl, .ty _, .base (.str _), kit_ty (by decide +kernel), _, rfl, iteT ⟨_, rfl, _, _, _, _, true, rfl, .ty _, .base (.str _), kit_ty (by decide +kernel), _, rfl, iteT ⟨_, rfl, _, rfl, rfl, ?_⟩⟩⟩⟩⟩⟩⟩
        rw [decide_eq_true rfl]
        exact k H (Same.refl _)
    · -- what stands behind the looks at the kinds
      have tail : ∀ (H0 : Hp), Same H H0 → ((H0 a = some (.lst xs) ∧ H0 b = some (.lst ys)) ∨ (SqT K H0 a xs ∧ SqT K H0 b ys)) → (SqL K H0 a xs ∨ SqT K H0 a xs) ∧ (SqL K H0 b ys ∨ SqT K H0 b ys) := fun H0 _ e => by
        rcases e with ⟨p, q⟩ | ⟨p, q⟩
        · exact ⟨.inl (.of p), .inl (.of q)⟩
        · exact ⟨.inr p, .inr q⟩
      have kp : ∀ (H0 : Hp), Same H H0 → ((H0 a = some (.lst xs) ∧ H0 b = some (.lst ys)) ∨ (SqT K H0 a xs ∧ SqT K H0 b ys)) := fun H0 s0 => by
        rcases e3 with ⟨p, q⟩ | ⟨p, q⟩
        · exact .inl ⟨s0 _ _ p, s0 _ _ q⟩
        · exact .inr ⟨sameT s0 p, sameT s0 q⟩
      refine ⟨_, rfl, rfl, _, rfl, iteF ⟨_, rfl, rfl, _, rfl, iteF ⟨_, rfl, rfl, _, rfl, iteF ?_⟩⟩⟩
      rcases e3 with ⟨p, q⟩ | ⟨p, q⟩
      rotate_left
      refine ⟨_, rfl, _, _, _, _, false, rfl, .ty _, tyT q, kit_ty (by decide +kernel), _, rfl, iteF ⟨_, rfl, _, _, _, _, false, rfl, .ty _, tyT q, kit_ty (by decide +kernel), _, rfl, iteF ⟨_, rfl, _, _, _, _, true, rfl, .ty _, tyT q, kit_ty (by decide +kernel), _, rfl, iteT ⟨_, rfl, _, _, _, _, true, rfl, .ty _, tyT p, kit_ty (by decide +kernel), _, rfl, iteF ⟨_, rfl, _, _, _, _, false, rfl, .ty _, tyT q, kit_ty (by decide +kernel), _, rfl, iteF ?_⟩⟩⟩⟩⟩
      refine ⟨_, rfl, (by show 2 ≤ sizeLine; decide), fun t nt => ?_⟩
      have st := same_upd (o := .tup [.ty "tuple", .ty "list"]) nt
      refine ⟨_, t, _, _, _, true, rfl, upd_same, .cons (.ty _) (.cons (.ty _) .nil), tyT (sameT st p), kitAny_cons (b := true) (kit_ty (by decide +kernel)) (fun z => by cases z) (fun _ => rfl), _, rfl, iteF ?_⟩
      rotate_left
      refine ⟨_, rfl, _, _, _, _, false, rfl, .ty _, .base (.lst q), kit_ty (by decide +kernel), _, rfl, iteF ⟨_, rfl, _, _, _, _, false, rfl, .ty _, .base (.lst q), kit_ty (by decide +kernel), _, rfl, iteF ⟨_, rfl, _, _, _, _, false, rfl, .ty _, .base (.lst q), kit_ty (by decide +kernel), _, rfl, iteF ⟨_, rfl, _, _, _, _, true, rfl, .ty _, .base (.lst q), kit_ty (by decide +kernel), _, rfl, iteT ⟨_, rfl, _, _, _, _, true, rfl, .ty _, .base (.lst p), kit_ty (by decide +kernel), _, rfl, iteF ?_⟩⟩⟩⟩⟩
      refine ⟨_, rfl, (by show 2 ≤ sizeLine; decide), fun t nt => ?_⟩
      have st := same_upd (o := .tup [.ty "tuple", .ty "list"]) nt
      refine ⟨_, t, _, _, _, true, rfl, upd_same, .cons (.ty _) (.cons (.ty _) .nil), .base (.lst (st _ _ p)), kitAny_cons (b := false) (kit_ty (by decide +kernel)) (fun _ => kitAny_cons (b := true) (kit_ty (by decide +kernel)) (fun z => by cases z) (fun _ => rfl)) (fun z => by cases z), _, rfl, iteF ?_⟩
      all_goals
        have sq := tail _ st (kp _ st)
        refine ⟨_, rfl, a, _, rfl, sq.1, _, rfl, b, _, rfl, sq.2, rfl, _, rfl, ?_⟩
        rw [dec_iv, e4, decide_eq_true rfl]
        refine iteF ⟨_, rfl, b, _, rfl, sq.2, _, rfl, by omega, by omega, for_range (lo := 0) (n := ((ys.length : Int)).toNat) (fun i σ H' => ∃ u2 : Option V, σ = [some (.ref a), some (.ref b), u2] ∧ Same H H') ⟨_, rfl, st⟩ ?_ ?_⟩
        · rintro i σ H' hi ⟨u2, rfl, s2⟩
          have hiy : i < ys.length := by omega
          have hix : i < xs.length := by omega
          have ez : (0 : Int) + (i : Int) = (i : Int) := by omega
          rw [ez]
          have ax : atI xs (i : Int) = some xs[i] := atI_nat (List.getElem?_eq_getElem hix)
          have ay : atI ys (i : Int) = some ys[i] := atI_nat (List.getElem?_eq_getElem hiy)
          have ke := kp _ s2
          have call := hsp xs[i] ys[i] H'
          have sm := Sm.same s2 (e6 i _ _ (List.getElem?_eq_getElem hix) (List.getElem?_eq_getElem hiy))
          rcases ke with ⟨p', q'⟩ | ⟨p', q'⟩
          · exact ⟨_, rfl, _, rfl, .inl ⟨a, _, _, _, rfl, rfl, .of p', ax, _, rfl, _, rfl, .inl ⟨b, _, _, _, rfl, rfl, .of q', ay, call _ _ ⟨m, rfl, sm⟩ fun H3 s3 => ⟨_, rfl, iteF ⟨_, rfl, s2.trans s3⟩⟩⟩⟩⟩
          · exact ⟨_, rfl, _, rfl, .inr ⟨a, _, _, _, rfl, rfl, p', ax, _, rfl, _, rfl, .inr ⟨b, _, _, _, rfl, rfl, q', ay, call _ _ ⟨m, rfl, sm⟩ fun H3 s3 => ⟨_, rfl, iteF ⟨_, rfl, s2.trans s3⟩⟩⟩⟩⟩
        · rintro σ H' ⟨u2, rfl, s2⟩
          exact k H' s2
/-- the law's own comparison, of values that read alike down to n -/
theorem ok_Lsame (T : Tx K mg) : ∀ n, FnOk P w K mg base CX0 (n + 2) T.f_Lsame T.fd_Lsame ["_law_actual", "_law_due"] (sp_Lsame K n)
  | 0 => by
    refine ok_Lsame_step T 0 (fun _ _ _ _ => False) ⟨fun _ _ _ _ h => h.elim, fun _ _ _ _ _ _ _ _ _ _ _ _ _ h => h.elim⟩ ?_
    rintro x y H Q E ⟨m, e, _⟩
    omega
  | n + 1 => ok_Lsame_step T (n + 1) (sp_Lsame K n) (ok_Lsame T n) fun x y H Q E ⟨m, e, sm⟩ k => ⟨x, y, rfl, by cases e; exact sm, k⟩
end
end K78
namespace K78
open PySem PySem.Spec PyProof.Rows L2 Rg
def Asc (l : List Int) : Prop := ∀ i x y, l[i]? = some x → l[i + 1]? = some y → x < y
theorem asc_pw {l : List Int} (h : l.Pairwise (· < ·)) : Asc l := fun i x y e1 e2 => by
  obtain ⟨h1, f1⟩ := List.getElem?_eq_some_iff.mp e1
  obtain ⟨h2, f2⟩ := List.getElem?_eq_some_iff.mp e2
  have := List.pairwise_iff_getElem.mp h i (i + 1) h1 h2 (by omega)
  rw [f1, f2] at this
  exact this
theorem flatI (l : List Int) : (l.map V.int).all flatV = true := by
  rw [List.all_eq_true]
  intro x hx
  obtain ⟨y, _, rfl⟩ := List.mem_map.mp hx
  rfl
/-- pairs as entries: the place, what it holds -/
abbrev Pg := Addr × (Int × Int)
def PgAt (H : Hp) (G : List Pg) : Prop := ∀ g ∈ G, H g.1 = some (.tup [.int g.2.1, .int g.2.2])
theorem PgAt.kL {H H' : Hp} {G : List Pg} {S : List Addr} (h : PgAt H G) (k : Kp S H H') (f : ∀ x ∈ S, ∃ xs, H x = some (.lst xs)) : PgAt H' G := fun g hg => k _ _ (h g hg) fun z => by
  obtain ⟨xs, ex⟩ := f _ z
  rw [h g hg] at ex
  cases ex
theorem PgAt.same {H H' : Hp} {G : List Pg} (h : PgAt H G) (s : Same H H') : PgAt H' G := fun g hg => s _ _ (h g hg)
def adV : V → Addr
  | .ref t => t
  | _ => 0
def prH (H : Hp) (v : V) : Int × Int := match H (adV v) with
  | some (.tup [.int i, .int j]) => (i, j)
  | _ => (0, 0)
theorem PgAt.pr {H : Hp} {G : List Pg} (h : PgAt H G) {g : Pg} (hg : g ∈ G) : prH H (.ref g.1) = g.2 := by
  unfold prH
  show (match H g.1 with | some (.tup [.int i, .int j]) => (i, j) | _ => (0, 0)) = g.2
  rw [h g hg]
/-- pairs with distinct first parts, sorted -/
theorem PgAt.sorted {H : Hp} {G : List Pg} (h : PgAt H G) (nd : (G.map (·.2.1)).Nodup) {ys : List V} (s : SrtO.Srtd (ltP (prH H)) ys) (p : ys.Perm (G.map fun g => V.ref g.1)) :
    ∃ G' : List Pg, ys = (G'.map fun g => V.ref g.1) ∧ G'.Perm G ∧ ((G'.map (·.2)).map (·.1)).Pairwise (· < ·) := by
  have hy : ∀ y ∈ ys, ∃ g ∈ G, y = .ref g.1 := fun y hy => by
    obtain ⟨g, hg, e⟩ := List.mem_map.mp (p.mem_iff.mp hy)
    exact ⟨g, hg, e.symm⟩
  have e1 : ys = (ys.map fun v => ((adV v, prH H v) : Pg)).map fun g => V.ref g.1 := by
    rw [List.map_map]
    conv => lhs; rw [← List.map_id ys]
    refine List.map_congr_left fun v hv => ?_
    obtain ⟨g, _, rfl⟩ := hy v hv
    rfl
  have e2 : (G.map fun g => V.ref g.1).map (fun v => ((adV v, prH H v) : Pg)) = G := by
    rw [List.map_map]
    conv => rhs; rw [← List.map_id G]
    refine List.map_congr_left fun g hg => ?_
    show ((g.1, prH H (.ref g.1)) : Pg) = g
    rw [h.pr hg]
  have p2 : (ys.map fun v => ((adV v, prH H v) : Pg)).Perm G := by
    have := p.map (fun v => ((adV v, prH H v) : Pg))
    rw [e2] at this
    exact this
  refine ⟨_, e1, p2, ?_⟩
  rw [List.map_map, List.map_map]
  have nd2 : (ys.map fun v => (prH H v).1).Nodup := by
    have q := (p2.map (·.2.1)).nodup_iff.mpr nd
    rw [List.map_map] at q
    exact q
  rw [List.Nodup, List.pairwise_map] at nd2
  rw [List.pairwise_map]
  refine (List.Pairwise.and s nd2).imp fun {x y} hh => ?_
  obtain ⟨a, b⟩ := hh
  have a : ¬ SrtO.lexB (prH H y) (prH H x) = true := by
    intro z
    have a : SrtO.lexB (prH H y) (prH H x) = false := a
    rw [a] at z
    cases z
  rw [SrtO.lexB_iff] at a
  show (prH H x).1 < (prH H y).1
  have b : (prH H x).1 ≠ (prH H y).1 := b
  omega
end K78
namespace K78
open PySem PySem.Spec PyProof.Rows L2 Rg
/-- places of one's own: some of the caller's (S), the rest new -/
structure Wr (S : List Addr) (H0 : Hp) (L : List (Addr × HO)) (H : Hp) : Prop where
  F : Fr L H
  k : Kp S H0 H
  n : ∀ p ∈ L, p.1 ∈ S ∨ H0 p.1 = none
theorem Wr.at1 {S : List Addr} {H0 H : Hp} {L : List (Addr × HO)} (W : Wr S H0 L H) (i : Nat) {a : Addr} {o : HO} (h : L[i]? = some (a, o)) : H a = some o := W.F.get i h
theorem Wr.put {S : List Addr} {H0 H : Hp} {L : List (Addr × HO)} (W : Wr S H0 L H) (i : Nat) {a : Addr} {o o' : HO} (h : L[i]? = some (a, o)) : Wr S H0 (L.set i (a, o')) (upd H a o') := by
  refine ⟨W.F.put i h, ?_, fun p hp => ?_⟩
  · rcases W.n _ (List.mem_of_getElem? h) with z | z
    · exact W.k.own z
    · exact W.k.put z
  · rcases List.mem_or_eq_of_mem_set hp with z | z
    · exact W.n p z
    · rw [z]
      exact W.n (a, o) (List.mem_of_getElem? h)
theorem Wr.cons {S : List Addr} {H0 H : Hp} {L : List (Addr × HO)} (W : Wr S H0 L H) {a : Addr} {o : HO} (h : H a = none) : Wr S H0 ((a, o) :: L) (upd H a o) := by
  refine ⟨W.F.cons h, W.k.new h, fun p hp => ?_⟩
  rcases List.mem_cons.mp hp with z | z
  · rw [z]
    by_cases e : a ∈ S
    · exact .inl e
    · exact .inr (W.k.free e h)
  · exact W.n p z
theorem Wr.new {S : List Addr} {H0 H H' : Hp} {L : List (Addr × HO)} (W : Wr S H0 L H) {a : Addr} {o : HO} (h : H a = none) (e : H' a = some o) (s : Same H H') : Wr S H0 ((a, o) :: L) H' := by
  refine ⟨⟨fun p hp => ?_, ?_⟩, W.k.same s, fun p hp => ?_⟩
  · rcases List.mem_cons.mp hp with rfl | hp
    · exact e
    · exact s _ _ (W.F.at_ p hp)
  · rw [List.map_cons, List.nodup_cons]
    refine ⟨fun z => ?_, W.F.nd⟩
    obtain ⟨q, hq, e2⟩ := List.mem_map.mp z
    exact W.F.held h q hq e2
  rcases List.mem_cons.mp hp with z | z
  · rw [z]
    by_cases e : a ∈ S
    · exact .inl e
    · exact .inr (W.k.free e h)
  · exact W.n p z
theorem Wr.set {S : List Addr} {H0 H H' : Hp} {L : List (Addr × HO)} (W : Wr S H0 L H) (i : Nat) {a : Addr} {o o' : HO} (h : L[i]? = some (a, o)) (e : H' a = some o') (k : Kp [a] H H') : Wr S H0 (L.set i (a, o')) H' := by
  have W2 := W.put (o' := o') i h
  refine ⟨⟨fun p hp => ?_, W2.F.nd⟩, fun x u ex n => ?_, W2.n⟩
  · by_cases z : p.1 = a
    · have := W2.F.at_ p hp
      rw [z, upd_same] at this
      rw [z, ← Option.some.inj this]
      exact e
    · have := W2.F.at_ p hp
      rw [upd_ne z] at this
      exact k.at1 this z
  · by_cases z : x = a
    · rcases W.n _ (List.mem_of_getElem? h) with q | q
      · exact absurd (z ▸ q) n
      · rw [z, q] at ex; cases ex
    · exact k.at1 (W.k x u ex n) z
theorem Wr.same {S : List Addr} {H0 H H' : Hp} {L : List (Addr × HO)} (W : Wr S H0 L H) (h : Same H H') : Wr S H0 L H' := ⟨W.F.same h, W.k.same h, W.n⟩
theorem Wr.kpL {S S' : List Addr} {H0 H H' : Hp} {L : List (Addr × HO)} (W : Wr S H0 L H) (hl : ∀ p ∈ L, ∃ xs, p.2 = .lst xs) (k : Kp S' H H') (h : ∀ x ∈ S', H0 x = none ∧ ∃ u, H x = some u ∧ ∀ xs, u ≠ .lst xs) : Wr S H0 L H' := by
  have ap : ∀ p ∈ L, p.1 ∉ S' := fun p hp z => by
    obtain ⟨_, u, eu, nu⟩ := h _ z
    obtain ⟨xs, ex⟩ := hl p hp
    have := W.F.at_ p hp
    rw [eu, ex] at this
    exact nu xs (Option.some.inj this)
  refine ⟨W.F.keep fun p hp o e => k _ _ e (ap p hp), fun x o e n => k x o (W.k x o e n) fun z => ?_, W.n⟩
  rw [(h x z).1] at e
  cases e
theorem Wr.ne {S : List Addr} {H0 H : Hp} {L : List (Addr × HO)} (W : Wr S H0 L H) (i j : Nat) {a b : Addr} {o u : HO} (h : L[i]? = some (a, o)) (h' : L[j]? = some (b, u)) (hij : i ≠ j) : a ≠ b := fun z => by
  have e1 : (L.map (·.1))[i]? = some a := by rw [List.getElem?_map, h]; rfl
  have e2 : (L.map (·.1))[j]? = some a := by rw [List.getElem?_map, h', z]; rfl
  have hi := (List.getElem?_eq_some_iff.mp e1).1
  have hj := (List.getElem?_eq_some_iff.mp e2).1
  have p := List.pairwise_iff_getElem.mp W.F.nd
  have f1 := (List.getElem?_eq_some_iff.mp e1).2
  have f2 := (List.getElem?_eq_some_iff.mp e2).2
  rcases Nat.lt_or_gt_of_ne hij with q | q
  · exact p i j hi hj q (f1.trans f2.symm)
  · exact p j i hj hi q (f2.trans f1.symm)
theorem Wr.free {q : Addr} {H0 H : Hp} {L : List (Addr × HO)} (W : Wr [q] H0 L H) (i j : Nat) {a : Addr} {o u : HO} (h : L[i]? = some (a, o)) (h' : L[j]? = some (q, u)) (hij : i ≠ j) : H0 a = none := by
  rcases W.n _ (List.mem_of_getElem? h) with z | z
  · exact absurd (List.mem_singleton.mp z) (W.ne i j h h' hij)
  · exact z
theorem nd_take {α : Type} {l : List α} (h : l.Nodup) {i : Nat} {x : α} (hx : l[i]? = some x) : x ∉ l.take i := fun z => by
  have h2 := h
  rw [← List.take_append_drop i l] at h2
  have hd : x ∈ l.drop i := List.mem_of_getElem? (i := 0) (by rw [List.getElem?_drop]; exact hx)
  exact (List.nodup_append.mp h2).2.2 x z x hd rfl
end K78
namespace K78
open PySem PySem.Spec PyProof.Rows L2 Rg
/-- a comprehension that keeps some of l, i looked at -/
def PvG {α : Type} (f : α → V) (H0 : Hp) (D : Addr) (l : List α) (p : α → Bool) (i : Nat) (H' : Hp) : Prop := Same H0 H' ∧ H' D = some (.lst (((l.take i).filter p).map f))
theorem PvG.start {α : Type} {f : α → V} {H0 : Hp} {D : Addr} {l : List α} {p : α → Bool} (h : H0 D = none) : PvG f H0 D l p 0 (upd H0 D (.lst [])) := ⟨same_upd h, upd_same⟩
theorem take_getG {α : Type} {l : List α} {i : Nat} {x : α} (h : l[i]? = some x) : l.take (i + 1) = l.take i ++ [x] := by
  rw [List.take_add_one, h]
  rfl
theorem PvG.yes {α : Type} {f : α → V} {H0 H' H2 : Hp} {D : Addr} {l : List α} {p : α → Bool} {i : Nat} {x : α} (h : PvG f H0 D l p i H') (hD : H0 D = none) (S : Same H' H2) (hx : l[i]? = some x) (hl : l.length < 1000) (hp : p x = true) :
    ∃ acc, H2 D = some (.lst acc) ∧ acc.length < sizeLine ∧ PvG f H0 D l p (i + 1) (upd H2 D (.lst (acc ++ [f x]))) := by
  refine ⟨_, S _ _ h.2, ?_, fun a o z => ?_, ?_⟩
  · rw [List.length_map]
    have h1 := List.length_filter_le p (l.take i)
    have h2 := List.length_take_le i l
    have hi := (List.getElem?_eq_some_iff.mp hx).1
    exact lt_line (by omega)
  · rw [upd_ne (ne_of_none z hD)]
    exact S _ _ (h.1 _ _ z)
  · rw [upd_same, take_getG hx, List.filter_append, List.map_append, List.filter_cons, if_pos hp]
    rfl
theorem PvG.no {α : Type} {f : α → V} {H0 H' H2 : Hp} {D : Addr} {l : List α} {p : α → Bool} {i : Nat} {x : α} (h : PvG f H0 D l p i H') (S : Same H' H2) (hx : l[i]? = some x) (hp : p x = false) : PvG f H0 D l p (i + 1) H2 := by
  refine ⟨h.1.trans S, ?_⟩
  rw [take_getG hx, List.filter_append, List.filter_cons, if_neg (by rw [hp]; decide), List.filter_nil, List.append_nil]
  exact S _ _ h.2
theorem PvG.all {α : Type} {f : α → V} {H0 H' : Hp} {D : Addr} {l : List α} {p : α → Bool} {n : Nat} (h : PvG f H0 D l p n H') (e : n = l.length) : Same H0 H' ∧ H' D = some (.lst ((l.filter p).map f)) := by
  subst e
  have := h.2
  rw [List.take_length] at this
  exact ⟨h.1, this⟩
end K78
namespace K78
open PySem PySem.Spec PyProof.Rows L2 Rg
/-! ### the law's own image, as a list -/
structure MA where
  (ml ca : Addr) (rs : List Addr) (ho st hl ba : Addr) (G : List Pg)
def mdL (B : MA) (v : IV) (b n s : Int) : List V := [.ref B.ca, .ref B.ho, .ref B.st, .ref B.hl, .int v.se, .int v.wi, .ref B.ba, .int b, .int n, .int s]
/-- where it is written -/
def MA.own (B : MA) : List Addr := B.ml :: B.ca :: B.ho :: B.st :: B.hl :: B.rs
structure MdAt (H : Hp) (B : MA) (v : IV) (b n s : Int) : Prop where
  ob : H B.ml = some (.lst (mdL B v b n s))
  gr : Grid H B.ca B.rs v.M
  ho : H B.ho = some (.lst (v.ho.map V.int))
  st : H B.st = some (.lst (v.st.map V.int))
  hl : H B.hl = some (.lst (B.G.map fun g => V.ref g.1))
  ga : PgAt H B.G
  ge : B.G.map (·.2) = v.hd
  ba : H B.ba = some (.tup (v.ba.map V.int))
  nd : B.own.Nodup
  d0 : (v.M.length : Int) = b
  d1 : ∀ m ∈ v.M, m.length = 8
  d2 : (v.ho.length : Int) = b
  d3 : (v.st.length : Int) = b
section
variable {H H' : Hp} {B : MA} {v : IV} {b n s : Int}
theorem MdAt.keepF (D : MdAt H B v b n s) (h : ∀ x o, H x = some o → (x ∈ B.own ∨ ∀ xs, o ≠ .lst xs) → H' x = some o) : MdAt H' B v b n s where
  ob := h _ _ D.ob (.inl (by simp [MA.own]))
  gr := D.gr.keep fun y o hy e => h _ _ e (.inl (by rcases hy with rfl | hy <;> simp [MA.own, *]))
  ho := h _ _ D.ho (.inl (by simp [MA.own]))
  st := h _ _ D.st (.inl (by simp [MA.own]))
  hl := h _ _ D.hl (.inl (by simp [MA.own]))
  ga := fun g hg => h _ _ (D.ga g hg) (.inr fun xs z => by cases z)
  ge := D.ge
  ba := h _ _ D.ba (.inr fun xs z => by cases z)
  nd := D.nd
  d0 := D.d0
  d1 := D.d1
  d2 := D.d2
  d3 := D.d3
theorem MdAt.same (D : MdAt H B v b n s) (h : Same H H') : MdAt H' B v b n s := D.keepF fun x o e _ => h x o e
theorem MdAt.held (D : MdAt H B v b n s) {x : Addr} (h : x ∈ B.own) : ∃ xs, H x = some (.lst xs) := by
  simp only [MA.own, List.mem_cons] at h
  rcases h with rfl | rfl | rfl | rfl | rfl | h
  · exact ⟨_, D.ob⟩
  · exact ⟨_, D.gr.out⟩
  · exact ⟨_, D.ho⟩
  · exact ⟨_, D.st⟩
  · exact ⟨_, D.hl⟩
  · obtain ⟨i, hi, e⟩ := List.getElem_of_mem h
    have hm : i < v.M.length := by rw [← D.gr.len]; exact hi
    exact ⟨_, D.gr.row i x _ (by rw [List.getElem?_eq_getElem hi, e]) (List.getElem?_eq_getElem hm)⟩
/-- other places changed -/
theorem MdAt.kp (D : MdAt H B v b n s) {S : List Addr} (k : Kp S H H') (h1 : ∀ x ∈ S, x ∉ B.own) (h2 : ∀ x ∈ S, ∀ o, H x = some o → (∃ xs, o = .lst xs) ∨ (∃ c d fs, o = .ins c d fs) ∨ ∃ q, o = .dK q) : MdAt H' B v b n s where
  ob := k _ _ D.ob fun z => h1 _ z (by simp [MA.own])
  gr := D.gr.keep fun y o hy e => k _ _ e fun z => h1 _ z (by rcases hy with rfl | hy <;> simp [MA.own, *])
  ho := k _ _ D.ho fun z => h1 _ z (by simp [MA.own])
  st := k _ _ D.st fun z => h1 _ z (by simp [MA.own])
  hl := k _ _ D.hl fun z => h1 _ z (by simp [MA.own])
  ga := fun g hg => k _ _ (D.ga g hg) fun z => by
    rcases h2 _ z _ (D.ga g hg) with ⟨_, e⟩ | ⟨_, _, _, e⟩ | ⟨_, e⟩ <;> cases e
  ge := D.ge
  ba := k _ _ D.ba fun z => by
    rcases h2 _ z _ D.ba with ⟨_, e⟩ | ⟨_, _, _, e⟩ | ⟨_, e⟩ <;> cases e
  nd := D.nd
  d0 := D.d0
  d1 := D.d1
  d2 := D.d2
  d3 := D.d3
theorem MdAt.nn (D : MdAt H B v b n s) : B.ml ≠ B.ca ∧ B.ml ≠ B.ho ∧ B.ml ≠ B.st ∧ B.ml ≠ B.hl ∧ B.ml ∉ B.rs ∧ B.ca ≠ B.ho ∧ B.ca ≠ B.st ∧ B.ca ≠ B.hl ∧ B.ca ∉ B.rs ∧ B.ho ≠ B.st ∧ B.ho ≠ B.hl ∧ B.ho ∉ B.rs ∧ B.st ≠ B.hl ∧ B.st ∉ B.rs ∧ B.hl ∉ B.rs ∧ B.rs.Nodup := by
  have h := D.nd
  simp only [MA.own, List.nodup_cons, List.mem_cons, not_or] at h
  obtain ⟨⟨a1, a2, a3, a4, a5⟩, ⟨b1, b2, b3, b4⟩, ⟨c1, c2, c3⟩, ⟨d1, d2⟩, e1, e2⟩ := h
  exact ⟨a1, a2, a3, a4, a5, b1, b2, b3, b4, c1, c2, c3, d1, d2, e1, e2⟩
/-- one row changed -/
theorem MdAt.putRow (D : MdAt H B v b n s) {i : Nat} {r : Addr} {m : List Int} (hr : B.rs[i]? = some r) (hm : m.length = 8) : MdAt (upd H r (.lst (m.map V.int))) B { v with M := v.M.set i m } b n s := by
  obtain ⟨a1, a2, a3, a4, a5, b1, b2, b3, b4, c1, c2, c3, d1, d2, e1, e2⟩ := D.nn
  have rin : r ∈ B.rs := List.mem_of_getElem? hr
  obtain ⟨xs, ex⟩ := D.held (x := r) (by simp [MA.own, rin])
  exact { D with
    ob := by rw [upd_ne (fun z : B.ml = r => a5 (by rw [z]; exact rin))]; exact D.ob
    gr := D.gr.put hr
    ho := by rw [upd_ne (fun z : B.ho = r => c3 (by rw [z]; exact rin))]; exact D.ho
    st := by rw [upd_ne (fun z : B.st = r => d2 (by rw [z]; exact rin))]; exact D.st
    hl := by rw [upd_ne (fun z : B.hl = r => e1 (by rw [z]; exact rin))]; exact D.hl
    ga := fun g hg => by rw [upd_ne (ne_of (D.ga g hg) ex (by intro z; cases z))]; exact D.ga g hg
    ba := by rw [upd_ne (ne_of D.ba ex (by intro z; cases z))]; exact D.ba
    d0 := by show ((v.M.set i m).length : Int) = b; rw [List.length_set]; exact D.d0
    d1 := fun m' hm' => by
      rcases mem_set_of hm' with e | e
      · rw [e]; exact hm
      · exact D.d1 _ e }
/-- one row made anew -/
theorem MdAt.swap {H1 : Hp} (D : MdAt H B v b n s) {i : Nat} {q : Addr} {m : List Int} (s1 : Same H H1) (hq : H q = none) (h1 : H1 q = some (.lst (m.map V.int))) (hm : m.length = 8) :
    MdAt (upd H1 B.ca (.lst ((B.rs.map V.ref).set i (V.ref q)))) { B with rs := B.rs.set i q } { v with M := v.M.set i m } b n s := by
  obtain ⟨a1, a2, a3, a4, a5, b1, b2, b3, b4, c1, c2, c3, d1, d2, e1, e2⟩ := D.nn
  have nq : ∀ x ∈ B.own, x ≠ q := fun x hx z => by
    obtain ⟨xs, ex⟩ := D.held hx
    rw [z, hq] at ex
    cases ex
  have oc := s1 _ _ D.gr.out
  have G := D.gr.swap (i := i) s1 hq h1
  refine { ob := ?_, gr := G, ho := ?_, st := ?_, hl := ?_, ga := fun g hg => ?_, ge := D.ge, ba := ?_, nd := ?_, d0 := ?_, d1 := fun m' hm' => ?_, d2 := D.d2, d3 := D.d3 }
  · rw [upd_ne a1]; exact s1 _ _ D.ob
  · rw [upd_ne b1.symm]; exact s1 _ _ D.ho
  · rw [upd_ne b2.symm]; exact s1 _ _ D.st
  · rw [upd_ne b3.symm]; exact s1 _ _ D.hl
  · rw [upd_ne (ne_of (s1 _ _ (D.ga g hg)) oc (by intro z; cases z))]; exact s1 _ _ (D.ga g hg)
  · rw [upd_ne (ne_of (s1 _ _ D.ba) oc (by intro z; cases z))]; exact s1 _ _ D.ba
  · show (B.ml :: B.ca :: B.ho :: B.st :: B.hl :: B.rs.set i q).Nodup
    have nm : ∀ x ∈ B.own, x ∉ B.rs → x ∉ B.rs.set i q := fun x hx h z => by
      rcases mem_set_of z with e | e
      · exact nq x hx e
      · exact h e
    simp only [List.nodup_cons, List.mem_cons, not_or]
    exact ⟨⟨a1, a2, a3, a4, nm _ (by simp [MA.own]) a5⟩, ⟨b1, b2, b3, nm _ (by simp [MA.own]) b4⟩, ⟨c1, c2, nm _ (by simp [MA.own]) c3⟩, ⟨d1, nm _ (by simp [MA.own]) d2⟩, nm _ (by simp [MA.own]) e1, G.nd⟩
  · show ((v.M.set i m).length : Int) = b
    rw [List.length_set]
    exact D.d0
  · rcases mem_set_of hm' with e | e
    · rw [e]; exact hm
    · exact D.d1 _ e
theorem MdAt.putHo (D : MdAt H B v b n s) {i : Nat} {x : Int} : MdAt (upd H B.ho (.lst ((v.ho.map V.int).set i (V.int x)))) B { v with ho := v.ho.set i x } b n s := by
  obtain ⟨a1, a2, a3, a4, a5, b1, b2, b3, b4, c1, c2, c3, d1, d2, e1, e2⟩ := D.nn
  have ex := D.ho
  exact { D with
    ob := by rw [upd_ne a2]; exact D.ob
    gr := D.gr.keep fun y o hy e => by
      rw [upd_ne]
      · exact e
      · rcases hy with rfl | hy
        · exact b1
        · exact fun z => c3 (z ▸ hy)
    ho := by rw [upd_same, ← List.map_set]
    st := by rw [upd_ne c1.symm]; exact D.st
    hl := by rw [upd_ne c2.symm]; exact D.hl
    ga := fun g hg => by rw [upd_ne (ne_of (D.ga g hg) ex (by intro z; cases z))]; exact D.ga g hg
    ba := by rw [upd_ne (ne_of D.ba ex (by intro z; cases z))]; exact D.ba
    d2 := by show ((v.ho.set i x).length : Int) = b; rw [List.length_set]; exact D.d2 }
theorem MdAt.putSt (D : MdAt H B v b n s) {i : Nat} {x : Int} : MdAt (upd H B.st (.lst ((v.st.map V.int).set i (V.int x)))) B { v with st := v.st.set i x } b n s := by
  obtain ⟨a1, a2, a3, a4, a5, b1, b2, b3, b4, c1, c2, c3, d1, d2, e1, e2⟩ := D.nn
  have ex := D.st
  exact { D with
    ob := by rw [upd_ne a3]; exact D.ob
    gr := D.gr.keep fun y o hy e => by
      rw [upd_ne]
      · exact e
      · rcases hy with rfl | hy
        · exact b2
        · exact fun z => d2 (z ▸ hy)
    st := by rw [upd_same, ← List.map_set]
    ho := by rw [upd_ne c1]; exact D.ho
    hl := by rw [upd_ne d1.symm]; exact D.hl
    ga := fun g hg => by rw [upd_ne (ne_of (D.ga g hg) ex (by intro z; cases z))]; exact D.ga g hg
    ba := by rw [upd_ne (ne_of D.ba ex (by intro z; cases z))]; exact D.ba
    d3 := by show ((v.st.set i x).length : Int) = b; rw [List.length_set]; exact D.d3 }
/-- the list itself changed: serial, wish, barred, handles -/
theorem MdAt.top (D : MdAt H B v b n s) {se wi : Int} {t hl : Addr} {bs : List Int} {G : List Pg} {hd : List (Int × Int)} (ht : H t = some (.tup (bs.map V.int))) (hh : H hl = some (.lst (G.map fun g => V.ref g.1))) (hG : PgAt H G) (hg : G.map (·.2) = hd) (hn : hl = B.hl ∨ hl ∉ B.own) :
    MdAt (upd H B.ml (.lst (mdL { B with ba := t, hl := hl, G := G } { v with se := se, wi := wi, ba := bs, hd := hd } b n s))) { B with ba := t, hl := hl, G := G } { v with se := se, wi := wi, ba := bs, hd := hd } b n s := by
  obtain ⟨a1, a2, a3, a4, a5, b1, b2, b3, b4, c1, c2, c3, d1, d2, e1, e2⟩ := D.nn
  have ex := D.ob
  have hm : B.ml ≠ hl ∧ B.ca ≠ hl ∧ B.ho ≠ hl ∧ B.st ≠ hl ∧ hl ∉ B.rs := by
    rcases hn with rfl | h
    · exact ⟨a4, b3, c2, d1, e1⟩
    · simp only [MA.own, List.mem_cons, not_or] at h
      exact ⟨fun z => h.1 z.symm, fun z => h.2.1 z.symm, fun z => h.2.2.1 z.symm, fun z => h.2.2.2.1 z.symm, h.2.2.2.2.2⟩
  exact {
    ob := upd_same
    gr := D.gr.keep fun y o hy e => by
      rw [upd_ne]
      · exact e
      · rcases hy with rfl | hy
        · exact a1.symm
        · exact fun z => a5 (z ▸ hy)
    ho := by rw [upd_ne a2.symm]; exact D.ho
    st := by rw [upd_ne a3.symm]; exact D.st
    hl := by show upd H B.ml _ hl = _; rw [upd_ne hm.1.symm]; exact hh
    ga := fun g hg => by rw [upd_ne (ne_of (hG g hg) ex (by intro z; cases z))]; exact hG g hg
    ge := hg
    ba := by show upd H B.ml _ t = _; rw [upd_ne (ne_of ht ex (by intro z; cases z))]; exact ht
    nd := by
      show (B.ml :: B.ca :: B.ho :: B.st :: hl :: B.rs).Nodup
      simp only [List.nodup_cons, List.mem_cons, not_or]
      exact ⟨⟨a1, a2, a3, hm.1, a5⟩, ⟨b1, b2, hm.2.1, b4⟩, ⟨c1, hm.2.2.1, c3⟩, ⟨hm.2.2.2.1, d2⟩, hm.2.2.2.2, e2⟩
    d0 := D.d0
    d1 := D.d1
    d2 := D.d2
    d3 := D.d3 }
/-- one cell changed -/
theorem MdAt.setC (D : MdAt H B v b n s) {i j : Nat} {x : Int} {r : Addr} {m : List Int} (hr : B.rs[i]? = some r) (hm : v.M[i]? = some m) :
    MdAt (upd H r (.lst ((m.map V.int).set j (V.int x)))) B { v with M := setC v.M i j x } b n s := by
  have h8 : m.length = 8 := D.d1 m (List.mem_of_getElem? hm)
  have := D.putRow (m := m.set j x) hr (by rw [List.length_set]; exact h8)
  rw [List.map_set] at this
  unfold K78.setC
  rw [hm]
  exact this
end
end K78
namespace K78
open PySem PySem.Spec PyProof.Rows L2 Rg
/-! ### what reads alike -/
structure Dat (H : Hp) (v : IV) (l : List (Int × Int)) (c h t d : Addr) : Prop where
  c : ∃ rs : List Addr, H c = some (.lst (rs.map V.ref)) ∧ rs.length = v.M.length ∧ ∀ (i : Nat) (r : Addr) (m : List Int), rs[i]? = some r → v.M[i]? = some m → H r = some (.lst (m.map V.int))
  h : H h = some (.lst (v.ho.map V.int))
  t : H t = some (.lst (v.st.map V.int))
  d : ∃ G : List Pg, H d = some (.lst (G.map fun g => V.ref g.1)) ∧ PgAt H G ∧ G.map (·.2) = l
theorem Sm.ints {K : PySem.W.Frag} {H : Hp} {a b : Addr} {xs : List Int} (ha : H a = some (.lst (xs.map V.int))) (hb : H b = some (.lst (xs.map V.int))) (hl : xs.length < 1000) {n : Nat} : Sm K H (n + 1) (.ref a) (.ref b) := by
  refine .inr ⟨a, b, _, _, rfl, rfl, .inl ⟨ha, hb⟩, rfl, by rw [List.length_map]; exact hl, fun i x y h1 h2 => ?_⟩
  rw [h1] at h2
  cases h2
  rw [List.getElem?_map] at h1
  obtain ⟨z, _, rfl⟩ := Option.map_eq_some_iff.mp h1
  exact Sm.int
theorem Sm.tups {K : PySem.W.Frag} {H : Hp} {a b : Addr} {xs : List Int} (ha : SqT K H a (xs.map V.int)) (hb : SqT K H b (xs.map V.int)) (hl : xs.length < 1000) {n : Nat} : Sm K H (n + 1) (.ref a) (.ref b) := by
  refine .inr ⟨a, b, _, _, rfl, rfl, .inr ⟨ha, hb⟩, rfl, by rw [List.length_map]; exact hl, fun i x y h1 h2 => ?_⟩
  rw [h1] at h2
  cases h2
  rw [List.getElem?_map] at h1
  obtain ⟨z, _, rfl⟩ := Option.map_eq_some_iff.mp h1
  exact Sm.int
theorem Dat.same {H H' : Hp} {v : IV} {l : List (Int × Int)} {c h t d : Addr} (D : Dat H v l c h t d) (s : Same H H') : Dat H' v l c h t d := by
  obtain ⟨⟨rs, e1, e2, e3⟩, hh, ht, ⟨G, f1, f2, f3⟩⟩ := D
  exact ⟨⟨rs, s _ _ e1, e2, fun i r m a b => s _ _ (e3 i r m a b)⟩, s _ _ hh, s _ _ ht, ⟨G, s _ _ f1, f2.same s, f3⟩⟩
theorem MdAt.dat {H : Hp} {B : MA} {v : IV} {b n s : Int} (D : MdAt H B v b n s) : Dat H v v.hd B.ca B.ho B.st B.hl := ⟨⟨B.rs, D.gr.out, D.gr.len, D.gr.row⟩, D.ho, D.st, ⟨B.G, D.hl, D.ga, D.ge⟩⟩
theorem Dat.sm {K : PySem.W.Frag} {H : Hp} {v : IV} {l : List (Int × Int)} {c h t d c' h' t' d' : Addr} (A : Dat H v l c h t d) (B : Dat H v l c' h' t' d') (d0 : v.M.length < 1000) (d1 : ∀ m ∈ v.M, m.length < 1000) (d2 : v.ho.length < 1000) (d3 : v.st.length < 1000) (d4 : l.length < 1000) :
    Sm K H 2 (.ref c) (.ref c') ∧ Sm K H 2 (.ref h) (.ref h') ∧ Sm K H 2 (.ref t) (.ref t') ∧ Sm K H 2 (.ref d) (.ref d') := by
  obtain ⟨⟨rs, e1, e2, e3⟩, hh, ht, ⟨G, f1, f2, f3⟩⟩ := A
  obtain ⟨⟨rs', e1', e2', e3'⟩, hh', ht', ⟨G', f1', f2', f3'⟩⟩ := B
  refine ⟨.inr ⟨c, c', _, _, rfl, rfl, .inl ⟨e1, e1'⟩, by rw [List.length_map, List.length_map, e2, e2'], by rw [List.length_map, e2']; exact d0, fun i x y h1 h2 => ?_⟩, Sm.ints hh hh' d2, Sm.ints ht ht' d3, .inr ⟨d, d', _, _, rfl, rfl, .inl ⟨f1, f1'⟩, ?_, ?_, fun i x y h1 h2 => ?_⟩⟩
  · rw [List.getElem?_map] at h1 h2
    obtain ⟨r, er, rfl⟩ := Option.map_eq_some_iff.mp h1
    obtain ⟨r', er', rfl⟩ := Option.map_eq_some_iff.mp h2
    have hi : i < v.M.length := by rw [← e2]; exact (List.getElem?_eq_some_iff.mp er).1
    have em := List.getElem?_eq_getElem hi
    exact Sm.ints (e3 i r _ er em) (e3' i r' _ er' em) (d1 _ (List.mem_of_getElem? em))
  · rw [List.length_map, List.length_map, ← List.length_map (f := fun g : Pg => g.2), ← List.length_map (as := G') (f := fun g : Pg => g.2), f3, f3']
  · rw [List.length_map, ← List.length_map (as := G') (f := fun g : Pg => g.2), f3']
    exact d4
  · rw [List.getElem?_map] at h1 h2
    obtain ⟨g, eg, rfl⟩ := Option.map_eq_some_iff.mp h1
    obtain ⟨g', eg', rfl⟩ := Option.map_eq_some_iff.mp h2
    have q : g.2 = g'.2 := by
      have a : (G.map (·.2))[i]? = some g.2 := by rw [List.getElem?_map, eg]; rfl
      have b : (G'.map (·.2))[i]? = some g'.2 := by rw [List.getElem?_map, eg']; rfl
      rw [f3] at a
      rw [f3'] at b
      exact Option.some.inj (a.symm.trans b)
    have A1 := f2 g (List.mem_of_getElem? eg)
    have A2 := f2' g' (List.mem_of_getElem? eg')
    rw [← q] at A2
    exact Sm.tups (xs := [g.2.1, g.2.2]) (.of A1) (.of A2) (by show 2 < 1000; decide)
theorem Sm.list {K : PySem.W.Frag} {H : Hp} {n : Nat} {a b : Addr} {xs ys : List V} (ha : H a = some (.lst xs)) (hb : H b = some (.lst ys)) (hl : xs.length = ys.length) (h1 : ys.length < 1000) (h : ∀ (i : Nat) (x y : V), xs[i]? = some x → ys[i]? = some y → Sm K H n x y) : Sm K H (n + 1) (.ref a) (.ref b) :=
  .inr ⟨a, b, xs, ys, rfl, rfl, .inl ⟨ha, hb⟩, hl, h1, h⟩
theorem Sm.nil {K : PySem.W.Frag} {H : Hp} {n : Nat} : ∀ (i : Nat) (x y : V), ([] : List V)[i]? = some x → ([] : List V)[i]? = some y → Sm K H n x y := fun _ _ _ h => by cases h
theorem Sm.cons {K : PySem.W.Frag} {H : Hp} {n : Nat} {u v : V} {xs ys : List V} (a : Sm K H n u v) (h : ∀ (i : Nat) (x y : V), xs[i]? = some x → ys[i]? = some y → Sm K H n x y) : ∀ (i : Nat) (x y : V), (u :: xs)[i]? = some x → (v :: ys)[i]? = some y → Sm K H n x y := fun i x y e1 e2 => by
  cases i with
  | zero => cases e1; cases e2; exact a
  | succ i => exact h i x y e1 e2
/-! ### sorted handles -/
def Srt (l hd : List (Int × Int)) : Prop := l.Perm hd ∧ (l.map (·.1)).Pairwise (· < ·)
theorem Srt.nd {l hd : List (Int × Int)} (h : Srt l hd) : (hd.map (·.1)).Nodup := by
  have q : (l.map (·.1)).Nodup := List.Pairwise.imp (fun {a b} (a_1 : a < b) => Int.ne_of_lt a_1) h.2
  exact ((h.1.map (·.1)).nodup_iff).mp q
theorem valV_hd {hd : List (Int × Int)} {k w : Int} (nd : (hd.map (·.1)).Nodup) (h : (k, w) ∈ hd) : valV (hdK hd) (Sum.inl k) = some (.int w) := by
  induction hd with
  | nil => cases h
  | cons p r ih =>
    rw [List.map_cons, List.nodup_cons] at nd
    unfold hdK
    rw [List.map_cons]
    unfold valV
    rw [List.find?_cons]
    by_cases e : p.1 = k
    · subst e
      rcases List.mem_cons.mp h with z | z
      · rw [← z]; simp
      · exact absurd (List.mem_map.mpr ⟨_, z, rfl⟩) nd.1
    · rcases List.mem_cons.mp h with z | z
      · exact absurd (by rw [← z]) e
      · have q := ih nd.2 z
        unfold hdK valV at q
        rw [← q]
        simp [e]
end K78
namespace K78
open PySem PySem.Spec PyProof.Rows L2 Rg
theorem asc_ext : ∀ {a b : List Int}, a.Pairwise (· < ·) → b.Pairwise (· < ·) → (∀ k, k ∈ a ↔ k ∈ b) → a = b
  | [], [], _, _, _ => rfl
  | [], y :: b, _, _, h => by have := (h y).mpr (by simp); cases this
  | x :: a, [], _, _, h => by have := (h x).mp (by simp); cases this
  | x :: a, y :: b, ha, hb, h => by
    obtain ⟨a1, a2⟩ := List.pairwise_cons.mp ha
    obtain ⟨b1, b2⟩ := List.pairwise_cons.mp hb
    have exy : x = y := by
      have p1 : x ∈ y :: b := (h x).mp (by simp)
      have p2 : y ∈ x :: a := (h y).mpr (by simp)
      rcases List.mem_cons.mp p1 with q | q
      · exact q
      · rcases List.mem_cons.mp p2 with r | r
        · exact r.symm
        · have := a1 y r
          have := b1 x q
          omega
    subst exy
    rw [asc_ext a2 b2 fun k => ?_]
    constructor
    · intro z
      rcases List.mem_cons.mp ((h k).mp (by simp [z])) with q | q
      · have := a1 k z; omega
      · exact q
    · intro z
      rcases List.mem_cons.mp ((h k).mpr (by simp [z])) with q | q
      · have := b1 k z; omega
      · exact q
theorem CDiv8 (i : Int) : CDiv i 8 := ⟨by decide, by decide⟩
theorem call_isiK {X : Cx} {K : PySem.W.Frag} (hK : X.K = K) : CallR X (.builtin "isinstance") (rIsi K) := by
  subst hK
  exact call_isi
section
variable {P : Program} {w : World} {K : PySem.W.Frag} {mg : Str → Option Value} {base : Heap}
/-! ### _law_kind -/
def sp_Lkind : Sp := fun vs H Q _ => ∃ (ca : Addr) (rs : List Addr) (M : List (List Int)) (b n x : Int), vs = [.ref ca, .int (fdOf b n), .int x] ∧ Grid H ca rs M ∧ (M.length : Int) = b ∧ (∀ m ∈ M, m.length = 8) ∧ 0 ≤ n ∧ 0 ≤ x ∧ x < b ∧ Q (.int (kindOf b n M x)) H
theorem ok_Lkind (T : Tx K mg) : FnOk P w K mg base CX0 1 T.f_Lkind T.fd_Lkind ["_law_cells", "_law_first", "_law_x"] sp_Lkind := by
  refine T.F_Lkind.ok sc_Lkind (fun vs H Q E h => ?_) (fun cdv A outer s H vs Q E hr h => ?_)
  · obtain ⟨_, _, _, _, _, _, rfl, _⟩ := h; rfl
  · obtain ⟨ca, rs, M, b, n, x, rfl, hG, d0, d1, n0, x0, xb, k⟩ := h
    refine ⟨_, (pss_cons (ps_if (pt_cmpR op_lt (pv 2) (pv 1) (nomark _))
        (pss_one (ps_ret pe_int))
        pss_nil)
      (pss_cons (ps_set (i := 3) sc_Lkind.nd rfl (.inl rfl) (pe_ix ix_list (pe_ix ix_list (pv 0) (pe_op op_add pe_int (pe_op op_fdiv (pv 2) pe_int)) (fun _ _ => rfl)) (pe_op op_mod (pe_callTy call_int1 rfl T.b_int (by decide +kernel) (pa_cons (pv 2) pa_nil)) pe_int) (fun _ _ => rfl)))
      (pss_cons (ps_if (PW.pt (pw_or (pt_cmpR op_eq (pv 3) pe_int (nomark _)) (pw_or1 (pt_cmpR op_eq (pv 3) pe_int (nomark _)))))
        (pss_one (ps_ret (pv 3)))
        pss_nil)
      (pss_one (ps_ret pe_int))))), ?_⟩
    unfold kindOf at k
    refine ⟨_, rfl, _, rfl, _, _, rfl, rfl, _, rfl, wD (fun e => ?_) (fun e => ?_)⟩
    · have e : x < 2 + (b + 8 - 1) / 8 + n := e
      rw [if_pos e] at k
      exact k
    · have e' : ¬ x < 2 + (b + 8 - 1) / 8 + n := e
      rw [if_neg e'] at k
      have hi : (2 + x / 8).toNat < M.length := by omega
      obtain ⟨r, hr1, hr2, _⟩ := hG.get (List.getElem?_eq_getElem hi)
      have hj : (x % 8).toNat < (M[(2 + x / 8).toNat]).length := by
        rw [d1 _ (List.getElem_mem hi)]
        omega
      have hc : cellAt M (2 + x / 8).toNat (x % 8).toNat = (M[(2 + x / 8).toNat])[(x % 8).toNat] := cellAt_of (List.getElem?_eq_getElem hi) (List.getElem?_eq_getElem hj)
      rw [hc] at k
      refine ⟨_, rfl, _, rfl, _, _, rfl, rfl, (CDiv8 _), _, _, rfl, rfl, ca, _, _, .ref r, rfl, rfl, .of hG.out, at_of (j := (2 + x / 8).toNat) (by omega) (by rw [List.getElem?_map, hr1]; rfl), _, rfl, .inl ⟨_, rfl, ?_⟩⟩
      refine ⟨_, _, rfl, rfl, (by show (0 : Int) < 8; decide), r, _, _, _, rfl, rfl, .of hr2, at_of (j := (x % 8).toNat) (by omega) (by rw [List.getElem?_map, List.getElem?_eq_getElem hj]; rfl), ?_⟩
      generalize (M[(2 + x / 8).toNat])[(x % 8).toNat] = c at k ⊢
      ((try dsimp only); (first | (refine Rg.sg (σ' := [some (.ref ca), some (.int (fdOf b n)), some (.int x), some (.int c)]) ?_ ?_; focus exact rfl) | (refine Rg.sgG (σ' := [some (.ref ca), some (.int (fdOf b n)), some (.int x), some (.int c)]) ?_ ?_; focus exact rfl)))
      refine ⟨_, rfl, rfl, _, rfl, wI (fun z => ?_) (fun z => ?_)⟩
      · rw [if_pos (.inl z)] at k
        exact ⟨_, rfl, k⟩
      · refine ⟨_, rfl, rfl, _, rfl, wI (fun y => ?_) (fun y => ?_)⟩
        · rw [if_pos (.inr y)] at k
          exact ⟨_, rfl, k⟩
        · rw [if_neg (fun q => q.elim z y)] at k
          exact k
/-! ### _law_lists -/
def sp_Llists (CI CP : Addr) : Sp := fun vs H Q _ => ∃ (im : Addr) (A : IA) (v : IV) (b n s : Int), vs = [.ref im] ∧ ImgAt CI CP H im A v b n s ∧ ∀ H', Same H H' → Q (.bl true) H'
theorem ok_Llists (T : Tx K mg) : FnOk P w K mg base CX0 1 T.f_Llists T.fd_Llists ["_law_image"] (sp_Llists T.C_Image T.C_Plan) := by
  refine T.F_Llists.ok sc_Llists (fun vs H Q E h => ?_) (fun cdv A outer s H vs Q E hr h => ?_)
  · obtain ⟨_, _, _, _, _, _, rfl, _⟩ := h; rfl
  · obtain ⟨im, A, v, b, n, sl, rfl, I, k⟩ := h
    refine ⟨_, (pss_cons (ps_setLc (i := 1) (own := [("_law_row", 2)]) (g := gName 2) (tt := _) rfl sc_Llists.nd rfl rfl (sw_true rfl rfl rfl (by decide +kernel)) (pi_list (pe_fld (pv 0) rfl)) (blkOk_by (N := ["_law_image", "_law_others", "_law_row"]) (sc := defScope s_Llists) (by decide +kernel)) (fun _ _ _ _ _ => pg_name (i := 2) sc_Llists.nd rfl (Or.inl rfl)) (fun _ _ _ _ _ => pts_one (pt_not (pt_val (pe_callB (call_isiK (K := K) rfl) rfl T.b_isinstance (by decide +kernel) (pa_cons (pv 2) (pa_cons (pe_bltn (v := .ty "list") rfl T.b_list (by decide +kernel) rfl) pa_nil)))))) (fun _ _ _ _ _ => (pv 2)))
      (pss_one (ps_ret (pe_and (pe_callB call_isi rfl T.b_isinstance (by decide +kernel) (pa_cons (pe_fld (pv 0) rfl) (pa_cons (pe_bltn (v := .ty "list") rfl T.b_list (by decide +kernel) rfl) pa_nil))) (pe_one (pe_cmpR op_eq (pe_callB call_len_seq rfl T.b_len (by decide +kernel) (pa_cons (pv 1) pa_nil)) pe_int (nomark _))))))), ?_⟩
    refine ⟨_, rfl, im, _, _, _, _, rfl, I.ob, T.cl_Image, T.na_Image_cells, rfl, A.ca, rfl, ⟨_, .of I.gr.out⟩, fun D hD => ?_⟩
    refine lc_list (K := K) (a := A.ca) (xs := A.rs.map V.ref) (PvG (fun g : Addr => V.ref g) H D A.rs (fun _ => false)) (PvG.start hD) (fun j H' _ Pv => .of (Pv.1 _ _ I.gr.out)) ?_ ?_
    · rintro j yv H' hj Pv
      rw [List.getElem?_map] at hj
      obtain ⟨g, hx, rfl⟩ := Option.map_eq_some_iff.mp hj
      have hi := (List.getElem?_eq_some_iff.mp hx).1
      have hm : j < v.M.length := by rw [← I.gr.len]; exact hi
      have er := Pv.1 _ _ (I.gr.row j g _ hx (List.getElem?_eq_getElem hm))
      refine ⟨rfl, _, rfl, _, _, _, _, true, rfl, .ty _, .base (.lst er), kit_ty (by decide +kernel), _, rfl, ?_⟩
      exact iteF (Pv.no (Same.refl _) hx rfl)
    intro H5 Pv
    obtain ⟨s5, e5⟩ := Pv.all (by rw [List.length_map])
    have e5 : H5 D = some (.lst []) := by rw [e5]; simp
    ((try dsimp only); (first | (refine Rg.sg (σ' := [some (.ref im), some (.ref D), none]) ?_ ?_; focus exact rfl) | (refine Rg.sgG (σ' := [some (.ref im), some (.ref D), none]) ?_ ?_; focus exact rfl)))
    refine ⟨_, rfl, im, _, _, _, _, rfl, s5 _ _ I.ob, T.cl_Image, T.na_Image_cells, rfl, _, _, _, _, true, rfl, .ty _, .base (.lst (s5 _ _ I.gr.out)), kit_ty (by decide +kernel), _, rfl, iteT ?_⟩
    exact ⟨_, rfl, D, _, rfl, .inl (.of e5), rfl, k H5 s5⟩
/-! ### _law_state -/
def sp_Lstate (CI CP : Addr) : Sp := fun vs H Q _ => ∃ (im : Addr) (A : IA) (v : IV) (b n s : Int) (l : List (Int × Int)), vs = [.ref im] ∧ ImgAt CI CP H im A v b n s ∧ Srt l v.hd ∧ l.length < 1000 ∧
  ∀ (H' : Hp) (r c h t d : Addr), Same H H' → H r = none → H' r = some (.lst [.ref c, .ref h, .ref t, .ref d, .int v.se]) → Dat H' v l c h t d → Q (.ref r) H'
theorem ok_Lstate (T : Tx K mg) : FnOk P w K mg base CX0 1 T.f_Lstate T.fd_Lstate ["_law_image"] (sp_Lstate T.C_Image T.C_Plan) := by
  refine T.F_Lstate.ok sc_Lstate (fun vs H Q E h => ?_) (fun cdv A0 outer s H vs Q E hr h => ?_)
  · obtain ⟨_, _, _, _, _, _, _, rfl, _⟩ := h; rfl
  · obtain ⟨im, A, v, b, n, sl, l, rfl, I, hS, hl, k⟩ := h
    refine ⟨_, (pss_cons (ps_setLc (i := 1) (own := [("_law_n", 2)]) (g := gName 2) (tt := tYes) rfl sc_Lstate.nd rfl rfl (sw_true rfl rfl rfl (by decide +kernel)) (pi_list (pe_callB cr_sortedI rfl T.b_sorted (by decide +kernel) (pa_cons (pe_callTy (call_listD rfl) rfl T.b_list (by decide +kernel) (pa_cons (pe_fld (pv 0) rfl) pa_nil)) pa_nil))) (blkOk_by (N := ["_law_image", "_law_handles", "_law_n", "_law_row"]) (sc := defScope s_Lstate) (by decide +kernel)) (fun _ _ _ _ _ => pg_name (i := 2) sc_Lstate.nd rfl (Or.inl rfl)) (fun _ _ _ _ _ => pts_nil) (fun _ _ _ _ _ => (pe_tup (pa_cons (pv 2) (pa_cons (pe_dget (hu_of hr) (pe_fldK (K := K) (pv 0) rfl) (pv 2) (fun _ _ => rfl)) pa_nil)))))
      (pss_one (ps_ret (pe_lst (pa_cons (pe_lc rfl (own := [("_law_row", 3)]) (g := gName 3) (tt := tYes) sc_Lstate.nd (pi_list (pe_fld (pv 0) rfl)) (blkOk_by (N := ["_law_image", "_law_handles", "_law_n", "_law_row"]) (sc := defScope s_Lstate) (by decide +kernel)) (fun _ _ _ _ _ => pg_name (i := 3) sc_Lstate.nd rfl (Or.inl rfl)) (fun _ _ _ _ _ => pts_nil) (fun _ _ _ _ _ => (pe_listof (K := K) (pv 3) T.b_list))) (pa_cons (pe_listof (K := K) (pe_fld (pv 0) rfl) T.b_list) (pa_cons (pe_listof (K := K) (pe_fld (pv 0) rfl) T.b_list) (pa_cons (pv 1) (pa_cons (pe_fld (pv 0) rfl) pa_nil))))))))), ?_⟩
    have b1 := I.pl.b1
    have b2 := I.pl.b2
    have d0 := I.d0
    refine ⟨_, rfl, im, _, _, _, _, rfl, I.ob, T.cl_Image, T.na_Image_handles, rfl, A.hd, _, rfl, .of I.hd, ?_⟩
    (intro x n_x; generalize he_x : upd _ x _ = H1; obtain ⟨e_x, s_x, f_x⟩ := new_f he_x n_x; clear he_x)
    have ek : (hdK v.hd).map (fun kv => kV kv.1) = (v.hd.map (·.1)).map V.int := by
      unfold hdK
      rw [List.map_map, List.map_map]
      rfl
    rw [ek] at e_x
    refine ⟨x, _, rfl, .of e_x, fun ns y p1 p2 n_y => ?_⟩
    have en : ns = l.map (·.1) := by
      have nd := hS.nd
      refine asc_ext ?_ hS.2 fun z => ?_
      · exact lt_of_le_nodup _ p2 (p1.nodup_iff.mpr nd)
      · rw [p1.mem_iff]
        exact (hS.1.map (·.1)).mem_iff.symm
    subst en
    (generalize he_y : upd _ y _ = H2; obtain ⟨e_y, s_y, f_y⟩ := new_f he_y n_y; clear he_y)
    have ea2 := s_y _ _ (s_x _ _ I.hd)
    refine ⟨y, rfl, ⟨_, .of e_y⟩, fun D hD => ?_⟩
    refine lc_list (K := K) (a := y) (xs := (l.map (·.1)).map V.int) (fun i H' => ∃ G : List Pg, Same H2 H' ∧ H' D = some (.lst (G.map fun g => V.ref g.1)) ∧ PgAt H' G ∧ G.map (·.2) = l.take i)
      ⟨[], same_upd hD, upd_same, (fun g hg => by cases hg), rfl⟩ (fun i H' _ ⟨G, S, _⟩ => .of (S _ _ e_y)) ?_ ?_
    · rintro i yv H' hi ⟨G, S, e1, e2, e3⟩
      rw [List.map_map, List.getElem?_map] at hi
      obtain ⟨g, hx, rfl⟩ := Option.map_eq_some_iff.mp hi
      have hm : (g.1, g.2) ∈ v.hd := hS.1.mem_iff.mp (List.mem_of_getElem? hx)
      refine ⟨rfl, yes_ ⟨_, rfl, _, rfl, im, _, _, _, _, rfl, S _ _ (s_y _ _ (s_x _ _ I.ob)), T.cl_Image, T.na_Image_handles, rfl, _, rfl, A.hd, .int g.2, rfl, ?_, (by show 2 ≤ sizeLine; decide), fun q hq => ?_⟩⟩
      · have := DGet.k (k := Sum.inl g.1) (S _ _ ea2)
        rw [valV_hd hS.nd hm] at this
        exact this
      · have s3 := same_upd (o := .tup [.int g.1, .int g.2]) hq
        have hqD : q ≠ D := fun z => by rw [z, e1] at hq; cases hq
        refine ⟨_, s3 _ _ e1, ?_, G ++ [(q, g)], fun a o z => ?_, ?_, fun g2 hg2 => ?_, ?_⟩
        · rw [List.length_map, ← List.length_map (as := G) (f := fun g : Pg => g.2), e3, List.length_take]
          exact small1000 (by omega)
        · rw [upd_ne (ne_of_none z hD)]
          exact s3 _ _ (S _ _ z)
        · rw [upd_same, List.map_append]
          rfl
        · rcases List.mem_append.mp hg2 with z | z
          · have := e2 g2 z
            rw [upd_ne (ne_of (s3 _ _ this) (s3 _ _ e1) (by intro z; cases z))]
            exact s3 _ _ this
          · rw [List.mem_singleton.mp z, upd_ne hqD]
            exact upd_same
        · rw [List.map_append, e3, List.take_succ, hx]
          rfl
    rintro H3 ⟨G, S, e1, e2, e3⟩
    rw [List.length_map, List.length_map, List.take_length] at e3
    ((try dsimp only); (first | (refine Rg.sg (σ' := [some (.ref im), some (.ref D), none, none]) ?_ ?_; focus exact rfl) | (refine Rg.sgG (σ' := [some (.ref im), some (.ref D), none, none]) ?_ ?_; focus exact rfl)))
    have S3 : Same H H3 := (s_x.trans s_y).trans S
    have I3 := I.keep S3
    refine ⟨_, rfl, im, _, _, _, _, rfl, I3.ob, T.cl_Image, T.na_Image_cells, rfl, A.ca, rfl, ⟨_, .of I3.gr.out⟩, fun D2 hD2 => ?_⟩
    refine lc_list (K := K) (a := A.ca) (xs := (A.rs).map V.ref) (fun i H' => ∃ qs, NewGrid H3 H' D2 qs (List.take i (v.M))) ⟨[], NewGrid.start (Same.refl _) hD2 hD2⟩ (fun i H' _ ⟨qs, G⟩ => .of (G.same _ _ (I3.gr).out)) ?_ ?_
    · rintro i y H' hi ⟨qs, G⟩
      have hil : i < (A.rs).length := by
        have := (List.getElem?_eq_some_iff.mp hi).1
        rw [List.length_map] at this
        exact this
      rw [List.getElem?_map, List.getElem?_eq_getElem hil] at hi
      have hi : V.ref (A.rs)[i] = y := Option.some.inj hi
      subst hi
      have hiR : i < (v.M).length := by rw [← (I3.gr).len]; exact hil
      have hrow := G.same _ _ ((I3.gr).row i (A.rs)[i] (v.M)[i] (List.getElem?_eq_getElem hil) (List.getElem?_eq_getElem hiR))
      refine ⟨rfl, ?_⟩
      refine yes_ ?_
      refine ⟨_, rfl, (A.rs)[i], _, rfl, .inl (.of hrow), fun q hq => ?_⟩
      refine ⟨_, by rw [upd_ne (ne_of_none G.grid.out hq)]; exact G.grid.out, ?_, qs ++ [q], ?_⟩
      · rw [List.length_map, G.grid.len, List.length_take]
        exact small1000 (by omega)
      · rw [List.take_succ, List.getElem?_eq_getElem hiR]
        exact G.snoc (same_upd hq) hq upd_same
    rintro H4 ⟨qs, G_qs⟩
    rw [List.length_map, (I3.gr).len, List.take_length] at G_qs
    have I4 := I3.keep G_qs.same
    refine ⟨_, rfl, im, _, _, _, _, rfl, I4.ob, T.cl_Image, T.na_Image_holdings, rfl, A.ho, _, rfl, .inl (.of I4.ho), ?_⟩
    (intro p n_p; generalize he_p : upd _ p _ = H5; obtain ⟨e_p, s_p, f_p⟩ := new_f he_p n_p; clear he_p)
    have I5 := I4.keep s_p
    refine ⟨_, rfl, im, _, _, _, _, rfl, I5.ob, T.cl_Image, T.na_Image_stamps, rfl, A.st, _, rfl, .inl (.of I5.st), ?_⟩
    (intro q n_q; generalize he_q : upd _ q _ = H6; obtain ⟨e_q, s_q, f_q⟩ := new_f he_q n_q; clear he_q)
    have I6 := I5.keep s_q
    refine ⟨_, rfl, _, rfl, im, _, _, _, _, rfl, I6.ob, T.cl_Image, T.na_Image_serial, rfl, (by show 5 ≤ sizeLine; decide), ?_⟩
    (intro r n_r; generalize he_r : upd _ r _ = H7; obtain ⟨e_r, s_r, f_r⟩ := new_f he_r n_r; clear he_r)
    have S47 : Same H4 H7 := (s_p.trans s_q).trans s_r
    have S37 : Same H3 H7 := G_qs.same.trans S47
    refine k H7 r D2 p q D (S3.trans S37) ((S3.trans ((G_qs.same.trans s_p).trans s_q)).free n_r) e_r ⟨⟨qs, S47 _ _ G_qs.grid.out, G_qs.grid.len, fun i r m a b => S47 _ _ (G_qs.grid.row i r m a b)⟩, s_r _ _ (s_q _ _ e_p), s_r _ _ e_q, ⟨G, S37 _ _ e1, e2.same S37, e3⟩⟩
/-! ### _law_all -/
def allL (c h t d ba : Addr) (v : IV) (b n s : Int) : List V := [.ref c, .ref h, .ref t, .ref d, .int v.se, .int v.wi, .ref ba, .int b, .int n, .int s]
def sp_Lall (CI CP : Addr) : Sp := fun vs H Q _ => ∃ (im : Addr) (A : IA) (v : IV) (b n s : Int) (l : List (Int × Int)), vs = [.ref im] ∧ ImgAt CI CP H im A v b n s ∧ Srt l v.hd ∧ l.length < 1000 ∧
  ∀ (H' : Hp) (r c h t d : Addr), Same H H' → H r = none → H' r = some (.lst (allL c h t d A.ba v b n s)) → Dat H' v l c h t d → Q (.ref r) H'
theorem ok_Lall (T : Tx K mg) : FnOk P w K mg base CX0 2 T.f_Lall T.fd_Lall ["_law_image"] (sp_Lall T.C_Image T.C_Plan) := by
  refine T.F_Lall.ok sc_Lall (fun vs H Q E h => ?_) (fun cdv A0 outer s H vs Q E hr h => ?_)
  · obtain ⟨_, _, _, _, _, _, _, rfl, _⟩ := h; rfl
  · obtain ⟨im, A, v, b, n, sl, l, rfl, I, hS, hl, k⟩ := h
    refine ⟨_, (pss_one (ps_ret (pe_op op_cat (pe_call (ok_Lstate T) hr rfl T.mg_Lstate T.F_Lstate.kp (b_Lstate T) .nil pass0 (pa_cons (pv 0) pa_nil)) (pe_lst (pa_cons (pe_fld (pv 0) rfl) (pa_cons (pe_fld (pv 0) rfl) (pa_cons (pe_fld (pe_fld (pv 0) rfl) rfl) (pa_cons (pe_fld (pe_fld (pv 0) rfl) rfl) (pa_cons (pe_fld (pe_fld (pv 0) rfl) rfl) pa_nil))))))))), ?_⟩
    refine ⟨_, rfl, im, A, v, b, n, sl, l, rfl, I, hS, hl, fun H1 r c h t d S1 nr er hD => ?_⟩
    have I1 := I.keep S1
    obtain ⟨dxp, hpl⟩ := I1.pl.ob
    refine ⟨_, rfl, im, _, _, _, _, rfl, I1.ob, T.cl_Image, T.na_Image_wish, rfl, _, rfl, im, _, _, _, _, rfl, I1.ob, T.cl_Image, T.na_Image_barred, rfl, _, rfl, im, _, _, _, _, rfl, I1.ob, T.cl_Image, T.na_Image_plan, rfl, A.pl, _, dxp, _, _, rfl, hpl, T.cl_Plan, T.na_Plan_blocks, rfl, ?_⟩
    refine ⟨_, rfl, im, _, _, _, _, rfl, I1.ob, T.cl_Image, T.na_Image_plan, rfl, A.pl, _, dxp, _, _, rfl, hpl, T.cl_Plan, T.na_Plan_nodes, rfl, _, rfl, im, _, _, _, _, rfl, I1.ob, T.cl_Image, T.na_Image_plan, rfl, A.pl, _, dxp, _, _, rfl, hpl, T.cl_Plan, T.na_Plan_slots, rfl, (by show 5 ≤ sizeLine; decide), ?_⟩
    (intro x n_x; generalize he_x : upd _ x _ = H2; obtain ⟨e_x, s_x, f_x⟩ := new_f he_x n_x; clear he_x)
    refine ⟨r, x, _, _, rfl, rfl, s_x _ _ er, e_x, (by show 10 ≤ sizeLine; decide), ?_⟩
    (intro y n_y; generalize he_y : upd _ y _ = H3; obtain ⟨e_y, s_y, f_y⟩ := new_f he_y n_y; clear he_y)
    refine k H3 y c h t d ((S1.trans s_x).trans s_y) ((S1.trans s_x).free n_y) ?_ (hD.same (s_x.trans s_y))
    rw [e_y]
    rfl
/-! ### _law_copy -/
def sp_Lcopy : Sp := fun vs H Q _ => ∃ (B : MA) (v : IV) (b n s : Int), vs = [.ref B.ml] ∧ MdAt H B v b n s ∧ b ≤ 64 ∧ v.hd.length < 1000 ∧
  ∀ (H' : Hp) (B' : MA), Same H H' → (∀ x ∈ B'.own, H x = none) → MdAt H' B' v b n s → Q (.ref B'.ml) H'
theorem ok_Lcopy (T : Tx K mg) : FnOk P w K mg base CX0 1 T.f_Lcopy T.fd_Lcopy ["_law_model"] sp_Lcopy := by
  refine T.F_Lcopy.ok sc_Lcopy (fun vs H Q E h => ?_) (fun cdv A0 outer s H vs Q E hr h => ?_)
  · obtain ⟨_, _, _, _, _, rfl, _⟩ := h; rfl
  · obtain ⟨B, v, b, n, sl, rfl, D, b64, hh, k⟩ := h
    refine ⟨_, (pss_cons (ps_asg (pe_slice sl_list (pv 0) po_none (po_some pe_int)) (pg_lst rfl (pgs_cons (pg_name (i := 1) sc_Lcopy.nd rfl (.inl rfl)) (pgs_cons (pg_name (i := 2) sc_Lcopy.nd rfl (.inl rfl)) (pgs_cons (pg_name (i := 3) sc_Lcopy.nd rfl (.inl rfl)) (pgs_cons (pg_name (i := 4) sc_Lcopy.nd rfl (.inl rfl)) pgs_nil))))))
      (pss_one (ps_ret (pe_op op_cat (pe_lst (pa_cons (pe_lc rfl (own := [("_law_row", 5)]) (g := gName 5) (tt := tYes) sc_Lcopy.nd (pi_list (pv 1)) (blkOk_by (N := ["_law_model", "_law_cells", "_law_holdings", "_law_stamps", "_law_handles", "_law_row"]) (sc := defScope s_Lcopy) (by decide +kernel)) (fun _ _ _ _ _ => pg_name (i := 5) sc_Lcopy.nd rfl (Or.inl rfl)) (fun _ _ _ _ _ => pts_nil) (fun _ _ _ _ _ => (pe_listof (K := K) (pv 5) T.b_list))) (pa_cons (pe_listof (K := K) (pv 2) T.b_list) (pa_cons (pe_listof (K := K) (pv 3) T.b_list) (pa_cons (pe_listof (K := K) (pv 4) T.b_list) pa_nil))))) (pe_slice sl_list (pv 0) (po_some pe_int) po_none))))), ?_⟩
    have d0 := D.d0
    refine ⟨_, rfl, _, rfl, B.ml, _, rfl, .of D.ob, ?_⟩
    (intro q n_q; generalize he_q : upd _ q _ = H1; obtain ⟨e_q, s_q, f_q⟩ := new_f he_q n_q; clear he_q)
    refine ⟨q, _, rfl, .inl (.of e_q), rfl, _, _, rfl, _, _, rfl, _, _, rfl, _, _, rfl, rfl, ?_⟩
    ((try dsimp only); (first | (refine Rg.sg (σ' := [some (.ref B.ml), some (.ref B.ca), some (.ref B.ho), some (.ref B.st), some (.ref B.hl), none]) ?_ ?_; focus exact rfl) | (refine Rg.sgG (σ' := [some (.ref B.ml), some (.ref B.ca), some (.ref B.ho), some (.ref B.st), some (.ref B.hl), none]) ?_ ?_; focus exact rfl)))
    have D1 := D.same s_q
    refine ⟨_, rfl, B.ca, rfl, ⟨_, .of D1.gr.out⟩, fun D2 hD2 => ?_⟩
    refine lc_list (K := K) (a := B.ca) (xs := (B.rs).map V.ref) (fun i H' => ∃ qs, NewGrid H1 H' D2 qs (List.take i (v.M))) ⟨[], NewGrid.start (Same.refl _) hD2 hD2⟩ (fun i H' _ ⟨qs, G⟩ => .of (G.same _ _ (D1.gr).out)) ?_ ?_
    · rintro i y H' hi ⟨qs, G⟩
      have hil : i < (B.rs).length := by
        have := (List.getElem?_eq_some_iff.mp hi).1
        rw [List.length_map] at this
        exact this
      rw [List.getElem?_map, List.getElem?_eq_getElem hil] at hi
      have hi : V.ref (B.rs)[i] = y := Option.some.inj hi
      subst hi
      have hiR : i < (v.M).length := by rw [← (D1.gr).len]; exact hil
      have hrow := G.same _ _ ((D1.gr).row i (B.rs)[i] (v.M)[i] (List.getElem?_eq_getElem hil) (List.getElem?_eq_getElem hiR))
      refine ⟨rfl, ?_⟩
      refine yes_ ?_
      refine ⟨_, rfl, (B.rs)[i], _, rfl, .inl (.of hrow), fun q hq => ?_⟩
      refine ⟨_, by rw [upd_ne (ne_of_none G.grid.out hq)]; exact G.grid.out, ?_, qs ++ [q], ?_⟩
      · rw [List.length_map, G.grid.len, List.length_take]
        exact small1000 (by omega)
      · rw [List.take_succ, List.getElem?_eq_getElem hiR]
        exact G.snoc (same_upd hq) hq upd_same
    rintro H2 ⟨qs, G_qs⟩
    rw [List.length_map, (D1.gr).len, List.take_length] at G_qs
    have D2_ := D1.same G_qs.same
    refine ⟨_, rfl, B.ho, _, rfl, .inl (.of D2_.ho), ?_⟩
    (intro ho n_ho; generalize he_ho : upd _ ho _ = H3; obtain ⟨e_ho, s_ho, f_ho⟩ := new_f he_ho n_ho; clear he_ho)
    refine ⟨_, rfl, B.st, _, rfl, .inl (.of (s_ho _ _ D2_.st)), ?_⟩
    (intro st n_st; generalize he_st : upd _ st _ = H4; obtain ⟨e_st, s_st, f_st⟩ := new_f he_st n_st; clear he_st)
    refine ⟨_, rfl, B.hl, _, rfl, .inl (.of (s_st _ _ (s_ho _ _ D2_.hl))), ?_⟩
    (intro hl n_hl; generalize he_hl : upd _ hl _ = H5; obtain ⟨e_hl, s_hl, f_hl⟩ := new_f he_hl n_hl; clear he_hl)
    refine ⟨(by show 4 ≤ sizeLine; decide), ?_⟩
    (intro z n_z; generalize he_z : upd _ z _ = H6; obtain ⟨e_z, s_z, f_z⟩ := new_f he_z n_z; clear he_z)
    have S26 : Same H2 H6 := ((s_ho.trans s_st).trans s_hl).trans s_z
    refine ⟨_, rfl, _, rfl, B.ml, _, rfl, .of (S26 _ _ D2_.ob), ?_⟩
    (intro y n_y; generalize he_y : upd _ y _ = H7; obtain ⟨e_y, s_y, f_y⟩ := new_f he_y n_y; clear he_y)
    refine ⟨z, y, _, _, rfl, rfl, s_y _ _ e_z, e_y, (by show 10 ≤ sizeLine; decide), ?_⟩
    (intro m n_m; generalize he_m : upd _ m _ = H8; obtain ⟨e_m, s_m, f_m⟩ := new_f he_m n_m; clear he_m)
    have S28 : Same H2 H8 := (S26.trans s_y).trans s_m
    have S08 : Same H H8 := (s_q.trans G_qs.same).trans S28
    have D8 := D.same S08
    have h1 : ∀ x, H1 x = none → H x = none := fun x e => (s_q).free e
    have h2 : ∀ x, H2 x = none → H x = none := fun x e => (s_q.trans G_qs.same).free e
    have S23 := s_ho
    have hq2 : H2 D2 ≠ none := by rw [G_qs.grid.out]; exact fun z => by cases z
    have hqs2 : ∀ x ∈ qs, H2 x ≠ none := fun x hx z => by
      obtain ⟨o, eo⟩ := G_qs.grid.held hx
      rw [z] at eo; cases eo
    have nho : H2 ho = none := n_ho
    have nst : H2 st = none := s_ho.free n_st
    have nhl : H2 hl = none := (s_ho.trans s_st).free n_hl
    have nm : H2 m = none := (S26.trans s_y).free n_m
    have f1 : ∀ x, H2 x = none → x ≠ D2 ∧ x ∉ qs := fun x e => ⟨fun z => hq2 (z ▸ e), fun z => hqs2 x z e⟩
    have q1 : st ≠ ho := fun z => by rw [z, e_ho] at n_st; cases n_st
    have q2 : hl ≠ ho := fun z => by rw [z, s_st _ _ e_ho] at n_hl; cases n_hl
    have q3 : hl ≠ st := fun z => by rw [z, e_st] at n_hl; cases n_hl
    have q4 : m ≠ ho := fun z => by rw [z, s_y _ _ (s_z _ _ (s_hl _ _ (s_st _ _ e_ho)))] at n_m; cases n_m
    have q5 : m ≠ st := fun z => by rw [z, s_y _ _ (s_z _ _ (s_hl _ _ e_st))] at n_m; cases n_m
    have q6 : m ≠ hl := fun z => by rw [z, s_y _ _ (s_z _ _ e_hl)] at n_m; cases n_m
    refine k H8 ⟨m, D2, qs, ho, st, hl, B.ba, B.G⟩ S08 (fun x hx => ?_) { ob := ?_, gr := G_qs.grid.same S28, ho := ?_, st := ?_, hl := ?_, ga := D8.ga, ge := D8.ge, ba := D8.ba, nd := ?_, d0 := D.d0, d1 := D.d1, d2 := D.d2, d3 := D.d3 }
    · simp only [MA.own, List.mem_cons] at hx
      rcases hx with rfl | rfl | rfl | rfl | rfl | hx
      · exact h2 _ nm
      · exact h1 _ G_qs.freshD
      · exact h2 _ nho
      · exact h2 _ nst
      · exact h2 _ nhl
      · exact h1 _ (G_qs.fresh x hx)
    · rw [e_m]
      rfl
    · exact s_m _ _ (s_y _ _ (s_z _ _ (s_hl _ _ (s_st _ _ e_ho))))
    · exact s_m _ _ (s_y _ _ (s_z _ _ (s_hl _ _ e_st)))
    · exact s_m _ _ (s_y _ _ (s_z _ _ e_hl))
    · show (m :: D2 :: ho :: st :: hl :: qs).Nodup
      simp only [List.nodup_cons, List.mem_cons, not_or]
      exact ⟨⟨(f1 m nm).1, q4, q5, q6, (f1 m nm).2⟩, ⟨(f1 ho nho).1.symm, (f1 st nst).1.symm, (f1 hl nhl).1.symm, G_qs.grid.nin⟩, ⟨q1.symm, q2.symm, (f1 ho nho).2⟩, ⟨q3.symm, (f1 st nst).2⟩, (f1 hl nhl).2, G_qs.grid.nd⟩
end
end K78
namespace K78
open PySem PySem.Spec PyProof.Rows L2 Rg
/-- an image and a list that agree, but for the handles -/
structure Tw (CI CP : Addr) (H : Hp) (im : Addr) (A : IA) (v : IV) (B : MA) (l : List (Int × Int)) (b n s : Int) : Prop where
  I : ImgAt CI CP H im A v b n s
  D : MdAt H B { v with hd := l } b n s
  ap : ∀ x ∈ B.own, x ∉ A.reads im
section
variable {P : Program} {w : World} {K : PySem.W.Frag} {mg : Str → Option Value} {base : Heap}
theorem Tw.same {CI CP : Addr} {H H' : Hp} {im : Addr} {A : IA} {v : IV} {B : MA} {l : List (Int × Int)} {b n s : Int} (W : Tw CI CP H im A v B l b n s) (h : Same H H') : Tw CI CP H' im A v B l b n s := ⟨W.I.keep h, W.D.same h, W.ap⟩
theorem md0 {H : Hp} {B : MA} {v : IV} {b n s : Int} (D : MdAt H B v b n s) : SqL K H B.ml (mdL B v b n s) := .of D.ob
/-! ### _law_told_good -/
def sp_Ltold_good (CI CP : Addr) : Sp := fun vs H Q _ => ∃ (im : Addr) (A : IA) (v : IV) (B : MA) (l : List (Int × Int)) (b n s : Int), vs = [.ref im, .ref B.ml, .int (fdOf b n)] ∧ Tw CI CP H im A v B l b n s ∧ ∀ H', Same H H' → Q (.bl true) H'
theorem ok_Ltold_good (T : Tx K mg) : FnOk P w K mg base CX0 4 T.f_Ltold_good T.fd_Ltold_good ["_law_image", "_law_model", "_law_first"] (sp_Ltold_good T.C_Image T.C_Plan) := by
  refine T.F_Ltold_good.ok sc_Ltold_good (fun vs H Q E h => ?_) (fun cdv A0 outer s H vs Q E hr h => ?_)
  · obtain ⟨_, _, _, _, _, _, _, _, rfl, _⟩ := h; rfl
  · obtain ⟨im, A, v, B, l, b, n, sl, rfl, W, k⟩ := h
    have hr1 : Room 1 _ := hr.mono (by decide)
    have hr2 : Room 2 _ := hr.mono (by decide)
    have hr3 : Room 3 _ := hr.mono (by decide)
    refine ⟨_, (pss_cons (ps_set (i := 3) sc_Ltold_good.nd rfl (.inl rfl) (pe_callB call_len_seq rfl T.b_len (by decide +kernel) (pa_cons (pe_ix ix_list (pv 1) pe_int (fun _ _ => rfl)) pa_nil)))
      (pss_cons (ps_if (pt_not (pt_val (pe_call (ok_Llists T) hr1 rfl T.mg_Llists T.F_Llists.kp (b_Llists T) .nil pass0 (pa_cons (pv 0) pa_nil))))
        (pss_one (ps_ret pe_bl))
        pss_nil)
      (pss_cons (ps_for PassesOwn.never rfl (pi_range1 rfl T.b_range (pa_cons (pv 3) pa_nil)) (pg_name (i := 4) sc_Ltold_good.nd rfl (.inl rfl))
        (pss_cons (ps_if (pt_not (pt_val (pe_call (ok_Lsame T 0) hr2 rfl T.mg_Lsame T.F_Lsame.kp (b_Lsame T) .nil pass0 (pa_cons (pe_meth (pv 0) T.cl_Image T.m_Image_kind (ok_Image_kind T) hr2 (b_Image_kind T) .nil pass0 (pa_cons (pv 4) pa_nil)) (pa_cons (pe_call (ok_Lkind T) hr1 rfl T.mg_Lkind T.F_Lkind.kp (b_Lkind T) .nil pass0 (pa_cons (pe_ix ix_list (pv 1) pe_int (fun _ _ => rfl)) (pa_cons (pv 2) (pa_cons (pv 4) pa_nil)))) pa_nil)))))
          (pss_one (ps_ret pe_bl))
          pss_nil)
        (pss_one (ps_if (pt_not (pt_val (pe_call (ok_Lsame T 1) hr3 rfl T.mg_Lsame T.F_Lsame.kp (b_Lsame T) .nil pass0 (pa_cons (pe_meth (pv 0) T.cl_Image T.m_Image_identity (ok_identity T) hr1 (b_Image_identity T) .nil pass0 (pa_cons (pv 4) pa_nil)) (pa_cons (pe_tup (pa_cons (pe_ix ix_list (pe_ix ix_list (pv 1) pe_int (fun _ _ => rfl)) (pv 4) (fun _ _ => rfl)) (pa_cons (pe_ix ix_list (pe_ix ix_list (pv 1) pe_int (fun _ _ => rfl)) (pv 4) (fun _ _ => rfl)) pa_nil))) pa_nil)))))
          (pss_one (ps_ret pe_bl))
          pss_nil))))
      (pss_cons (ps_setLc (i := 5) (own := [("_law_x", 4)]) (g := gName 4) (tt := _) rfl sc_Ltold_good.nd rfl rfl (sw_true rfl rfl rfl (by decide +kernel)) (pi_range2 rfl T.b_range (pa_cons (pv 2) (pa_cons (pv 3) pa_nil))) (blkOk_by (N := ["_law_image", "_law_model", "_law_first", "_law_blocks", "_law_x", "_law_free", "_law_told"]) (sc := defScope s_Ltold_good) (by decide +kernel)) (fun _ _ _ _ _ => pg_name (i := 4) sc_Ltold_good.nd rfl (Or.inl rfl)) (fun _ _ _ _ _ => pts_one (pt_cmpR op_eq (pe_call (ok_Lkind T) hr1 rfl T.mg_Lkind T.F_Lkind.kp (b_Lkind T) .nil pass0 (pa_cons (pe_ixK (K := K) (pv 1) pe_int (fun _ _ => rfl)) (pa_cons (pv 2) (pa_cons (pv 4) pa_nil)))) pe_int (nomark _))) (fun _ _ _ _ _ => (pv 4)))
      (pss_cons (ps_set (i := 6) sc_Ltold_good.nd rfl (.inl rfl) (pe_meth0 (pv 0) T.cl_Image T.m_Image_free_blocks (ok_free_blocks T) hr3 (b_Image_free_blocks T) .nil pass0))
      (pss_cons (ps_if (pt_not (pt_val (pe_call (ok_Lsame T 1) hr3 rfl T.mg_Lsame T.F_Lsame.kp (b_Lsame T) .nil pass0 (pa_cons (pv 6) (pa_cons (pv 5) pa_nil)))))
        (pss_one (ps_ret pe_bl))
        pss_nil)
      (pss_cons (ps_expr (pe_bm PySem.F.plainAttrs_list PySem.F.slot_list_append PySem.F.type_list_append mt_append (pv 6) (pa_cons pe_int pa_nil)))
      (pss_one (ps_ret (pe_call (ok_Lsame T 1) hr3 rfl T.mg_Lsame T.F_Lsame.kp (b_Lsame T) .nil pass0 (pa_cons (pe_meth0 (pv 0) T.cl_Image T.m_Image_free_blocks (ok_free_blocks T) hr3 (b_Image_free_blocks T) .nil pass0) (pa_cons (pv 5) pa_nil)))))))))))), ?_⟩
    obtain ⟨I, D, ap⟩ := W
    have b1 := I.pl.b1
    have b2 := I.pl.b2
    have n1 := I.pl.n1
    have dd := I.pl.d
    have d0 := D.d0
    have d0 : (v.M.length : Int) = b := d0
    have eb : ∀ {α : Type} (f : α → V) (l : List α), ((l.map f).length : Int) = (l.length : Int) := fun f l => by rw [List.length_map]
    refine ⟨_, rfl, B.ml, _, 0, .ref B.ca, rfl, rfl, md0 D, rfl, B.ca, _, rfl, .inl (.of D.gr.out), ?_⟩
    rw [eb, D.gr.len, d0]
    ((try dsimp only); (first | (refine Rg.sg (σ' := [some (.ref im), some (.ref B.ml), some (.int (fdOf b n)), some (.int b), none, none, none]) ?_ ?_; focus exact rfl) | (refine Rg.sgG (σ' := [some (.ref im), some (.ref B.ml), some (.int (fdOf b n)), some (.int b), none, none, none]) ?_ ?_; focus exact rfl)))
    refine ⟨_, rfl, im, A, v, b, n, sl, rfl, I, fun H1 s1 => ⟨_, rfl, iteF ?_⟩⟩
    refine ⟨_, rfl, _, rfl, by omega, by omega, for_range (lo := 0) (n := b.toNat) (fun i σ H' => ∃ u4 : Option V, σ = [some (.ref im), some (.ref B.ml), some (.int (fdOf b n)), some (.int b), u4, none, none] ∧ Same H H') ⟨none, rfl, s1⟩ ?_ ?_⟩
    · rintro i σ H2 hi ⟨u4, rfl, s2⟩
      ((try dsimp only); (first | (refine Rg.sg (σ' := [some (.ref im), some (.ref B.ml), some (.int (fdOf b n)), some (.int b), some (.int (0 + (i : Int))), none, none]) ?_ ?_; focus exact rfl) | (refine Rg.sgG (σ' := [some (.ref im), some (.ref B.ml), some (.int (fdOf b n)), some (.int b), some (.int (0 + (i : Int))), none, none]) ?_ ?_; focus exact rfl)))
      have ei : (0 : Int) + (i : Int) = (i : Int) := by omega
      rw [ei]
      have hi1 : i < v.ho.length := by have := I.d2; omega
      have hi2 : i < v.st.length := by have := I.d3; omega
      refine ⟨_, rfl, im, _, _, rfl, (I.keep s2).ob, rfl, _, rfl, im, A, v, b, n, sl, _, rfl, I.keep s2, by omega, by omega, fun H3 s3 => ?_⟩
      have D3 := D.same (s2.trans s3)
      refine ⟨_, rfl, B.ml, _, 0, .ref B.ca, rfl, rfl, md0 D3, rfl, _, rfl, _, rfl, B.ca, B.rs, v.M, b, n, _, rfl, D3.gr, d0, D3.d1, by omega, by omega, by omega, _, _, rfl, Sm.int, fun H4 s4 => ⟨_, rfl, iteF ?_⟩⟩
      have I4 := I.keep ((s2.trans s3).trans s4)
      refine ⟨_, rfl, im, _, _, rfl, I4.ob, rfl, _, rfl, im, A, v, b, n, sl, i, _, _, rfl, I4, List.getElem?_eq_getElem hi1, List.getElem?_eq_getElem hi2, ?_⟩
      (intro t n_t; generalize he_t : upd _ t _ = H5; obtain ⟨e_t, s_t, f_t⟩ := new_f he_t n_t; clear he_t)
      have D5 := (D3.same s4).same s_t
      refine ⟨_, rfl, B.ml, _, 1, .ref B.ho, rfl, rfl, md0 D5, rfl, _, rfl, B.ho, _, _, _, rfl, rfl, .of D5.ho, atI_nat (by rw [List.getElem?_map, List.getElem?_eq_getElem hi1]; rfl), ?_⟩
      refine ⟨_, rfl, B.ml, _, 2, .ref B.st, rfl, rfl, md0 D5, rfl, _, rfl, B.st, _, _, _, rfl, rfl, .of D5.st, atI_nat (by rw [List.getElem?_map, List.getElem?_eq_getElem hi2]; rfl), (by show 2 ≤ sizeLine; decide), ?_⟩
      (intro u n_u; generalize he_u : upd _ u _ = H6; obtain ⟨e_u, s_u, f_u⟩ := new_f he_u n_u; clear he_u)
      refine ⟨_, _, rfl, Sm.tups (xs := [v.ho[i], v.st[i]]) (.of (s_u _ _ e_t)) (.of e_u) (by show 2 < 1000; decide), fun H7 s7 => ⟨_, rfl, iteF ⟨_, rfl, ?_⟩⟩⟩
      exact ((((s2.trans s3).trans s4).trans s_t).trans s_u).trans s7
    rintro σ H2 ⟨u4, rfl, s2⟩
    refine ⟨_, rfl, _, rfl, _, _, rfl, ⟨by unfold fdOf; omega, by unfold fdOf; omega, by omega, by omega⟩, fun D2 hD2 => ?_⟩
    have hl : (rng (fdOf b n) (b - fdOf b n).toNat).length < 1000 := by rw [rng_len]; unfold fdOf; omega
    refine lc_range (lo := fdOf b n) (n := (b - fdOf b n).toNat) (PvF H2 D2 (rng (fdOf b n) (b - fdOf b n).toNat) fun x => decide (kindOf b n v.M x = 0)) (PvF.start hD2) ?_ ?_
    · rintro j H' hj Pv
      have f1 : (0 : Int) ≤ fdOf b n := by unfold fdOf; omega
      have D3 := D.same (s2.trans Pv.1)
      refine ⟨rfl, _, rfl, B.ml, _, 0, .ref B.ca, rfl, rfl, md0 D3, rfl, _, rfl, _, rfl, B.ca, B.rs, v.M, b, n, _, rfl, D3.gr, d0, D3.d1, by omega, by omega, by omega, rfl, _, rfl, wI (fun e1 => ?_) fun e1 => ?_⟩
      · exact ⟨_, rfl, Pv.yes hD2 (Same.refl _) (rng_get hj) hl (by rw [decide_eq_true e1])⟩
      · exact Pv.no (Same.refl _) (rng_get hj) (by rw [decide_eq_false e1])
    intro H3 Pv
    obtain ⟨s3, e3⟩ := Pv.all (by rw [rng_len])
    have e3 : H3 D2 = some (.lst ((freeL b n v.M).map V.int)) := e3
    ((try dsimp only); (first | (refine Rg.sg (σ' := [some (.ref im), some (.ref B.ml), some (.int (fdOf b n)), some (.int b), u4, some (.ref D2), none]) ?_ ?_; focus exact rfl) | (refine Rg.sgG (σ' := [some (.ref im), some (.ref B.ml), some (.int (fdOf b n)), some (.int b), u4, some (.ref D2), none]) ?_ ?_; focus exact rfl)))
    have S3 := s2.trans s3
    have hf : (freeL b n v.M).length < 1000 := by have := freeL_len (b := b) (n := n) (M := v.M); unfold fdOf at this; omega
    refine ⟨_, rfl, im, _, _, rfl, (I.keep S3).ob, rfl, im, A, v, b, n, sl, rfl, I.keep S3, fun H4 t s4 nt et => ?_⟩
    ((try dsimp only); (first | (refine Rg.sg (σ' := [some (.ref im), some (.ref B.ml), some (.int (fdOf b n)), some (.int b), u4, some (.ref D2), some (.ref t)]) ?_ ?_; focus exact rfl) | (refine Rg.sgG (σ' := [some (.ref im), some (.ref B.ml), some (.int (fdOf b n)), some (.int b), u4, some (.ref D2), some (.ref t)]) ?_ ?_; focus exact rfl)))
    refine ⟨_, rfl, _, rfl, _, _, rfl, Sm.ints et (s4 _ _ e3) hf, fun H5 s5 => ⟨_, rfl, iteF ?_⟩⟩
    refine ⟨_, rfl, .inl ⟨rfl, _, .inl (.inl (s5 _ _ et))⟩, t, _, _, rfl, rfl, s5 _ _ et, lt_line (by rw [List.length_map]; omega), ?_⟩
    (generalize he_y : upd _ t _ = H6; obtain ⟨e_y, k_y, f_y⟩ := own_f he_y; clear he_y)
    have S36 : Same H3 H6 := fun x o e => k_y.at1 (s5 _ _ (s4 _ _ e)) (ne_of_none e nt)
    have S6 := S3.trans S36
    refine ⟨_, rfl, im, _, _, rfl, (I.keep S6).ob, rfl, im, A, v, b, n, sl, rfl, I.keep S6, fun H7 t2 s7 nt2 et2 => ?_⟩
    exact ⟨_, rfl, _, _, rfl, Sm.ints et2 (s7 _ _ (S36 _ _ e3)) hf, fun H8 s8 => k H8 ((S6.trans s7).trans s8)⟩
end
end K78
namespace K78
open PySem PySem.Spec PyProof.Rows L2 Rg
section
variable {X : Cx} {CX : CXT} {k : Nat} {f C : Addr} {fd : FuncData} {ps : List Str} {sp : Sp} {E : L2.St → XK} {m : Str} {p pos apos : Pos} {e o : Expr} {es : List Expr} {ta : TE} {t : TA}
/-- o.m(e, ..), what the body raises told slot by slot -/
def tMethS (C : Addr) (m : Str) (sp : Sp) (E : L2.St → XK) (ta : TE) (t : TA) : TE := fun σ H Q => ta σ H fun x H1 => ∃ a dx fs, x = .ref a ∧ H1 a = some (.ins C dx fs) ∧ fs.lookup m = none ∧ t σ H1 fun vs H2 => sp (.ref a :: vs) H2 Q (E σ)
theorem pe_methT {pl : Sem Bool} (he : PE X o ta) (c : Cls X.K C) (hm : Meth X.K C m f) (F : FnOk X.prog X.w X.K X.mg X.base CX k f fd ps sp) (hr : Room k X.A) (hb : Binds X.K fd ps []) (hx : ∀ σ, PassesAt CX X σ (E σ)) (ha : PA X (e :: es) t)
    (hst : starEach (e :: es) X.env = (false, eval e X.env) :: starEach es X.env := by rfl) (hpl : (backTo pos (starEach es X.env)).any (·.1) = false := by rfl)
    (ht : eval (.Call (.Attribute o m apos) (e :: es) [] pos) X.env = (do
      let ov ← eval o X.env
      standAt apos.atName
      let (f, first) ← holding [ov] (getMethod ov m pl)
      callWith pos f first (backTo pos (starEach (e :: es) X.env)) (backToKw pos (keywordEach [] X.env))) := by rfl) :
    PE X (.Call (.Attribute o m apos) (e :: es) [] pos) (tMethS C m sp E ta t) := by
  refine ⟨fun pins s σ H Q I h => ?_⟩
  refine PySem.W.methodCall_KW (pl := pl) (thn (he.run pins s σ H _ I h) fun u s1 ⟨x, H1, I1, rx, a, dx, fs, ex, ea, l, q⟩ => ?_) ht
  subst ex
  obtain rfl : u = Value.ref a := rx
  refine getmeth_ok I1 ea c hm l ?_
  refine PySem.W.callWith_K (first := [.ref a]) (h₀ := X.base) I.ok.mod.kin hm.kp (thn (ha.run pos pins s1 σ H1 _ I1 q) fun us s2 ⟨vs, H2, I2, r, q2⟩ => ⟨I2.kIn, ?_⟩) hst hpl
  exact run_fnS (us := .ref a :: us) (vs := .ref a :: vs) F hr hb (hx σ) I2 (.cons rfl r) q2
end
theorem exm_subB {K : PySem.W.Frag} {D S : Addr} {b : Bool} (h1 : PySem.W.subIn K (.ref S) (.type "BaseException") = some true) (h2 : PySem.W.isClsIn K S = true) (h3 : PySem.W.typeIn K (.ref S) = some (.type "type")) (h4 : PySem.W.subIn K (.ref D) (.ref S) = some b) :
    PySem.W.exmOne K (.ref D) (.ref S) = some b := by
  have e1 : (PySem.W.subIn K (.ref S) (.type "BaseException") == some true) = true := by rw [h1] <;> rfl
  have e2 : ((PySem.W.clsIn K S).isSome && PySem.W.typeIn K (.ref S) == some (.type "type")) = true := by
    have h2' : (PySem.W.clsIn K S).isSome = true := h2
    rw [h2', h3] <;> rfl
  show (if (PySem.W.subIn K (.ref S) (.type "BaseException") == some true) = true then (if ((PySem.W.clsIn K S).isSome && PySem.W.typeIn K (.ref S) == some (.type "type")) = true then PySem.W.subIn K (.ref D) (.ref S) else none) else none) = some b
  rw [if_pos e1, if_pos e2]
  exact h4
theorem setC_set {M : List (List Int)} {x i j : Nat} {z : List Int} {k : Int} (h : x ≠ i) : setC (M.set x z) i j k = (setC M i j k).set x z := by
  unfold setC
  rw [List.getElem?_set_ne h, List.set_comm _ _ h]
section
variable {P : Program} {w : World} {K : PySem.W.Frag} {mg : Str → Option Value} {base : Heap}
/-! ### _law_take -/
def sp_Ltake (CI CP : Addr) : Sp := fun vs H Q _ => ∃ (im : Addr) (A : IA) (v : IV) (b n s kind : Int) (o : Nat), vs = [.ref im, .int kind, .int o] ∧ ImgAt CI CP H im A v b n s ∧ o < 4 ∧ (cellAt v.M 0 o).natAbs.log2 < 1920 ∧
  (quota v o → ∀ H', Same H H' → Q (.int (-1)) H') ∧
  (¬ quota v o → letL b n v.M kind v.ba = [] → ∀ H', Same H H' → Q (.int 0) H') ∧
  (¬ quota v o → ∀ x : Nat, pickL (letL b n v.M kind v.ba) v.wi = some (x : Int) → ∀ H' q, H q = none → ImgAt CI CP H' im { A with rs := A.rs.set x q } (takeV v x kind o) b n s → Kp (A.ca :: A.ho :: A.st :: A.rs) H H' → Q (.int x) H')
theorem ok_Ltake (T : Tx K mg) : FnOk P w K mg base CX0 5 T.f_Ltake T.fd_Ltake ["_law_image", "_law_kind_here", "_law_owner"] (sp_Ltake T.C_Image T.C_Plan) := by
  refine T.F_Ltake.ok sc_Ltake (fun vs H Q E h => ?_) (fun cdv A0 outer s H vs Q E hr h => ?_)
  · obtain ⟨_, _, _, _, _, _, _, _, rfl, _⟩ := h; rfl
  · obtain ⟨im, A, v, b, n, sl, kind, o, rfl, I, ho, hlg, k1, k2, k3⟩ := h
    refine ⟨_, (pss_one (L2N.ps_try_many rfl rfl takes0N
        (fun W pn xe tk _ => pss_one (ps_ret (by exact (pe_methT (pv 0) T.cl_Image T.m_Image_take (ok_take T) hr (b_Image_take T) (fun σ => L2N.passAt tk σ) (by exact (pa_cons (pv 1) (pa_cons (pv 2) pa_nil)))))))
        (.cons (c := .ref T.C_OverQuota) ⟨rfl, by decide, .inl T.mg_OverQuota⟩ (fun a oe cls d pn _ _ => pss_one (ps_ret (pe_un un_neg pe_int)))
          (.cons (c := .ref T.C_BlocksFull) ⟨rfl, by decide, .inl T.mg_BlocksFull⟩ (fun a oe cls d pn _ _ => pss_one (ps_ret pe_int)) .nil)))), ?_⟩
    refine ⟨_, rfl, im, _, _, rfl, I.ob, rfl, _, rfl, _, rfl, im, A, v, b, n, sl, kind, o, rfl, I, ho, hlg, fun hq H' S => ?_, fun hq hn H' S => ?_, fun hq x hp H' q hq0 I' kp => ?_⟩
    · exact ⟨true, exm_subB T.be_OverQuota T.ie_OverQuota T.te_OverQuota T.sub_OverQuota_OverQuota, fun _ a ha => ⟨_, rfl, k1 hq H' S⟩, fun q => nomatch q⟩
    · exact ⟨false, exm_subB T.be_OverQuota T.ie_OverQuota T.te_OverQuota T.sub_BlocksFull_OverQuota, (fun q => nomatch q), fun _ => ⟨true, exm_subB T.be_BlocksFull T.ie_BlocksFull T.te_BlocksFull T.sub_BlocksFull_BlocksFull, fun _ a ha => k2 hq hn H' S, fun q => nomatch q⟩⟩
    · exact k3 hq x hp H' q hq0 I' kp
theorem setC_ne {M : List (List Int)} {i j k : Nat} {c : Int} (h : i ≠ k) : (setC M i j c)[k]? = M[k]? := by
  unfold setC
  exact List.getElem?_set_ne h
theorem kpIn {S : List Addr} {H H1 H2 : Hp} {a : Addr} (k : Kp S H H1) (k2 : Kp [a] H1 H2) (h : a ∈ S) : Kp S H H2 := k.trans (k2.mono fun x hx => by rw [List.mem_singleton.mp hx]; exact h)
/-! ### _law_due_take -/
def sp_Ldue_take : Sp := fun vs H Q _ => ∃ (B : MA) (v : IV) (b n s kind : Int) (o : Nat), vs = [.ref B.ml, .int (fdOf b n), .int kind, .int o] ∧ MdAt H B v b n s ∧ 0 ≤ n ∧ fdOf b n ≤ b ∧ b ≤ 64 ∧ 8 ≤ b ∧ o < 4 ∧ (kind = 1 ∨ kind = 2) ∧
  (quota v o → ∀ H', Same H H' → Q (.int (-1)) H') ∧
  (¬ quota v o → letL b n v.M kind v.ba = [] → ∀ H', Same H H' → Q (.int 0) H') ∧
  (¬ quota v o → ∀ x : Nat, pickL (letL b n v.M kind v.ba) v.wi = some (x : Int) → ∀ H' q, H q = none → MdAt H' { B with rs := B.rs.set x q } (takeV v x kind o) b n s → Kp B.own H H' → Q (.int x) H')
theorem ok_Ldue_take (T : Tx K mg) : FnOk P w K mg base CX0 2 T.f_Ldue_take T.fd_Ldue_take ["_law_model", "_law_first", "_law_kind_here", "_law_owner"] sp_Ldue_take := by
  refine T.F_Ldue_take.ok sc_Ldue_take (fun vs H Q E h => ?_) (fun cdv A outer s H vs Q E hr h => ?_)
  · obtain ⟨_, _, _, _, _, _, _, rfl, _⟩ := h; rfl
  · obtain ⟨B, v, b, n, sl, kind, o, rfl, D, n0, fb, b64, b8, ho, hk, k1, k2, k3⟩ := h
    refine ⟨_, (pss_cons (ps_asg (pe_slice sl_list (pv 0) po_none (po_some pe_int)) (pg_lst rfl (pgs_cons (pg_name (i := 4) sc_Ldue_take.nd rfl (.inr rfl)) (pgs_cons (pg_name (i := 5) sc_Ldue_take.nd rfl (.inl rfl)) (pgs_cons (pg_name (i := 6) sc_Ldue_take.nd rfl (.inl rfl)) pgs_nil)))))
      (pss_cons (ps_set (i := 7) sc_Ldue_take.nd rfl (.inl rfl) (pe_ix ix_list (pv 4) pe_int (fun _ _ => rfl)))
      (Evl.pss_cut (ps_if (PW.pt (pw_and (pt_cmpR op_ne (pe_ix ix_list (pv 7) (pe_op op_add pe_int (pv 3)) (fun _ _ => rfl)) pe_int (nomark _)) (pw_and1 (pt_cmpR op_ge (pe_ix ix_list (pv 7) (pv 3) (fun _ _ => rfl)) (pe_ix ix_list (pv 7) (pe_op op_add pe_int (pv 3)) (fun _ _ => rfl)) (nomark _)))))
        (pss_one (ps_ret (pe_un un_neg pe_int)))
        pss_nil)
      (pss_cons (ps_setLc (i := 8) (own := [("_law_x", 9)]) (g := gName 9) (tt := _) rfl sc_Ldue_take.nd rfl rfl (sw_true rfl rfl rfl (by decide +kernel)) (pi_range2 rfl T.b_range (pa_cons (pv 1) (pa_cons (pe_callB call_len_seq rfl T.b_len (by decide +kernel) (pa_cons (pv 4) pa_nil)) pa_nil))) (blkOk_by (N := ["_law_model", "_law_first", "_law_kind_here", "_law_owner", "_law_cells", "_law_holdings", "_law_stamps", "_law_sums", "_law_free", "_law_x", "_law_let", "_law_y", "_law_row"]) (sc := defScope s_Ldue_take) (by decide +kernel)) (fun _ _ _ _ _ => pg_name (i := 9) sc_Ldue_take.nd rfl (Or.inl rfl)) (fun _ _ _ _ _ => pts_one (pt_cmpR op_eq (pe_call (ok_Lkind T) hr rfl T.mg_Lkind T.F_Lkind.kp (b_Lkind T) .nil pass0 (pa_cons (pv 4) (pa_cons (pv 1) (pa_cons (pv 9) pa_nil)))) pe_int (nomark _))) (fun _ _ _ _ _ => (pv 9)))
      (pss_cons (ps_setLc (i := 10) (own := [("_law_x", 9)]) (g := gName 9) (tt := _) rfl sc_Ldue_take.nd rfl rfl (sw_true rfl rfl rfl (by decide +kernel)) (pi_list (pv 8)) (blkOk_by (N := ["_law_model", "_law_first", "_law_kind_here", "_law_owner", "_law_cells", "_law_holdings", "_law_stamps", "_law_sums", "_law_free", "_law_x", "_law_let", "_law_y", "_law_row"]) (sc := defScope s_Ldue_take) (by decide +kernel)) (fun _ _ _ _ _ => pg_name (i := 9) sc_Ldue_take.nd rfl (Or.inl rfl)) (fun _ _ _ _ _ => pts_one (PW.pt (pw_or (pt_cmpR op_eq (pv 2) pe_int (nomark _)) (pw_or1 (pt_cmpR (op_notInK (K := K)) (pv 9) (pe_ixK (K := K) (pv 0) pe_int (fun _ _ => rfl)) rfl))))) (fun _ _ _ _ _ => (pv 9)))
      (pss_cons (ps_if (pt_cmpR op_eq (pe_callB call_len_seq rfl T.b_len (by decide +kernel) (pa_cons (pv 10) pa_nil)) pe_int (nomark _))
        (pss_one (ps_ret pe_int))
        pss_nil)
      (pss_cons (ps_set (i := 9) sc_Ldue_take.nd rfl (.inl rfl) (pe_ix ix_list (pe_op op_cat (pe_lc rfl (own := [("_law_y", 11)]) (g := gName 11) (tt := _) sc_Ldue_take.nd (pi_list (pv 10)) (blkOk_by (N := ["_law_model", "_law_first", "_law_kind_here", "_law_owner", "_law_cells", "_law_holdings", "_law_stamps", "_law_sums", "_law_free", "_law_x", "_law_let", "_law_y", "_law_row"]) (sc := defScope s_Ldue_take) (by decide +kernel)) (fun _ _ _ _ _ => pg_name (i := 11) sc_Ldue_take.nd rfl (Or.inl rfl)) (fun _ _ _ _ _ => pts_one (pt_cmpR op_ge (pv 11) (pe_ixK (K := K) (pv 0) pe_int (fun _ _ => rfl)) (nomark _))) (fun _ _ _ _ _ => (pv 11))) (pv 10)) pe_int (fun _ _ => rfl)))
      (pss_cons (ps_asg (pe_lst (pa_cons pe_int (pa_cons pe_int (pa_cons pe_int (pa_cons pe_int (pa_cons pe_int (pa_cons pe_int (pa_cons pe_int (pa_cons pe_int pa_nil))))))))) (pg_sub (pv 4) (pv 9) set_list))
      (pss_cons (ps_set (i := 12) sc_Ldue_take.nd rfl (.inl rfl) (pe_ix ix_list (pv 4) (pe_op op_add pe_int (pe_op op_fdiv (pv 9) pe_int)) (fun _ _ => rfl)))
      (pss_cons (ps_asg (pv 2) (pg_sub (pv 12) (pe_op op_mod (pe_callTy call_int1 rfl T.b_int (by decide +kernel) (pa_cons (pv 9) pa_nil)) pe_int) set_list))
      (pss_cons (ps_asg (pe_ix ix_list (pv 0) pe_int (fun _ _ => rfl)) (pg_sub (pv 5) (pv 9) set_list))
      (pss_cons (ps_asg (pe_ix ix_list (pv 0) pe_int (fun _ _ => rfl)) (pg_sub (pv 6) (pv 9) set_list))
      (pss_cons (ps_asg (pe_op op_add (pe_ix ix_list (pv 7) (pv 3) (fun _ _ => rfl)) pe_int) (pg_sub (pv 7) (pv 3) set_list))
      (pss_one (ps_ret (pv 9)))))))))))))))), ?_⟩
    have d0 := D.d0
    have dg := D.gr
    refine ⟨_, rfl, _, rfl, B.ml, _, rfl, md0 D, ?_⟩
    (intro q n_q; generalize he_q : upd _ q _ = H1; obtain ⟨e_q, s_q, f_q⟩ := new_f he_q n_q; clear he_q)
    refine ⟨q, _, rfl, .inl (.of e_q), rfl, _, _, rfl, _, _, rfl, _, _, rfl, rfl, ?_⟩
    ((try dsimp only); (first | (refine Rg.sg (σ' := [some (.ref B.ml), some (.int (fdOf b n)), some (.int kind), some (.int o), some (.ref B.ca), some (.ref B.ho), some (.ref B.st), none, none, none, none, none, none]) ?_ ?_; focus exact rfl) | (refine Rg.sgG (σ' := [some (.ref B.ml), some (.int (fdOf b n)), some (.int kind), some (.int o), some (.ref B.ca), some (.ref B.ho), some (.ref B.st), none, none, none, none, none, none]) ?_ ?_; focus exact rfl)))
    have D1 := D.same s_q
    have hl0 : 0 < v.M.length := by omega
    obtain ⟨r0, er0, er0c, _⟩ := D1.gr.get (List.getElem?_eq_getElem hl0)
    obtain ⟨m0, em0⟩ : ∃ m, m = v.M[0] := ⟨_, rfl⟩
    have hm0 : v.M[0]? = some m0 := by rw [em0]; exact List.getElem?_eq_getElem hl0
    rw [← em0] at er0c
    have l8 : m0.length = 8 := D.d1 _ (List.mem_of_getElem? hm0)
    have co : cellAt v.M 0 o = m0[o]'(by omega) := cellAt_of hm0 (List.getElem?_eq_getElem (by omega))
    have co4 : cellAt v.M 0 (4 + o) = m0[4 + o]'(by omega) := cellAt_of hm0 (List.getElem?_eq_getElem (by omega))
    have at4 : atI (m0.map V.int) (4 + (o : Int)) = some (.int (cellAt v.M 0 (4 + o))) := at_of (j := 4 + o) (by omega) (by rw [List.getElem?_map, List.getElem?_eq_getElem (by omega), co4]; rfl)
    have ato : atI (m0.map V.int) (o : Int) = some (.int (cellAt v.M 0 o)) := at_of (j := o) rfl (by rw [List.getElem?_map, List.getElem?_eq_getElem (by omega), co]; rfl)
    refine ⟨_, rfl, B.ca, _, 0, .ref r0, rfl, rfl, .of D1.gr.out, at_of (j := 0) rfl (by rw [List.getElem?_map, er0]; rfl), ?_⟩
    ((try dsimp only); (first | (refine Rg.sg (σ' := [some (.ref B.ml), some (.int (fdOf b n)), some (.int kind), some (.int o), some (.ref B.ca), some (.ref B.ho), some (.ref B.st), some (.ref r0), none, none, none, none, none]) ?_ ?_; focus exact rfl) | (refine Rg.sgG (σ' := [some (.ref B.ml), some (.int (fdOf b n)), some (.int kind), some (.int o), some (.ref B.ca), some (.ref B.ho), some (.ref B.st), some (.ref r0), none, none, none, none, none]) ?_ ?_; focus exact rfl)))
    refine ⟨fun σ H2 => σ = [some (.ref B.ml), some (.int (fdOf b n)), some (.int kind), some (.int o), some (.ref B.ca), some (.ref B.ho), some (.ref B.st), some (.ref r0), none, none, none, none, none] ∧ H2 = H1 ∧ ¬ quota v o, ?_, ?_⟩
    · refine ⟨_, rfl, _, rfl, _, _, rfl, rfl, r0, _, _, _, rfl, rfl, .of er0c, at4, rfl, _, rfl, wNe (fun e1 => ?_) (fun e1 => ?_)⟩
      · refine ⟨_, rfl, _, rfl, r0, _, _, _, rfl, rfl, .of er0c, ato, _, rfl, _, rfl, _, _, rfl, rfl, r0, _, _, _, rfl, rfl, .of er0c, at4, _, _, rfl, rfl, _, rfl, wD (fun e2 => ?_) (fun e2 => ?_)⟩
        · exact ⟨_, rfl, k1 ⟨e1, e2⟩ H1 s_q⟩
        · exact ⟨rfl, rfl, fun z => e2 z.2⟩
      · exact ⟨rfl, rfl, fun z => z.1 e1⟩
    rintro σ H1' ⟨rfl, rfl, hq⟩
    -- the free blocks
    have fd0 : 0 ≤ fdOf b n := by unfold fdOf; omega
    have ec : ((B.rs.map V.ref).length : Int) = b := by rw [List.length_map, dg.len]; exact d0
    refine ⟨_, rfl, _, rfl, B.ca, _, rfl, .inl (.of D1.gr.out), _, _, rfl, ?_⟩
    rw [ec]
    refine ⟨⟨by omega, by omega, by omega, by omega⟩, fun D2 hD2 => ?_⟩
    have hl : (rng (fdOf b n) (b - fdOf b n).toNat).length < 1000 := by rw [rng_len]; omega
    refine lc_range (lo := fdOf b n) (n := (b - fdOf b n).toNat) (PvF H1' D2 (rng (fdOf b n) (b - fdOf b n).toNat) fun x => decide (kindOf b n v.M x = 0)) (PvF.start hD2) ?_ ?_
    · rintro j H' hj Pv
      have D3 := D1.same Pv.1
      refine ⟨rfl, _, rfl, _, rfl, _, rfl, B.ca, B.rs, v.M, b, n, _, rfl, D3.gr, d0, D3.d1, by omega, by omega, by omega, rfl, _, rfl, wI (fun e1 => ?_) fun e1 => ?_⟩
      · exact ⟨_, rfl, Pv.yes hD2 (Same.refl _) (rng_get hj) hl (by rw [decide_eq_true e1])⟩
      · exact Pv.no (Same.refl _) (rng_get hj) (by rw [decide_eq_false e1])
    intro H3 Pv
    obtain ⟨s3, e3⟩ := Pv.all (by rw [rng_len])
    have e3 : H3 D2 = some (.lst ((freeL b n v.M).map V.int)) := e3
    have hf : (freeL b n v.M).length < 1000 := by have := freeL_len (b := b) (n := n) (M := v.M); omega
    have Dx := D1.same s3
    ((try dsimp only); (first | (refine Rg.sg (σ' := [some (.ref B.ml), some (.int (fdOf b n)), some (.int kind), some (.int o), some (.ref B.ca), some (.ref B.ho), some (.ref B.st), some (.ref r0), some (.ref D2), none, none, none, none]) ?_ ?_; focus exact rfl) | (refine Rg.sgG (σ' := [some (.ref B.ml), some (.int (fdOf b n)), some (.int kind), some (.int o), some (.ref B.ca), some (.ref B.ho), some (.ref B.st), some (.ref r0), some (.ref D2), none, none, none, none]) ?_ ?_; focus exact rfl)))
    refine ⟨_, rfl, D2, rfl, ⟨_, .of e3⟩, fun D4 hD4 => ?_⟩
    refine lc_list (K := K) (a := D2) (xs := (freeL b n v.M).map V.int) (PvF H3 D4 (freeL b n v.M) fun x => decide (kind = 1) || decide (x ∉ v.ba)) (PvF.start hD4) (fun j H' _ Pv => .of (Pv.1 _ _ e3)) ?_ ?_
    · rintro j yv H' hj Pv
      rw [List.getElem?_map] at hj
      obtain ⟨x, hx, rfl⟩ := Option.map_eq_some_iff.mp hj
      have D5 := Dx.same Pv.1
      refine ⟨rfl, _, rfl, rfl, _, rfl, wI (fun e1 => ?_) (fun e1 => ?_)⟩
      · exact ⟨_, rfl, Pv.yes hD4 (Same.refl _) hx hf (by rw [decide_eq_true e1]; rfl)⟩
      · refine ⟨_, rfl, _, rfl, B.ml, _, 6, .ref B.ba, rfl, rfl, md0 D5, rfl, B.ba, _, rfl, .inr (.of D5.ba), rfl, flatI _, _, rfl, ?_⟩
        rw [inV_int]
        refine wND (fun e2 => ?_) (fun e2 => ?_)
        · exact ⟨_, rfl, Pv.yes hD4 (Same.refl _) hx hf (by rw [decide_eq_true e2, Bool.or_true])⟩
        · exact Pv.no (Same.refl _) hx (by rw [decide_eq_false e1, decide_eq_false (fun z => z e2)]; rfl)
    intro H5 Pv2
    obtain ⟨s5, e5⟩ := Pv2.all (by rw [List.length_map])
    have el : (freeL b n v.M).filter (fun x => decide (kind = 1) || decide (x ∉ v.ba)) = letL b n v.M kind v.ba := by
      unfold letL
      rcases hk with rfl | rfl
      · rw [if_neg (by decide)]
        exact List.filter_eq_self.mpr (by simp)
      · rw [if_pos rfl]
        refine List.filter_congr fun x _ => ?_
        rfl
    rw [el] at e5
    have hl5 : (letL b n v.M kind v.ba).length < 1000 := by
      rw [← el]
      exact Nat.lt_of_le_of_lt (List.length_filter_le _ _) hf
    obtain ⟨L, eL⟩ : ∃ L, L = letL b n v.M kind v.ba := ⟨_, rfl⟩
    rw [← eL] at e5 hl5 k2 k3
    have S5 : Same H H5 := (s_q.trans s3).trans s5
    have D5 := D.same S5
    ((try dsimp only); (first | (refine Rg.sg (σ' := [some (.ref B.ml), some (.int (fdOf b n)), some (.int kind), some (.int o), some (.ref B.ca), some (.ref B.ho), some (.ref B.st), some (.ref r0), some (.ref D2), none, some (.ref D4), none, none]) ?_ ?_; focus exact rfl) | (refine Rg.sgG (σ' := [some (.ref B.ml), some (.int (fdOf b n)), some (.int kind), some (.int o), some (.ref B.ca), some (.ref B.ho), some (.ref B.st), some (.ref r0), some (.ref D2), none, some (.ref D4), none, none]) ?_ ?_; focus exact rfl)))
    refine ⟨_, rfl, D4, _, rfl, .inl (.of e5), rfl, _, rfl, wI (fun e1 => ?_) (fun e1 => ?_)⟩
    · have : L = [] := by
        rw [List.length_map] at e1
        exact List.length_eq_zero_iff.mp (by omega)
      exact k2 hq this H5 S5
    have hL : L ≠ [] := fun z => e1 (by rw [z]; rfl)
    -- the block
    refine ⟨_, rfl, D4, rfl, ⟨_, .of e5⟩, fun D6 hD6 => ?_⟩
    refine lc_list (K := K) (a := D4) (xs := L.map V.int) (PvF H5 D6 L fun x => decide (v.wi ≤ x)) (PvF.start hD6) (fun j H' _ Pv => .of (Pv.1 _ _ e5)) ?_ ?_
    · rintro j yv H' hj Pv
      rw [List.getElem?_map] at hj
      obtain ⟨x, hx, rfl⟩ := Option.map_eq_some_iff.mp hj
      have D7 := D5.same Pv.1
      refine ⟨rfl, _, rfl, _, rfl, B.ml, _, 5, .int v.wi, rfl, rfl, md0 D7, rfl, _, _, rfl, rfl, _, rfl, wD (fun e2 => ?_) (fun e2 => ?_)⟩
      · exact ⟨_, rfl, Pv.yes hD6 (Same.refl _) hx hl5 (by rw [decide_eq_true e2])⟩
      · exact Pv.no (Same.refl _) hx (by rw [decide_eq_false e2])
    intro H6 Pv3
    obtain ⟨s6, e6⟩ := Pv3.all (by rw [List.length_map])
    have lw : (L.filter fun x => decide (v.wi ≤ x)).length < 1000 := Nat.lt_of_le_of_lt (List.length_filter_le _ _) hl5
    refine ⟨_, rfl, D6, D4, _, _, rfl, rfl, e6, s6 _ _ e5, (by rw [List.length_map, List.length_map]; exact Nat.le_trans (by omega : _ ≤ 2000) (by decide)), ?_⟩
    (intro u n_u; generalize he_u : upd _ u _ = H7; obtain ⟨e_u, s_u, f_u⟩ := new_f he_u n_u; clear he_u)
    rw [← List.map_append] at e_u
    have hpk : ∃ x, pickL L v.wi = some x := by
      unfold pickL
      cases hw : L.filter fun x => decide (v.wi ≤ x) with
      | nil =>
        cases L with
        | nil => exact absurd rfl hL
        | cons y r => exact ⟨y, rfl⟩
      | cons y r => exact ⟨y, rfl⟩
    obtain ⟨x, hx⟩ := hpk
    have h0 : ((L.filter fun x => decide (v.wi ≤ x)) ++ L)[0]? = some x := by
      rw [← hx]
      unfold pickL
      rw [← List.head?_eq_getElem?, List.head?_append]
    have hxm := pickL_mem hx
    have hxf : x ∈ freeL b n v.M := by
      rw [eL] at hxm
      unfold letL at hxm
      split at hxm
      · exact (List.mem_filter.mp hxm).1
      · exact hxm
    obtain ⟨x1, x2, x3⟩ := freeL_mem hxf
    obtain ⟨x, rfl⟩ : ∃ y : Nat, x = (y : Int) := ⟨x.toNat, by omega⟩
    have hbx : (x : Int) < b := by omega
    have S7 : Same H H7 := (S5.trans s6).trans s_u
    have D7 := D.same S7
    refine ⟨u, _, 0, .int (x : Int), rfl, rfl, .of e_u, at_of (j := 0) rfl (by rw [List.getElem?_map, h0]; rfl), ?_⟩
    ((try dsimp only); (first | (refine Rg.sg (σ' := [some (.ref B.ml), some (.int (fdOf b n)), some (.int kind), some (.int o), some (.ref B.ca), some (.ref B.ho), some (.ref B.st), some (.ref r0), some (.ref D2), some (.int (x : Int)), some (.ref D4), none, none]) ?_ ?_; focus exact rfl) | (refine Rg.sgG (σ' := [some (.ref B.ml), some (.int (fdOf b n)), some (.int kind), some (.int o), some (.ref B.ca), some (.ref B.ho), some (.ref B.st), some (.ref r0), some (.ref D2), some (.int (x : Int)), some (.ref D4), none, none]) ?_ ?_; focus exact rfl)))
    -- cells[x] = zeros
    refine ⟨(by show 8 ≤ sizeLine; decide), ?_⟩
    (intro z n_z; generalize he_z : upd _ z _ = H8; obtain ⟨e_z, s_z, f_z⟩ := new_f he_z n_z; clear he_z)
    have D8 := D7.same s_z
    have hxr : x < B.rs.length := by rw [D.gr.len]; omega
    refine ⟨_, rfl, _, rfl, B.ca, _, _, x, rfl, rfl, D8.gr.out, ixN_nat rfl (by rw [List.length_map]; exact hxr), ?_⟩
    have D9 := D7.swap (i := x) (q := z) (m := List.replicate 8 0) s_z n_z e_z rfl
    generalize hH9 : upd _ B.ca _ = H9 at D9 ⊢
    obtain ⟨_, k9, _⟩ := own_f hH9
    clear hH9
    -- the map
    have hm1 : 2 + x / 8 ≠ x := by unfold fdOf at x1; omega
    have hl1 : 2 + x / 8 < v.M.length := by omega
    obtain ⟨m1, em1⟩ : ∃ m, v.M[2 + x / 8]? = some m := ⟨_, List.getElem?_eq_getElem hl1⟩
    have em1' : (v.M.set x (List.replicate 8 0))[2 + x / 8]? = some m1 := by rw [List.getElem?_set_ne (fun y => hm1 y.symm)]; exact em1
    obtain ⟨r1, er1, er1c, _⟩ := D9.gr.get em1'
    have er1 : (B.rs.set x z)[2 + x / 8]? = some r1 := er1
    have er1b : B.rs[2 + x / 8]? = some r1 := by rw [List.getElem?_set_ne (fun y => hm1 y.symm)] at er1; exact er1
    have l81 : m1.length = 8 := D.d1 _ (List.mem_of_getElem? em1)
    refine ⟨_, rfl, _, rfl, _, _, rfl, rfl, (CDiv8 _), _, _, rfl, rfl, B.ca, _, _, .ref r1, rfl, rfl, .of D9.gr.out, at_of (j := 2 + x / 8) (by omega) (by rw [List.getElem?_map]; show ((B.rs.set x z)[2 + x / 8]?).map V.ref = _; rw [er1]; rfl), ?_⟩
    ((try dsimp only); (first | (refine Rg.sg (σ' := [some (.ref B.ml), some (.int (fdOf b n)), some (.int kind), some (.int o), some (.ref B.ca), some (.ref B.ho), some (.ref B.st), some (.ref r0), some (.ref D2), some (.int (x : Int)), some (.ref D4), none, some (.ref r1)]) ?_ ?_; focus exact rfl) | (refine Rg.sgG (σ' := [some (.ref B.ml), some (.int (fdOf b n)), some (.int kind), some (.int o), some (.ref B.ca), some (.ref B.ho), some (.ref B.st), some (.ref r0), some (.ref D2), some (.int (x : Int)), some (.ref D4), none, some (.ref r1)]) ?_ ?_; focus exact rfl)))
    refine ⟨_, rfl, _, rfl, _, rfl, .inl ⟨_, rfl, _, _, rfl, rfl, (by show (0 : Int) < 8; decide), r1, _, _, x % 8, rfl, rfl, er1c, ixN_nat (by omega) (by rw [List.length_map, l81]; omega), ?_⟩⟩
    have D10 := D9.setC (i := 2 + x / 8) (j := x % 8) (x := kind) er1 em1'
    generalize hH10 : upd _ r1 _ = H10 at D10 ⊢
    obtain ⟨_, k10, _⟩ := own_f hH10
    clear hH10
    refine ⟨_, rfl, B.ml, _, 4, .int v.se, rfl, rfl, .of D10.ob, rfl, _, rfl, _, rfl, B.ho, _, _, x, rfl, rfl, D10.ho, ixN_nat rfl (by rw [List.length_map]; show x < v.ho.length; have := D.d2; omega), ?_⟩
    have D11 := D10.putHo (i := x) (x := v.se)
    generalize hH11 : upd _ B.ho _ = H11 at D11 ⊢
    obtain ⟨_, k11, _⟩ := own_f hH11
    clear hH11
    refine ⟨_, rfl, B.ml, _, 4, .int v.se, rfl, rfl, .of D11.ob, rfl, _, rfl, _, rfl, B.st, _, _, x, rfl, rfl, D11.st, ixN_nat rfl (by rw [List.length_map]; show x < v.st.length; have := D.d3; omega), ?_⟩
    have D12 := D11.putSt (i := x) (x := v.se)
    generalize hH12 : upd _ B.st _ = H12 at D12 ⊢
    obtain ⟨_, k12, _⟩ := own_f hH12
    clear hH12
    have x0 : x ≠ 0 := by unfold fdOf at x1; omega
    have em0' : (setC (v.M.set x (List.replicate 8 0)) (2 + x / 8) (x % 8) kind)[0]? = some m0 := by rw [setC_ne (by omega), List.getElem?_set_ne x0]; exact hm0
    have er0' : (B.rs.set x z)[0]? = some r0 := by rw [List.getElem?_set_ne x0]; exact er0
    have er0d := D12.gr.row 0 r0 m0 er0' em0'
    refine ⟨_, rfl, _, rfl, r0, _, _, _, rfl, rfl, .of er0d, ato, _, _, rfl, rfl, _, rfl, _, rfl, r0, _, _, o, rfl, rfl, er0d, ixN_nat rfl (by rw [List.length_map]; omega), ?_⟩
    have D13 := D12.setC (i := 0) (j := o) (x := cellAt v.M 0 o + 1) er0' em0'
    generalize hH13 : upd _ r0 _ = H13 at D13 ⊢
    obtain ⟨_, k13, _⟩ := own_f hH13
    clear hH13
    have ev : takeV v x kind o = { v with M := setC (setC (v.M.set x (List.replicate 8 0)) (2 + x / 8) (x % 8) kind) 0 o (cellAt v.M 0 o + 1), ho := v.ho.set x v.se, st := v.st.set x v.se } := by
      unfold takeV putB
      rw [setC_set (fun y => hm1 y.symm)]
    refine ⟨_, rfl, k3 hq x hx H13 z (S7.free n_z) ?_ ?_⟩
    · rw [ev]
      exact D13
    · have K8 : Kp B.own H H8 := (Kp.of S7).same s_z
      exact kpIn (kpIn (kpIn (kpIn (kpIn K8 k9 (by simp [MA.own])) k10 (by simp [MA.own, List.mem_of_getElem? er1b])) k11 (by simp [MA.own])) k12 (by simp [MA.own])) k13 (by simp [MA.own, List.mem_of_getElem? er0])
end
end K78
namespace K78
open PySem PySem.Spec PyProof.Rows L2 Rg
/-! ### cells and kinds -/
theorem cell_same {M : List (List Int)} {i j : Nat} {x : Int} {m : List Int} (h : M[i]? = some m) (hj : j < m.length) : cellAt (setC M i j x) i j = x :=
  cellAt_of (setC_at h) (List.getElem?_set_self hj)
theorem cell_ne {M : List (List Int)} {i j i' k : Nat} {x : Int} (h : i ≠ i' ∨ j ≠ k) : cellAt (setC M i j x) i' k = cellAt M i' k := by
  by_cases e : i = i'
  · subst e
    have hj : j ≠ k := h.elim (fun z => absurd rfl z) id
    cases hm : M[i]? with
    | none =>
      have : (setC M i j x) = M := by
        unfold setC
        rw [List.set_eq_of_length_le (List.getElem?_eq_none_iff.mp hm)]
      rw [this]
    | some m =>
      unfold cellAt
      rw [setC_at hm, hm]
      show ((m.set j x)[k]?).getD 0 = (m[k]?).getD 0
      rw [List.getElem?_set_ne hj]
  · exact cellAt_congr (setC_ne e)
theorem cell_set {M : List (List Int)} {x i k : Nat} {z : List Int} (h : x ≠ i) : cellAt (M.set x z) i k = cellAt M i k := cellAt_congr (List.getElem?_set_ne h)
theorem kind_cong {b n : Int} {M R : List (List Int)} {y : Nat} (h : cellAt M (2 + y / 8) (y % 8) = cellAt R (2 + y / 8) (y % 8)) : kindOf b n M y = kindOf b n R y := by
  unfold kindOf
  rw [show (2 + (y : Int) / 8).toNat = 2 + y / 8 by omega, show ((y : Int) % 8).toNat = y % 8 by omega, h]
/-- a block taken or given: its own kind, no other's -/
theorem kind_put {b n : Int} {M : List (List Int)} {x y o : Nat} {k c : Int} {z : List Int} (n0 : 0 ≤ n) (x1 : fdOf b n ≤ x) (xb : (x : Int) < b) (hl : (M.length : Int) = b) (h8 : ∀ m ∈ M, m.length = 8) (hy : (y : Int) < b) :
    kindOf b n (setC ((setC M (2 + x / 8) (x % 8) k).set x z) 0 o c) y = if y = x then (if k = 1 ∨ k = 2 then k else 0) else kindOf b n M y := by
  have e1 : 2 + x / 8 ≠ x := by unfold fdOf at x1; omega
  have e2 : x ≠ 2 + y / 8 := by unfold fdOf at x1; omega
  have e3 : cellAt (setC ((setC M (2 + x / 8) (x % 8) k).set x z) 0 o c) (2 + y / 8) (y % 8) = cellAt (setC M (2 + x / 8) (x % 8) k) (2 + y / 8) (y % 8) := by
    rw [cell_ne (.inl (by omega)), cell_set e2]
  rw [kind_cong e3]
  by_cases e : y = x
  · subst e
    rw [if_pos rfl]
    have hm : 2 + y / 8 < M.length := by unfold fdOf at x1; omega
    have em := List.getElem?_eq_getElem hm
    have c1 : cellAt (setC M (2 + y / 8) (y % 8) k) (2 + y / 8) (y % 8) = k := cell_same em (by rw [h8 _ (List.getElem_mem hm)]; omega)
    unfold kindOf
    rw [if_neg (by unfold fdOf at x1; omega), show (2 + (y : Int) / 8).toNat = 2 + y / 8 by omega, show ((y : Int) % 8).toNat = y % 8 by omega, c1]
  · rw [if_neg e]
    refine kind_cong (cell_ne ?_)
    omega
/-- a row that is no map row -/
theorem kind_row {b n : Int} {M : List (List Int)} {x y : Nat} {z : List Int} (hx : x = 1 ∨ 1 + (b + 7) / 8 < (x : Int)) (hy : (y : Int) < b) : kindOf b n (M.set x z) y = kindOf b n M y := by
  refine kind_cong (cell_set ?_)
  omega
theorem kind_pos {b n : Int} {M : List (List Int)} {x : Int} : 0 < kindOf b n M x ↔ kindOf b n M x ≠ 0 := by
  unfold kindOf
  split
  · omega
  · split
    · rename_i h
      rcases h with e | e <;> rw [e] <;> decide
    · omega
structure Okv (b n : Int) (v : IV) (c : Int) : Prop where
  kz : ∀ x : Nat, (x : Int) < b → v.ho[x]? = some v.se → kindOf b n v.M x ≠ 0
  hs : ∀ h ∈ v.ho, h ≤ v.se
  su : ∀ o, o < 4 → 0 ≤ cellAt v.M 0 o ∧ cellAt v.M 0 o ≤ c
  se : 1 ≤ v.se
theorem Okv.beg {b n c wi : Int} {v : IV} {bs : List Int} (O : Okv b n v c) : Okv b n { v with se := v.se + 1, wi := wi, ba := bs } c where
  kz := fun x _ h => by
    have := O.hs _ (List.mem_of_getElem? h)
    have : v.se + 1 ≤ v.se := this
    omega
  hs := fun h hh => by have := O.hs h hh; show h ≤ v.se + 1; omega
  su := O.su
  se := by have := O.se; show 1 ≤ v.se + 1; omega
theorem Okv.mono {b n c d : Int} {v : IV} (O : Okv b n v c) (h : c ≤ d) : Okv b n v d := { O with su := fun o ho => ⟨(O.su o ho).1, Int.le_trans (O.su o ho).2 h⟩ }
theorem Okv.put {b n c e k : Int} {v : IV} {x o : Nat} {st : List Int} {se : Int} (O : Okv b n v c) (n0 : 0 ≤ n) (x1 : fdOf b n ≤ x) (xb : (x : Int) < b) (hl : (v.M.length : Int) = b) (h8 : ∀ m ∈ v.M, m.length = 8) (ho : o < 4) (b8 : 8 ≤ b) (hse : (se = v.se ∧ (k = 1 ∨ k = 2)) ∨ se = 0)
    (he : 0 ≤ e ∧ e ≤ c + 1) : Okv b n { v with M := setC ((setC v.M (2 + x / 8) (x % 8) k).set x (List.replicate 8 0)) 0 o e, ho := v.ho.set x se, st := st } (c + 1) where
  kz := fun y hy h => by
    show kindOf b n (setC ((setC v.M (2 + x / 8) (x % 8) k).set x (List.replicate 8 0)) 0 o e) y ≠ 0
    have h : (v.ho.set x se)[y]? = some v.se := h
    rw [kind_put n0 x1 xb hl h8 hy]
    have s1 := O.se
    by_cases q : y = x
    · subst q
      rw [if_pos rfl]
      have hlt : y < v.ho.length := by
        have := (List.getElem?_eq_some_iff.mp h).1
        rw [List.length_set] at this
        exact this
      rw [List.getElem?_set_self hlt] at h
      have h := Option.some.inj h
      rcases hse with ⟨_, z⟩ | z
      · rw [if_pos z]
        rcases z with z | z <;> omega
      · omega
    · rw [if_neg q]
      rw [List.getElem?_set_ne (fun z => q z.symm)] at h
      exact O.kz y hy h
  hs := fun h hh => by
    have s1 := O.se
    show h ≤ v.se
    rcases mem_set_of hh with z | z
    · rcases hse with ⟨q, _⟩ | q <;> omega
    · exact O.hs h z
  su := fun p hp => by
    have x0 : x ≠ 0 := by unfold fdOf at x1; omega
    show 0 ≤ cellAt (setC ((setC v.M (2 + x / 8) (x % 8) k).set x (List.replicate 8 0)) 0 o e) 0 p ∧ cellAt (setC ((setC v.M (2 + x / 8) (x % 8) k).set x (List.replicate 8 0)) 0 o e) 0 p ≤ c + 1
    have old : cellAt ((setC v.M (2 + x / 8) (x % 8) k).set x (List.replicate 8 0)) 0 p = cellAt v.M 0 p := by rw [cell_set x0, cell_ne (.inl (by omega))]
    by_cases q : o = p
    · subst q
      have hm : 0 < v.M.length := by omega
      have em : ((setC v.M (2 + x / 8) (x % 8) k).set x (List.replicate 8 0))[0]? = some v.M[0] := by
        rw [List.getElem?_set_ne x0, setC_ne (by omega)]
        exact List.getElem?_eq_getElem hm
      rw [cell_same em (by rw [h8 _ (List.getElem_mem hm)]; omega)]
      exact he
    · rw [cell_ne (.inr q), old]
      have := O.su p hp
      omega
  se := O.se
theorem Okv.take {b n c k : Int} {v : IV} {x o : Nat} (O : Okv b n v c) (n0 : 0 ≤ n) (x1 : fdOf b n ≤ x) (xb : (x : Int) < b) (hl : (v.M.length : Int) = b) (h8 : ∀ m ∈ v.M, m.length = 8) (ho : o < 4) (b8 : 8 ≤ b) (hk : k = 1 ∨ k = 2) : Okv b n (takeV v x k o) (c + 1) := by
  have := O.su o ho
  exact O.put (se := v.se) (st := v.st.set x v.se) n0 x1 xb hl h8 ho b8 (.inl ⟨rfl, hk⟩) (by omega)
theorem Okv.give {b n c : Int} {v : IV} {x o : Nat} (O : Okv b n v c) (n0 : 0 ≤ n) (x1 : fdOf b n ≤ x) (xb : (x : Int) < b) (hl : (v.M.length : Int) = b) (h8 : ∀ m ∈ v.M, m.length = 8) (ho : o < 4) (b8 : 8 ≤ b) (hp : 0 < cellAt v.M 0 o) : Okv b n (giveV v x o) (c + 1) := by
  have := O.su o ho
  exact O.put (se := 0) (st := v.st.set x 0) n0 x1 xb hl h8 ho b8 (.inr rfl) (by omega)
theorem Okv.row {b n c : Int} {v : IV} {x : Nat} {m : List Int} (O : Okv b n v c) (hx : x = 1 ∨ 1 + (b + 7) / 8 < (x : Int)) (b8 : 8 ≤ b) : Okv b n { v with M := v.M.set x m } c where
  kz := fun y hy h => by
    show kindOf b n (v.M.set x m) y ≠ 0
    rw [kind_row hx hy]
    exact O.kz y hy h
  hs := O.hs
  su := fun o ho => by
    show 0 ≤ cellAt (v.M.set x m) 0 o ∧ cellAt (v.M.set x m) 0 o ≤ c
    rw [cell_set (by omega)]
    exact O.su o ho
  se := O.se
/-! ### the two together -/
theorem ImgAt.lists {CI CP : Addr} {H : Hp} {im : Addr} {A : IA} {v : IV} {b n s : Int} (I : ImgAt CI CP H im A v b n s) {x : Addr} (h : x ∈ A.ca :: A.ho :: A.st :: A.rs) : ∃ xs, H x = some (.lst xs) := by
  simp only [List.mem_cons] at h
  rcases h with rfl | rfl | rfl | h
  · exact ⟨_, I.gr.out⟩
  · exact ⟨_, I.ho⟩
  · exact ⟨_, I.st⟩
  · obtain ⟨i, hi, e⟩ := List.getElem_of_mem h
    have hm : i < v.M.length := by rw [← I.gr.len]; exact hi
    exact ⟨_, I.gr.row i x _ (by rw [List.getElem?_eq_getElem hi, e]) (List.getElem?_eq_getElem hm)⟩
theorem lists_reads {A : IA} {im x : Addr} (h : x ∈ A.ca :: A.ho :: A.st :: A.rs) : x ∈ A.reads im := by
  simp only [List.mem_cons] at h
  unfold IA.reads
  rcases h with rfl | rfl | rfl | h <;> simp [*]
/-- the image's own lists changed: the model stands -/
theorem Tw.img {CI CP : Addr} {H H' : Hp} {im : Addr} {A : IA} {v : IV} {B : MA} {l : List (Int × Int)} {b n s : Int} (W : Tw CI CP H im A v B l b n s) (k : Kp (A.ca :: A.ho :: A.st :: A.rs) H H') : MdAt H' B { v with hd := l } b n s :=
  W.D.kp k (fun x hx z => W.ap x z (lists_reads hx)) fun x hx o e => by
    obtain ⟨xs, ex⟩ := W.I.lists hx
    rw [ex] at e
    exact .inl ⟨xs, (Option.some.inj e).symm⟩
/-- the model's own lists changed: the image stands -/
theorem Tw.of {CI CP : Addr} {H H' : Hp} {im : Addr} {A : IA} {v : IV} {B B' : MA} {l : List (Int × Int)} {b n s : Int} (I : ImgAt CI CP H im A v b n s) (ap : ∀ x ∈ B.own, x ∉ A.reads im) (k : Kp B.own H H') (D' : MdAt H' B' { v with hd := l } b n s) (nb : ∀ x ∈ B'.own, x ∈ B.own ∨ H x = none) : Tw CI CP H' im A v B' l b n s :=
  ⟨I.keepF fun x o hx e => k x o e fun z => ap x z hx, D', fun x hx z => by
    rcases nb x hx with q | q
    · exact ap x q z
    · obtain ⟨o, eo⟩ := I.held z
      rw [q] at eo
      cases eo⟩
theorem own_set {B : MA} {x : Nat} {q a : Addr} (h : a ∈ ({ B with rs := B.rs.set x q } : MA).own) : a ∈ B.own ∨ a = q := by
  simp only [MA.own, List.mem_cons] at h
  rcases h with rfl | rfl | rfl | rfl | rfl | h
  · exact .inl (by simp [MA.own])
  · exact .inl (by simp [MA.own])
  · exact .inl (by simp [MA.own])
  · exact .inl (by simp [MA.own])
  · exact .inl (by simp [MA.own])
  · rcases mem_set_of h with e | e
    · exact .inr e
    · exact .inl (by simp [MA.own, e])
theorem reads_set {A : IA} {im : Addr} {x : Nat} {q a : Addr} (h : a ∈ ({ A with rs := A.rs.set x q } : IA).reads im) : a ∈ A.reads im ∨ a = q := by
  simp only [IA.reads, List.mem_cons] at h ⊢
  rcases h with h | h | h | h | h | h | h | h
  · exact .inl (.inl h)
  · exact .inl (by simp [h])
  · exact .inl (by simp [h])
  · exact .inl (by simp [h])
  · exact .inl (by simp [h])
  · exact .inl (by simp [h])
  · exact .inl (by simp [h])
  · rcases mem_set_of h with e | e
    · exact .inr e
    · exact .inl (by simp [e])
end K78
namespace K78
open PySem PySem.Spec PyProof.Rows L2 Rg
section
variable {P : Program} {w : World} {K : PySem.W.Frag} {mg : Str → Option Value} {base : Heap}
/-! ### _law_give -/
def sp_Lgive (CI CP : Addr) : Sp := fun vs H Q _ => ∃ (im : Addr) (A : IA) (v : IV) (B : MA) (l : List (Int × Int)) (b n s : Int) (o : Nat) (wh : Int), vs = [.ref im, .ref B.ml, .int (fdOf b n), .int o, .int wh] ∧ Tw CI CP H im A v B l b n s ∧ o < 4 ∧
  (∀ H', Same H H' → Q (.bl true) H') ∧
  (∀ (x : Nat) H' (q q' : Addr), fdOf b n ≤ x → (x : Int) < b → 0 < cellAt v.M 0 o → H q = none → (H q' = none ∨ q' ∈ A.rs) → Tw CI CP H' im { A with rs := A.rs.set x q } (giveV v x o) { B with rs := B.rs.set x q' } l b n s → Kp ((A.ca :: A.ho :: A.st :: A.rs) ++ B.own) H H' → Q (.bl true) H')
theorem ok_Lgive (T : Tx K mg) : FnOk P w K mg base CX0 4 T.f_Lgive T.fd_Lgive ["_law_image", "_law_model", "_law_first", "_law_owner", "_law_where"] (sp_Lgive T.C_Image T.C_Plan) := by
  refine T.F_Lgive.ok sc_Lgive (fun vs H Q E h => ?_) (fun cdv A0 outer s H vs Q E hr h => ?_)
  · obtain ⟨_, _, _, _, _, _, _, _, _, _, rfl, _⟩ := h; rfl
  · obtain ⟨im, A, v, B, l, b, n, sl, o, wh, rfl, W, ho, k1, k2⟩ := h
    have hr1 : Room 1 _ := hr.mono (by decide)
    refine ⟨_, (pss_cons (ps_asg (pe_slice sl_list (pv 1) po_none (po_some pe_int)) (pg_lst rfl (pgs_cons (pg_name (i := 5) sc_Lgive.nd rfl (.inr rfl)) (pgs_cons (pg_name (i := 6) sc_Lgive.nd rfl (.inl rfl)) (pgs_cons (pg_name (i := 7) sc_Lgive.nd rfl (.inl rfl)) pgs_nil)))))
      (pss_cons (ps_setLc (i := 8) (own := [("_law_x", 9)]) (g := gName 9) (tt := _) rfl sc_Lgive.nd rfl rfl (sw_true rfl rfl rfl (by decide +kernel)) (pi_range2 rfl T.b_range (pa_cons (pv 2) (pa_cons (pe_callB call_len_seq rfl T.b_len (by decide +kernel) (pa_cons (pv 5) pa_nil)) pa_nil))) (blkOk_by (N := ["_law_image", "_law_model", "_law_first", "_law_owner", "_law_where", "_law_cells", "_law_holdings", "_law_stamps", "_law_held", "_law_x", "_law_sums", "_law_told", "_law_row"]) (sc := defScope s_Lgive) (by decide +kernel)) (fun _ _ _ _ _ => pg_name (i := 9) sc_Lgive.nd rfl (Or.inl rfl)) (fun _ _ _ _ _ => pts_one (pt_cmpR op_gt (pe_call (ok_Lkind T) hr1 rfl T.mg_Lkind T.F_Lkind.kp (b_Lkind T) .nil pass0 (pa_cons (pv 5) (pa_cons (pv 2) (pa_cons (pv 9) pa_nil)))) pe_int (nomark _))) (fun _ _ _ _ _ => (pv 9)))
      (pss_cons (ps_set (i := 10) sc_Lgive.nd rfl (.inl rfl) (pe_ix ix_list (pv 5) pe_int (fun _ _ => rfl)))
      (pss_cons (ps_if (PW.pt (pw_and (pt_cmpR op_gt (pe_callB call_len_seq rfl T.b_len (by decide +kernel) (pa_cons (pv 8) pa_nil)) pe_int (nomark _)) (pw_and1 (pt_cmpR op_gt (pe_ix ix_list (pv 10) (pv 3) (fun _ _ => rfl)) pe_int (nomark _)))))
        (pss_cons (ps_set (i := 9) sc_Lgive.nd rfl (.inl rfl) (pe_ix ix_list (pv 8) (pe_op op_mod (pe_callTy call_int1 rfl T.b_int (by decide +kernel) (pa_cons (pv 4) pa_nil)) (pe_callB call_len_seq rfl T.b_len (by decide +kernel) (pa_cons (pv 8) pa_nil))) (fun _ _ => rfl)))
        (pss_cons (ps_set (i := 11) sc_Lgive.nd rfl (.inl rfl) (pe_meth (pv 0) T.cl_Image T.m_Image_give (ok_give T) hr (b_Image_give T) .nil pass0 (pa_cons (pv 9) (pa_cons (pv 3) pa_nil))))
        (pss_cons (ps_asg (pe_lst (pa_cons pe_int (pa_cons pe_int (pa_cons pe_int (pa_cons pe_int (pa_cons pe_int (pa_cons pe_int (pa_cons pe_int (pa_cons pe_int pa_nil))))))))) (pg_sub (pv 5) (pv 9) set_list))
        (pss_cons (ps_set (i := 12) sc_Lgive.nd rfl (.inl rfl) (pe_ix ix_list (pv 5) (pe_op op_add pe_int (pe_op op_fdiv (pv 9) pe_int)) (fun _ _ => rfl)))
        (pss_cons (ps_asg pe_int (pg_sub (pv 12) (pe_op op_mod (pe_callTy call_int1 rfl T.b_int (by decide +kernel) (pa_cons (pv 9) pa_nil)) pe_int) set_list))
        (pss_cons (ps_asg pe_int (pg_sub (pv 6) (pv 9) set_list))
        (pss_cons (ps_asg pe_int (pg_sub (pv 7) (pv 9) set_list))
        (pss_cons (ps_asg (pe_op op_sub (pe_ix ix_list (pv 10) (pv 3) (fun _ _ => rfl)) pe_int) (pg_sub (pv 10) (pv 3) set_list))
        (pss_one (ps_ret (pe_cmpR op_isN (pv 11) pe_non (nomark _))))))))))))
        pss_nil)
      (pss_one (ps_ret pe_bl)))))), ?_⟩
    have D := W.D
    have I := W.I
    have b1 := I.pl.b1
    have b2 := I.pl.b2
    have n1 := I.pl.n1
    have dd := I.pl.d
    have d0 := D.d0
    have d0 : (v.M.length : Int) = b := d0
    have dg := D.gr
    refine ⟨_, rfl, _, rfl, B.ml, _, rfl, md0 D, ?_⟩
    (intro q n_q; generalize he_q : upd _ q _ = H1; obtain ⟨e_q, s_q, f_q⟩ := new_f he_q n_q; clear he_q)
    refine ⟨q, _, rfl, .inl (.of e_q), rfl, _, _, rfl, _, _, rfl, _, _, rfl, rfl, ?_⟩
    ((try dsimp only); (first | (refine Rg.sg (σ' := [some (.ref im), some (.ref B.ml), some (.int (fdOf b n)), some (.int o), some (.int wh), some (.ref B.ca), some (.ref B.ho), some (.ref B.st), none, none, none, none, none]) ?_ ?_; focus exact rfl) | (refine Rg.sgG (σ' := [some (.ref im), some (.ref B.ml), some (.int (fdOf b n)), some (.int o), some (.int wh), some (.ref B.ca), some (.ref B.ho), some (.ref B.st), none, none, none, none, none]) ?_ ?_; focus exact rfl)))
    have D1 := D.same s_q
    have fd0 : 0 ≤ fdOf b n := by unfold fdOf; omega
    have fb : fdOf b n ≤ b := by unfold fdOf; omega
    have ec : ((B.rs.map V.ref).length : Int) = b := by rw [List.length_map, dg.len]; exact d0
    refine ⟨_, rfl, _, rfl, B.ca, _, rfl, .inl (.of D1.gr.out), _, _, rfl, ?_⟩
    rw [ec]
    refine ⟨⟨by omega, by omega, by omega, by omega⟩, fun D2 hD2 => ?_⟩
    have hl : (rng (fdOf b n) (b - fdOf b n).toNat).length < 1000 := by rw [rng_len]; omega
    refine lc_range (lo := fdOf b n) (n := (b - fdOf b n).toNat) (PvF H1 D2 (rng (fdOf b n) (b - fdOf b n).toNat) fun x => decide (0 < kindOf b n v.M x)) (PvF.start hD2) ?_ ?_
    · rintro j H' hj Pv
      have D3 := D1.same Pv.1
      refine ⟨rfl, _, rfl, _, rfl, _, rfl, B.ca, B.rs, v.M, b, n, _, rfl, D3.gr, d0, D3.d1, by omega, by omega, by omega, _, _, rfl, rfl, _, rfl, wD (fun e1 => ?_) fun e1 => ?_⟩
      · exact ⟨_, rfl, Pv.yes hD2 (Same.refl _) (rng_get hj) hl (decide_eq_true e1)⟩
      · exact Pv.no (Same.refl _) (rng_get hj) (decide_eq_false e1)
    intro H3 Pv
    obtain ⟨s3, e3⟩ := Pv.all (by rw [rng_len])
    obtain ⟨L, eL⟩ : ∃ L, L = (rng (fdOf b n) (b - fdOf b n).toNat).filter fun x => decide (0 < kindOf b n v.M x) := ⟨_, rfl⟩
    rw [← eL] at e3
    have S3 : Same H H3 := s_q.trans s3
    have D3 := D.same S3
    have I3 := I.keep S3
    ((try dsimp only); (first | (refine Rg.sg (σ' := [some (.ref im), some (.ref B.ml), some (.int (fdOf b n)), some (.int o), some (.int wh), some (.ref B.ca), some (.ref B.ho), some (.ref B.st), some (.ref D2), none, none, none, none]) ?_ ?_; focus exact rfl) | (refine Rg.sgG (σ' := [some (.ref im), some (.ref B.ml), some (.int (fdOf b n)), some (.int o), some (.int wh), some (.ref B.ca), some (.ref B.ho), some (.ref B.st), some (.ref D2), none, none, none, none]) ?_ ?_; focus exact rfl)))
    have hl0 : 0 < v.M.length := by omega
    obtain ⟨r0, er0, er0c, _⟩ := D3.gr.get (List.getElem?_eq_getElem hl0)
    obtain ⟨m0, em0⟩ : ∃ m, m = v.M[0] := ⟨_, rfl⟩
    have hm0 : v.M[0]? = some m0 := by rw [em0]; exact List.getElem?_eq_getElem hl0
    have er0c : H3 r0 = some (.lst (m0.map V.int)) := by rw [em0]; exact er0c
    have l8 : m0.length = 8 := D.d1 _ (List.mem_of_getElem? hm0)
    have co : cellAt v.M 0 o = m0[o]'(by omega) := cellAt_of hm0 (List.getElem?_eq_getElem (by omega))
    have ato : atI (m0.map V.int) (o : Int) = some (.int (cellAt v.M 0 o)) := at_of (j := o) rfl (by rw [List.getElem?_map, List.getElem?_eq_getElem (by omega), co]; rfl)
    refine ⟨_, rfl, B.ca, _, 0, .ref r0, rfl, rfl, .of D3.gr.out, at_of (j := 0) rfl (by rw [List.getElem?_map, er0]; rfl), ?_⟩
    ((try dsimp only); (first | (refine Rg.sg (σ' := [some (.ref im), some (.ref B.ml), some (.int (fdOf b n)), some (.int o), some (.int wh), some (.ref B.ca), some (.ref B.ho), some (.ref B.st), some (.ref D2), none, some (.ref r0), none, none]) ?_ ?_; focus exact rfl) | (refine Rg.sgG (σ' := [some (.ref im), some (.ref B.ml), some (.int (fdOf b n)), some (.int o), some (.int wh), some (.ref B.ca), some (.ref B.ho), some (.ref B.st), some (.ref D2), none, some (.ref r0), none, none]) ?_ ?_; focus exact rfl)))
    refine ⟨_, rfl, D2, _, rfl, .inl (.of e3), _, _, rfl, rfl, _, rfl, wD (fun e1 => ?_) (fun e1 => k1 H3 S3)⟩
    refine ⟨_, rfl, _, rfl, r0, _, _, _, rfl, rfl, .of er0c, ato, _, _, rfl, rfl, _, rfl, wD (fun e2 => ?_) (fun e2 => k1 H3 S3)⟩
    have e1 : (0 : Int) < (L.length : Int) := by rw [List.length_map] at e1; exact e1
    -- the block
    have hi : (wh % (L.length : Int)).toNat < L.length := by
      have h1 := Int.emod_nonneg wh (show (L.length : Int) ≠ 0 by omega)
      have h2 := Int.emod_lt_of_pos wh e1
      omega
    obtain ⟨x, hx⟩ : ∃ x, L[(wh % (L.length : Int)).toNat]? = some x := ⟨_, List.getElem?_eq_getElem hi⟩
    have hxm := List.mem_of_getElem? hx
    rw [eL, List.mem_filter] at hxm
    obtain ⟨x1, x2⟩ := rng_mem hxm.1
    obtain ⟨x, rfl⟩ : ∃ y : Nat, x = (y : Int) := ⟨x.toNat, by omega⟩
    have hbx : (x : Int) < b := by omega
    refine ⟨_, rfl, _, rfl, .inl ⟨_, rfl, _, rfl, D2, _, rfl, .inl (.of e3), ?_⟩⟩
    rw [List.length_map]
    refine ⟨_, _, rfl, rfl, e1, D2, _, _, .int (x : Int), rfl, rfl, .of e3, at_of (j := (wh % (L.length : Int)).toNat) (by have := Int.emod_nonneg wh (show (L.length : Int) ≠ 0 by omega); omega) (by rw [List.getElem?_map, hx]; rfl), ?_⟩
    ((try dsimp only); (first | (refine Rg.sg (σ' := [some (.ref im), some (.ref B.ml), some (.int (fdOf b n)), some (.int o), some (.int wh), some (.ref B.ca), some (.ref B.ho), some (.ref B.st), some (.ref D2), some (.int (x : Int)), some (.ref r0), none, none]) ?_ ?_; focus exact rfl) | (refine Rg.sgG (σ' := [some (.ref im), some (.ref B.ml), some (.int (fdOf b n)), some (.int o), some (.int wh), some (.ref B.ca), some (.ref B.ho), some (.ref B.st), some (.ref D2), some (.int (x : Int)), some (.ref r0), none, none]) ?_ ?_; focus exact rfl)))
    refine ⟨_, rfl, im, _, _, rfl, I3.ob, rfl, _, rfl, _, rfl, im, A, v, b, n, sl, x, o, rfl, I3, x1, hbx, ho, fun H4 q4 nq4 I4 k4 => ?_⟩
    have W3 := W.same S3
    have D4 := W3.img k4
    have ap4 : ∀ a ∈ B.own, a ∉ ({ A with rs := A.rs.set x q4 } : IA).reads im := fun a ha z => by
      rcases reads_set z with y | y
      · exact W.ap a ha y
      · obtain ⟨xs, ex⟩ := D3.held ha
        rw [y, nq4] at ex
        cases ex
    ((try dsimp only); (first | (refine Rg.sg (σ' := [some (.ref im), some (.ref B.ml), some (.int (fdOf b n)), some (.int o), some (.int wh), some (.ref B.ca), some (.ref B.ho), some (.ref B.st), some (.ref D2), some (.int (x : Int)), some (.ref r0), some .non, none]) ?_ ?_; focus exact rfl) | (refine Rg.sgG (σ' := [some (.ref im), some (.ref B.ml), some (.int (fdOf b n)), some (.int o), some (.int wh), some (.ref B.ca), some (.ref B.ho), some (.ref B.st), some (.ref D2), some (.int (x : Int)), some (.ref r0), some .non, none]) ?_ ?_; focus exact rfl)))
    -- cells[x] = zeros
    refine ⟨(by show 8 ≤ sizeLine; decide), ?_⟩
    (intro z n_z; generalize he_z : upd _ z _ = H8; obtain ⟨e_z, s_z, f_z⟩ := new_f he_z n_z; clear he_z)
    have D8 := D4.same s_z
    have hxr : x < B.rs.length := by rw [D.gr.len]; show x < v.M.length; omega
    refine ⟨_, rfl, _, rfl, B.ca, _, _, x, rfl, rfl, D8.gr.out, ixN_nat rfl (by rw [List.length_map]; exact hxr), ?_⟩
    have D9 := D4.swap (i := x) (q := z) (m := List.replicate 8 0) s_z n_z e_z rfl
    generalize hH9 : upd _ B.ca _ = H9 at D9 ⊢
    obtain ⟨_, k9, _⟩ := own_f hH9
    clear hH9
    -- the map
    have hm1 : 2 + x / 8 ≠ x := by unfold fdOf at x1; omega
    have hl1 : 2 + x / 8 < v.M.length := by unfold fdOf at x1; omega
    obtain ⟨m1, em1⟩ : ∃ m, v.M[2 + x / 8]? = some m := ⟨_, List.getElem?_eq_getElem hl1⟩
    have em1' : (v.M.set x (List.replicate 8 0))[2 + x / 8]? = some m1 := by rw [List.getElem?_set_ne (fun y => hm1 y.symm)]; exact em1
    obtain ⟨r1, er1, er1c, _⟩ := D9.gr.get em1'
    have er1 : (B.rs.set x z)[2 + x / 8]? = some r1 := er1
    have er1b : B.rs[2 + x / 8]? = some r1 := by rw [List.getElem?_set_ne (fun y => hm1 y.symm)] at er1; exact er1
    have l81 : m1.length = 8 := D.d1 _ (List.mem_of_getElem? em1)
    refine ⟨_, rfl, _, rfl, _, _, rfl, rfl, (CDiv8 _), _, _, rfl, rfl, B.ca, _, _, .ref r1, rfl, rfl, .of D9.gr.out, at_of (j := 2 + x / 8) (by omega) (by rw [List.getElem?_map]; show ((B.rs.set x z)[2 + x / 8]?).map V.ref = _; rw [er1]; rfl), ?_⟩
    ((try dsimp only); (first | (refine Rg.sg (σ' := [some (.ref im), some (.ref B.ml), some (.int (fdOf b n)), some (.int o), some (.int wh), some (.ref B.ca), some (.ref B.ho), some (.ref B.st), some (.ref D2), some (.int (x : Int)), some (.ref r0), some .non, some (.ref r1)]) ?_ ?_; focus exact rfl) | (refine Rg.sgG (σ' := [some (.ref im), some (.ref B.ml), some (.int (fdOf b n)), some (.int o), some (.int wh), some (.ref B.ca), some (.ref B.ho), some (.ref B.st), some (.ref D2), some (.int (x : Int)), some (.ref r0), some .non, some (.ref r1)]) ?_ ?_; focus exact rfl)))
    refine ⟨_, rfl, _, rfl, .inl ⟨_, rfl, _, _, rfl, rfl, (by show (0 : Int) < 8; decide), r1, _, _, x % 8, rfl, rfl, er1c, ixN_nat (by omega) (by rw [List.length_map, l81]; omega), ?_⟩⟩
    have D10 := D9.setC (i := 2 + x / 8) (j := x % 8) (x := 0) er1 em1'
    generalize hH10 : upd _ r1 _ = H10 at D10 ⊢
    obtain ⟨_, k10, _⟩ := own_f hH10
    clear hH10
    refine ⟨_, rfl, _, rfl, B.ho, _, _, x, rfl, rfl, D10.ho, ixN_nat rfl (by rw [List.length_map]; show x < v.ho.length; have := I.d2; omega), ?_⟩
    have D11 := D10.putHo (i := x) (x := 0)
    generalize hH11 : upd _ B.ho _ = H11 at D11 ⊢
    obtain ⟨_, k11, _⟩ := own_f hH11
    clear hH11
    refine ⟨_, rfl, _, rfl, B.st, _, _, x, rfl, rfl, D11.st, ixN_nat rfl (by rw [List.length_map]; show x < v.st.length; have := I.d3; omega), ?_⟩
    have D12 := D11.putSt (i := x) (x := 0)
    generalize hH12 : upd _ B.st _ = H12 at D12 ⊢
    obtain ⟨_, k12, _⟩ := own_f hH12
    clear hH12
    have x0 : x ≠ 0 := by unfold fdOf at x1; omega
    have em0' : (setC (v.M.set x (List.replicate 8 0)) (2 + x / 8) (x % 8) 0)[0]? = some m0 := by rw [setC_ne (by omega), List.getElem?_set_ne x0]; exact hm0
    have er0' : (B.rs.set x z)[0]? = some r0 := by rw [List.getElem?_set_ne x0]; exact er0
    have er0d := D12.gr.row 0 r0 m0 er0' em0'
    refine ⟨_, rfl, _, rfl, r0, _, _, _, rfl, rfl, .of er0d, ato, _, _, rfl, rfl, _, rfl, _, rfl, r0, _, _, o, rfl, rfl, er0d, ixN_nat rfl (by rw [List.length_map]; omega), ?_⟩
    have D13 := D12.setC (i := 0) (j := o) (x := cellAt v.M 0 o - 1) er0' em0'
    generalize hH13 : upd _ r0 _ = H13 at D13 ⊢
    obtain ⟨_, k13, _⟩ := own_f hH13
    clear hH13
    have ev : giveV v x o = { v with M := setC (setC (v.M.set x (List.replicate 8 0)) (2 + x / 8) (x % 8) 0) 0 o (cellAt v.M 0 o - 1), ho := v.ho.set x 0, st := v.st.set x 0 } := by
      unfold giveV putB
      rw [setC_set (fun y => hm1 y.symm)]
    have K8 : Kp B.own H4 H8 := Kp.of s_z
    have K13 : Kp B.own H4 H13 := kpIn (kpIn (kpIn (kpIn (kpIn K8 k9 (by simp [MA.own])) k10 (by simp [MA.own, List.mem_of_getElem? er1b])) k11 (by simp [MA.own])) k12 (by simp [MA.own])) k13 (by simp [MA.own, List.mem_of_getElem? er0])
    have nz4 : H4 z = none := n_z
    have nz3 : H z = none ∨ z ∈ A.rs := by
      by_cases e : z ∈ A.ca :: A.ho :: A.st :: A.rs
      · have hr : z ∈ ({ A with rs := A.rs.set x q4 } : IA).reads im ∨ z ∈ A.rs := by
          simp only [List.mem_cons] at e
          rcases e with rfl | rfl | rfl | e
          · exact .inl (by simp [IA.reads])
          · exact .inl (by simp [IA.reads])
          · exact .inl (by simp [IA.reads])
          · exact .inr e
        rcases hr with e | e
        · obtain ⟨u, eu⟩ := I4.held e
          rw [nz4] at eu
          cases eu
        · exact .inr e
      · exact .inl (S3.free (k4.free e nz4))
    refine ⟨_, rfl, rfl, ?_⟩
    rw [decide_eq_true rfl]
    refine k2 x H13 q4 z x1 hbx e2 (S3.free nq4) nz3 (Tw.of I4 ap4 K13 ?_ fun a ha => (own_set ha).imp id fun z => by rw [z]; exact nz4) ?_
    · rw [ev]
      exact D13
    · exact fun a u ea na => K13 a u (k4 a u (S3 _ _ ea) fun z => na (List.mem_append_left _ z)) fun z => na (List.mem_append_right _ z)
end
end K78
namespace K78
open PySem PySem.Spec PyProof.Rows L2 Rg
/-- one row written in both -/
theorem Tw.put2 {CI CP : Addr} {H : Hp} {im : Addr} {A : IA} {v : IV} {B : MA} {l : List (Int × Int)} {b n s : Int} (W : Tw CI CP H im A v B l b n s) {x : Nat} {rI rM : Addr} {m' : List Int} (hI : A.rs[x]? = some rI) (hM : B.rs[x]? = some rM) (hm : m'.length = 8) :
    MdAt (upd H rI (.lst (m'.map V.int))) B { v with hd := l } b n s ∧ Tw CI CP (upd (upd H rI (.lst (m'.map V.int))) rM (.lst (m'.map V.int))) im A { v with M := v.M.set x m' } B l b n s := by
  have rin : rI ∈ A.rs := List.mem_of_getElem? hI
  have rim : rM ∈ B.rs := List.mem_of_getElem? hM
  have D1 : MdAt (upd H rI (.lst (m'.map V.int))) B { v with hd := l } b n s := W.img (Kp.refl.own (by simp [rin]))
  refine ⟨D1, Tw.of (W.I.putRow hI hm) W.ap (Kp.refl.own (by simp [MA.own, rim])) (D1.putRow hM hm) fun a ha => .inl ha⟩
theorem md_n {H H' : Hp} {B : MA} {v : IV} {b n s : Int} (D : MdAt H B v b n s) {S : List Addr} (k : Kp S H H') (h1 : ∀ x ∈ S, x ∉ B.own) (h2 : ∀ x ∈ S, ∃ xs, H x = some (.lst xs)) : MdAt H' B v b n s :=
  D.kp k h1 fun x hx o e => by
    obtain ⟨xs, ex⟩ := h2 x hx
    rw [ex] at e
    exact .inl ⟨xs, (Option.some.inj e).symm⟩
section
variable {P : Program} {w : World} {K : PySem.W.Frag} {mg : Str → Option Value} {base : Heap}
/-! ### _law_put -/
def sp_Lput (CI CP : Addr) : Sp := fun vs H Q _ => ∃ (im : Addr) (A : IA) (v : IV) (B : MA) (l : List (Int × Int)) (b n s : Int) (B0 : MA) (v0 : IV) (dq : Addr) (act wh num : Int), vs = [.ref im, .ref B.ml, .ref B0.ml, .int ((b + 7) / 8), .int (fdOf b n), .ref dq] ∧ Tw CI CP H im A v B l b n s ∧ MdAt H B0 v0 b n s ∧ (∀ x ∈ B0.own, x ∉ A.reads im ∧ x ∉ B.own) ∧ H dq = some (.tup [.int act, .int wh, .int num]) ∧
  (∀ (x : Nat) (m : List Int) H', (x = 1 ∨ 1 + (b + 7) / 8 < (x : Int)) → (x : Int) < b → m.length = 8 → Tw CI CP H' im A { v with M := v.M.set x m } B l b n s → Kp (A.rs ++ B.rs) H H' → Q .non H')
theorem ok_Lput (T : Tx K mg) : FnOk P w K mg base CX0 2 T.f_Lput T.fd_Lput ["_law_image", "_law_model", "_law_before", "_law_maps", "_law_first", "_law_draw"] (sp_Lput T.C_Image T.C_Plan) := by
  refine T.F_Lput.ok sc_Lput (fun vs H Q E h => ?_) (fun cdv A0 outer s H vs Q E hr h => ?_)
  · obtain ⟨_, _, _, _, _, _, _, _, _, _, _, _, _, _, rfl, _⟩ := h; rfl
  · obtain ⟨im, A, v, B, l, b, n, sl, B0, v0, dq, act, wh, num, rfl, W, D0, ap0, eq, k⟩ := h
    refine ⟨_, (pss_cons (ps_asg (pv 5) (pg_tup rfl (pgs_cons (pg_name (i := 6) sc_Lput.nd rfl (.inl rfl)) (pgs_cons (pg_name (i := 7) sc_Lput.nd rfl (.inl rfl)) (pgs_cons (pg_name (i := 8) sc_Lput.nd rfl (.inl rfl)) pgs_nil)))))
      (pss_cons (ps_set (i := 9) sc_Lput.nd rfl (.inr rfl) (pe_ix ix_list (pv 1) pe_int (fun _ _ => rfl)))
      (pss_cons (ps_setLc (i := 10) (own := [("_law_x", 11)]) (g := gName 11) (tt := _) rfl sc_Lput.nd rfl rfl (sw_true rfl rfl rfl (by decide +kernel)) (pi_range1 rfl T.b_range (pa_cons (pe_callB call_len_seq rfl T.b_len (by decide +kernel) (pa_cons (pv 9) pa_nil)) pa_nil)) (blkOk_by (N := ["_law_image", "_law_model", "_law_before", "_law_maps", "_law_first", "_law_draw", "_law_act", "_law_where", "_law_number", "_law_cells", "_law_held", "_law_x", "_law_row", "_law_due", "_law_j"]) (sc := defScope s_Lput) (by decide +kernel)) (fun _ _ _ _ _ => pg_name (i := 11) sc_Lput.nd rfl (Or.inl rfl)) (fun _ _ _ _ _ => pts_one (PW.pt (pw_or (pt_cmpR op_eq (pv 11) pe_int (nomark _)) (pw_or1 (PW.pt (pw_and (pt_cmpR op_gt (pv 11) (pe_op op_add pe_int (pv 3)) (nomark _)) (pw_and1 (pt_cmpR op_gt (pe_call (ok_Lkind T) hr rfl T.mg_Lkind T.F_Lkind.kp (b_Lkind T) .nil pass0 (pa_cons (pv 9) (pa_cons (pv 4) (pa_cons (pv 11) pa_nil)))) pe_int (nomark _))))))))) (fun _ _ _ _ _ => (pv 11)))
      (pss_cons (ps_set (i := 11) sc_Lput.nd rfl (.inl rfl) (pe_ix ix_list (pv 10) (pe_op op_mod (pe_callTy call_int1 rfl T.b_int (by decide +kernel) (pa_cons (pv 7) pa_nil)) (pe_callB call_len_seq rfl T.b_len (by decide +kernel) (pa_cons (pv 10) pa_nil))) (fun _ _ => rfl)))
      (pss_cons (ps_set (i := 12) sc_Lput.nd rfl (.inl rfl) (pe_ix ix_list (pe_fld (pv 0) rfl) (pv 11) (fun _ _ => rfl)))
      (pss_cons (ps_set (i := 13) sc_Lput.nd rfl (.inl rfl) (pe_ix ix_list (pv 9) (pv 11) (fun _ _ => rfl)))
      (pss_one (ps_if (pt_cmpR op_eq (pv 6) pe_int (nomark _))
        (pss_one (ps_for PassesOwn.never rfl (pi_range1 rfl T.b_range (pa_cons pe_int pa_nil)) (pg_name (i := 14) sc_Lput.nd rfl (.inl rfl))
          (pss_cons (ps_asg (pe_ix ix_list (pe_ix ix_list (pe_ix ix_list (pv 2) pe_int (fun _ _ => rfl)) (pv 11) (fun _ _ => rfl)) (pv 14) (fun _ _ => rfl)) (pg_sub (pv 12) (pv 14) set_list))
          (pss_one (ps_asg (pe_ix ix_list (pe_ix ix_list (pe_ix ix_list (pv 2) pe_int (fun _ _ => rfl)) (pv 11) (fun _ _ => rfl)) (pv 14) (fun _ _ => rfl)) (pg_sub (pv 13) (pv 14) set_list))))))
        (pss_cons (ps_asg (pv 8) (pg_sub (pv 12) (pe_op op_mod (pe_callTy call_int1 rfl T.b_int (by decide +kernel) (pa_cons (pv 8) pa_nil)) pe_int) set_list))
        (pss_one (ps_asg (pv 8) (pg_sub (pv 13) (pe_op op_mod (pe_callTy call_int1 rfl T.b_int (by decide +kernel) (pa_cons (pv 8) pa_nil)) pe_int) set_list)))))))))))), ?_⟩
    have D := W.D
    have I := W.I
    have b1 := I.pl.b1
    have b2 := I.pl.b2
    have n1 := I.pl.n1
    have dd := I.pl.d
    have d0 := D.d0
    have d0 : (v.M.length : Int) = b := d0
    refine ⟨_, rfl, dq, _, rfl, .of eq, rfl, _, _, rfl, _, _, rfl, _, _, rfl, rfl, ?_⟩
    ((try dsimp only); (first | (refine Rg.sg (σ' := [some (.ref im), some (.ref B.ml), some (.ref B0.ml), some (.int ((b + 7) / 8)), some (.int (fdOf b n)), some (.ref dq), some (.int act), some (.int wh), some (.int num), none, none, none, none, none, none]) ?_ ?_; focus exact rfl) | (refine Rg.sgG (σ' := [some (.ref im), some (.ref B.ml), some (.ref B0.ml), some (.int ((b + 7) / 8)), some (.int (fdOf b n)), some (.ref dq), some (.int act), some (.int wh), some (.int num), none, none, none, none, none, none]) ?_ ?_; focus exact rfl)))
    refine ⟨_, rfl, B.ml, _, 0, .ref B.ca, rfl, rfl, md0 D, rfl, ?_⟩
    ((try dsimp only); (first | (refine Rg.sg (σ' := [some (.ref im), some (.ref B.ml), some (.ref B0.ml), some (.int ((b + 7) / 8)), some (.int (fdOf b n)), some (.ref dq), some (.int act), some (.int wh), some (.int num), some (.ref B.ca), none, none, none, none, none]) ?_ ?_; focus exact rfl) | (refine Rg.sgG (σ' := [some (.ref im), some (.ref B.ml), some (.ref B0.ml), some (.int ((b + 7) / 8)), some (.int (fdOf b n)), some (.ref dq), some (.int act), some (.int wh), some (.int num), some (.ref B.ca), none, none, none, none, none]) ?_ ?_; focus exact rfl)))
    have ec : ((B.rs.map V.ref).length : Int) = b := by rw [List.length_map, D.gr.len]; exact d0
    refine ⟨_, rfl, B.ca, _, rfl, .inl (.of D.gr.out), _, rfl, ?_⟩
    rw [ec]
    refine ⟨by omega, by omega, fun D2 hD2 => ?_⟩
    have hl : (rng 0 b.toNat).length < 1000 := by rw [rng_len]; omega
    refine lc_range (lo := 0) (n := b.toNat) (PvF H D2 (rng 0 b.toNat) fun x => decide (x = 1) || (decide (1 + (b + 7) / 8 < x) && decide (0 < kindOf b n v.M x))) (PvF.start hD2) ?_ ?_
    · rintro j H' hj Pv
      have D3 := D.same Pv.1
      refine ⟨rfl, _, rfl, rfl, _, rfl, wI (fun e1 => ?_) (fun e1 => ?_)⟩
      · exact ⟨_, rfl, Pv.yes hD2 (Same.refl _) (rng_get hj) hl (by rw [decide_eq_true e1]; rfl)⟩
      · refine ⟨_, rfl, _, rfl, _, _, rfl, rfl, _, _, rfl, rfl, _, rfl, wD (fun e2 => ?_) (fun e2 => ?_)⟩
        · refine ⟨_, rfl, _, rfl, _, rfl, B.ca, B.rs, v.M, b, n, _, rfl, D3.gr, d0, D3.d1, by omega, by omega, by omega, _, _, rfl, rfl, _, rfl, wD (fun e3 => ?_) fun e3 => ?_⟩
          · exact ⟨_, rfl, Pv.yes hD2 (Same.refl _) (rng_get hj) hl (by rw [decide_eq_true e2, decide_eq_true e3, Bool.and_true, Bool.or_true])⟩
          · exact Pv.no (Same.refl _) (rng_get hj) (by rw [decide_eq_false e1, decide_eq_false e3, Bool.and_false]; rfl)
        · exact Pv.no (Same.refl _) (rng_get hj) (by rw [decide_eq_false e1, decide_eq_false e2]; rfl)
    intro H3 Pv
    obtain ⟨s3, e3⟩ := Pv.all (by rw [rng_len])
    obtain ⟨L, eL⟩ : ∃ L, L = (rng 0 b.toNat).filter fun x => decide (x = 1) || (decide (1 + (b + 7) / 8 < x) && decide (0 < kindOf b n v.M x)) := ⟨_, rfl⟩
    rw [← eL] at e3
    have L0 : 0 < L.length := by
      have m1 : (1 : Int) ∈ L := by
        rw [eL, List.mem_filter]
        exact ⟨List.mem_of_getElem? (i := 1) (rng_get (lo := 0) (by omega)), rfl⟩
      exact List.length_pos_of_mem m1
    have e1 : (0 : Int) < (L.length : Int) := by omega
    ((try dsimp only); (first | (refine Rg.sg (σ' := [some (.ref im), some (.ref B.ml), some (.ref B0.ml), some (.int ((b + 7) / 8)), some (.int (fdOf b n)), some (.ref dq), some (.int act), some (.int wh), some (.int num), some (.ref B.ca), some (.ref D2), none, none, none, none]) ?_ ?_; focus exact rfl) | (refine Rg.sgG (σ' := [some (.ref im), some (.ref B.ml), some (.ref B0.ml), some (.int ((b + 7) / 8)), some (.int (fdOf b n)), some (.ref dq), some (.int act), some (.int wh), some (.int num), some (.ref B.ca), some (.ref D2), none, none, none, none]) ?_ ?_; focus exact rfl)))
    have hi : (wh % (L.length : Int)).toNat < L.length := by
      have h1 := Int.emod_nonneg wh (show (L.length : Int) ≠ 0 by omega)
      have h2 := Int.emod_lt_of_pos wh e1
      omega
    obtain ⟨x, hx⟩ : ∃ x, L[(wh % (L.length : Int)).toNat]? = some x := ⟨_, List.getElem?_eq_getElem hi⟩
    have hxm := List.mem_of_getElem? hx
    rw [eL, List.mem_filter] at hxm
    obtain ⟨x1, x2⟩ := rng_mem hxm.1
    obtain ⟨x, rfl⟩ : ∃ y : Nat, x = (y : Int) := ⟨x.toNat, by omega⟩
    have hbx : (x : Int) < b := by omega
    have hxc : x = 1 ∨ 1 + (b + 7) / 8 < (x : Int) := by
      have := hxm.2
      rw [Bool.or_eq_true, Bool.and_eq_true, decide_eq_true_iff, decide_eq_true_iff] at this
      rcases this with z | z
      · exact .inl (by omega)
      · exact .inr z.1
    refine ⟨_, rfl, _, rfl, .inl ⟨_, rfl, _, rfl, D2, _, rfl, .inl (.of e3), ?_⟩⟩
    rw [List.length_map]
    refine ⟨_, _, rfl, rfl, e1, D2, _, _, .int (x : Int), rfl, rfl, .of e3, at_of (j := (wh % (L.length : Int)).toNat) (by have := Int.emod_nonneg wh (show (L.length : Int) ≠ 0 by omega); omega) (by rw [List.getElem?_map, hx]; rfl), ?_⟩
    have W3 := W.same s3
    have I3 := W3.I
    have D3 := W3.D
    have hxM : x < v.M.length := by omega
    obtain ⟨m0, em0⟩ : ∃ m, v.M[x]? = some m := ⟨_, List.getElem?_eq_getElem hxM⟩
    obtain ⟨rI, eI, eIc, _⟩ := I3.gr.get em0
    obtain ⟨rM, eM, eMc, _⟩ := D3.gr.get em0
    have l8 : m0.length = 8 := I3.d1 _ (List.mem_of_getElem? em0)
    ((try dsimp only); (first | (refine Rg.sg (σ' := [some (.ref im), some (.ref B.ml), some (.ref B0.ml), some (.int ((b + 7) / 8)), some (.int (fdOf b n)), some (.ref dq), some (.int act), some (.int wh), some (.int num), some (.ref B.ca), some (.ref D2), some (.int (x : Int)), none, none, none]) ?_ ?_; focus exact rfl) | (refine Rg.sgG (σ' := [some (.ref im), some (.ref B.ml), some (.ref B0.ml), some (.int ((b + 7) / 8)), some (.int (fdOf b n)), some (.ref dq), some (.int act), some (.int wh), some (.int num), some (.ref B.ca), some (.ref D2), some (.int (x : Int)), none, none, none]) ?_ ?_; focus exact rfl)))
    refine ⟨_, rfl, im, _, _, _, _, rfl, I3.ob, T.cl_Image, T.na_Image_cells, rfl, _, rfl, A.ca, _, _, .ref rI, rfl, rfl, .of I3.gr.out, atI_nat (by rw [List.getElem?_map, eI]; rfl), ?_⟩
    ((try dsimp only); (first | (refine Rg.sg (σ' := [some (.ref im), some (.ref B.ml), some (.ref B0.ml), some (.int ((b + 7) / 8)), some (.int (fdOf b n)), some (.ref dq), some (.int act), some (.int wh), some (.int num), some (.ref B.ca), some (.ref D2), some (.int (x : Int)), some (.ref rI), none, none]) ?_ ?_; focus exact rfl) | (refine Rg.sgG (σ' := [some (.ref im), some (.ref B.ml), some (.ref B0.ml), some (.int ((b + 7) / 8)), some (.int (fdOf b n)), some (.ref dq), some (.int act), some (.int wh), some (.int num), some (.ref B.ca), some (.ref D2), some (.int (x : Int)), some (.ref rI), none, none]) ?_ ?_; focus exact rfl)))
    refine ⟨_, rfl, _, rfl, B.ca, _, _, .ref rM, rfl, rfl, .of D3.gr.out, atI_nat (by rw [List.getElem?_map, eM]; rfl), ?_⟩
    ((try dsimp only); (first | (refine Rg.sg (σ' := [some (.ref im), some (.ref B.ml), some (.ref B0.ml), some (.int ((b + 7) / 8)), some (.int (fdOf b n)), some (.ref dq), some (.int act), some (.int wh), some (.int num), some (.ref B.ca), some (.ref D2), some (.int (x : Int)), some (.ref rI), some (.ref rM), none]) ?_ ?_; focus exact rfl) | (refine Rg.sgG (σ' := [some (.ref im), some (.ref B.ml), some (.ref B0.ml), some (.int ((b + 7) / 8)), some (.int (fdOf b n)), some (.ref dq), some (.int act), some (.int wh), some (.int num), some (.ref B.ca), some (.ref D2), some (.int (x : Int)), some (.ref rI), some (.ref rM), none]) ?_ ?_; focus exact rfl)))
    have inI : rI ∈ A.rs := List.mem_of_getElem? eI
    have inM : rM ∈ B.rs := List.mem_of_getElem? eM
    have D03 := D0.same s3
    have vset : ∀ (m m' : List Int), ({ ({ v with M := v.M.set x m } : IV) with M := ({ v with M := v.M.set x m } : IV).M.set x m' } : IV) = { v with M := v.M.set x m' } := fun m m' => by
      show ({ v with M := (v.M.set x m).set x m' } : IV) = _
      rw [List.set_set]
    have hS : ∀ y ∈ ([rI, rM] : List Addr), y ∈ A.rs ++ B.rs := fun y hy => by
      simp only [List.mem_cons, List.not_mem_nil, or_false] at hy
      rcases hy with rfl | rfl
      · exact List.mem_append_left _ inI
      · exact List.mem_append_right _ inM
    have v00 : ({ v with M := v.M.set x m0 } : IV) = v := by
      have : v.M.set x m0 = v.M := by
        apply List.ext_getElem?
        intro j
        by_cases e : x = j
        · subst e
          rw [List.getElem?_set_self hxM, em0]
        · rw [List.getElem?_set_ne e]
      rw [this]
    refine ⟨_, rfl, rfl, _, rfl, wI (fun ea => ?_) (fun ea => ?_)⟩
    · -- the row as it was
      refine ⟨_, rfl, by omega, by omega, for_range (lo := 0) (n := (8 : Int).toNat) (fun i σ H' => ∃ (u : Option V) (m : List Int), σ = [some (.ref im), some (.ref B.ml), some (.ref B0.ml), some (.int ((b + 7) / 8)), some (.int (fdOf b n)), some (.ref dq), some (.int act), some (.int wh), some (.int num), some (.ref B.ca), some (.ref D2), some (.int (x : Int)), some (.ref rI), some (.ref rM), u] ∧ m.length = 8 ∧ Tw T.C_Image T.C_Plan H' im A { v with M := v.M.set x m } B l b n sl ∧ Kp (A.rs ++ B.rs) H H' ∧ MdAt H' B0 v0 b n sl) ⟨none, m0, rfl, l8, by rw [v00]; exact W3, Kp.of s3, D03⟩ ?_ ?_⟩
      · rintro i σ H4 hi ⟨u, m, rfl, lm, W4, K4, D04⟩
        have hi8 : i < 8 := by omega
        rw [show (0 : Int) + (i : Int) = (i : Int) by omega]
        ((try dsimp only); (first | (refine Rg.sg (σ' := [some (.ref im), some (.ref B.ml), some (.ref B0.ml), some (.int ((b + 7) / 8)), some (.int (fdOf b n)), some (.ref dq), some (.int act), some (.int wh), some (.int num), some (.ref B.ca), some (.ref D2), some (.int (x : Int)), some (.ref rI), some (.ref rM), some (.int (i : Int))]) ?_ ?_; focus exact rfl) | (refine Rg.sgG (σ' := [some (.ref im), some (.ref B.ml), some (.ref B0.ml), some (.int ((b + 7) / 8)), some (.int (fdOf b n)), some (.ref dq), some (.int act), some (.int wh), some (.int num), some (.ref B.ca), some (.ref D2), some (.int (x : Int)), some (.ref rI), some (.ref rM), some (.int (i : Int))]) ?_ ?_; focus exact rfl)))
        have hxM4 : x < (v.M.set x m).length := by rw [List.length_set]; exact hxM
        have em4 : (v.M.set x m)[x]? = some m := List.getElem?_set_self hxM
        have x0M : x < v0.M.length := by have := D0.d0; omega
        obtain ⟨mb, emb⟩ : ∃ m, v0.M[x]? = some m := ⟨_, List.getElem?_eq_getElem x0M⟩
        have lmb : mb.length = 8 := D0.d1 _ (List.mem_of_getElem? emb)
        obtain ⟨rb, erb, erbc, _⟩ := D04.gr.get emb
        have hc : mb[i]? = some mb[i] := List.getElem?_eq_getElem (by omega)
        generalize mb[i] = c at hc
        refine ⟨_, rfl, B0.ml, _, 0, .ref B0.ca, rfl, rfl, md0 D04, rfl, _, rfl, B0.ca, _, _, .ref rb, rfl, rfl, .of D04.gr.out, atI_nat (by rw [List.getElem?_map, erb]; rfl), _, rfl, rb, _, _, .int c, rfl, rfl, .of erbc, atI_nat (by rw [List.getElem?_map, hc]; rfl), _, rfl, _, rfl, rI, _, _, i, rfl, rfl, W4.I.gr.row x rI m eI em4, ixN_nat rfl (by rw [List.length_map]; omega), ?_⟩
        have es : (m.map V.int).set i (.int c) = (m.set i c).map V.int := List.map_set.symm
        rw [es]
        obtain ⟨D5, W5⟩ := W4.put2 (m' := m.set i c) eI eM (by rw [List.length_set]; exact lm)
        rw [vset] at W5
        generalize hH5 : upd H4 rI _ = H5 at D5 W5 ⊢
        obtain ⟨_, k5, _⟩ := own_f hH5
        clear hH5
        have D05 := md_n D04 k5 (fun y hy z => by rw [List.mem_singleton.mp hy] at z; exact (ap0 rI z).1 (by simp [IA.reads, inI])) (fun y hy => by rw [List.mem_singleton.mp hy]; exact ⟨_, W4.I.gr.row x rI m eI em4⟩)
        obtain ⟨rb2, erb2, erbc2, _⟩ := D05.gr.get emb
        refine ⟨_, rfl, B0.ml, _, 0, .ref B0.ca, rfl, rfl, md0 D05, rfl, _, rfl, B0.ca, _, _, .ref rb2, rfl, rfl, .of D05.gr.out, atI_nat (by rw [List.getElem?_map, erb2]; rfl), _, rfl, rb2, _, _, .int c, rfl, rfl, .of erbc2, atI_nat (by rw [List.getElem?_map, hc]; rfl), _, rfl, _, rfl, rM, _, _, i, rfl, rfl, D5.gr.row x rM m eM em4, ixN_nat rfl (by rw [List.length_map]; omega), ?_⟩
        rw [es]
        generalize hH6 : upd H5 rM _ = H6 at W5 ⊢
        obtain ⟨_, k6, _⟩ := own_f hH6
        clear hH6
        have D06 := md_n D05 k6 (fun y hy z => by rw [List.mem_singleton.mp hy] at z; exact (ap0 rM z).2 (by simp [MA.own, inM])) (fun y hy => by rw [List.mem_singleton.mp hy]; exact ⟨_, D5.gr.row x rM m eM em4⟩)
        exact ⟨_, m.set i c, rfl, by rw [List.length_set]; exact lm, W5, kpIn (kpIn K4 k5 (List.mem_append_left _ inI)) k6 (List.mem_append_right _ inM), D06⟩
      · rintro σ H4 ⟨u, m, rfl, lm, W4, K4, D04⟩
        exact k x m H4 hxc hbx lm W4 K4
    · -- one cell
      obtain ⟨j, ej⟩ : ∃ j : Nat, num % 8 = (j : Int) := ⟨(num % 8).toNat, by omega⟩
      have j8 : j < 8 := by omega
      refine ⟨_, rfl, _, rfl, _, rfl, .inl ⟨_, rfl, _, _, rfl, rfl, (by show (0 : Int) < 8; decide), rI, _, _, j, rfl, rfl, eIc, ixN_nat ej (by rw [List.length_map]; omega), ?_⟩⟩
      have es : (m0.map V.int).set j (.int num) = (m0.set j num).map V.int := List.map_set.symm
      rw [es]
      obtain ⟨D5, W5⟩ := W3.put2 (m' := m0.set j num) eI eM (by rw [List.length_set]; exact l8)
      generalize hH5 : upd H3 rI _ = H5 at D5 W5 ⊢
      obtain ⟨_, k5, _⟩ := own_f hH5
      clear hH5
      refine ⟨_, rfl, _, rfl, _, rfl, .inl ⟨_, rfl, _, _, rfl, rfl, (by show (0 : Int) < 8; decide), rM, _, _, j, rfl, rfl, D5.gr.row x rM m0 eM em0, ixN_nat ej (by rw [List.length_map]; omega), ?_⟩⟩
      rw [es]
      generalize hH6 : upd H5 rM _ = H6 at W5 ⊢
      obtain ⟨_, k6, _⟩ := own_f hH6
      clear hH6
      exact k x (m0.set j num) H6 hxc hbx (by rw [List.length_set]; exact l8) W5 (kpIn (kpIn (Kp.of s3) k5 (List.mem_append_left _ inI)) k6 (List.mem_append_right _ inM))
end
end K78
namespace K78
open PySem PySem.Spec PyProof.Rows L2 Rg
/-- within a deed: the twin, the model, the copy of it, what the caller holds -/
structure Stp (CI CP : Addr) (Hs H : Hp) (im : Addr) (A : IA) (v : IV) (B : MA) (l : List (Int × Int)) (b n s : Int) (B0 : MA) (v0 : IV) (Bs : MA) (c : Int) : Prop where
  W : Tw CI CP H im A v B l b n s
  D0 : MdAt H B0 v0 b n s
  O : Okv b n v c
  ap0 : ∀ x ∈ B0.own, x ∉ A.reads im ∧ x ∉ B.own
  k : Kp Bs.own Hs H
  nb : ∀ x ∈ B.own, x ∈ Bs.own ∨ Hs x = none
  na : ∀ x ∈ A.ca :: A.ho :: A.st :: A.rs, x ∈ Bs.own ∨ Hs x = none
  nd : Hs A.hd = none
section
variable {CI CP : Addr} {Hs H H' : Hp} {im : Addr} {A A' : IA} {v v' : IV} {B B' : MA} {l : List (Int × Int)} {b n s : Int} {B0 : MA} {v0 : IV} {Bs : MA} {c c' : Int}
theorem Stp.new (S : Stp CI CP Hs H im A v B l b n s B0 v0 Bs c) {x : Addr} (h : H x = none) : x ∈ Bs.own ∨ Hs x = none := by
  by_cases e : x ∈ Bs.own
  · exact .inl e
  · exact .inr (S.k.free e h)
theorem Stp.same (S : Stp CI CP Hs H im A v B l b n s B0 v0 Bs c) (h : Same H H') (hc : c ≤ c') : Stp CI CP Hs H' im A v B l b n s B0 v0 Bs c' :=
  ⟨S.W.same h, S.D0.same h, S.O.mono hc, S.ap0, S.k.same h, S.nb, S.na, S.nd⟩
theorem Stp.step (S : Stp CI CP Hs H im A v B l b n s B0 v0 Bs c) (W' : Tw CI CP H' im A' v' B' l b n s) (O' : Okv b n v' c') (k' : Kp ((A.ca :: A.ho :: A.st :: A.rs) ++ B.own) H H') (hd : A'.hd = A.hd)
    (nA : ∀ x ∈ A'.reads im, x ∈ A.reads im ∨ H x = none) (nA2 : ∀ x ∈ A'.ca :: A'.ho :: A'.st :: A'.rs, x ∈ A.ca :: A.ho :: A.st :: A.rs ∨ H x = none) (nB : ∀ x ∈ B'.own, x ∈ B.own ∨ H x = none ∨ x ∈ A.rs) : Stp CI CP Hs H' im A' v' B' l b n s B0 v0 Bs c' where
  W := W'
  D0 := md_n S.D0 k' (fun x hx z => by
      rcases List.mem_append.mp hx with e | e
      · exact (S.ap0 x z).1 (lists_reads e)
      · exact (S.ap0 x z).2 e) (fun x hx => by
      rcases List.mem_append.mp hx with e | e
      · exact S.W.I.lists e
      · exact S.W.D.held e)
  O := O'
  ap0 := fun x hx => by
    have held : H x ≠ none := fun z => by
      obtain ⟨xs, ex⟩ := S.D0.held hx
      rw [z] at ex
      cases ex
    refine ⟨fun z => ?_, fun z => ?_⟩
    · rcases nA x z with e | e
      · exact (S.ap0 x hx).1 e
      · exact held e
    · rcases nB x z with e | e | e
      · exact (S.ap0 x hx).2 e
      · exact held e
      · exact (S.ap0 x hx).1 (lists_reads (by simp [e]))
  k := fun x o e nx => k' x o (S.k x o e nx) fun z => by
    rcases List.mem_append.mp z with q | q
    · rcases S.na x q with r | r
      · exact nx r
      · rw [r] at e; cases e
    · rcases S.nb x q with r | r
      · exact nx r
      · rw [r] at e; cases e
  nb := fun x hx => by
    rcases nB x hx with e | e | e
    · exact S.nb x e
    · exact S.new e
    · exact S.na x (by simp [e])
  na := fun x hx => by
    rcases nA2 x hx with e | e
    · exact S.na x e
    · exact S.new e
  nd := by rw [hd]; exact S.nd
theorem lists_set {A : IA} {x : Nat} {q a : Addr} (h : a ∈ ({ A with rs := A.rs.set x q } : IA).ca :: ({ A with rs := A.rs.set x q } : IA).ho :: ({ A with rs := A.rs.set x q } : IA).st :: ({ A with rs := A.rs.set x q } : IA).rs) : a ∈ A.ca :: A.ho :: A.st :: A.rs ∨ a = q := by
  simp only [List.mem_cons] at h ⊢
  rcases h with h | h | h | h
  · exact .inl (.inl h)
  · exact .inl (.inr (.inl h))
  · exact .inl (.inr (.inr (.inl h)))
  · rcases mem_set_of h with e | e
    · exact .inr e
    · exact .inl (.inr (.inr (.inr e)))
end
/-! ### the draws -/
structure DrwAt (H : Hp) (dq ca hq sa : Addr) (wi : Int) (bs : List Int) (hk hw : Int) (ss : List (Addr × Int × Int)) : Prop where
  q : H dq = some (.tup [.int wi, .ref ca, .ref hq, .ref sa])
  c : H ca = some (.lst (bs.map V.int))
  h : H hq = some (.tup [.int hk, .int hw])
  s : H sa = some (.lst (ss.map fun t => V.ref t.1))
  t : ∀ t ∈ ss, H t.1 = some (.tup [.int t.2.1, .int t.2.2])
theorem DrwAt.kp {H H' : Hp} {dq ca hq sa : Addr} {wi : Int} {bs : List Int} {hk hw : Int} {ss : List (Addr × Int × Int)} (D : DrwAt H dq ca hq sa wi bs hk hw ss) {S : List Addr} (k : Kp S H H') (h : ∀ x ∈ S, ∃ xs, H x = some (.lst xs)) (h1 : ca ∉ S) (h2 : sa ∉ S) : DrwAt H' dq ca hq sa wi bs hk hw ss where
  q := k _ _ D.q fun z => by obtain ⟨xs, e⟩ := h _ z; rw [D.q] at e; cases e
  c := k _ _ D.c h1
  h := k _ _ D.h fun z => by obtain ⟨xs, e⟩ := h _ z; rw [D.h] at e; cases e
  s := k _ _ D.s h2
  t := fun t ht => k _ _ (D.t t ht) fun z => by obtain ⟨xs, e⟩ := h _ z; rw [D.t t ht] at e; cases e
/-! ### handles -/
theorem Srt.put {l hd : List (Int × Int)} {k w : Int} {l' : List (Int × Int)} (h : Srt l hd) (hp : l'.Perm ((l.filter fun p => decide (p.1 ≠ k)) ++ [(k, w)])) (hl : (l'.map (·.1)).Pairwise (· < ·)) :
    ∃ hd', hdK hd' = putK (hdK hd) (Sum.inl k) (.int w) ∧ Srt l' hd' := by
  have nd := h.nd
  have ei : ∀ a : Int, (decide ((Sum.inl a : Key) = Sum.inl k)) = decide (a = k) := fun a => by
    by_cases e : a = k
    · subst e; rw [decide_eq_true rfl, decide_eq_true rfl]
    · rw [decide_eq_false e, decide_eq_false (fun z => e (by injection z))]
  by_cases hk : hd.any (fun p => decide (p.1 = k)) = true
  · refine ⟨hd.map fun p => if p.1 = k then (p.1, w) else p, ?_, ?_, hl⟩
    · unfold putK
      rw [if_pos (by unfold hdK; rw [List.any_map]; rw [← hk]; congr 1; funext p; exact ei p.1)]
      unfold hdK
      rw [List.map_map, List.map_map]
      refine List.map_congr_left fun p _ => ?_
      show (Sum.inl (if p.1 = k then (p.1, w) else p).1, V.int (if p.1 = k then (p.1, w) else p).2) = if (Sum.inl p.1 : Key) = Sum.inl k then (Sum.inl p.1, V.int w) else (Sum.inl p.1, V.int p.2)
      by_cases e : p.1 = k
      · rw [if_pos e, if_pos (by rw [e])]
      · rw [if_neg e, if_neg (fun z => e (by injection z))]
    · refine hp.trans ?_
      have h1 : ((l.filter fun p => decide (p.1 ≠ k)) ++ [(k, w)]).Perm ((hd.filter fun p => decide (p.1 ≠ k)) ++ [(k, w)]) := (h.1.filter _).append_right _
      refine h1.trans ?_
      clear h1 hp h hl
      induction hd with
      | nil => cases hk
      | cons p r ih =>
        rw [List.map_cons, List.nodup_cons] at nd
        by_cases e : p.1 = k
        · have hr : ∀ q ∈ r, q.1 ≠ k := fun q hq z => nd.1 (by rw [e, ← z]; exact List.mem_map.mpr ⟨q, hq, rfl⟩)
          rw [List.filter_cons, if_neg (by rw [decide_eq_false (fun z => z e)]; decide), List.map_cons, if_pos e, List.filter_eq_self.mpr (fun q hq => decide_eq_true (hr q hq))]
          have : (r.map fun p => if p.1 = k then (p.1, w) else p) = r := by
            conv => rhs; rw [← List.map_id r]
            exact List.map_congr_left fun q hq => by rw [if_neg (hr q hq)]; rfl
          rw [this, e]
          exact List.perm_append_comm
        · rw [List.filter_cons, if_pos (decide_eq_true e), List.map_cons, if_neg e, List.cons_append]
          refine List.Perm.cons _ (ih nd.2 ?_)
          rw [List.any_cons, decide_eq_false e, Bool.false_or] at hk
          exact hk
  · have hn : ∀ q ∈ hd, q.1 ≠ k := fun q hq z => hk (List.any_eq_true.mpr ⟨q, hq, decide_eq_true z⟩)
    refine ⟨hd ++ [(k, w)], ?_, ?_, hl⟩
    · unfold putK
      rw [if_neg (by
        intro z
        obtain ⟨q, hq, e⟩ := List.any_eq_true.mp z
        unfold hdK at hq
        obtain ⟨p, hp2, rfl⟩ := List.mem_map.mp hq
        have e := of_decide_eq_true e
        exact hn p hp2 (by injection e))]
      unfold hdK
      rw [List.map_append]
      rfl
    · refine hp.trans ((h.1.filter _).append_right _ |>.trans ?_)
      rw [List.filter_eq_self.mpr (fun q hq => decide_eq_true (hn q hq))]
/-- the handles changed -/
theorem ImgAt.putHd {CI CP : Addr} {H H' : Hp} {im : Addr} {A : IA} {v : IV} {b n s : Int} {hd' : List (Int × Int)} (I : ImgAt CI CP H im A v b n s) (e : H' A.hd = some (.dK (hdK hd'))) (k : Kp [A.hd] H H') : ImgAt CI CP H' im A { v with hd := hd' } b n s := by
  obtain ⟨dxp, hpl⟩ := I.pl.ob
  have ne : ∀ {x : Addr} {o : HO}, H x = some o → (∀ q, o ≠ .dK q) → H' x = some o := fun {x o} ex h => k.at1 ex fun z => by
    rw [z, I.hd] at ex
    exact h _ (Option.some.inj ex).symm
  refine { I with ob := ne I.ob (fun _ z => by cases z), pl := I.pl.of fun o e => ne e (fun _ z => by rw [hpl] at e; cases Option.some.inj e; cases z), gr := ⟨ne I.gr.out (fun _ z => by cases z), I.gr.len, fun i r m a b => ne (I.gr.row i r m a b) (fun _ z => by cases z), I.gr.nd, I.gr.nin⟩, ho := ne I.ho (fun _ z => by cases z), st := ne I.st (fun _ z => by cases z), hd := e, ba := ne I.ba (fun _ z => by cases z) }
theorem Stp.hand {CI CP : Addr} {Hs H H' : Hp} {im : Addr} {A : IA} {v v' : IV} {B B' : MA} {l l' : List (Int × Int)} {b n s : Int} {B0 : MA} {v0 : IV} {Bs : MA} {c c' : Int} (S : Stp CI CP Hs H im A v B l b n s B0 v0 Bs c) (W' : Tw CI CP H' im A v' B' l' b n s) (O' : Okv b n v' c') (k' : Kp (A.hd :: B.own) H H') (nB : ∀ x ∈ B'.own, x ∈ B.own ∨ H x = none) : Stp CI CP Hs H' im A v' B' l' b n s B0 v0 Bs c' where
  W := W'
  D0 := S.D0.kp k' (fun x hx z => by
      rcases List.mem_cons.mp hx with e | e
      · exact (S.ap0 x z).1 (by rw [e]; simp [IA.reads])
      · exact (S.ap0 x z).2 e) (fun x hx o e => by
      rcases List.mem_cons.mp hx with q | q
      · rw [q, S.W.I.hd] at e
        exact .inr (.inr ⟨_, (Option.some.inj e).symm⟩)
      · obtain ⟨xs, ex⟩ := S.W.D.held q
        rw [ex] at e
        exact .inl ⟨xs, (Option.some.inj e).symm⟩)
  O := O'
  ap0 := fun x hx => ⟨(S.ap0 x hx).1, fun z => by
    rcases nB x z with e | e
    · exact (S.ap0 x hx).2 e
    · obtain ⟨xs, ex⟩ := S.D0.held hx
      rw [e] at ex
      cases ex⟩
  k := fun x o e nx => k' x o (S.k x o e nx) fun z => by
    rcases List.mem_cons.mp z with q | q
    · rw [q, S.nd] at e; cases e
    · rcases S.nb x q with r | r
      · exact nx r
      · rw [r] at e; cases e
  nb := fun x hx => by
    rcases nB x hx with e | e
    · exact S.nb x e
    · exact S.new e
  na := S.na
  nd := S.nd
theorem Okv.st {b n c : Int} {v : IV} {st : List Int} (O : Okv b n v c) : Okv b n { v with st := st } c := ⟨O.kz, O.hs, O.su, O.se⟩
theorem Okv.hd {b n c : Int} {v : IV} {hd : List (Int × Int)} (O : Okv b n v c) : Okv b n { v with hd := hd } c := ⟨O.kz, O.hs, O.su, O.se⟩
end K78
namespace K78
open PySem PySem.Spec PyProof.Rows L2 Rg
section
variable {P : Program} {w : World} {K : PySem.W.Frag} {mg : Str → Option Value} {base : Heap}
theorem dat_bd {CI CP : Addr} {H : Hp} {im : Addr} {A : IA} {v : IV} {b n s : Int} (I : ImgAt CI CP H im A v b n s) : v.M.length < 1000 ∧ (∀ m ∈ v.M, m.length < 1000) ∧ v.ho.length < 1000 ∧ v.st.length < 1000 := by
  have b2 := I.pl.b2
  have d0 := I.d0
  have d2 := I.d2
  have d3 := I.d3
  exact ⟨by omega, fun m hm => by rw [I.d1 m hm]; omega, by omega, by omega⟩
theorem Dat.hd_ {H : Hp} {v : IV} {m l : List (Int × Int)} {c h t d : Addr} (D : Dat H { v with hd := m } l c h t d) : Dat H v l c h t d := ⟨D.c, D.h, D.t, D.d⟩
theorem all_sm {K : PySem.W.Frag} {CI CP : Addr} {H : Hp} {im : Addr} {A : IA} {v : IV} {b n s : Int} {l : List (Int × Int)} {B : MA} {r c h t d : Addr} (I : ImgAt CI CP H im A v b n s) (D : MdAt H B { v with hd := l } b n s) (hl : l.length < 1000) (hb : v.ba.length < 1000) (er : H r = some (.lst (allL c h t d A.ba v b n s))) (hD : Dat H v l c h t d) : Sm K H 3 (.ref r) (.ref B.ml) := by
  obtain ⟨z1, z2, z3, z4⟩ := dat_bd I
  obtain ⟨s1, s2, s3, s4⟩ := hD.sm (K := K) (v := v) (Dat.hd_ (m := l) D.dat) z1 z2 z3 z4 hl
  exact Sm.list er D.ob rfl (by show 10 < 1000; decide) (Sm.cons s1 (Sm.cons s2 (Sm.cons s3 (Sm.cons s4 (Sm.cons Sm.int (Sm.cons Sm.int (Sm.cons (Sm.tups (.of I.ba) (.of D.ba) hb) (Sm.cons Sm.int (Sm.cons Sm.int (Sm.cons Sm.int Sm.nil))))))))))
/-! ### _law_deed_good -/
def sp_Ldeed (CI CP : Addr) : Sp := fun vs H Q _ => ∃ (im : Addr) (A : IA) (v : IV) (B : MA) (l : List (Int × Int)) (b n s : Int) (dq ca hq sa : Addr) (wi : Int) (bs : List Int) (hk hw : Int) (ss : List (Addr × Int × Int)) (c : Int), vs = [.ref im, .ref B.ml, .int ((b + 7) / 8), .int (fdOf b n), .ref dq] ∧ Tw CI CP H im A v B l b n s ∧ DrwAt H dq ca hq sa wi bs hk hw ss ∧ ca ∉ B.own ∧ sa ∉ B.own ∧ Srt l v.hd ∧ l.length < 900 ∧ v.ba.length < 1000 ∧ bs.length < 1000 ∧ ss.length ≤ 5 ∧ Okv b n v c ∧ c ≤ 900 ∧
  ∀ (H' : Hp) (im' : Addr) (A' : IA) (v' : IV) (B' : MA) (l' : List (Int × Int)), Tw CI CP H' im' A' v' B' l' b n s → Srt l' v'.hd → l'.length ≤ l.length + 1 → v'.ba.length < 1000 → Okv b n v' (c + 5) → Kp B.own H H' → (∀ x ∈ B'.own, x ∈ B.own ∨ H x = none) → B'.ml = B.ml → Q (.ref im') H'
theorem ok_Ldeed (T : Tx K mg) : FnOk P w K mg base CX0 6 T.f_Ldeed_good T.fd_Ldeed_good ["_law_image", "_law_model", "_law_maps", "_law_first", "_law_draw"] (sp_Ldeed T.C_Image T.C_Plan) := by
  refine T.F_Ldeed_good.ok sc_Ldeed_good (fun vs H Q E h => ?_) (fun cdv A0 outer s H vs Q E hr h => ?_)
  · obtain ⟨_, _, _, _, _, _, _, _, _, _, _, _, _, _, _, _, _, _, rfl, _⟩ := h; rfl
  · obtain ⟨im, A, v, B, l, b, n, sl, dq, ca, hq, sa, wi, bs, hk, hw, ss, c, rfl, W, dr, nca, nsa, hS, hl, hba, hbs, hss, O, hc, k⟩ := h
    have hr1 : Room 1 _ := hr.mono (by decide)
    have hr2 : Room 2 _ := hr.mono (by decide)
    have hr3 : Room 3 _ := hr.mono (by decide)
    have hr4 : Room 4 _ := hr.mono (by decide)
    refine ⟨_, (pss_cons (ps_asg (pv 4) (pg_tup rfl (pgs_cons (pg_name (i := 5) sc_Ldeed_good.nd rfl (.inl rfl)) (pgs_cons (pg_name (i := 6) sc_Ldeed_good.nd rfl (.inl rfl)) (pgs_cons (pg_name (i := 7) sc_Ldeed_good.nd rfl (.inr rfl)) (pgs_cons (pg_name (i := 8) sc_Ldeed_good.nd rfl (.inl rfl)) pgs_nil))))))
      (pss_cons (ps_set (i := 9) sc_Ldeed_good.nd rfl (.inl rfl) (pe_meth0 (pv 0) T.cl_Image T.m_Image_twin (ok_twin T) hr3 (b_Image_twin T) .nil pass0))
      (pss_cons (ps_if (PW.pt (pw_or (pt_not (pt_val (pe_call (ok_Lsame T 3) hr rfl T.mg_Lsame T.F_Lsame.kp (b_Lsame T) .nil pass0 (pa_cons (pe_call (ok_Lstate T) hr1 rfl T.mg_Lstate T.F_Lstate.kp (b_Lstate T) .nil pass0 (pa_cons (pv 9) pa_nil)) (pa_cons (pe_slice sl_list (pv 1) po_none (po_some pe_int)) pa_nil))))) (pw_or1 (pt_not (pt_val (pe_call (ok_Lsame T 3) hr rfl T.mg_Lsame T.F_Lsame.kp (b_Lsame T) .nil pass0 (pa_cons (pe_slice sl_list (pe_call (ok_Lall T) hr2 rfl T.mg_Lall T.F_Lall.kp (b_Lall T) .nil pass0 (pa_cons (pv 9) pa_nil)) (po_some pe_int) po_none) (pa_cons (pe_slice sl_list (pv 1) (po_some pe_int) po_none) pa_nil))))))))
        (pss_one (ps_ret pe_non))
        pss_nil)
      (pss_cons (ps_set (i := 10) sc_Ldeed_good.nd rfl (.inl rfl) (pe_call (ok_Lcopy T) hr1 rfl T.mg_Lcopy T.F_Lcopy.kp (b_Lcopy T) .nil pass0 (pa_cons (pv 1) pa_nil)))
      (pss_cons (ps_if (pt_cmpR op_notN (pe_meth (pv 9) T.cl_Image T.m_Image_begin (ok_begin T) hr1 (b_Image_begin T) .nil pass0 (pa_cons (pv 5) (pa_cons (pv 6) pa_nil))) pe_non (nomark _))
        (pss_one (ps_ret pe_non))
        pss_nil)
      (pss_cons (ps_asg (pe_op op_add (pe_ix ix_list (pv 1) pe_int (fun _ _ => rfl)) pe_int) (pg_sub (pv 1) pe_int set_list))
      (pss_cons (ps_asg (pv 5) (pg_sub (pv 1) pe_int set_list))
      (pss_cons (ps_asg (pe_callTy call_tuple_of rfl T.b_tuple (by decide +kernel) (pa_cons (pv 6) pa_nil)) (pg_sub (pv 1) pe_int set_list))
      (pss_cons (ps_for PassesOwn.never rfl (pi_list (pv 8)) (pg_tup rfl (pgs_cons (pg_name (i := 11) sc_Ldeed_good.nd rfl (.inl rfl)) (pgs_cons (pg_name (i := 12) sc_Ldeed_good.nd rfl (.inl rfl)) pgs_nil)))
        (pss_cons (ps_set (i := 13) sc_Ldeed_good.nd rfl (.inl rfl) (pe_op op_mod (pe_callTy call_int1 rfl T.b_int (by decide +kernel) (pa_cons (pv 11) pa_nil)) pe_int))
        (pss_cons (ps_set (i := 14) sc_Ldeed_good.nd rfl (.inl rfl) (pe_op op_mod (pe_op op_fdiv (pe_callTy call_int1 rfl T.b_int (by decide +kernel) (pa_cons (pv 11) pa_nil)) pe_int) pe_int))
        (pss_one (ps_if (pt_cmpR op_lt (pv 13) pe_int (nomark _))
          (pss_one (ps_if (pt_not (pt_val (pe_call (ok_Lsame T 3) hr rfl T.mg_Lsame T.F_Lsame.kp (b_Lsame T) .nil pass0 (pa_cons (pe_call (ok_Ltake T) hr rfl T.mg_Ltake T.F_Ltake.kp (b_Ltake T) .nil pass0 (pa_cons (pv 9) (pa_cons (pe_op op_add pe_int (pv 13)) (pa_cons (pv 14) pa_nil)))) (pa_cons (pe_call (ok_Ldue_take T) hr2 rfl T.mg_Ldue_take T.F_Ldue_take.kp (b_Ldue_take T) .nil pass0 (pa_cons (pv 1) (pa_cons (pv 3) (pa_cons (pe_op op_add pe_int (pv 13)) (pa_cons (pv 14) pa_nil))))) pa_nil)))))
            (pss_one (ps_ret pe_non))
            pss_nil))
          (pss_one (ps_if (pt_cmpR op_eq (pv 13) pe_int (nomark _))
            (pss_one (ps_if (pt_not (pt_val (pe_call (ok_Lgive T) hr4 rfl T.mg_Lgive T.F_Lgive.kp (b_Lgive T) .nil pass0 (pa_cons (pv 9) (pa_cons (pv 1) (pa_cons (pv 3) (pa_cons (pv 14) (pa_cons (pe_op op_fdiv (pe_callTy call_int1 rfl T.b_int (by decide +kernel) (pa_cons (pv 11) pa_nil)) pe_int) pa_nil))))))))
              (pss_one (ps_ret pe_non))
              pss_nil))
            (pss_one (ps_expr (pe_call (ok_Lput T) hr2 rfl T.mg_Lput T.F_Lput.kp (b_Lput T) .nil pass0 (pa_cons (pv 9) (pa_cons (pv 1) (pa_cons (pv 10) (pa_cons (pv 2) (pa_cons (pv 3) (pa_cons (pe_tup (pa_cons (pv 13) (pa_cons (pe_op op_fdiv (pe_callTy call_int1 rfl T.b_int (by decide +kernel) (pa_cons (pv 11) pa_nil)) pe_int) (pa_cons (pv 12) pa_nil)))) pa_nil))))))))))))))))
      (Evl.pss_cut (ps_if (pt_cmpR op_gt (pe_ix ix_tup (pv 7) pe_int (fun _ _ => rfl)) pe_int (nomark _))
        (pss_cons (ps_set (i := 15) sc_Ldeed_good.nd rfl (.inl rfl) (pe_fld (pv 9) rfl))
        (pss_cons (ps_dput (hu_of hr) (pv 15) (pe_ix ix_tup (pv 7) pe_int (fun _ _ => rfl)) (pe_ix ix_tup (pv 7) pe_int (fun _ _ => rfl)) rfl)
        (pss_one (ps_asg (pe_callB cr_sortedPO rfl T.b_sorted (by decide +kernel) (pa_cons (pe_op op_cat (pe_lc rfl (own := [("_law_pair", 16)]) (g := gName 16) (tt := _) sc_Ldeed_good.nd (pi_list (pe_ix ix_list (pv 1) pe_int (fun _ _ => rfl))) (blkOk_by (N := ["_law_image", "_law_model", "_law_maps", "_law_first", "_law_draw", "_law_wished", "_law_closed", "_law_handle", "_law_steps", "_law_after", "_law_before", "_law_code", "_law_number", "_law_act", "_law_owner", "_law_opened", "_law_pair", "_law_x", "_law_stamps"]) (sc := defScope s_Ldeed_good) (by decide +kernel)) (fun _ _ _ _ _ => pg_name (i := 16) sc_Ldeed_good.nd rfl (Or.inl rfl)) (fun _ _ _ _ _ => pts_one (pt_cmpR op_ne (pe_ixTK (K := K) (pv 16) pe_int (fun _ _ => rfl)) (pe_ixTK (K := K) (pv 7) pe_int (fun _ _ => rfl)) (nomark _))) (fun _ _ _ _ _ => (pv 16))) (pe_lst (pa_cons (pv 7) pa_nil))) pa_nil)) (pg_sub (pv 1) pe_int set_list)))))
        pss_nil)
      (pss_cons (ps_if (pt_cmpR op_notN (pe_meth (pv 9) T.cl_Image T.m_Image_settle (ok_settle T) hr3 (b_Image_settle T) .nil pass0 (pa_cons (pv 0) pa_nil)) pe_non (nomark _))
        (pss_one (ps_ret pe_non))
        pss_nil)
      (pss_cons (ps_for PassesOwn.never rfl (pi_range1 rfl T.b_range (pa_cons (pe_callB call_len_seq rfl T.b_len (by decide +kernel) (pa_cons (pe_ix ix_list (pv 1) pe_int (fun _ _ => rfl)) pa_nil)) pa_nil)) (pg_name (i := 17) sc_Ldeed_good.nd rfl (.inl rfl))
        (pss_cons (ps_set (i := 18) sc_Ldeed_good.nd rfl (.inl rfl) (pe_ix ix_list (pv 1) pe_int (fun _ _ => rfl)))
        (pss_one (ps_if (PW.pt (pw_and (pt_cmpR op_gt (pe_call (ok_Lkind T) hr1 rfl T.mg_Lkind T.F_Lkind.kp (b_Lkind T) .nil pass0 (pa_cons (pe_ix ix_list (pv 1) pe_int (fun _ _ => rfl)) (pa_cons (pv 3) (pa_cons (pv 17) pa_nil)))) pe_int (nomark _)) (pw_and1 (PW.pt (pw_or (pt_cmpR (op_neD hr.units) (pe_ix ix_list (pe_ix ix_list (pv 1) pe_int (fun _ _ => rfl)) (pv 17) (fun _ _ => rfl)) (pe_ix ix_list (pe_ix ix_list (pv 10) pe_int (fun _ _ => rfl)) (pv 17) (fun _ _ => rfl)) (nomark _)) (pw_or1 (pt_cmpR op_eq (pe_ix ix_list (pe_ix ix_list (pv 1) pe_int (fun _ _ => rfl)) (pv 17) (fun _ _ => rfl)) (pe_ix ix_list (pv 1) pe_int (fun _ _ => rfl)) (nomark _))))))))
          (pss_one (ps_asg (pe_ix ix_list (pv 1) pe_int (fun _ _ => rfl)) (pg_sub (pv 18) (pv 17) set_list)))
          pss_nil))))
      (pss_cons (ps_if (PW.pt (pw_or (pt_not (pt_val (pe_call (ok_Lsame T 3) hr rfl T.mg_Lsame T.F_Lsame.kp (b_Lsame T) .nil pass0 (pa_cons (pe_call (ok_Lall T) hr2 rfl T.mg_Lall T.F_Lall.kp (b_Lall T) .nil pass0 (pa_cons (pv 9) pa_nil)) (pa_cons (pv 1) pa_nil))))) (pw_or1 (pt_not (pt_val (pe_call (ok_Lsame T 3) hr rfl T.mg_Lsame T.F_Lsame.kp (b_Lsame T) .nil pass0 (pa_cons (pe_call (ok_Lall T) hr2 rfl T.mg_Lall T.F_Lall.kp (b_Lall T) .nil pass0 (pa_cons (pv 0) pa_nil)) (pa_cons (pv 10) pa_nil))))))))
        (pss_one (ps_ret pe_non))
        pss_nil)
      (pss_one (ps_ret (pv 9)))))))))))))))), ?_⟩
    have I := W.I
    have D := W.D
    have b1 := I.pl.b1
    have b2 := I.pl.b2
    have n1 := I.pl.n1
    have dd := I.pl.d
    have d0 := I.d0
    refine ⟨_, rfl, dq, _, rfl, .of dr.q, rfl, _, _, rfl, _, _, rfl, _, _, rfl, _, _, rfl, rfl, ?_⟩
    ((try dsimp only); (first | (refine Rg.sg (σ' := [some (.ref im), some (.ref B.ml), some (.int ((b + 7) / 8)), some (.int (fdOf b n)), some (.ref dq), some (.int wi), some (.ref ca), some (.ref hq), some (.ref sa), none, none, none, none, none, none, none, none, none, none]) ?_ ?_; focus exact rfl) | (refine Rg.sgG (σ' := [some (.ref im), some (.ref B.ml), some (.int ((b + 7) / 8)), some (.int (fdOf b n)), some (.ref dq), some (.int wi), some (.ref ca), some (.ref hq), some (.ref sa), none, none, none, none, none, none, none, none, none, none]) ?_ ?_; focus exact rfl)))
    refine ⟨_, rfl, im, _, _, rfl, I.ob, rfl, im, A, v, b, n, sl, rfl, I, fun H1 im2 A2 s1 nim I2 N2 epl eba => ?_⟩
    ((try dsimp only); (first | (refine Rg.sg (σ' := [some (.ref im), some (.ref B.ml), some (.int ((b + 7) / 8)), some (.int (fdOf b n)), some (.ref dq), some (.int wi), some (.ref ca), some (.ref hq), some (.ref sa), some (.ref im2), none, none, none, none, none, none, none, none, none]) ?_ ?_; focus exact rfl) | (refine Rg.sgG (σ' := [some (.ref im), some (.ref B.ml), some (.int ((b + 7) / 8)), some (.int (fdOf b n)), some (.ref dq), some (.int wi), some (.ref ca), some (.ref hq), some (.ref sa), some (.ref im2), none, none, none, none, none, none, none, none, none]) ?_ ?_; focus exact rfl)))
    -- the twin reads as the model
    have D1 := D.same s1
    refine ⟨_, rfl, im2, A2, v, b, n, sl, l, rfl, I2, hS, by omega, fun H2 r c1 h1 t1 d1 s2 nr er hD => ?_⟩
    have D2 := D1.same s2
    refine ⟨_, rfl, _, rfl, B.ml, _, rfl, .of D2.ob, ?_⟩
    (intro q n_q; generalize he_q : upd _ q _ = H3; obtain ⟨e_q, s_q, f_q⟩ := new_f he_q n_q; clear he_q)
    obtain ⟨z1, z2, z3, z4⟩ := dat_bd I
    obtain ⟨m1, m2, m3, m4⟩ := (hD.same s_q).sm (K := K) (v := v) (Dat.hd_ (m := l) (D2.same s_q).dat) z1 z2 z3 z4 (by omega)
    refine ⟨_, _, rfl, Sm.list (ys := [.ref B.ca, .ref B.ho, .ref B.st, .ref B.hl, .int v.se]) (s_q _ _ er) e_q rfl (by show 5 < 1000; decide) (Sm.cons m1 (Sm.cons m2 (Sm.cons m3 (Sm.cons m4 (Sm.cons Sm.int Sm.nil))))), fun H4 s4 => ⟨_, rfl, iteF ?_⟩⟩
    have S14 : Same H1 H4 := (s2.trans s_q).trans s4
    refine ⟨_, rfl, im2, A2, v, b, n, sl, l, rfl, I2.keep S14, hS, by omega, fun H5 r2 c2 h2 t2 d2 s5 nr2 er2 hD2 => ?_⟩
    refine ⟨_, rfl, r2, _, rfl, .of er2, ?_⟩
    (intro q2 n_q2; generalize he_q2 : upd _ q2 _ = H6; obtain ⟨e_q2, s_q2, f_q2⟩ := new_f he_q2 n_q2; clear he_q2)
    have S16 : Same H1 H6 := (S14.trans s5).trans s_q2
    have D6 := D1.same S16
    refine ⟨_, rfl, _, rfl, B.ml, _, rfl, .of D6.ob, ?_⟩
    (intro q3 n_q3; generalize he_q3 : upd _ q3 _ = H7; obtain ⟨e_q3, s_q3, f_q3⟩ := new_f he_q3 n_q3; clear he_q3)
    refine ⟨_, _, rfl, Sm.list (xs := [.int b, .int n, .int sl]) (ys := [.int b, .int n, .int sl]) (s_q3 _ _ e_q2) e_q3 rfl (by show 3 < 1000; decide) (Sm.cons Sm.int (Sm.cons Sm.int (Sm.cons Sm.int Sm.nil))), fun H8 s8 => ⟨_, rfl, iteF ?_⟩⟩
    have S18 : Same H1 H8 := (S16.trans s_q3).trans s8
    have D8 := D1.same S18
    -- the copy
    refine ⟨_, rfl, B, { v with hd := l }, b, n, sl, rfl, D8, b2, (by show l.length < 1000; omega), fun H9 B0 s9 nB0 D09 => ?_⟩
    ((try dsimp only); (first | (refine Rg.sg (σ' := [some (.ref im), some (.ref B.ml), some (.int ((b + 7) / 8)), some (.int (fdOf b n)), some (.ref dq), some (.int wi), some (.ref ca), some (.ref hq), some (.ref sa), some (.ref im2), some (.ref B0.ml), none, none, none, none, none, none, none, none]) ?_ ?_; focus exact rfl) | (refine Rg.sgG (σ' := [some (.ref im), some (.ref B.ml), some (.int ((b + 7) / 8)), some (.int (fdOf b n)), some (.ref dq), some (.int wi), some (.ref ca), some (.ref hq), some (.ref sa), some (.ref im2), some (.ref B0.ml), none, none, none, none, none, none, none, none]) ?_ ?_; focus exact rfl)))
    have S19 := S18.trans s9
    have I29 := I2.keep S19
    have D9 := D1.same S19
    have hca9 : H9 ca = some (.lst (bs.map V.int)) := S19 _ _ (s1 _ _ dr.c)
    -- begin
    refine ⟨_, rfl, im2, _, _, rfl, I29.ob, rfl, _, rfl, _, rfl, im2, A2, v, b, n, sl, wi, ca, bs, rfl, I29, .inl hca9, fun H10 t I10 k10 ht => ⟨rfl, _, rfl, iteF ?_⟩⟩
    have im2n : H im2 = none := nim
    have D10 : MdAt H10 B { v with hd := l } b n sl := D9.kp k10 (fun x hx z => by
      rw [List.mem_singleton.mp hx] at z
      obtain ⟨xs, ex⟩ := D.held z
      rw [im2n] at ex
      cases ex) (fun x hx o e => by
      rw [List.mem_singleton.mp hx, I29.ob] at e
      exact .inr (.inl ⟨_, _, _, (Option.some.inj e).symm⟩))
    have D010 : MdAt H10 B0 { v with hd := l } b n sl := D09.kp k10 (fun x hx z => by
      rw [List.mem_singleton.mp hx] at z
      have := nB0 _ z
      rw [(I2.keep S18).ob] at this
      cases this) (fun x hx o e => by
      rw [List.mem_singleton.mp hx, I29.ob] at e
      exact .inr (.inl ⟨_, _, _, (Option.some.inj e).symm⟩))
    -- the model's own
    refine ⟨_, rfl, B.ml, _, 4, .int v.se, rfl, rfl, .of D10.ob, rfl, _, _, rfl, rfl, _, rfl, B.ml, _, _, 4, rfl, rfl, D10.ob, rfl, ?_⟩
    have E1 : MdAt (upd H10 B.ml (.lst ((mdL B { v with hd := l } b n sl).set 4 (.int (v.se + 1))))) B { v with hd := l, se := v.se + 1 } b n sl := D10.top (se := v.se + 1) (wi := v.wi) (t := B.ba) (hl := B.hl) (bs := v.ba) (G := B.G) (hd := l) D10.ba D10.hl D10.ga D10.ge (.inl rfl)
    generalize hH11 : upd H10 B.ml _ = H11 at E1 ⊢
    obtain ⟨_, k11, _⟩ := own_f hH11
    clear hH11
    refine ⟨_, rfl, _, rfl, B.ml, _, _, 5, rfl, rfl, E1.ob, rfl, ?_⟩
    have E2 : MdAt (upd H11 B.ml (.lst ((mdL B { v with hd := l, se := v.se + 1 } b n sl).set 5 (.int wi)))) B { v with hd := l, se := v.se + 1, wi := wi } b n sl := E1.top (se := v.se + 1) (wi := wi) (t := B.ba) (hl := B.hl) (bs := v.ba) (G := B.G) (hd := l) E1.ba E1.hl E1.ga E1.ge (.inl rfl)
    generalize hH12 : upd H11 B.ml _ = H12 at E2 ⊢
    obtain ⟨_, k12, _⟩ := own_f hH12
    clear hH12
    have camr : ca ≠ B.ml := fun z => nca (by rw [z]; simp [MA.own])
    have ca10 : H10 ca = some (.lst (bs.map V.int)) := k10.at1 hca9 (fun z => by have := dr.c; rw [z, im2n] at this; cases this)
    refine ⟨_, rfl, ca, _, rfl, .inl ⟨.of (k12.at1 (k11.at1 ca10 camr) camr), ?_⟩⟩
    (intro tb n_tb; generalize he_tb : upd _ tb _ = H13; obtain ⟨e_tb, s_tb, f_tb⟩ := new_f he_tb n_tb; clear he_tb)
    have E3a := E2.same s_tb
    refine ⟨_, rfl, B.ml, _, _, 6, rfl, rfl, E3a.ob, rfl, ?_⟩
    have E3 : MdAt (upd H13 B.ml (.lst ((mdL B { v with hd := l, se := v.se + 1, wi := wi } b n sl).set 6 (.ref tb)))) { B with ba := tb } { v with hd := l, se := v.se + 1, wi := wi, ba := bs } b n sl := E3a.top (se := v.se + 1) (wi := wi) (t := tb) (hl := B.hl) (bs := bs) (G := B.G) (hd := l) e_tb E3a.hl E3a.ga E3a.ge (.inl rfl)
    generalize hH14 : upd H13 B.ml _ = H14 at E3 ⊢
    obtain ⟨_, k14, _⟩ := own_f hH14
    clear hH14
    -- the two together
    have ap2 : ∀ x ∈ B.own, x ∉ ({ A2 with ba := t } : IA).reads im2 := fun x hx z => by
      obtain ⟨xs, ex⟩ := D.held hx
      simp only [IA.reads, List.mem_cons] at z
      rcases z with z | z | z | z | z | z | z | z
      · rw [z, im2n] at ex; cases ex
      · exact W.ap x hx (by rw [z, epl]; simp [IA.reads])
      · rw [z, N2.ca] at ex; cases ex
      · rw [z, N2.ho] at ex; cases ex
      · rw [z, N2.st] at ex; cases ex
      · rw [z, N2.hd] at ex; cases ex
      · rcases ht with y | y
        · rw [z] at ex
          rw [S19 _ _ (s1 _ _ ex)] at y
          cases y
        · exact nca (by rw [← y, ← z]; exact hx)
      · rw [N2.rs x z] at ex; cases ex
    have K10 : Kp B.own H H10 := fun x o e nx => k10.at1 (S19 _ _ (s1 _ _ e)) fun z => by rw [z, im2n] at e; cases e
    have mlo : B.ml ∈ B.own := by simp [MA.own]
    have K1014 : Kp B.own H10 H14 := kpIn ((kpIn (kpIn Kp.refl k11 mlo) k12 mlo).same s_tb) k14 mlo
    have K14 : Kp B.own H H14 := K10.trans K1014
    have W14 : Tw T.C_Image T.C_Plan H14 im2 { A2 with ba := t } { v with se := v.se + 1, wi := wi, ba := bs } { B with ba := tb } l b n sl := Tw.of I10 ap2 K1014 E3 fun x hx => .inl hx
    have D014 : MdAt H14 B0 { v with hd := l } b n sl := md_n D010 K1014 (fun x hx z => by
      obtain ⟨xs, ex⟩ := D8.held hx
      rw [nB0 x z] at ex
      cases ex) fun x hx => D10.held hx
    have apz : ∀ x ∈ B0.own, x ∉ ({ A2 with ba := t } : IA).reads im2 ∧ x ∉ ({ B with ba := tb } : MA).own := by
      intro x hx
      have nx := nB0 x hx
      constructor
      · intro z
        have hI8 := I2.keep S18
        by_cases q : x ∈ A2.reads im2
        · obtain ⟨u, eu⟩ := hI8.held q
          rw [nx] at eu
          cases eu
        · have xt : x = t := by
            simp only [IA.reads, List.mem_cons, not_or] at z q
            rcases z with z | z | z | z | z | z | z | z
            · exact absurd z q.1
            · exact absurd z q.2.1
            · exact absurd z q.2.2.1
            · exact absurd z q.2.2.2.1
            · exact absurd z q.2.2.2.2.1
            · exact absurd z q.2.2.2.2.2.1
            · exact z
            · exact absurd z q.2.2.2.2.2.2.2
          rcases ht with y | y
          · obtain ⟨xs, ex⟩ := D09.held hx
            rw [xt, y] at ex
            cases ex
          · have := S18 _ _ (s1 _ _ dr.c)
            rw [← y, ← xt, nx] at this
            cases this
      · intro z
        obtain ⟨xs, ex⟩ := D8.held (show x ∈ B.own from z)
        rw [nx] at ex
        cases ex
    have S14_ : Stp T.C_Image T.C_Plan H H14 im2 { A2 with ba := t } { v with se := v.se + 1, wi := wi, ba := bs } { B with ba := tb } l b n sl B0 { v with hd := l } B c :=
      ⟨W14, D014, O.beg, apz, K14, fun x hx => .inl hx, fun x hx => .inr (by
          simp only [List.mem_cons] at hx
          rcases hx with rfl | rfl | rfl | hx
          · exact N2.ca
          · exact N2.ho
          · exact N2.st
          · exact N2.rs x hx), N2.hd⟩
    have lsB : ∀ x ∈ B.own, ∃ xs, H x = some (.lst xs) := fun x hx => D.held hx
    have b78 : fdOf b n ≤ b := by unfold fdOf; omega
    -- the steps
    refine ⟨_, rfl, sa, rfl, ⟨_, .of (dr.kp K14 lsB nca nsa).s⟩, for_list (K := K) (a := sa) (xs := ss.map fun t => V.ref t.1) (fun i σ H' => ∃ (u11 u12 u13 u14 : Option V) (A' : IA) (v' : IV) (B' : MA), σ = [some (.ref im), some (.ref B.ml), some (.int ((b + 7) / 8)), some (.int (fdOf b n)), some (.ref dq), some (.int wi), some (.ref ca), some (.ref hq), some (.ref sa), some (.ref im2), some (.ref B0.ml), u11, u12, u13, u14, none, none, none, none] ∧ Stp T.C_Image T.C_Plan H H' im2 A' v' B' l b n sl B0 { v with hd := l } B (c + (i : Int)) ∧ v'.hd = v.hd ∧ v'.ba = bs ∧ B'.ml = B.ml)
      ⟨none, none, none, none, _, _, _, rfl, S14_.same (Same.refl _) (by omega), rfl, rfl, rfl⟩ (fun i σ H' _ ⟨_, _, _, _, _, _, _, _, S, _⟩ => .of (dr.kp S.k lsB nca nsa).s) ?_ ?_⟩
    · rintro i yv σ Ha hi ⟨u11, u12, u13, u14, A', v', B', rfl, S, eh, eb, eml⟩
      rw [List.getElem?_map] at hi
      obtain ⟨st, hst, rfl⟩ := Option.map_eq_some_iff.mp hi
      have hi5 : i < ss.length := (List.getElem?_eq_some_iff.mp hst).1
      obtain ⟨sp, code, num⟩ := st
      have et := (dr.kp S.k lsB nca nsa).t _ (List.mem_of_getElem? hst)
      refine ⟨sp, _, rfl, .of et, rfl, _, _, rfl, _, _, rfl, rfl, ?_⟩
      ((try dsimp only); (first | (refine Rg.sg (σ' := [some (.ref im), some (.ref B.ml), some (.int ((b + 7) / 8)), some (.int (fdOf b n)), some (.ref dq), some (.int wi), some (.ref ca), some (.ref hq), some (.ref sa), some (.ref im2), some (.ref B0.ml), some (.int code), some (.int num), u13, u14, none, none, none, none]) ?_ ?_; focus exact rfl) | (refine Rg.sgG (σ' := [some (.ref im), some (.ref B.ml), some (.int ((b + 7) / 8)), some (.int (fdOf b n)), some (.ref dq), some (.int wi), some (.ref ca), some (.ref hq), some (.ref sa), some (.ref im2), some (.ref B0.ml), some (.int code), some (.int num), u13, u14, none, none, none, none]) ?_ ?_; focus exact rfl)))
      refine ⟨_, rfl, .inl ⟨_, rfl, _, _, rfl, rfl, (by show (0 : Int) < 6; decide), ?_⟩⟩
      ((try dsimp only); (first | (refine Rg.sg (σ' := [some (.ref im), some (.ref B.ml), some (.int ((b + 7) / 8)), some (.int (fdOf b n)), some (.ref dq), some (.int wi), some (.ref ca), some (.ref hq), some (.ref sa), some (.ref im2), some (.ref B0.ml), some (.int code), some (.int num), some (.int (code % 6)), u14, none, none, none, none]) ?_ ?_; focus exact rfl) | (refine Rg.sgG (σ' := [some (.ref im), some (.ref B.ml), some (.int ((b + 7) / 8)), some (.int (fdOf b n)), some (.ref dq), some (.int wi), some (.ref ca), some (.ref hq), some (.ref sa), some (.ref im2), some (.ref B0.ml), some (.int code), some (.int num), some (.int (code % 6)), u14, none, none, none, none]) ?_ ?_; focus exact rfl)))
      refine ⟨_, rfl, .inl ⟨_, rfl, _, _, rfl, rfl, (by show CDiv code 6; exact ⟨by decide, by decide⟩), _, _, rfl, rfl, (by show (0 : Int) < 4; decide), ?_⟩⟩
      ((try dsimp only); (first | (refine Rg.sg (σ' := [some (.ref im), some (.ref B.ml), some (.int ((b + 7) / 8)), some (.int (fdOf b n)), some (.ref dq), some (.int wi), some (.ref ca), some (.ref hq), some (.ref sa), some (.ref im2), some (.ref B0.ml), some (.int code), some (.int num), some (.int (code % 6)), some (.int (code / 6 % 4)), none, none, none, none]) ?_ ?_; focus exact rfl) | (refine Rg.sgG (σ' := [some (.ref im), some (.ref B.ml), some (.int ((b + 7) / 8)), some (.int (fdOf b n)), some (.ref dq), some (.int wi), some (.ref ca), some (.ref hq), some (.ref sa), some (.ref im2), some (.ref B0.ml), some (.int code), some (.int num), some (.int (code % 6)), some (.int (code / 6 % 4)), none, none, none, none]) ?_ ?_; focus exact rfl)))
      obtain ⟨act, eact⟩ : ∃ a, a = code % 6 := ⟨_, rfl⟩
      have act0 : 0 ≤ act := by rw [eact]; exact Int.emod_nonneg _ (by decide)
      obtain ⟨o, eo⟩ : ∃ o : Nat, (o : Int) = code / 6 % 4 := ⟨(code / 6 % 4).toNat, by have := Int.emod_nonneg (code / 6) (show (4 : Int) ≠ 0 by decide); omega⟩
      have ho : o < 4 := by have := Int.emod_lt_of_pos (code / 6) (show (0 : Int) < 4 by decide); omega
      rw [← eact, ← eo]
      clear eact eo
      have Wa := S.W
      have hlM : ((v'.M.length : Nat) : Int) = b := Wa.I.d0
      have n0 : 0 ≤ n := by omega
      have hsu := S.O.su o ho
      have lg : (cellAt v'.M 0 o).natAbs.log2 < 1920 := by
        have h1 : (cellAt v'.M 0 o).natAbs < 1024 := by omega
        by_cases z : (cellAt v'.M 0 o).natAbs = 0
        · rw [z]; decide
        · have := (Nat.log2_lt z).mpr (show (cellAt v'.M 0 o).natAbs < 2 ^ 10 from h1)
          omega
      refine ⟨_, rfl, _, _, rfl, rfl, _, rfl, wD (fun a2 => ?_) (fun a2 => ?_)⟩
      · -- a block taken
        have hkd : 1 + act = 1 ∨ 1 + act = 2 := by omega
        refine ⟨_, rfl, _, rfl, _, _, rfl, rfl, _, rfl, im2, A', v', b, n, sl, 1 + act, o, rfl, Wa.I, ho, lg, fun hq1 Hb sb => ?_, fun hq1 hL Hb sb => ?_, fun hq1 x hx Hb q nq Ib kb => ?_⟩
        · refine ⟨_, rfl, _, rfl, _, rfl, _, _, rfl, rfl, _, rfl, B', { v' with hd := l }, b, n, sl, 1 + act, o, (by rw [eml]; rfl), Wa.D.same sb, n0, b78, b2, b1, ho, hkd, fun _ Hc sc => ?_, fun nq1 => absurd hq1 nq1, fun nq1 => absurd hq1 nq1⟩
          refine ⟨_, _, rfl, Sm.int, fun Hd sd => ⟨_, rfl, iteF ?_⟩⟩
          exact ⟨_, _, _, _, A', v', B', rfl, S.same ((sb.trans sc).trans sd) (by omega), eh, eb, eml⟩
        · refine ⟨_, rfl, _, rfl, _, rfl, _, _, rfl, rfl, _, rfl, B', { v' with hd := l }, b, n, sl, 1 + act, o, (by rw [eml]; rfl), Wa.D.same sb, n0, b78, b2, b1, ho, hkd, fun q1 => absurd q1 hq1, fun _ _ Hc sc => ?_, fun _ x hx => ?_⟩
          · refine ⟨_, _, rfl, Sm.int, fun Hd sd => ⟨_, rfl, iteF ?_⟩⟩
            exact ⟨_, _, _, _, A', v', B', rfl, S.same ((sb.trans sc).trans sd) (by omega), eh, eb, eml⟩
          · exfalso
            have hx : pickL (letL b n v'.M (1 + act) v'.ba) v'.wi = some (x : Int) := hx
            rw [hL] at hx
            cases hx
        · have Db := Wa.img kb
          have apb : ∀ a ∈ B'.own, a ∉ ({ A' with rs := A'.rs.set x q } : IA).reads im2 := fun a ha z => by
            rcases reads_set z with y | y
            · exact Wa.ap a ha y
            · obtain ⟨xs, ex⟩ := Wa.D.held ha
              rw [y, nq] at ex
              cases ex
          have hxm := pickL_mem hx
          have hxf : (x : Int) ∈ freeL b n v'.M := by
            unfold letL at hxm
            split at hxm
            · exact (List.mem_filter.mp hxm).1
            · exact hxm
          obtain ⟨x1, x2, x3⟩ := freeL_mem hxf
          have hbx : (x : Int) < b := by omega
          refine ⟨_, rfl, _, rfl, _, rfl, _, _, rfl, rfl, _, rfl, B', { v' with hd := l }, b, n, sl, 1 + act, o, (by rw [eml]; rfl), Db, n0, b78, b2, b1, ho, hkd, fun q1 => absurd q1 hq1, fun _ hL => ?_, fun _ y hy Hc q2 nq2 Dc kc => ?_⟩
          · exfalso
            have hL : letL b n v'.M (1 + act) v'.ba = [] := hL
            rw [hL] at hx
            cases hx
          · have hy : pickL (letL b n v'.M (1 + act) v'.ba) v'.wi = some (y : Int) := hy
            have exy : y = x := by
              rw [hx] at hy
              have := Option.some.inj hy
              omega
            subst exy
            have Wc : Tw T.C_Image T.C_Plan Hc im2 { A' with rs := A'.rs.set y q } (takeV v' y (1 + act) o) { B' with rs := B'.rs.set y q2 } l b n sl := Tw.of Ib apb kc Dc fun a ha => (own_set ha).imp id fun z => by rw [z]; exact nq2
            have nq2' : Ha q2 = none ∨ q2 ∈ A'.rs := by
              by_cases e : q2 ∈ A'.ca :: A'.ho :: A'.st :: A'.rs
              · have hr : q2 ∈ ({ A' with rs := A'.rs.set y q } : IA).reads im2 ∨ q2 ∈ A'.rs := by
                  simp only [List.mem_cons] at e
                  rcases e with rfl | rfl | rfl | e
                  · exact .inl (by simp [IA.reads])
                  · exact .inl (by simp [IA.reads])
                  · exact .inl (by simp [IA.reads])
                  · exact .inr e
                rcases hr with e | e
                · obtain ⟨u, eu⟩ := Ib.held e
                  rw [nq2] at eu
                  cases eu
                · exact .inr e
              · exact .inl (kb.free e nq2)
            have Sc := S.step Wc (S.O.take n0 x1 hbx hlM Wa.I.d1 ho b1 hkd) (fun a u ea na => kc a u (kb a u ea fun z => na (List.mem_append_left _ z)) fun z => na (List.mem_append_right _ z)) rfl (fun a ha => (reads_set ha).imp id fun z => by rw [z]; exact nq) (fun a ha => (lists_set ha).imp id fun z => by rw [z]; exact nq) (fun a ha => (own_set ha).imp id fun z => by rw [z]; exact nq2')
            refine ⟨_, _, rfl, Sm.int, fun Hd sd => ⟨_, rfl, iteF ?_⟩⟩
            exact ⟨_, _, _, _, _, _, _, rfl, Sc.same sd (by omega), eh, eb, eml⟩
      · refine ⟨_, rfl, rfl, _, rfl, wI (fun a3 => ?_) (fun a3 => ?_)⟩
        · -- a block given
          refine ⟨_, rfl, _, rfl, _, rfl, _, rfl, _, rfl, .inl ⟨_, rfl, _, _, rfl, rfl, (by show CDiv code 24; exact ⟨by decide, by decide⟩), im2, A', v', B', l, b, n, sl, o, code / 24, (by rw [eml]; rfl), Wa, ho, fun Hb sb => ?_, fun x Hb q q' x1 hbx hp nq nq' Wb kb => ?_⟩⟩
          · exact ⟨_, rfl, iteF ⟨_, _, _, _, A', v', B', rfl, S.same sb (by omega), eh, eb, eml⟩⟩
          · have Sb := S.step Wb (S.O.give n0 x1 hbx hlM Wa.I.d1 ho b1 hp) kb rfl (fun a ha => (reads_set ha).imp id fun z => by rw [z]; exact nq) (fun a ha => (lists_set ha).imp id fun z => by rw [z]; exact nq) (fun a ha => (own_set ha).imp id fun z => by rw [z]; exact nq')
            exact ⟨_, rfl, iteF ⟨_, _, _, _, _, _, _, rfl, Sb.same (Same.refl _) (by omega), eh, eb, eml⟩⟩
        · -- a row written
          refine ⟨_, rfl, _, rfl, _, rfl, _, rfl, _, rfl, _, rfl, _, rfl, .inl ⟨_, rfl, _, _, rfl, rfl, (by show CDiv code 24; exact ⟨by decide, by decide⟩), _, rfl, (by show 3 ≤ sizeLine; decide), ?_⟩⟩
          (intro tq n_tq; generalize he_tq : upd _ tq _ = Hb; obtain ⟨e_tq, s_tq, f_tq⟩ := new_f he_tq n_tq; clear he_tq)
          have Sb := S.same s_tq (Int.le_refl _)
          refine ⟨im2, A', v', B', l, b, n, sl, B0, { v with hd := l }, tq, act, code / 24, num, (by rw [eml]; rfl), Sb.W, Sb.D0, Sb.ap0, e_tq, fun x m Hc hxc hbx lm Wc kc => ?_⟩
          have Sc := Sb.step Wc (S.O.row hxc b1) (kc.mono fun a ha => by
            rcases List.mem_append.mp ha with e | e
            · exact List.mem_append_left _ (by simp [e])
            · exact List.mem_append_right _ (by simp [MA.own, e])) rfl (fun a ha => .inl ha) (fun a ha => .inl ha) (fun a ha => .inl ha)
          exact ⟨_, _, _, _, _, _, _, rfl, Sc.same (Same.refl _) (by omega), eh, eb, eml⟩
    rintro σ Ha ⟨u11, u12, u13, u14, A', v', B', rfl, S, eh, eb, eml⟩
    rw [List.length_map] at S
    have S := S.same (Same.refl _) (show c + (ss.length : Int) ≤ c + 5 by omega)
    have hS1 : Srt l v'.hd := by rw [eh]; exact hS
    have drS := dr.kp S.k lsB nca nsa
    have hba' : v'.ba.length < 1000 := by rw [eb]; exact hbs
    have obm : Ha B.ml = some (.lst (mdL B' { v' with hd := l } b n sl)) := by rw [← eml]; exact S.W.D.ob
    -- the handle
    refine ⟨fun σ H' => ∃ (u15 u16 : Option V) (v2 : IV) (B2 : MA) (l2 : List (Int × Int)), σ = [some (.ref im), some (.ref B.ml), some (.int ((b + 7) / 8)), some (.int (fdOf b n)), some (.ref dq), some (.int wi), some (.ref ca), some (.ref hq), some (.ref sa), some (.ref im2), some (.ref B0.ml), u11, u12, u13, u14, u15, u16, none, none] ∧ Stp T.C_Image T.C_Plan H H' im2 A' v2 B2 l2 b n sl B0 { v with hd := l } B (c + 5) ∧ Srt l2 v2.hd ∧ l2.length ≤ l.length + 1 ∧ v2.ba.length < 1000 ∧ B2.ml = B.ml, ?_, ?_⟩
    · refine ⟨_, rfl, hq, _, 1, .int hw, rfl, rfl, .of drS.h, rfl, _, _, rfl, rfl, _, rfl, wD (fun a1 => ?_) (fun a1 => ?_)⟩
      rotate_left
      · exact ⟨_, _, v', B', l, rfl, S, hS1, by omega, hba', eml⟩
      refine ⟨_, rfl, im2, _, _, _, _, rfl, S.W.I.ob, T.cl_Image, T.na_Image_handles, rfl, ?_⟩
      ((try dsimp only); (first | (refine Rg.sg (σ' := [some (.ref im), some (.ref B.ml), some (.int ((b + 7) / 8)), some (.int (fdOf b n)), some (.ref dq), some (.int wi), some (.ref ca), some (.ref hq), some (.ref sa), some (.ref im2), some (.ref B0.ml), u11, u12, u13, u14, some (.ref A'.hd), none, none, none]) ?_ ?_; focus exact rfl) | (refine Rg.sgG (σ' := [some (.ref im), some (.ref B.ml), some (.int ((b + 7) / 8)), some (.int (fdOf b n)), some (.ref dq), some (.int wi), some (.ref ca), some (.ref hq), some (.ref sa), some (.ref im2), some (.ref B0.ml), u11, u12, u13, u14, some (.ref A'.hd), none, none, none]) ?_ ?_; focus exact rfl)))
      have lhd : (hdK v'.hd).length < sizeLine := by
        have e1 : (hdK v'.hd).length = l.length := by unfold hdK; rw [List.length_map]; exact hS1.1.length_eq.symm
        rw [e1]
        exact lt_line (by omega)
      refine ⟨_, rfl, hq, _, 1, .int hw, rfl, rfl, .of drS.h, rfl, _, rfl, _, rfl, hq, _, 0, .int hk, rfl, rfl, .of drS.h, rfl, A'.hd, _, rfl, DPut.k (k := Sum.inl hk) S.W.I.hd lhd, ?_⟩
      generalize hHb : upd Ha A'.hd _ = Hb
      obtain ⟨e_b, k_b, _⟩ := own_f hHb
      clear hHb
      have Db : MdAt Hb B' { v' with hd := l } b n sl := S.W.D.kp k_b (fun x hx z => by
        rw [List.mem_singleton.mp hx] at z
        exact S.W.ap _ z (by simp [IA.reads])) (fun x hx o e => by
        rw [List.mem_singleton.mp hx, S.W.I.hd] at e
        exact .inr (.inr ⟨_, (Option.some.inj e).symm⟩))
      have hqn : hq ≠ A'.hd := fun z => by
        have := drS.h
        rw [z, S.W.I.hd] at this
        cases this
      have hqb : Hb hq = some (.tup [.int hk, .int hw]) := k_b.at1 drS.h hqn
      have obb : Hb B.ml = some (.lst (mdL B' { v' with hd := l } b n sl)) := by rw [← eml]; exact Db.ob
      refine ⟨_, rfl, B.ml, _, 3, .ref B'.hl, rfl, rfl, .of obb, rfl, B'.hl, rfl, ⟨_, .of Db.hl⟩, fun D2_ hD2_ => ?_⟩
      have lG : B'.G.length = l.length := by
        have := congrArg List.length Db.ge
        rw [List.length_map] at this
        exact this
      refine lc_list (K := K) (a := B'.hl) (xs := B'.G.map fun g => V.ref g.1) (PvG (fun g : Pg => V.ref g.1) Hb D2_ B'.G (fun g => decide (g.2.1 ≠ hk))) (PvG.start hD2_) (fun j H' _ Pv => .of (Pv.1 _ _ Db.hl)) ?_ ?_
      · rintro j yv H' hj Pv
        rw [List.getElem?_map] at hj
        obtain ⟨g, hx, rfl⟩ := Option.map_eq_some_iff.mp hj
        have eg := Pv.1 _ _ (Db.ga g (List.mem_of_getElem? hx))
        refine ⟨rfl, _, rfl, g.1, _, 0, .int g.2.1, rfl, rfl, .of eg, rfl, _, rfl, hq, _, 0, .int hk, rfl, rfl, .of (Pv.1 _ _ hqb), rfl, rfl, _, rfl, wNe (fun e1 => ?_) (fun e1 => ?_)⟩
        · exact ⟨_, rfl, Pv.yes hD2_ (Same.refl _) hx (by omega) (decide_eq_true e1)⟩
        · exact Pv.no (Same.refl _) hx (decide_eq_false (fun z => z e1))
      intro Hc Pv
      obtain ⟨sc, ec⟩ := Pv.all (by rw [List.length_map])
      refine ⟨_, rfl, (by show 1 ≤ sizeLine; decide), ?_⟩
      (intro q1 n_q1; generalize he_q1 : upd _ q1 _ = Hd; obtain ⟨e_q1, s_q1, f_q1⟩ := new_f he_q1 n_q1; clear he_q1)
      have lf := List.length_filter_le (fun g : Pg => decide (g.2.1 ≠ hk)) B'.G
      refine ⟨D2_, q1, _, _, rfl, rfl, s_q1 _ _ ec, e_q1, (by rw [List.length_map]; show _ + 1 ≤ sizeLine; exact lt_line (by omega)), ?_⟩
      (intro q2_ n_q2_; generalize he_q2_ : upd _ q2_ _ = He; obtain ⟨e_q2_, s_q2_, f_q2_⟩ := new_f he_q2_ n_q2_; clear he_q2_)
      obtain ⟨G1, eG1⟩ : ∃ G1 : List Pg, G1 = (B'.G.filter fun g => decide (g.2.1 ≠ hk)) ++ [(hq, (hk, hw))] := ⟨_, rfl⟩
      have e_q2 : He q2_ = some (.lst (G1.map fun g => V.ref g.1)) := by rw [e_q2_, eG1, List.map_append]; rfl
      have Sbe : Same Hb He := (sc.trans s_q1).trans s_q2_
      have De := Db.same Sbe
      have hG1 : PgAt He G1 := fun g hg => by
        rw [eG1] at hg
        rcases List.mem_append.mp hg with z | z
        · exact De.ga g (List.mem_filter.mp z).1
        · rw [List.mem_singleton.mp z]
          exact Sbe _ _ hqb
      have eG2 : G1.map (·.2) = (l.filter fun p => decide (p.1 ≠ hk)) ++ [(hk, hw)] := by
        have ge : B'.G.map (·.2) = l := De.ge
        rw [eG1, List.map_append, ← ge, List.filter_map]
        rfl
      have hG2 : (G1.map (·.2.1)).Nodup := by
        have e1 : G1.map (·.2.1) = (G1.map (·.2)).map (·.1) := by rw [List.map_map]; rfl
        rw [e1, eG2, List.map_append, List.nodup_append]
        refine ⟨?_, by simp, ?_⟩
        · have h1 : (l.map (·.1)).Nodup := List.Pairwise.imp (fun {a b} (h : a < b) => Int.ne_of_lt h) hS1.2
          exact h1.sublist ((List.filter_sublist).map _)
        · rintro a ha d hd rfl
          obtain ⟨p, hp, rfl⟩ := List.mem_map.mp ha
          have := of_decide_eq_true (List.mem_filter.mp hp).2
          simp only [List.map_cons, List.map_nil, List.mem_singleton] at hd
          exact this hd
      refine ⟨q2_, _, prH He, rfl, .of e_q2, fun x hx => ?_, fun ys u srt stb nu => ?_⟩
      · obtain ⟨g, hg, rfl⟩ := List.mem_map.mp hx
        exact ⟨g.1, rfl, by rw [hG1.pr hg]; exact hG1 g hg⟩
      obtain ⟨G', rfl, pG, aG⟩ := hG1.sorted hG2 srt stb.perm
      generalize hHf : upd He u _ = Hf
      obtain ⟨e_u, s_u, _⟩ := new_f hHf nu
      clear hHf
      have Sbf := Sbe.trans s_u
      have Df := Db.same Sbf
      have hGf : PgAt Hf G' := fun g hg => s_u _ _ (hG1 g (pG.mem_iff.mp hg))
      have nuo : u ∉ B'.own := fun z => by
        obtain ⟨xs, ex⟩ := De.held z
        rw [nu] at ex
        cases ex
      have pl2 : (G'.map (·.2)).Perm ((l.filter fun p => decide (p.1 ≠ hk)) ++ [(hk, hw)]) := by rw [← eG2]; exact pG.map _
      obtain ⟨hd2, ehd2, hS2⟩ := hS1.put pl2 aG
      rw [← ehd2] at e_b
      have If : ImgAt T.C_Image T.C_Plan Hf im2 A' { v' with hd := hd2 } b n sl := (S.W.I.putHd e_b k_b).keep Sbf
      have obf : Hf B.ml = some (.lst (mdL B' { v' with hd := l } b n sl)) := by rw [← eml]; exact Df.ob
      refine ⟨_, rfl, B.ml, _, _, 3, rfl, rfl, obf, rfl, ?_⟩
      have Eg : MdAt (upd Hf B.ml (.lst ((mdL B' { v' with hd := l } b n sl).set 3 (.ref u)))) { B' with hl := u, G := G' } { v' with hd := G'.map (·.2) } b n sl := by
        rw [← eml]
        exact Df.top (se := v'.se) (wi := v'.wi) (t := B'.ba) (hl := u) (bs := v'.ba) (G := G') (hd := G'.map (·.2)) Df.ba e_u hGf rfl (.inr nuo)
      generalize hHg : upd Hf B.ml _ = Hg at Eg ⊢
      obtain ⟨_, k_g, _⟩ := own_f hHg
      clear hHg
      have mlo2 : B.ml ∈ B'.own := by rw [← eml]; simp [MA.own]
      have Ie : ImgAt T.C_Image T.C_Plan He im2 A' { v' with hd := hd2 } b n sl := (S.W.I.putHd e_b k_b).keep Sbe
      have oset : ∀ x ∈ ({ B' with hl := u, G := G' } : MA).own, x ∈ B'.own ∨ x = u := fun x hx => by
        simp only [MA.own, List.mem_cons] at hx ⊢
        rcases hx with h | h | h | h | h | h
        · exact .inl (.inl h)
        · exact .inl (.inr (.inl h))
        · exact .inl (.inr (.inr (.inl h)))
        · exact .inl (.inr (.inr (.inr (.inl h))))
        · exact .inr h
        · exact .inl (.inr (.inr (.inr (.inr (.inr h)))))
      have Keg : Kp B'.own He Hg := kpIn (Kp.of s_u) k_g mlo2
      have Wg : Tw T.C_Image T.C_Plan Hg im2 A' { v' with hd := hd2 } { B' with hl := u, G := G' } (G'.map (·.2)) b n sl := Tw.of Ie S.W.ap Keg Eg fun x hx => (oset x hx).imp id fun z => by rw [z]; exact nu
      have nua : Ha u = none := by
        have h1 : Hb u = none := Sbe.free nu
        refine k_b.free (fun z => ?_) h1
        rw [List.mem_singleton.mp z, e_b] at h1
        cases h1
      have Sg := S.hand Wg S.O.hd ((k_b.mono fun x hx => by rw [List.mem_singleton.mp hx]; simp).trans ((Kp.of Sbf).trans (k_g.mono fun x hx => by rw [List.mem_singleton.mp hx]; exact List.mem_cons_of_mem _ mlo2))) fun x hx => (oset x hx).imp id fun z => by rw [z]; exact nua
      have ll2 : (G'.map (·.2)).length ≤ l.length + 1 := by
        rw [pl2.length_eq, List.length_append]
        have := List.length_filter_le (fun p : Int × Int => decide (p.1 ≠ hk)) l
        show _ + 1 ≤ _
        omega
      exact ⟨_, _, _, _, _, rfl, Sg, hS2, ll2, hba', eml⟩
    rintro σ Hb ⟨u15, u16, v2, B2, l2, rfl, S2, hS2, hl2, hba2, eml2⟩
    -- settle
    have drS2 := dr.kp S2.k lsB nca nsa
    have Iold : ImgAt T.C_Image T.C_Plan Hb im A v b n sl := I.keepF fun x o hx e => S2.k x o e fun z => W.ap x z hx
    have hst : A'.st ∉ A.reads im := fun z => by
      rcases S2.na A'.st (by simp) with q | q
      · exact W.ap _ q z
      · obtain ⟨u, eu⟩ := I.held z
        rw [q] at eu
        cases eu
    have I2b := S2.W.I
    refine ⟨_, rfl, im2, _, _, rfl, I2b.ob, rfl, _, rfl, im2, A', v2, b, n, sl, im, A, v, rfl, I2b, Iold, hst, fun Hc Ic kc => ⟨rfl, _, rfl, iteF ?_⟩⟩
    have kc' : Kp (A'.ca :: A'.ho :: A'.st :: A'.rs) Hb Hc := kc.mono fun x hx => by rw [List.mem_singleton.mp hx]; simp
    have Dc := S2.W.img kc'
    have D0c := md_n S2.D0 kc (fun x hx z => by rw [List.mem_singleton.mp hx] at z; exact (S2.ap0 _ z).1 (by simp [IA.reads])) (fun x hx => by rw [List.mem_singleton.mp hx]; exact ⟨_, I2b.st⟩)
    have o2 : B2.ml ∈ B2.own := by simp [MA.own]
    have o3 : B2.st ∈ B2.own := by simp [MA.own]
    have obc : ∀ {Hx : Hp} {vx : IV}, MdAt Hx B2 vx b n sl → Hx B.ml = some (.lst (mdL B2 vx b n sl)) := fun D => by rw [← eml2]; exact D.ob
    have d0c : (v2.M.length : Int) = b := Dc.d0
    have ecr : ((B2.rs.map V.ref).length : Int) = b := by rw [List.length_map, Dc.gr.len]; exact d0c
    -- the model's stamps
    refine ⟨_, rfl, B.ml, _, 0, .ref B2.ca, rfl, rfl, .of (obc Dc), rfl, B2.ca, _, rfl, .inl (.of Dc.gr.out), _, rfl, ?_⟩
    rw [ecr]
    refine ⟨by omega, by omega, for_range (lo := 0) (n := b.toNat) (fun i σ H' => ∃ (u17 u18 : Option V), σ = [some (.ref im), some (.ref B.ml), some (.int ((b + 7) / 8)), some (.int (fdOf b n)), some (.ref dq), some (.int wi), some (.ref ca), some (.ref hq), some (.ref sa), some (.ref im2), some (.ref B0.ml), u11, u12, u13, u14, u15, u16, u17, u18] ∧ MdAt H' B2 { v2 with hd := l2, st := setl b n v2.M v.M v2.ho v2.se v2.st i } b n sl ∧ Kp [B2.st] Hc H' ∧ MdAt H' B0 { v with hd := l } b n sl) ⟨none, none, rfl, Dc, Kp.refl, D0c⟩ ?_ ?_⟩
    · rintro i σ Hd hi ⟨u17, u18, rfl, Dd, kd, D0d⟩
      have hib : (i : Int) < b := by omega
      rw [show (0 : Int) + (i : Int) = (i : Int) by omega]
      ((try dsimp only); (first | (refine Rg.sg (σ' := [some (.ref im), some (.ref B.ml), some (.int ((b + 7) / 8)), some (.int (fdOf b n)), some (.ref dq), some (.int wi), some (.ref ca), some (.ref hq), some (.ref sa), some (.ref im2), some (.ref B0.ml), u11, u12, u13, u14, u15, u16, some (.int (i : Int)), u18]) ?_ ?_; focus exact rfl) | (refine Rg.sgG (σ' := [some (.ref im), some (.ref B.ml), some (.int ((b + 7) / 8)), some (.int (fdOf b n)), some (.ref dq), some (.int wi), some (.ref ca), some (.ref hq), some (.ref sa), some (.ref im2), some (.ref B0.ml), u11, u12, u13, u14, u15, u16, some (.int (i : Int)), u18]) ?_ ?_; focus exact rfl)))
      have hiM : i < v2.M.length := by omega
      have hiM0 : i < v.M.length := by omega
      have hiH : i < v2.ho.length := by have := I2b.d2; omega
      have hiS : i < v2.st.length := by have := I2b.d3; omega
      refine ⟨_, rfl, B.ml, _, 2, .ref B2.st, rfl, rfl, .of (obc Dd), rfl, ?_⟩
      ((try dsimp only); (first | (refine Rg.sg (σ' := [some (.ref im), some (.ref B.ml), some (.int ((b + 7) / 8)), some (.int (fdOf b n)), some (.ref dq), some (.int wi), some (.ref ca), some (.ref hq), some (.ref sa), some (.ref im2), some (.ref B0.ml), u11, u12, u13, u14, u15, u16, some (.int (i : Int)), some (.ref B2.st)]) ?_ ?_; focus exact rfl) | (refine Rg.sgG (σ' := [some (.ref im), some (.ref B.ml), some (.int ((b + 7) / 8)), some (.int (fdOf b n)), some (.ref dq), some (.int wi), some (.ref ca), some (.ref hq), some (.ref sa), some (.ref im2), some (.ref B0.ml), u11, u12, u13, u14, u15, u16, some (.int (i : Int)), some (.ref B2.st)]) ?_ ?_; focus exact rfl)))
      obtain ⟨r, r1, r2, _⟩ := Dd.gr.get (List.getElem?_eq_getElem hiM)
      obtain ⟨r0, r01, r02, _⟩ := D0d.gr.get (List.getElem?_eq_getElem hiM0)
      have yes : Chg b n v2.M v.M v2.ho v2.se i → ∃ (u17 u18 : Option V), [some (.ref im), some (.ref B.ml), some (.int ((b + 7) / 8)), some (.int (fdOf b n)), some (.ref dq), some (.int wi), some (.ref ca), some (.ref hq), some (.ref sa), some (.ref im2), some (.ref B0.ml), u11, u12, u13, u14, u15, u16, some (.int (i : Int)), some (.ref B2.st)] = [some (.ref im), some (.ref B.ml), some (.int ((b + 7) / 8)), some (.int (fdOf b n)), some (.ref dq), some (.int wi), some (.ref ca), some (.ref hq), some (.ref sa), some (.ref im2), some (.ref B0.ml), u11, u12, u13, u14, u15, u16, u17, u18] ∧ MdAt (upd Hd B2.st (.lst (((setl b n v2.M v.M v2.ho v2.se v2.st i).map V.int).set i (.int v2.se)))) B2 { v2 with hd := l2, st := setl b n v2.M v.M v2.ho v2.se v2.st (i + 1) } b n sl ∧ Kp [B2.st] Hc (upd Hd B2.st (.lst (((setl b n v2.M v.M v2.ho v2.se v2.st i).map V.int).set i (.int v2.se)))) ∧ MdAt (upd Hd B2.st (.lst (((setl b n v2.M v.M v2.ho v2.se v2.st i).map V.int).set i (.int v2.se)))) B0 { v with hd := l } b n sl := fun q => by
        refine ⟨_, _, rfl, ?_, kd.own1, md_n D0d (Kp.refl.own1) (fun x hx z => by rw [List.mem_singleton.mp hx] at z; exact (S2.ap0 _ z).2 o3) (fun x hx => by rw [List.mem_singleton.mp hx]; exact ⟨_, Dd.st⟩)⟩
        rw [setl_succ, if_pos q]
        exact Dd.putSt
      have no : ¬ Chg b n v2.M v.M v2.ho v2.se i → ∃ (u17 u18 : Option V), [some (.ref im), some (.ref B.ml), some (.int ((b + 7) / 8)), some (.int (fdOf b n)), some (.ref dq), some (.int wi), some (.ref ca), some (.ref hq), some (.ref sa), some (.ref im2), some (.ref B0.ml), u11, u12, u13, u14, u15, u16, some (.int (i : Int)), some (.ref B2.st)] = [some (.ref im), some (.ref B.ml), some (.int ((b + 7) / 8)), some (.int (fdOf b n)), some (.ref dq), some (.int wi), some (.ref ca), some (.ref hq), some (.ref sa), some (.ref im2), some (.ref B0.ml), u11, u12, u13, u14, u15, u16, u17, u18] ∧ MdAt Hd B2 { v2 with hd := l2, st := setl b n v2.M v.M v2.ho v2.se v2.st (i + 1) } b n sl ∧ Kp [B2.st] Hc Hd ∧ MdAt Hd B0 { v with hd := l } b n sl := fun q => by
        refine ⟨_, _, rfl, ?_, kd, D0d⟩
        rw [setl_succ, if_neg q]
        exact Dd
      have ixS : ixN ((setl b n v2.M v.M v2.ho v2.se v2.st i).map V.int).length (i : Int) = some i := ixN_nat rfl (by rw [List.length_map, setl_len]; exact hiS)
      refine ⟨_, rfl, B.ml, _, 0, .ref B2.ca, rfl, rfl, .of (obc Dd), rfl, _, rfl, _, rfl, B2.ca, B2.rs, v2.M, b, n, _, rfl, Dd.gr, d0c, Dd.d1, by omega, by omega, hib, _, _, rfl, rfl, _, rfl, wD (fun hk0 => ?_) (fun hk0 => ?_)⟩
      · have hkn := kind_pos.mp hk0
        refine ⟨_, rfl, B.ml, _, 0, .ref B2.ca, rfl, rfl, .of (obc Dd), rfl, _, rfl, B2.ca, _, _, .ref r, rfl, rfl, .of Dd.gr.out, atI_nat (by rw [List.getElem?_map, r1]; rfl), _, rfl, B0.ml, _, 0, .ref B0.ca, rfl, rfl, .of D0d.ob, rfl, _, rfl, B0.ca, _, _, .ref r0, rfl, rfl, .of D0d.gr.out, atI_nat (by rw [List.getElem?_map, r01]; rfl), dI _, dI _, dpI r2, dpI r02, shI _, shI _, _, rfl, ?_⟩
        rw [eqvI]
        by_cases em : v2.M[i] = v.M[i]
        · rw [decide_eq_true em]
          refine iteF ⟨_, rfl, B.ml, _, 1, .ref B2.ho, rfl, rfl, .of (obc Dd), rfl, _, rfl, B2.ho, _, _, _, rfl, rfl, .of Dd.ho, atI_nat (by rw [List.getElem?_map, List.getElem?_eq_getElem hiH]; rfl), _, rfl, B.ml, _, 4, .int v2.se, rfl, rfl, .of (obc Dd), rfl, rfl, _, rfl, wI (fun hs => ?_) (fun hs => ?_)⟩
          · exact ⟨_, rfl, B.ml, _, 4, .int v2.se, rfl, rfl, .of (obc Dd), rfl, _, rfl, _, rfl, B2.st, _, _, i, rfl, rfl, Dd.st, ixS, yes (.inr (by rw [List.getElem?_eq_getElem hiH, hs]))⟩
          · refine no fun q => ?_
            rcases q with q | q
            · exact q.2 (by rw [List.getElem?_eq_getElem hiM, List.getElem?_eq_getElem hiM0, em])
            · rw [List.getElem?_eq_getElem hiH] at q
              exact hs (Option.some.inj q)
        · rw [decide_eq_false em]
          refine iteT ⟨_, rfl, B.ml, _, 4, .int v2.se, rfl, rfl, .of (obc Dd), rfl, _, rfl, _, rfl, B2.st, _, _, i, rfl, rfl, Dd.st, ixS, yes (.inl ⟨hkn, fun z => em ?_⟩)⟩
          rw [List.getElem?_eq_getElem hiM, List.getElem?_eq_getElem hiM0] at z
          exact Option.some.inj z
      · refine no fun q => ?_
        rcases q with q | q
        · exact hk0 (kind_pos.mpr q.1)
        · exact hk0 (kind_pos.mpr (S2.O.kz i hib q))
    rintro σ Hd ⟨u17, u18, rfl, Dd, kd, D0d⟩
    have kd' : Kp B2.own Hc Hd := kd.mono fun x hx => by rw [List.mem_singleton.mp hx]; exact o3
    have Wd : Tw T.C_Image T.C_Plan Hd im2 A' { v2 with st := setl b n v2.M v.M v2.ho v2.se v2.st b.toNat } B2 l2 b n sl := Tw.of Ic S2.W.ap kd' Dd fun x hx => .inl hx
    have Sd := S2.step Wd S2.O.st (fun a u ea na => kd' a u (kc' a u ea fun z => na (List.mem_append_left _ z)) fun z => na (List.mem_append_right _ z)) rfl (fun a ha => .inl ha) (fun a ha => .inl ha) (fun a ha => .inl ha)
    have Iod : ImgAt T.C_Image T.C_Plan Hd im A v b n sl := I.keepF fun x o hx e => Sd.k x o e fun z => W.ap x z hx
    refine ⟨_, rfl, im2, A', _, b, n, sl, l2, rfl, Wd.I, hS2, by omega, fun He r c1 h1 t1 d1 se nr er hD => ?_⟩
    refine ⟨_, rfl, _, _, rfl, (by rw [← eml2]; exact all_sm (Wd.I.keep se) (Wd.D.same se) (by omega) hba2 er hD), fun Hf sf => ⟨_, rfl, iteF ?_⟩⟩
    have sdf := se.trans sf
    refine ⟨_, rfl, im, A, v, b, n, sl, l, rfl, Iod.keep sdf, hS, by omega, fun Hg r2 c2 h2 t2 d2 sg2 nr2 er2 hD2 => ?_⟩
    refine ⟨_, rfl, _, _, rfl, all_sm (Iod.keep (sdf.trans sg2)) (Sd.D0.same (sdf.trans sg2)) (by omega) hba er2 hD2, fun Hh sh => ⟨_, rfl, iteF ?_⟩⟩
    have sdh := (sdf.trans sg2).trans sh
    exact ⟨_, rfl, k Hh im2 A' _ B2 l2 (Wd.same sdh) hS2 hl2 hba2 Sd.O (Sd.k.same sdh) Sd.nb eml2⟩
end
end K78
namespace K78
open PySem PySem.Spec PyProof.Rows L2 Rg
/-- the rows being drawn, the feed beside them -/
structure RwI (H : Hp) (fa ra : Addr) (rr : List Addr) (R : List (List Int)) (fs : List Int) (H' : Hp) : Prop where
  f : H' fa = some (.lst (fs.map V.int))
  g : Grid H' ra rr R
  k : Kp [fa] H H'
  n0 : H ra = none
  n1 : ∀ q ∈ rr, H q = none
  h : ∃ o, H fa = some o
section
variable {H H' H2 : Hp} {fa ra : Addr} {rr : List Addr} {R : List (List Int)} {fs fs2 : List Int}
theorem RwI.ne (W : RwI H fa ra rr R fs H') {x : Addr} (h : x = ra ∨ x ∈ rr) : x ≠ fa := fun z => by
  obtain ⟨o, eo⟩ := W.h
  rcases h with e | e
  · rw [← z, e, W.n0] at eo; cases eo
  · rw [← z, W.n1 x e] at eo; cases eo
theorem RwI.pick (W : RwI H fa ra rr R fs H') (e : H2 fa = some (.lst (fs2.map V.int))) (k : Kp [fa] H' H2) : RwI H fa ra rr R fs2 H2 :=
  ⟨e, W.g.keep fun y o hy ey => k.at1 ey (W.ne hy), W.k.trans k, W.n0, W.n1, W.h⟩
theorem RwI.same (W : RwI H fa ra rr R fs H') (s : Same H' H2) : RwI H fa ra rr R fs H2 := ⟨s _ _ W.f, W.g.same s, W.k.same s, W.n0, W.n1, W.h⟩
theorem RwI.row (W : RwI H fa ra rr R fs H') {i : Nat} {r : Addr} {m : List Int} (hr : rr[i]? = some r) : RwI H fa ra rr (R.set i m) fs (upd H' r (.lst (m.map V.int))) := by
  have rin := List.mem_of_getElem? hr
  exact ⟨by rw [upd_ne (W.ne (.inr rin)).symm]; exact W.f, W.g.put hr, W.k.put (W.n1 r rin), W.n0, W.n1, W.h⟩
theorem RwI.fresh (W : RwI H fa ra rr R fs H') {x : Addr} (h : H' x = none) : H x = none := W.k.free (fun z => by rw [List.mem_singleton.mp z, W.f] at h; cases h) h
theorem RwI.snoc (W : RwI H fa ra rr R fs H') {D : Addr} {m : List Int} (hD : H' D = none) (s : Same H' H2) (e : H2 D = some (.lst (m.map V.int))) : RwI H fa ra (rr ++ [D]) (R ++ [m]) fs (upd H2 ra (.lst (rr.map V.ref ++ [.ref D]))) := by
  have nr : ra ≠ fa := W.ne (.inl rfl)
  have nD : D ≠ ra := fun z => by rw [z, W.g.out] at hD; cases hD
  have nDr : D ∉ rr := fun z => by
    obtain ⟨o, eo⟩ := W.g.held z
    rw [hD] at eo; cases eo
  refine ⟨by rw [upd_ne nr.symm]; exact s _ _ W.f, ⟨by rw [upd_same, List.map_append]; rfl, by rw [List.length_append, List.length_append, W.g.len]; rfl, fun i r m' a b => ?_, ?_, fun z => ?_⟩, (W.k.same s).put W.n0, W.n0, fun q hq => ?_, W.h⟩
  · by_cases c : i < rr.length
    · rw [List.getElem?_append_left c] at a
      rw [List.getElem?_append_left (by rw [← W.g.len]; exact c)] at b
      have rin := List.mem_of_getElem? a
      rw [upd_ne (fun z => W.g.nin (by rw [← z]; exact rin))]
      exact s _ _ (W.g.row i r m' a b)
    · have e1 : i = rr.length := by
        have := (List.getElem?_eq_some_iff.mp a).1
        rw [List.length_append] at this
        simp only [List.length_cons, List.length_nil] at this
        omega
      rw [e1, List.getElem?_append_right (Nat.le_refl _), Nat.sub_self] at a
      rw [e1, W.g.len, List.getElem?_append_right (Nat.le_refl _), Nat.sub_self] at b
      cases a
      cases b
      rw [upd_ne nD]
      exact e
  · exact List.nodup_append.mpr ⟨W.g.nd, by simp, fun a ha c hc => by rw [List.mem_singleton.mp hc]; exact fun z => nDr (z ▸ ha)⟩
  · rcases List.mem_append.mp z with q | q
    · exact W.g.nin q
    · exact nD (List.mem_singleton.mp q).symm
  · rcases List.mem_append.mp hq with z | z
    · exact W.n1 q z
    · rw [List.mem_singleton.mp z]
      exact W.fresh hD
theorem RwI.swap (W : RwI H fa ra rr R fs H') {i : Nat} {q : Addr} {m : List Int} (hq : H' q = none) (s : Same H' H2) (e : H2 q = some (.lst (m.map V.int))) : RwI H fa ra (rr.set i q) (R.set i m) fs (upd H2 ra (.lst ((rr.map V.ref).set i (V.ref q)))) := by
  have nr : ra ≠ fa := W.ne (.inl rfl)
  refine ⟨by rw [upd_ne nr.symm]; exact s _ _ W.f, W.g.swap s hq e, (W.k.same s).put W.n0, W.n0, fun x hx => ?_, W.h⟩
  rcases mem_set_of hx with z | z
  · rw [z]; exact W.fresh hq
  · exact W.n1 x z
end
section
variable {P : Program} {w : World} {K : PySem.W.Frag} {mg : Str → Option Value} {base : Heap}
def R8 (b : Int) (R : List (List Int)) : Prop := (R.length : Int) = b ∧ (∀ m ∈ R, m.length = 8) ∧ ∀ o, o < 4 → 0 ≤ cellAt R 0 o ∧ cellAt R 0 o ≤ 20
theorem R8.row {b : Int} {R : List (List Int)} {i : Nat} {m : List Int} (h : R8 b R) (hi : i ≠ 0) (hm : m.length = 8) : R8 b (R.set i m) := by
  refine ⟨by rw [List.length_set]; exact h.1, fun m' hm' => ?_, fun o ho => ?_⟩
  · rcases mem_set_of hm' with e | e
    · rw [e]; exact hm
    · exact h.2.1 m' e
  · rw [cell_set hi]
    exact h.2.2 o ho
def sp_Lrows : Sp := fun vs H Q _ => ∃ (fa : Addr) (fs : List Int) (b : Int), vs = [.ref fa, .int b, .int ((b + 7) / 8)] ∧ H fa = some (.lst (fs.map V.int)) ∧ 8 ≤ b ∧ b ≤ 64 ∧
  ∀ H' ra rr R fs', RwI H fa ra rr R fs' H' → R8 b R → Q (.ref ra) H'
theorem ok_Lrows (T : Tx K mg) : FnOk P w K mg base CX0 2 T.f_Lrows T.fd_Lrows ["_law_feed_here", "_law_blocks", "_law_maps"] sp_Lrows := by
  refine T.F_Lrows.ok sc_Lrows (fun vs H Q E h => ?_) (fun cdv A outer s H vs Q E hr h => ?_)
  · obtain ⟨_, _, _, rfl, _⟩ := h; rfl
  · obtain ⟨fa, fs, b, rfl, ef, b1, b2, k⟩ := h
    refine ⟨_, (pss_cons (ps_set (i := 3) sc_Lrows.nd rfl (.inr rfl) (pe_call (ok_Lpick T) hr rfl T.mg_Lpick T.F_Lpick.kp (b_Lpick T) .nil pass0 (pa_cons (pv 0) (pa_cons pe_int pa_nil))))
      (pss_cons (ps_set (i := 4) sc_Lrows.nd rfl (.inl rfl) (pe_lst pa_nil))
      (pss_cons (ps_for PassesOwn.never rfl (pi_range1 rfl T.b_range (pa_cons (pv 1) pa_nil)) (pg_name (i := 5) sc_Lrows.nd rfl (.inr rfl))
        (pss_one (ps_expr (pe_bm PySem.F.plainAttrs_list PySem.F.slot_list_append PySem.F.type_list_append mt_append (pv 4) (pa_cons (pe_lc rfl (own := [("_law_j", 6)]) (g := gName 6) (tt := tYes) sc_Lrows.nd (pi_range1 rfl T.b_range (pa_cons pe_int pa_nil)) (blkOk_by (N := ["_law_feed_here", "_law_blocks", "_law_maps", "_law_seed", "_law_rows_here", "_law_x", "_law_j", "_law_u", "_law_k", "_law_code", "_law_row", "_law_number"]) (sc := defScope s_Lrows) (by decide +kernel)) (fun _ _ _ _ _ => pg_name (i := 6) sc_Lrows.nd rfl (Or.inl rfl)) (fun _ _ _ _ _ => pts_nil) (fun _ _ _ _ _ => (pe_op op_mod (pe_callTy call_int1 rfl T.b_int (by decide +kernel) (pa_cons (pe_op op_add (pe_op op_mul (pv 3) (pe_op op_add (pv 5) pe_int)) (pe_op op_mul pe_int (pv 6))) pa_nil)) pe_int))) pa_nil)))))
      (pss_cons (ps_asg (pe_op op_cat (pe_lc rfl (own := [("_law_u", 7)]) (g := gName 7) (tt := tYes) sc_Lrows.nd (pi_range1 rfl T.b_range (pa_cons pe_int pa_nil)) (blkOk_by (N := ["_law_feed_here", "_law_blocks", "_law_maps", "_law_seed", "_law_rows_here", "_law_x", "_law_j", "_law_u", "_law_k", "_law_code", "_law_row", "_law_number"]) (sc := defScope s_Lrows) (by decide +kernel)) (fun _ _ _ _ _ => pg_name (i := 7) sc_Lrows.nd rfl (Or.inl rfl)) (fun _ _ _ _ _ => pts_nil) (fun _ _ _ _ _ => (pe_op op_mod (pe_op op_fdiv (pv 3) (pe_op op_add (pv 7) pe_int)) pe_int))) (pe_lc rfl (own := [("_law_u", 7)]) (g := gName 7) (tt := tYes) sc_Lrows.nd (pi_range1 rfl T.b_range (pa_cons pe_int pa_nil)) (blkOk_by (N := ["_law_feed_here", "_law_blocks", "_law_maps", "_law_seed", "_law_rows_here", "_law_x", "_law_j", "_law_u", "_law_k", "_law_code", "_law_row", "_law_number"]) (sc := defScope s_Lrows) (by decide +kernel)) (fun _ _ _ _ _ => pg_name (i := 7) sc_Lrows.nd rfl (Or.inl rfl)) (fun _ _ _ _ _ => pts_nil) (fun _ _ _ _ _ => (pe_op op_mod (pe_op op_fdiv (pv 3) (pe_op op_add (pe_op op_mul pe_int (pv 7)) pe_int)) pe_int)))) (pg_sub (pv 4) pe_int set_list))
      (pss_cons (ps_for PassesOwn.never rfl (pi_range1 rfl T.b_range (pa_cons (pe_op op_mul pe_int (pv 2)) pa_nil)) (pg_name (i := 8) sc_Lrows.nd rfl (.inl rfl))
        (pss_cons (ps_set (i := 9) sc_Lrows.nd rfl (.inl rfl) (pe_op op_mod (pe_callTy call_int1 rfl T.b_int (by decide +kernel) (pa_cons (pe_op op_add (pe_call (ok_Lpick T) hr rfl T.mg_Lpick T.F_Lpick.kp (b_Lpick T) .nil pass0 (pa_cons (pv 0) (pa_cons pe_int pa_nil))) (pe_op op_mul pe_int (pv 8))) pa_nil)) pe_int))
        (pss_cons (ps_set (i := 10) sc_Lrows.nd rfl (.inl rfl) (pe_ix ix_list (pv 4) (pe_op op_add pe_int (pe_op op_fdiv (pv 8) pe_int)) (fun _ _ => rfl)))
        (pss_one (ps_for PassesOwn.never rfl (pi_range1 rfl T.b_range (pa_cons pe_int pa_nil)) (pg_name (i := 6) sc_Lrows.nd rfl (.inl rfl))
          (pss_cons (ps_asg (pe_op op_mod (pv 9) pe_int) (pg_sub (pv 10) (pe_op op_add (pe_op op_mul pe_int (pe_op op_mod (pv 8) pe_int)) (pv 6)) set_list))
          (pss_one (ps_set (i := 9) sc_Lrows.nd rfl (.inl rfl) (pe_op op_fdiv (pv 9) pe_int)))))))))
      (pss_cons (ps_for PassesOwn.never rfl (pi_range1 rfl T.b_range (pa_cons (pe_call (ok_Lpick T) hr rfl T.mg_Lpick T.F_Lpick.kp (b_Lpick T) .nil pass0 (pa_cons (pv 0) (pa_cons pe_int pa_nil))) pa_nil)) (pg_name (i := 8) sc_Lrows.nd rfl (.inl rfl))
        (pss_cons (ps_set (i := 5) sc_Lrows.nd rfl (.inr rfl) (pe_op op_mod (pe_callTy call_int1 rfl T.b_int (by decide +kernel) (pa_cons (pe_call (ok_Lpick T) hr rfl T.mg_Lpick T.F_Lpick.kp (b_Lpick T) .nil pass0 (pa_cons (pv 0) (pa_cons pe_int pa_nil))) pa_nil)) (pv 1)))
        (pss_cons (ps_set (i := 6) sc_Lrows.nd rfl (.inl rfl) (pe_call (ok_Lpick T) hr rfl T.mg_Lpick T.F_Lpick.kp (b_Lpick T) .nil pass0 (pa_cons (pv 0) (pa_cons pe_int pa_nil))))
        (pss_cons (ps_set (i := 11) sc_Lrows.nd rfl (.inl rfl) (pe_op op_add (pe_call (ok_Lpick T) hr rfl T.mg_Lpick T.F_Lpick.kp (b_Lpick T) .nil pass0 (pa_cons (pv 0) (pa_cons pe_int pa_nil))) (pe_op op_mul pe_int (pe_call (ok_Lpick T) hr rfl T.mg_Lpick T.F_Lpick.kp (b_Lpick T) .nil pass0 (pa_cons (pv 0) (pa_cons pe_int pa_nil))))))
        (pss_cons (ps_set (i := 11) sc_Lrows.nd rfl (.inl rfl) (pe_op op_add (pv 11) (pe_op op_mul pe_int (pe_call (ok_Lpick T) hr rfl T.mg_Lpick T.F_Lpick.kp (b_Lpick T) .nil pass0 (pa_cons (pv 0) (pa_cons pe_int pa_nil))))))
        (pss_one (ps_if (PW.pt (pw_or (pt_cmpR op_eq (pv 5) pe_int (nomark _)) (pw_or1 (pt_cmpR op_gt (pv 5) (pe_op op_add pe_int (pv 2)) (nomark _)))))
          (pss_cons (ps_set (i := 10) sc_Lrows.nd rfl (.inl rfl) (pe_ix ix_list (pv 4) (pv 5) (fun _ _ => rfl)))
          (pss_one (ps_asg (pv 11) (pg_sub (pv 10) (pv 6) set_list))))
          pss_nil)))))))
      (pss_one (ps_ret (pv 4))))))))), ?_⟩
    refine ⟨_, rfl, fa, fs, 1000, rfl, ef, by decide, fun seed f1 s0 s1 _ => ?_⟩
    (generalize he_y : upd _ fa _ = H1; obtain ⟨e_y, k_y, f_y⟩ := own_f he_y; clear he_y)
    ((try dsimp only); (first | (refine Rg.sg (σ' := [some (.ref fa), some (.int b), some (.int ((b + 7) / 8)), some (.int seed), none, none, none, none, none, none, none, none]) ?_ ?_; focus exact rfl) | (refine Rg.sgG (σ' := [some (.ref fa), some (.int b), some (.int ((b + 7) / 8)), some (.int seed), none, none, none, none, none, none, none, none]) ?_ ?_; focus exact rfl)))
    refine ⟨Nat.zero_le _, ?_⟩
    (intro ra n_ra; generalize he_ra : upd _ ra _ = H2; obtain ⟨e_ra, s_ra, f_ra⟩ := new_f he_ra n_ra; clear he_ra)
    have nra : H ra = none := by
      have := k_y.free (fun z => by rw [List.mem_singleton.mp z, e_y] at n_ra; cases n_ra) n_ra
      exact this
    have W2 : RwI H fa ra [] [] f1 H2 := ⟨s_ra _ _ e_y, ⟨e_ra, rfl, (fun i r m a _ => by cases a), List.nodup_nil, List.not_mem_nil⟩, k_y.same s_ra, nra, (fun q h => by cases h), ⟨_, ef⟩⟩
    ((try dsimp only); (first | (refine Rg.sg (σ' := [some (.ref fa), some (.int b), some (.int ((b + 7) / 8)), some (.int seed), some (.ref ra), none, none, none, none, none, none, none]) ?_ ?_; focus exact rfl) | (refine Rg.sgG (σ' := [some (.ref fa), some (.int b), some (.int ((b + 7) / 8)), some (.int seed), some (.ref ra), none, none, none, none, none, none, none]) ?_ ?_; focus exact rfl)))
    refine ⟨_, rfl, _, rfl, by omega, by omega, for_range (lo := 0) (n := b.toNat) (fun i σ H' => ∃ (u5 u6 : Option V) (rr : List Addr) (R : List (List Int)), σ = [some (.ref fa), some (.int b), some (.int ((b + 7) / 8)), some (.int seed), some (.ref ra), u5, u6, none, none, none, none, none] ∧ RwI H fa ra rr R f1 H' ∧ R.length = i ∧ ∀ m ∈ R, m.length = 8) ⟨none, none, [], [], rfl, W2, rfl, fun m h => by cases h⟩ ?_ ?_⟩
    · rintro i σ H3 hi ⟨u5, u6, rr, R, rfl, W3, lR, h8⟩
      ((try dsimp only); (first | (refine Rg.sg (σ' := [some (.ref fa), some (.int b), some (.int ((b + 7) / 8)), some (.int seed), some (.ref ra), some (.int (0 + (i : Int))), u6, none, none, none, none, none]) ?_ ?_; focus exact rfl) | (refine Rg.sgG (σ' := [some (.ref fa), some (.int b), some (.int ((b + 7) / 8)), some (.int seed), some (.ref ra), some (.int (0 + (i : Int))), u6, none, none, none, none, none]) ?_ ?_; focus exact rfl)))
      refine ⟨_, rfl, .inl ⟨rfl, _, .inl (.inl W3.g.out)⟩, _, rfl, by omega, by omega, fun D hD => ?_⟩
      refine lc_range (lo := 0) (n := (8 : Int).toNat) (fun j H' => ∃ m : List Int, m.length = j ∧ H' D = some (.lst (m.map V.int)) ∧ Same H3 H') ⟨[], rfl, upd_same, same_upd hD⟩ ?_ ?_
      · rintro j H' hj ⟨m, lm, e1, S1⟩
        have hj8 : j < 8 := hj
        refine ⟨rfl, yes_ ⟨_, rfl, _, rfl, _, _, rfl, rfl, _, _, rfl, rfl, CMul_l (by omega), _, rfl, _, _, rfl, rfl, CMul_l (by decide), _, _, rfl, rfl, .inl ⟨_, rfl, _, _, rfl, rfl, (by show (0 : Int) < 1000; decide), ?_⟩⟩⟩
        refine ⟨_, e1, small1000 (by rw [List.length_map]; omega), m ++ [_], by rw [List.length_append, lm]; rfl, by rw [upd_same, List.map_append]; rfl, fun x o e => ?_⟩
        rw [upd_ne (ne_of_none e hD)]
        exact S1 _ _ e
      rintro H4 ⟨m, lm, e1, S1⟩
      refine ⟨ra, _, _, rfl, rfl, S1 _ _ W3.g.out, lt_line (by rw [List.length_map, W3.g.len]; omega), ?_⟩
      refine ⟨_, _, _, _, rfl, W3.snoc hD S1 e1, by rw [List.length_append, lR]; rfl, fun x hx => ?_⟩
      rcases List.mem_append.mp hx with z | z
      · exact h8 x z
      · rw [List.mem_singleton.mp z]
        exact lm
    rintro σ H3 ⟨u5, u6, rr, R, rfl, W3, lR, h8⟩
    -- the sums
    refine ⟨_, rfl, by omega, by omega, fun D hD => ?_⟩
    refine lc_range (lo := 0) (n := (4 : Int).toNat) (fun j H' => ∃ m : List Int, m.length = j ∧ (∀ x ∈ m, 0 ≤ x ∧ x < 12) ∧ H' D = some (.lst (m.map V.int)) ∧ Same H3 H') ⟨[], rfl, (fun x h => by cases h), upd_same, same_upd hD⟩ ?_ ?_
    · rintro j H' hj ⟨m, lm, bm, e1, S1⟩
      have hj8 : j < 4 := hj
      refine ⟨rfl, yes_ ⟨_, rfl, _, rfl, _, _, rfl, rfl, _, _, rfl, rfl, (by show CDiv seed (0 + (j : Int) + 1); exact ⟨by omega, by omega⟩), _, _, rfl, rfl, (by show (0 : Int) < 12; decide), ?_⟩⟩
      refine ⟨_, e1, small1000 (by rw [List.length_map]; omega), m ++ [_], by rw [List.length_append, lm]; rfl, fun x hx => ?_, by rw [upd_same, List.map_append]; rfl, fun x o e => ?_⟩
      · rcases List.mem_append.mp hx with z | z
        · exact bm x z
        · rw [List.mem_singleton.mp z]
          exact ⟨Int.emod_nonneg _ (by decide), Int.emod_lt_of_pos _ (by decide)⟩
      · rw [upd_ne (ne_of_none e hD)]
        exact S1 _ _ e
    rintro H4 ⟨ma, lma, bma, ea, S4⟩
    refine ⟨_, rfl, by omega, by omega, fun D2 hD2 => ?_⟩
    refine lc_range (lo := 0) (n := (4 : Int).toNat) (fun j H' => ∃ m : List Int, m.length = j ∧ H' D2 = some (.lst (m.map V.int)) ∧ Same H4 H') ⟨[], rfl, upd_same, same_upd hD2⟩ ?_ ?_
    · rintro j H' hj ⟨m, lm, e1, S1⟩
      have hj8 : j < 4 := hj
      refine ⟨rfl, yes_ ⟨_, rfl, _, rfl, _, _, rfl, rfl, CMul_l (by decide), _, _, rfl, rfl, _, _, rfl, rfl, (by show CDiv seed (3 * (0 + (j : Int)) + 5); exact ⟨by omega, by omega⟩), _, _, rfl, rfl, (by show (0 : Int) < 14; decide), ?_⟩⟩
      refine ⟨_, e1, small1000 (by rw [List.length_map]; omega), m ++ [_], by rw [List.length_append, lm]; rfl, by rw [upd_same, List.map_append]; rfl, fun x o e => ?_⟩
      rw [upd_ne (ne_of_none e hD2)]
      exact S1 _ _ e
    rintro H5 ⟨mb, lmb, eb, S5⟩
    have lma : ma.length = 4 := lma
    have lmb : mb.length = 4 := lmb
    refine ⟨D, D2, _, _, rfl, rfl, S5 _ _ ea, eb, (by rw [List.length_map, List.length_map, lma, lmb]; decide), ?_⟩
    (intro q n_q; generalize he_q : upd _ q _ = H6; obtain ⟨e_q, s_q, f_q⟩ := new_f he_q n_q; clear he_q)
    rw [← List.map_append] at e_q
    have W5 := W3.same (S4.trans S5)
    have S36 := (S4.trans S5).trans s_q
    refine ⟨_, rfl, ra, _, _, 0, rfl, rfl, S36 _ _ W3.g.out, ixN_nat rfl (by rw [List.length_map, W3.g.len]; omega), ?_⟩
    have W7 := W5.swap (i := 0) n_q s_q e_q
    generalize upd H6 ra _ = H7 at W7 ⊢
    have R7 : R8 b (R.set 0 (ma ++ mb)) := by
      refine ⟨by rw [List.length_set]; omega, fun m hm => ?_, fun o ho => ?_⟩
      · rcases mem_set_of hm with z | z
        · rw [z, List.length_append]; omega
        · exact h8 m z
      · have e1 : (R.set 0 (ma ++ mb))[0]? = some (ma ++ mb) := List.getElem?_set_self (by omega)
        have e2 : (ma ++ mb)[o]? = some (ma[o]'(by omega)) := by
          rw [List.getElem?_append_left (by omega)]
          exact List.getElem?_eq_getElem (by omega)
        rw [cellAt_of e1 e2]
        have := bma _ (List.getElem_mem (show o < ma.length by omega))
        omega
    generalize R.set 0 (ma ++ mb) = R1 at W7 R7
    generalize rr.set 0 q = rr1 at W7
    clear W3 h8 lR
    -- the map
    refine ⟨_, rfl, _, _, rfl, rfl, CMul_l (by decide), _, rfl, by omega, by omega, for_range (lo := 0) (n := (2 * ((b + 7) / 8)).toNat) (fun i σ H' => ∃ (u5 u6 u8 u9 u10 : Option V) (R : List (List Int)) (fs : List Int), σ = [some (.ref fa), some (.int b), some (.int ((b + 7) / 8)), some (.int seed), some (.ref ra), u5, u6, none, u8, u9, u10, none] ∧ RwI H fa ra rr1 R fs H' ∧ R8 b R) ⟨_, _, none, none, none, _, _, rfl, W7, R7⟩ ?_ ?_⟩
    · rintro i σ Ha hi ⟨u5, u6, u8, u9, u10, R, f2, rfl, Wa, Ra⟩
      have hi2 : (i : Int) < 2 * ((b + 7) / 8) := by omega
      rw [show (0 : Int) + (i : Int) = (i : Int) by omega]
      ((try dsimp only); (first | (refine Rg.sg (σ' := [some (.ref fa), some (.int b), some (.int ((b + 7) / 8)), some (.int seed), some (.ref ra), u5, u6, none, some (.int (i : Int)), u9, u10, none]) ?_ ?_; focus exact rfl) | (refine Rg.sgG (σ' := [some (.ref fa), some (.int b), some (.int ((b + 7) / 8)), some (.int seed), some (.ref ra), u5, u6, none, some (.int (i : Int)), u9, u10, none]) ?_ ?_; focus exact rfl)))
      refine ⟨_, rfl, fa, f2, 256, rfl, Wa.f, by decide, fun r f3 r0 r1 _ => ?_⟩
      (generalize he_y2 : upd _ fa _ = Hb; obtain ⟨e_y2, k_y2, f_y2⟩ := own_f he_y2; clear he_y2)
      have Wb := Wa.pick e_y2 k_y2
      refine ⟨_, rfl, _, _, rfl, rfl, CMul_l (by decide), _, _, rfl, rfl, .inl ⟨_, rfl, _, _, rfl, rfl, (by show (0 : Int) < 256; decide), ?_⟩⟩
      obtain ⟨cd, ecd⟩ : ∃ c, c = (r + 27 * (i : Int)) % 256 := ⟨_, rfl⟩
      ((try dsimp only); (first | (refine Rg.sg (σ' := [some (.ref fa), some (.int b), some (.int ((b + 7) / 8)), some (.int seed), some (.ref ra), u5, u6, none, some (.int (i : Int)), some (.int ((r + 27 * (i : Int)) % 256)), u10, none]) ?_ ?_; focus exact rfl) | (refine Rg.sgG (σ' := [some (.ref fa), some (.int b), some (.int ((b + 7) / 8)), some (.int seed), some (.ref ra), u5, u6, none, some (.int (i : Int)), some (.int ((r + 27 * (i : Int)) % 256)), u10, none]) ?_ ?_; focus exact rfl)))
      rw [← ecd]
      clear ecd
      have hx : 2 + i / 2 < R.length := by have := Ra.1; omega
      obtain ⟨rw_, er, erc, _⟩ := Wb.g.get (List.getElem?_eq_getElem hx)
      refine ⟨_, rfl, _, rfl, _, _, rfl, rfl, (by show CDiv _ 2; exact ⟨by decide, by decide⟩), _, _, rfl, rfl, ra, _, _, .ref rw_, rfl, rfl, .of Wb.g.out, at_of (j := 2 + i / 2) (by omega) (by rw [List.getElem?_map, er]; rfl), ?_⟩
      ((try dsimp only); (first | (refine Rg.sg (σ' := [some (.ref fa), some (.int b), some (.int ((b + 7) / 8)), some (.int seed), some (.ref ra), u5, u6, none, some (.int (i : Int)), some (.int cd), some (.ref rw_), none]) ?_ ?_; focus exact rfl) | (refine Rg.sgG (σ' := [some (.ref fa), some (.int b), some (.int ((b + 7) / 8)), some (.int seed), some (.ref ra), u5, u6, none, some (.int (i : Int)), some (.int cd), some (.ref rw_), none]) ?_ ?_; focus exact rfl)))
      refine ⟨_, rfl, by omega, by omega, for_range (lo := 0) (n := (4 : Int).toNat) (fun j σ H' => ∃ (u6 : Option V) (cd : Int) (R : List (List Int)), σ = [some (.ref fa), some (.int b), some (.int ((b + 7) / 8)), some (.int seed), some (.ref ra), u5, u6, none, some (.int (i : Int)), some (.int cd), some (.ref rw_), none] ∧ RwI H fa ra rr1 R f3 H' ∧ R8 b R) ⟨_, cd, R, rfl, Wb, Ra⟩ ?_ ?_⟩
      · rintro j σ Hc hj ⟨u6, cd, R', rfl, Wc, Rc⟩
        have hj4 : j < 4 := hj
        rw [show (0 : Int) + (j : Int) = (j : Int) by omega]
        ((try dsimp only); (first | (refine Rg.sg (σ' := [some (.ref fa), some (.int b), some (.int ((b + 7) / 8)), some (.int seed), some (.ref ra), u5, some (.int (j : Int)), none, some (.int (i : Int)), some (.int cd), some (.ref rw_), none]) ?_ ?_; focus exact rfl) | (refine Rg.sgG (σ' := [some (.ref fa), some (.int b), some (.int ((b + 7) / 8)), some (.int seed), some (.ref ra), u5, some (.int (j : Int)), none, some (.int (i : Int)), some (.int cd), some (.ref rw_), none]) ?_ ?_; focus exact rfl)))
        have hx' : 2 + i / 2 < R'.length := by have := Rc.1; omega
        have em := List.getElem?_eq_getElem hx'
        obtain ⟨m, emm⟩ : ∃ m, m = R'[2 + i / 2] := ⟨_, rfl⟩
        rw [← emm] at em
        have lm : m.length = 8 := Rc.2.1 m (List.mem_of_getElem? em)
        have erc' := Wc.g.row _ rw_ m er em
        refine ⟨_, rfl, _, _, rfl, rfl, (by show (0 : Int) < 4; decide), _, rfl, _, rfl, _, _, rfl, rfl, (by show (0 : Int) < 2; decide), _, _, rfl, rfl, CMul_l (by decide), _, rfl, _, _, rfl, rfl, rw_, _, _, 4 * (i % 2) + j, rfl, rfl, erc', ixN_nat (by omega) (by rw [List.length_map, lm]; omega), ?_⟩
        have es : (m.map V.int).set (4 * (i % 2) + j) (.int (cd % 4)) = (m.set (4 * (i % 2) + j) (cd % 4)).map V.int := List.map_set.symm
        rw [es]
        refine ⟨_, rfl, _, _, rfl, rfl, (by show CDiv _ 4; exact ⟨by decide, by decide⟩), ?_⟩
        exact ⟨_, _, _, rfl, Wc.row er, Rc.row (by omega) (by rw [List.length_set]; exact lm)⟩
      · rintro σ Hc ⟨u6, cd, R', rfl, Wc, Rc⟩
        exact ⟨_, _, _, _, _, _, _, rfl, Wc, Rc⟩
    rintro σ Ha ⟨u5, u6, u8, u9, u10, R, f2, rfl, Wa, Ra⟩
    -- other cells
    refine ⟨_, rfl, fa, f2, 6, rfl, Wa.f, by decide, fun cn f3 c0 c6 _ => ?_⟩
    (generalize he_y3 : upd _ fa _ = Hb; obtain ⟨e_y3, k_y3, f_y3⟩ := own_f he_y3; clear he_y3)
    have Wb := Wa.pick e_y3 k_y3
    refine ⟨_, rfl, by omega, by omega, for_range (lo := 0) (n := cn.toNat) (fun i σ H' => ∃ (u5 u6 u8 u9 u10 u11 : Option V) (R : List (List Int)) (fs : List Int), σ = [some (.ref fa), some (.int b), some (.int ((b + 7) / 8)), some (.int seed), some (.ref ra), u5, u6, none, u8, u9, u10, u11] ∧ RwI H fa ra rr1 R fs H' ∧ R8 b R) ⟨_, _, _, _, _, none, _, _, rfl, Wb, Ra⟩ ?_ ?_⟩
    · rintro i σ Hc hi ⟨u5, u6, u8, u9, u10, u11, R, f4, rfl, Wc, Rc⟩
      ((try dsimp only); (first | (refine Rg.sg (σ' := [some (.ref fa), some (.int b), some (.int ((b + 7) / 8)), some (.int seed), some (.ref ra), u5, u6, none, some (.int (0 + (i : Int))), u9, u10, u11]) ?_ ?_; focus exact rfl) | (refine Rg.sgG (σ' := [some (.ref fa), some (.int b), some (.int ((b + 7) / 8)), some (.int seed), some (.ref ra), u5, u6, none, some (.int (0 + (i : Int))), u9, u10, u11]) ?_ ?_; focus exact rfl)))
      refine ⟨_, rfl, fa, f4, 64, rfl, Wc.f, by decide, fun r1 f5 _ _ _ => ?_⟩
      (generalize he_y4 : upd _ fa _ = Hd; obtain ⟨e_y4, k_y4, f_y4⟩ := own_f he_y4; clear he_y4)
      have Wd := Wc.pick e_y4 k_y4
      refine .inl ⟨_, rfl, _, rfl, _, _, rfl, rfl, (by show 0 < b; omega), ?_⟩
      obtain ⟨x, ex⟩ : ∃ x : Nat, (x : Int) = r1 % b := ⟨(r1 % b).toNat, by have := Int.emod_nonneg r1 (show b ≠ 0 by omega); omega⟩
      have xb : (x : Int) < b := by rw [ex]; exact Int.emod_lt_of_pos _ (by omega)
      ((try dsimp only); (first | (refine Rg.sg (σ' := [some (.ref fa), some (.int b), some (.int ((b + 7) / 8)), some (.int seed), some (.ref ra), some (.int (r1 % b)), u6, none, some (.int (0 + (i : Int))), u9, u10, u11]) ?_ ?_; focus exact rfl) | (refine Rg.sgG (σ' := [some (.ref fa), some (.int b), some (.int ((b + 7) / 8)), some (.int seed), some (.ref ra), some (.int (r1 % b)), u6, none, some (.int (0 + (i : Int))), u9, u10, u11]) ?_ ?_; focus exact rfl)))
      rw [← ex]
      refine ⟨_, rfl, fa, f5, 8, rfl, Wd.f, by decide, fun j f6 j0 j8 _ => ?_⟩
      (generalize he_y5 : upd _ fa _ = He; obtain ⟨e_y5, k_y5, f_y5⟩ := own_f he_y5; clear he_y5)
      have We := Wd.pick e_y5 k_y5
      ((try dsimp only); (first | (refine Rg.sg (σ' := [some (.ref fa), some (.int b), some (.int ((b + 7) / 8)), some (.int seed), some (.ref ra), some (.int (x : Int)), some (.int j), none, some (.int (0 + (i : Int))), u9, u10, u11]) ?_ ?_; focus exact rfl) | (refine Rg.sgG (σ' := [some (.ref fa), some (.int b), some (.int ((b + 7) / 8)), some (.int seed), some (.ref ra), some (.int (x : Int)), some (.int j), none, some (.int (0 + (i : Int))), u9, u10, u11]) ?_ ?_; focus exact rfl)))
      refine ⟨_, rfl, fa, f6, 1000, rfl, We.f, by decide, fun n1 f7 _ _ _ => ?_⟩
      (generalize he_y6 : upd _ fa _ = Hf; obtain ⟨e_y6, k_y6, f_y6⟩ := own_f he_y6; clear he_y6)
      have Wf := We.pick e_y6 k_y6
      refine ⟨_, rfl, fa, f7, 1000, rfl, Wf.f, by decide, fun n2 f8 _ _ _ => ?_⟩
      (generalize he_y7 : upd _ fa _ = Hg; obtain ⟨e_y7, k_y7, f_y7⟩ := own_f he_y7; clear he_y7)
      have Wg := Wf.pick e_y7 k_y7
      refine ⟨_, _, rfl, rfl, CMul_l (by decide), _, _, rfl, rfl, ?_⟩
      ((try dsimp only); (first | (refine Rg.sg (σ' := [some (.ref fa), some (.int b), some (.int ((b + 7) / 8)), some (.int seed), some (.ref ra), some (.int (x : Int)), some (.int j), none, some (.int (0 + (i : Int))), u9, u10, some (.int (n1 + 1000 * n2))]) ?_ ?_; focus exact rfl) | (refine Rg.sgG (σ' := [some (.ref fa), some (.int b), some (.int ((b + 7) / 8)), some (.int seed), some (.ref ra), some (.int (x : Int)), some (.int j), none, some (.int (0 + (i : Int))), u9, u10, some (.int (n1 + 1000 * n2))]) ?_ ?_; focus exact rfl)))
      refine ⟨_, rfl, _, rfl, fa, f8, 1000, rfl, Wg.f, by decide, fun n3 f9 _ _ _ => ?_⟩
      (generalize he_y8 : upd _ fa _ = Hh; obtain ⟨e_y8, k_y8, f_y8⟩ := own_f he_y8; clear he_y8)
      have Wh := Wg.pick e_y8 k_y8
      refine ⟨_, _, rfl, rfl, CMul_l (by decide), _, _, rfl, rfl, ?_⟩
      obtain ⟨nm, enm⟩ : ∃ z, z = n1 + 1000 * n2 + 1000000 * n3 := ⟨_, rfl⟩
      ((try dsimp only); (first | (refine Rg.sg (σ' := [some (.ref fa), some (.int b), some (.int ((b + 7) / 8)), some (.int seed), some (.ref ra), some (.int (x : Int)), some (.int j), none, some (.int (0 + (i : Int))), u9, u10, some (.int (n1 + 1000 * n2 + 1000000 * n3))]) ?_ ?_; focus exact rfl) | (refine Rg.sgG (σ' := [some (.ref fa), some (.int b), some (.int ((b + 7) / 8)), some (.int seed), some (.ref ra), some (.int (x : Int)), some (.int j), none, some (.int (0 + (i : Int))), u9, u10, some (.int (n1 + 1000 * n2 + 1000000 * n3))]) ?_ ?_; focus exact rfl)))
      rw [← enm]
      clear enm
      refine ⟨_, rfl, rfl, _, rfl, wI (fun e1 => ?_) (fun e1 => ?_)⟩
      · have x0 : x = 1 := by omega
        have hx : x < R.length := by have := Rc.1; omega
        have em := List.getElem?_eq_getElem hx
        obtain ⟨m, emm⟩ : ∃ m, m = R[x] := ⟨_, rfl⟩
        rw [← emm] at em
        have lm : m.length = 8 := Rc.2.1 m (List.mem_of_getElem? em)
        obtain ⟨rw_, er, erc, _⟩ := Wh.g.get em
        refine ⟨_, rfl, _, rfl, ra, _, _, .ref rw_, rfl, rfl, .of Wh.g.out, atI_nat (by rw [List.getElem?_map, er]; rfl), ?_⟩
        ((try dsimp only); (first | (refine Rg.sg (σ' := [some (.ref fa), some (.int b), some (.int ((b + 7) / 8)), some (.int seed), some (.ref ra), some (.int (x : Int)), some (.int j), none, some (.int (0 + (i : Int))), u9, some (.ref rw_), some (.int nm)]) ?_ ?_; focus exact rfl) | (refine Rg.sgG (σ' := [some (.ref fa), some (.int b), some (.int ((b + 7) / 8)), some (.int seed), some (.ref ra), some (.int (x : Int)), some (.int j), none, some (.int (0 + (i : Int))), u9, some (.ref rw_), some (.int nm)]) ?_ ?_; focus exact rfl)))
        refine ⟨_, rfl, _, rfl, _, rfl, rw_, _, _, j.toNat, rfl, rfl, erc, ixN_nat (by omega) (by rw [List.length_map, lm]; omega), ?_⟩
        have es : (m.map V.int).set j.toNat (.int nm) = (m.set j.toNat nm).map V.int := List.map_set.symm
        rw [es]
        exact ⟨_, _, _, _, _, _, _, _, rfl, Wh.row er, Rc.row (by omega) (by rw [List.length_set]; exact lm)⟩
      · refine ⟨_, rfl, _, rfl, _, _, rfl, rfl, _, _, rfl, rfl, _, rfl, wD (fun e2 => ?_) (fun e2 => ?_)⟩
        · have x0 : x ≠ 0 := by omega
          have hx : x < R.length := by have := Rc.1; omega
          have em := List.getElem?_eq_getElem hx
          obtain ⟨m, emm⟩ : ∃ m, m = R[x] := ⟨_, rfl⟩
          rw [← emm] at em
          have lm : m.length = 8 := Rc.2.1 m (List.mem_of_getElem? em)
          obtain ⟨rw_, er, erc, _⟩ := Wh.g.get em
          refine ⟨_, rfl, _, rfl, ra, _, _, .ref rw_, rfl, rfl, .of Wh.g.out, atI_nat (by rw [List.getElem?_map, er]; rfl), ?_⟩
          ((try dsimp only); (first | (refine Rg.sg (σ' := [some (.ref fa), some (.int b), some (.int ((b + 7) / 8)), some (.int seed), some (.ref ra), some (.int (x : Int)), some (.int j), none, some (.int (0 + (i : Int))), u9, some (.ref rw_), some (.int nm)]) ?_ ?_; focus exact rfl) | (refine Rg.sgG (σ' := [some (.ref fa), some (.int b), some (.int ((b + 7) / 8)), some (.int seed), some (.ref ra), some (.int (x : Int)), some (.int j), none, some (.int (0 + (i : Int))), u9, some (.ref rw_), some (.int nm)]) ?_ ?_; focus exact rfl)))
          refine ⟨_, rfl, _, rfl, _, rfl, rw_, _, _, j.toNat, rfl, rfl, erc, ixN_nat (by omega) (by rw [List.length_map, lm]; omega), ?_⟩
          have es : (m.map V.int).set j.toNat (.int nm) = (m.set j.toNat nm).map V.int := List.map_set.symm
          rw [es]
          exact ⟨_, _, _, _, _, _, _, _, rfl, Wh.row er, Rc.row (by omega) (by rw [List.length_set]; exact lm)⟩
        · exact ⟨_, _, _, _, _, _, _, _, rfl, Wh, Rc⟩
    rintro σ Hc ⟨u5, u6, u8, u9, u10, u11, R, f4, rfl, Wc, Rc⟩
    exact ⟨_, rfl, k Hc ra rr1 R f4 Wc Rc⟩
end
end K78
namespace K78
open PySem PySem.Spec PyProof.Rows L2 Rg
theorem ofH_at {b n : Int} {R : List (List Int)} {i : Nat} (h : i < b.toNat) : (ofH b n R b.toNat)[i]? = some (if kindOf b n R i = 0 then 0 else 1) := by
  unfold ofH
  rw [List.getElem?_map, List.getElem?_range h]
  show some (if i < b.toNat ∧ ¬ kindOf b n R i = 0 then (1 : Int) else 0) = _
  by_cases e : kindOf b n R i = 0
  · rw [if_pos e, if_neg (fun z => z.2 e)]
  · rw [if_neg e, if_pos ⟨h, e⟩]
theorem ofH_len {b n : Int} {R : List (List Int)} {i : Nat} : (ofH b n R i).length = b.toNat := by unfold ofH; simp
theorem ofM_len {b n : Int} {R : List (List Int)} {i : Nat} : (ofM b n R i).length = b.toNat := by unfold ofM; simp
theorem ofM_8 {b n : Int} {R : List (List Int)} {i : Nat} (hR : (R.length : Int) = b) (h8 : ∀ m ∈ R, m.length = 8) : ∀ m ∈ ofM b n R i, m.length = 8 := fun m hm => by
  obtain ⟨x, hx, e⟩ := List.getElem_of_mem hm
  have hx' : x < b.toNat := by rw [ofM_len] at hx; exact hx
  have := ofM_get (n := n) (R := R) (i := i) hx'
  rw [List.getElem?_eq_getElem hx, e] at this
  have := Option.some.inj this
  rw [this]
  split
  · rfl
  · rw [List.getElem?_eq_getElem (by omega)]
    exact h8 _ (List.getElem_mem _)
section
variable {P : Program} {w : World} {K : PySem.W.Frag} {mg : Str → Option Value} {base : Heap}
def szL (b n s : Int) : List V := [.int b, .int n, .int s]
/-! ### _law_of_cells -/
def sp_Lof_cells : Sp := fun vs H Q _ => ∃ (ra : Addr) (rr : List Addr) (R : List (List Int)) (b n s : Int) (sz : Addr), vs = [.ref ra, .int (fdOf b n), .ref sz] ∧ Grid H ra rr R ∧ (R.length : Int) = b ∧ (∀ m ∈ R, m.length = 8) ∧ H sz = some (.lst (szL b n s)) ∧ 8 ≤ b ∧ b ≤ 64 ∧ 2 ≤ n ∧
  ∀ (H' : Hp) (B : MA), Same H H' → (∀ x ∈ B.own, H x = none) → MdAt H' B (ofV b n R b.toNat) b n s → Q (.ref B.ml) H'
theorem ok_Lof_cells (T : Tx K mg) : FnOk P w K mg base CX0 2 T.f_Lof_cells T.fd_Lof_cells ["_law_rows_here", "_law_first", "_law_sizes"] sp_Lof_cells := by
  refine T.F_Lof_cells.ok sc_Lof_cells (fun vs H Q E h => ?_) (fun cdv A outer s H vs Q E hr h => ?_)
  · obtain ⟨_, _, _, _, _, _, _, rfl, _⟩ := h; rfl
  · obtain ⟨ra, rr, R, b, n, sl, sz, rfl, hG, hR, h8, hsz, b1, b2, n1, k⟩ := h
    refine ⟨_, (pss_cons (ps_setLc (i := 3) (own := [("_law_row", 4)]) (g := gName 4) (tt := tYes) rfl sc_Lof_cells.nd rfl rfl (sw_true rfl rfl rfl (by decide +kernel)) (pi_list (pv 0)) (blkOk_by (N := ["_law_rows_here", "_law_first", "_law_sizes", "_law_cells", "_law_row", "_law_held", "_law_x"]) (sc := defScope s_Lof_cells) (by decide +kernel)) (fun _ _ _ _ _ => pg_name (i := 4) sc_Lof_cells.nd rfl (Or.inl rfl)) (fun _ _ _ _ _ => pts_nil) (fun _ _ _ _ _ => (pe_listof (K := K) (pv 4) T.b_list)))
      (pss_cons (ps_set (i := 5) sc_Lof_cells.nd rfl (.inl rfl) (pe_lst pa_nil))
      (pss_cons (ps_for PassesOwn.never rfl (pi_range1 rfl T.b_range (pa_cons (pe_callB call_len_seq rfl T.b_len (by decide +kernel) (pa_cons (pv 0) pa_nil)) pa_nil)) (pg_name (i := 6) sc_Lof_cells.nd rfl (.inl rfl))
        (pss_cons (ps_expr (pe_bm PySem.F.plainAttrs_list PySem.F.slot_list_append PySem.F.type_list_append mt_append (pv 5) (pa_cons (pe_callTy call_int1 rfl T.b_int (by decide +kernel) (pa_cons (pe_cmpR op_gt (pe_call (ok_Lkind T) hr rfl T.mg_Lkind T.F_Lkind.kp (b_Lkind T) .nil pass0 (pa_cons (pv 0) (pa_cons (pv 1) (pa_cons (pv 6) pa_nil)))) pe_int (nomark _)) pa_nil)) pa_nil)))
        (pss_one (ps_if (pt_cmpR op_eq (pe_ix ix_list (pv 5) (pv 6) (fun _ _ => rfl)) pe_int (nomark _))
          (pss_one (ps_asg (pe_lst (pa_cons pe_int (pa_cons pe_int (pa_cons pe_int (pa_cons pe_int (pa_cons pe_int (pa_cons pe_int (pa_cons pe_int (pa_cons pe_int pa_nil))))))))) (pg_sub (pv 3) (pv 6) set_list)))
          pss_nil))))
      (pss_one (ps_ret (pe_op op_cat (pe_lst (pa_cons (pv 3) (pa_cons (pv 5) (pa_cons (pe_listof (K := K) (pv 5) T.b_list) (pa_cons (pe_lst pa_nil) (pa_cons pe_int (pa_cons pe_int (pa_cons (pe_tup pa_nil) pa_nil)))))))) (pv 2))))))), ?_⟩
    refine ⟨_, rfl, ra, rfl, ⟨_, .of hG.out⟩, fun D hD => ?_⟩
    refine lc_list (K := K) (a := ra) (xs := (rr).map V.ref) (fun i H' => ∃ qs, NewGrid H H' D qs (List.take i (R))) ⟨[], NewGrid.start (Same.refl _) hD hD⟩ (fun i H' _ ⟨qs, G⟩ => .of (G.same _ _ (hG).out)) ?_ ?_
    · rintro i y H' hi ⟨qs, G⟩
      have hil : i < (rr).length := by
        have := (List.getElem?_eq_some_iff.mp hi).1
        rw [List.length_map] at this
        exact this
      rw [List.getElem?_map, List.getElem?_eq_getElem hil] at hi
      have hi : V.ref (rr)[i] = y := Option.some.inj hi
      subst hi
      have hiR : i < (R).length := by rw [← (hG).len]; exact hil
      have hrow := G.same _ _ ((hG).row i (rr)[i] (R)[i] (List.getElem?_eq_getElem hil) (List.getElem?_eq_getElem hiR))
      refine ⟨rfl, ?_⟩
      refine yes_ ?_
      refine ⟨_, rfl, (rr)[i], _, rfl, .inl (.of hrow), fun q hq => ?_⟩
      refine ⟨_, by rw [upd_ne (ne_of_none G.grid.out hq)]; exact G.grid.out, ?_, qs ++ [q], ?_⟩
      · rw [List.length_map, G.grid.len, List.length_take]
        exact small1000 (by omega)
      · rw [List.take_succ, List.getElem?_eq_getElem hiR]
        exact G.snoc (same_upd hq) hq upd_same
    rintro H1 ⟨qs, G_qs⟩
    rw [List.length_map, (hG).len, List.take_length] at G_qs
    ((try dsimp only); (first | (refine Rg.sg (σ' := [some (.ref ra), some (.int (fdOf b n)), some (.ref sz), some (.ref D), none, none, none]) ?_ ?_; focus exact rfl) | (refine Rg.sgG (σ' := [some (.ref ra), some (.int (fdOf b n)), some (.ref sz), some (.ref D), none, none, none]) ?_ ?_; focus exact rfl)))
    refine ⟨Nat.zero_le _, ?_⟩
    (intro h n_h; generalize he_h : upd _ h _ = H2; obtain ⟨e_h, s_h, f_h⟩ := new_f he_h n_h; clear he_h)
    have S2 : Same H H2 := G_qs.same.trans s_h
    ((try dsimp only); (first | (refine Rg.sg (σ' := [some (.ref ra), some (.int (fdOf b n)), some (.ref sz), some (.ref D), none, some (.ref h), none]) ?_ ?_; focus exact rfl) | (refine Rg.sgG (σ' := [some (.ref ra), some (.int (fdOf b n)), some (.ref sz), some (.ref D), none, some (.ref h), none]) ?_ ?_; focus exact rfl)))
    have nh : H h = none := G_qs.same.free n_h
    have hD1 : h ≠ D := fun z => by rw [z, G_qs.grid.out] at n_h; cases n_h
    have hqs : h ∉ qs := fun z => by
      obtain ⟨o, eo⟩ := G_qs.grid.held z
      rw [n_h] at eo; cases eo
    have ec : ((rr.map V.ref).length : Int) = b := by rw [List.length_map, hG.len]; exact hR
    refine ⟨_, rfl, ra, _, rfl, .inl (.of (S2 _ _ hG.out)), _, rfl, ?_⟩
    rw [ec]
    refine ⟨by omega, by omega, for_range (lo := 0) (n := b.toNat) (fun i σ H' => ∃ (u6 : Option V) (qs : List Addr), σ = [some (.ref ra), some (.int (fdOf b n)), some (.ref sz), some (.ref D), none, some (.ref h), u6] ∧ Same H H' ∧ Grid H' D qs (ofM b n R i) ∧ (∀ q ∈ qs, H q = none) ∧ h ∉ qs ∧ H' h = some (.lst (((ofH b n R b.toNat).take i).map V.int))) ⟨none, qs, rfl, S2, by rw [ofM_zero hR]; exact G_qs.grid.same s_h, G_qs.fresh, hqs, e_h⟩ ?_ ?_⟩
    · rintro i σ H3 hi ⟨u6, qs3, rfl, S3, G3, nq3, hq3, e3⟩
      rw [show (0 : Int) + (i : Int) = (i : Int) by omega]
      ((try dsimp only); (first | (refine Rg.sg (σ' := [some (.ref ra), some (.int (fdOf b n)), some (.ref sz), some (.ref D), none, some (.ref h), some (.int (i : Int))]) ?_ ?_; focus exact rfl) | (refine Rg.sgG (σ' := [some (.ref ra), some (.int (fdOf b n)), some (.ref sz), some (.ref D), none, some (.ref h), some (.int (i : Int))]) ?_ ?_; focus exact rfl)))
      have hol : ((ofH b n R b.toNat).take i).length = i := by rw [List.length_take, ofH_len]; omega
      obtain ⟨c, ecc⟩ : ∃ c : Int, c = if kindOf b n R i = 0 then 0 else 1 := ⟨_, rfl⟩
      have etk : (ofH b n R b.toNat).take (i + 1) = (ofH b n R b.toNat).take i ++ [c] := by
        rw [List.take_succ, ofH_at (by omega), ← ecc]
        rfl
      refine ⟨_, rfl, .inl ⟨rfl, _, .inl (.inl e3)⟩, _, rfl, _, rfl, _, rfl, ra, rr, R, b, n, _, rfl, hG.same S3, hR, h8, by omega, by omega, by omega, _, _, rfl, rfl, .inr ⟨_, rfl, ?_⟩⟩
      have eb : (if decide (0 < kindOf b n R (i : Int)) = true then (1 : Int) else 0) = c := by
        rw [ecc]
        by_cases z : kindOf b n R (i : Int) = 0
        · rw [if_pos z, if_neg (by rw [decide_eq_true_iff]; omega)]
        · rw [if_neg z, if_pos (decide_eq_true (kind_pos.mpr z))]
      refine ⟨h, _, _, rfl, rfl, e3, lt_line (by rw [List.length_map, hol]; omega), ?_⟩
      have ev : ((((ofH b n R b.toNat).take i).map V.int) ++ [V.int (if decide (0 < kindOf b n R (i : Int)) = true then (1 : Int) else 0)]) = ((ofH b n R b.toNat).take (i + 1)).map V.int := by
        rw [eb, etk, List.map_append]
        rfl
      have nh4 : Same H (upd H3 h (.lst (((ofH b n R b.toNat).take (i + 1)).map V.int))) := fun x o e => by
        rw [upd_ne (ne_of_none e nh)]
        exact S3 _ _ e
      have G4 : Grid (upd H3 h (.lst (((ofH b n R b.toNat).take (i + 1)).map V.int))) D qs3 (ofM b n R i) := G3.keep fun y o hy e => by
        rw [upd_ne]
        · exact e
        · rcases hy with rfl | hy
          · exact hD1.symm
          · exact fun z => hq3 (z ▸ hy)
      refine (fun (z : ∀ H4, H4 = upd H3 h (.lst ((((ofH b n R b.toNat).take i).map V.int) ++ [V.int (if decide (0 < kindOf b n R (i : Int)) = true then (1 : Int) else 0)])) → _) => z _ rfl) ?_
      intro H4 eH4
      rw [ev] at eH4
      rw [← eH4] at nh4 G4
      have e4 : H4 h = some (.lst (((ofH b n R b.toNat).take (i + 1)).map V.int)) := by rw [eH4]; exact upd_same
      clear eH4
      have e5 : ((ofH b n R b.toNat).take (i + 1))[i]? = some c := by
        rw [etk, List.getElem?_append_right (by omega), hol, Nat.sub_self]
        rfl
      refine ⟨_, rfl, _, rfl, h, _, _, .int c, rfl, rfl, .of e4, atI_nat (by rw [List.getElem?_map, e5]; rfl), rfl, _, rfl, wI (fun c0 => ?_) (fun c0 => ?_)⟩
      · have kz : kindOf b n R (i : Int) = 0 := by
          by_cases z : kindOf b n R (i : Int) = 0
          · exact z
          · rw [if_neg z] at ecc; omega
        refine ⟨(by show 8 ≤ sizeLine; decide), ?_⟩
        (intro q n_q; generalize he_q : upd _ q _ = H5; obtain ⟨e_q, s_q, f_q⟩ := new_f he_q n_q; clear he_q)
        have nqD : q ≠ h := fun z => by rw [z, e4] at n_q; cases n_q
        have G6 := G4.swap (i := i) s_q n_q e_q (m := List.replicate 8 0)
        refine ⟨_, rfl, _, rfl, D, _, _, i, rfl, rfl, s_q _ _ G4.out, ixN_nat rfl (by rw [List.length_map, G4.len, ofM_len]; omega), ?_⟩
        refine ⟨_, qs3.set i q, rfl, fun x o e => ?_, ?_, fun y hy => ?_, fun z => ?_, ?_⟩
        · rw [upd_ne (ne_of_none e hD)]
          exact s_q _ _ (nh4 _ _ e)
        · rw [ofM_succ (by omega), if_pos kz]
          exact G6
        · rcases mem_set_of hy with z | z
          · rw [z]; exact nh4.free n_q
          · exact nq3 y z
        · rcases mem_set_of z with z | z
          · exact nqD z.symm
          · exact hq3 z
        · rw [upd_ne hD1]
          exact s_q _ _ e4
      · have kz : ¬ kindOf b n R (i : Int) = 0 := fun z => by
          rw [if_pos z] at ecc
          exact c0 ecc
        exact ⟨_, qs3, rfl, nh4, by rw [ofM_succ (by omega), if_neg kz]; exact G4, nq3, hq3, e4⟩
    rintro σ H3 ⟨u6, qs3, rfl, S3, G3, nq3, hq3, e3⟩
    have e3 : H3 h = some (.lst ((ofH b n R b.toNat).map V.int)) := by
      have : (ofH b n R b.toNat).take b.toNat = ofH b n R b.toNat := List.take_of_length_le (by rw [ofH_len]; exact Nat.le_refl _)
      rw [this] at e3
      exact e3
    refine ⟨_, rfl, _, rfl, _, rfl, h, _, rfl, .inl (.of e3), ?_⟩
    (intro h2 n_h2; generalize he_h2 : upd _ h2 _ = H4; obtain ⟨e_h2, s_h2, f_h2⟩ := new_f he_h2 n_h2; clear he_h2)
    refine ⟨Nat.zero_le _, ?_⟩
    (intro hl n_hl; generalize he_hl : upd _ hl _ = H5; obtain ⟨e_hl, s_hl, f_hl⟩ := new_f he_hl n_hl; clear he_hl)
    refine ⟨Nat.zero_le _, ?_⟩
    (intro ba n_ba; generalize he_ba : upd _ ba _ = H6; obtain ⟨e_ba, s_ba, f_ba⟩ := new_f he_ba n_ba; clear he_ba)
    refine ⟨(by show 7 ≤ sizeLine; decide), ?_⟩
    (intro y n_y; generalize he_y : upd _ y _ = H7; obtain ⟨e_y, s_y, f_y⟩ := new_f he_y n_y; clear he_y)
    have S37 : Same H3 H7 := ((s_h2.trans s_hl).trans s_ba).trans s_y
    refine ⟨_, rfl, y, sz, _, _, rfl, rfl, e_y, S37 _ _ (S3 _ _ hsz), (by show 10 ≤ sizeLine; decide), ?_⟩
    (intro m n_m; generalize he_m : upd _ m _ = H8; obtain ⟨e_m, s_m, f_m⟩ := new_f he_m n_m; clear he_m)
    have S38 := S37.trans s_m
    have S08 := S3.trans S38
    have q3n : ∀ x ∈ qs3, H3 x ≠ none := fun x hx z => by
      obtain ⟨o, eo⟩ := G3.held hx
      rw [z] at eo; cases eo
    have D3n : H3 D ≠ none := by rw [G3.out]; exact fun z => by cases z
    have h3n : H3 h ≠ none := by rw [e3]; exact fun z => by cases z
    have n2 : H3 h2 = none := n_h2
    have n3 : H3 hl = none := s_h2.free n_hl
    have nm : H3 m = none := S37.free n_m
    have ne : ∀ x y, H3 x = none → H3 y ≠ none → x ≠ y := fun x y a b z => b (z ▸ a)
    have f23 : hl ≠ h2 := fun z => by rw [z, e_h2] at n_hl; cases n_hl
    have fm2 : m ≠ h2 := fun z => by rw [z, s_y _ _ (s_ba _ _ (s_hl _ _ e_h2))] at n_m; cases n_m
    have fm3 : m ≠ hl := fun z => by rw [z, s_y _ _ (s_ba _ _ e_hl)] at n_m; cases n_m
    refine k H8 ⟨m, D, qs3, h, h2, hl, ba, []⟩ S08 (fun x hx => ?_) { ob := ?_, gr := G3.same S38, ho := S38 _ _ e3, st := ?_, hl := ?_, ga := (fun g hg => by cases hg), ge := rfl, ba := ?_, nd := ?_, d0 := ?_, d1 := ofM_8 hR h8, d2 := ?_, d3 := ?_ }
    · simp only [MA.own, List.mem_cons] at hx
      rcases hx with rfl | rfl | rfl | rfl | rfl | hx
      · exact S3.free nm
      · exact hD
      · exact nh
      · exact S3.free n2
      · exact S3.free n3
      · exact nq3 x hx
    · rw [e_m]
      rfl
    · exact s_m _ _ (s_y _ _ (s_ba _ _ (s_hl _ _ e_h2)))
    · exact s_m _ _ (s_y _ _ (s_ba _ _ e_hl))
    · exact s_m _ _ (s_y _ _ e_ba)
    · show (m :: D :: h :: h2 :: hl :: qs3).Nodup
      simp only [List.nodup_cons, List.mem_cons, not_or]
      exact ⟨⟨ne _ _ nm D3n, ne _ _ nm h3n, fm2, fm3, fun z => q3n m z nm⟩, ⟨hD1.symm, (ne _ _ n2 D3n).symm, (ne _ _ n3 D3n).symm, G3.nin⟩, ⟨(ne _ _ n2 h3n).symm, (ne _ _ n3 h3n).symm, hq3⟩, ⟨f23.symm, fun z => q3n h2 z n2⟩, fun z => q3n hl z n3, G3.nd⟩
    · show ((ofM b n R b.toNat).length : Int) = b
      rw [ofM_len]; omega
    · show ((ofH b n R b.toNat).length : Int) = b
      rw [ofH_len]; omega
    · show ((ofH b n R b.toNat).length : Int) = b
      rw [ofH_len]; omega
end
end K78
namespace K78
open PySem PySem.Spec PyProof.Rows L2 Rg
theorem fmM_at {b : Int} {k x : Nat} (hk : (k : Int) ≤ b) (hx : 1 + (b + 7) / 8 < (x : Int)) : (fmM b k)[x]? = (zerosM b)[x]? := by
  induction k with
  | zero => rfl
  | succ k ih =>
    show (setC (fmM b k) (2 + k / 8) (k % 8) 1)[x]? = _
    rw [setC_ne (by omega), ih (by omega)]
theorem fmM_len {b : Int} : ∀ {k : Nat}, (fmM b k).length = b.toNat
  | 0 => by unfold fmM zerosM; rw [List.length_replicate]
  | k + 1 => by
    show (setC (fmM b k) (2 + k / 8) (k % 8) 1).length = _
    rw [setC_len, fmM_len]
theorem fmM_8 {b : Int} : ∀ {k : Nat}, ∀ m ∈ fmM b k, m.length = 8
  | 0 => fun m hm => by
    unfold fmM zerosM at hm
    rw [List.eq_of_mem_replicate hm, List.length_replicate]
  | k + 1 => fun m hm => by
    have hm : m ∈ setC (fmM b k) (2 + k / 8) (k % 8) 1 := hm
    unfold setC at hm
    rcases mem_set_of hm with z | z
    · rw [z, List.length_set]
      cases e : (fmM b k)[2 + k / 8]? with
      | none =>
        exfalso
        have := List.getElem?_eq_none_iff.mp e
        rw [List.set_eq_of_length_le this] at hm
        have h2 := fmM_8 m hm
        rw [z, e, List.length_set] at h2
        cases h2
      | some r => exact fmM_8 r (List.mem_of_getElem? e)
    · exact fmM_8 m z
theorem fresh_rows {b n : Int} (n0 : 0 ≤ n) (b0 : 0 ≤ b) (hb : fdOf b n ≤ b) {x : Nat} (ex : (x : Int) = 2 + (b + 7) / 8) (hx : (x : Int) < b) : (fmM b (fdOf b n).toNat).set x [2, 1, 0, 0, 0, 0, 0, 1] = freshM b n := by
  have e1 : (2 + (b + 8 - 1) / 8).toNat = x := by omega
  have e2 : (2 + (b + 8 - 1) / 8).toNat + n.toNat = (fdOf b n).toNat := by unfold fdOf; omega
  have hz : (fmM b (fdOf b n).toNat)[x]? = some (List.replicate 8 0) := by
    rw [fmM_at (by omega) (by omega)]
    unfold zerosM
    rw [List.getElem?_replicate, if_pos (by omega)]
  show _ = setC (setC (setC (fmM b ((2 + (b + 8 - 1) / 8).toNat + n.toNat)) (2 + (b + 8 - 1) / 8).toNat 0 2) (2 + (b + 8 - 1) / 8).toNat 1 1) (2 + (b + 8 - 1) / 8).toNat 7 1
  rw [e2, e1]
  have h1 : setC (fmM b (fdOf b n).toNat) x 0 2 = (fmM b (fdOf b n).toNat).set x [2, 0, 0, 0, 0, 0, 0, 0] := by
    unfold setC
    rw [hz]
    rfl
  have hl : x < (fmM b (fdOf b n).toNat).length := by rw [fmM_len]; omega
  have h2 : setC ((fmM b (fdOf b n).toNat).set x [2, 0, 0, 0, 0, 0, 0, 0]) x 1 1 = (fmM b (fdOf b n).toNat).set x [2, 1, 0, 0, 0, 0, 0, 0] := by
    unfold setC
    rw [List.getElem?_set_self hl, List.set_set]
    rfl
  rw [h1, h2]
  unfold setC
  rw [List.getElem?_set_self hl, List.set_set]
  rfl
section
variable {P : Program} {w : World} {K : PySem.W.Frag} {mg : Str → Option Value} {base : Heap}
/-! ### _law_plan_alone -/
def sp_Lalone : Sp := fun vs H Q _ => ∃ (b n s : Int) (sz : Addr), vs = [.int b, .ref sz] ∧ H sz = some (.lst (szL b n s)) ∧ 8 ≤ b ∧ b ≤ 64 ∧
  ∀ (H' : Hp) (B : MA), Same H H' → MdAt H' B (zeroV b) b n s → Q (.ref B.ml) H'
theorem ok_Lalone (T : Tx K mg) : FnOk P w K mg base CX0 1 T.f_Lplan_alone T.fd_Lplan_alone ["_law_blocks", "_law_sizes"] sp_Lalone := by
  refine T.F_Lplan_alone.ok sc_Lplan_alone (fun vs H Q E h => ?_) (fun cdv A outer s H vs Q E hr h => ?_)
  · obtain ⟨_, _, _, _, rfl, _⟩ := h; rfl
  · obtain ⟨b, n, sl, sz, rfl, hsz, b1, b2, k⟩ := h
    refine ⟨_, (pss_cons (ps_setLc (i := 2) (own := [("_law_x", 3)]) (g := gName 3) (tt := tYes) rfl sc_Lplan_alone.nd rfl rfl (sw_true rfl rfl rfl (by decide +kernel)) (pi_range1 rfl T.b_range (pa_cons (pv 0) pa_nil)) (blkOk_by (N := ["_law_blocks", "_law_sizes", "_law_zeros", "_law_x", "_law_rows_here"]) (sc := defScope s_Lplan_alone) (by decide +kernel)) (fun _ _ _ _ _ => pg_name (i := 3) sc_Lplan_alone.nd rfl (Or.inl rfl)) (fun _ _ _ _ _ => pts_nil) (fun _ _ _ _ _ => pe_int))
      (pss_cons (ps_setLc (i := 4) (own := [("_law_x", 3)]) (g := gName 3) (tt := tYes) rfl sc_Lplan_alone.nd rfl rfl (sw_true rfl rfl rfl (by decide +kernel)) (pi_range1 rfl T.b_range (pa_cons (pv 0) pa_nil)) (blkOk_by (N := ["_law_blocks", "_law_sizes", "_law_zeros", "_law_x", "_law_rows_here"]) (sc := defScope s_Lplan_alone) (by decide +kernel)) (fun _ _ _ _ _ => pg_name (i := 3) sc_Lplan_alone.nd rfl (Or.inl rfl)) (fun _ _ _ _ _ => pts_nil) (fun _ _ _ _ _ => (pe_lst (pa_cons pe_int (pa_cons pe_int (pa_cons pe_int (pa_cons pe_int (pa_cons pe_int (pa_cons pe_int (pa_cons pe_int (pa_cons pe_int pa_nil)))))))))))
      (pss_one (ps_ret (pe_op op_cat (pe_lst (pa_cons (pv 4) (pa_cons (pv 2) (pa_cons (pe_listof (K := K) (pv 2) T.b_list) (pa_cons (pe_lst pa_nil) (pa_cons pe_int (pa_cons pe_int (pa_cons (pe_tup pa_nil) pa_nil)))))))) (pv 1)))))), ?_⟩
    refine ⟨_, rfl, _, rfl, by omega, by omega, fun Z hZ => ?_⟩
    refine lc_range (lo := 0) (n := b.toNat) (fun i H' => H' Z = some (.lst ((List.replicate i (0 : Int)).map V.int)) ∧ Same H H') ⟨upd_same, same_upd hZ⟩ ?_ ?_
    · rintro i H' hi ⟨e1, S1⟩
      refine ⟨rfl, yes_ ⟨_, e1, small1000 (by rw [List.length_map, List.length_replicate]; omega), ?_, fun x o e => ?_⟩⟩
      · rw [upd_same, List.replicate_succ', List.map_append]
        rfl
      · rw [upd_ne (ne_of_none e hZ)]
        exact S1 _ _ e
    rintro H1 ⟨eZ, S1⟩
    ((try dsimp only); (first | (refine Rg.sg (σ' := [some (.int b), some (.ref sz), some (.ref Z), none, none]) ?_ ?_; focus exact rfl) | (refine Rg.sgG (σ' := [some (.int b), some (.ref sz), some (.ref Z), none, none]) ?_ ?_; focus exact rfl)))
    refine ⟨_, rfl, _, rfl, by omega, by omega, fun D hD => ?_⟩
    refine lc_range (lo := 0) (n := b.toNat) (fun i H' => ∃ qs, NewGrid H1 H' D qs (List.replicate i (List.replicate 8 0))) ⟨[], NewGrid.start (Same.refl _) hD hD⟩ ?_ ?_
    · rintro i H' hi ⟨qs, G⟩
      refine ⟨rfl, yes_ ⟨(by show 8 ≤ sizeLine; decide), fun q hq => ?_⟩⟩
      refine ⟨_, by rw [upd_ne (ne_of_none G.grid.out hq)]; exact G.grid.out, ?_, qs ++ [q], ?_⟩
      · rw [List.length_map, G.grid.len, List.length_replicate]
        exact small1000 (by omega)
      · rw [List.replicate_succ']
        exact G.snoc (same_upd hq) hq upd_same
    rintro H2 ⟨qs, G_qs⟩
    ((try dsimp only); (first | (refine Rg.sg (σ' := [some (.int b), some (.ref sz), some (.ref Z), none, some (.ref D)]) ?_ ?_; focus exact rfl) | (refine Rg.sgG (σ' := [some (.int b), some (.ref sz), some (.ref Z), none, some (.ref D)]) ?_ ?_; focus exact rfl)))
    have eZ2 := G_qs.same _ _ eZ
    refine ⟨_, rfl, _, rfl, _, rfl, Z, _, rfl, .inl (.of eZ2), ?_⟩
    (intro h2 n_h2; generalize he_h2 : upd _ h2 _ = H4; obtain ⟨e_h2, s_h2, f_h2⟩ := new_f he_h2 n_h2; clear he_h2)
    refine ⟨Nat.zero_le _, ?_⟩
    (intro hl n_hl; generalize he_hl : upd _ hl _ = H5; obtain ⟨e_hl, s_hl, f_hl⟩ := new_f he_hl n_hl; clear he_hl)
    refine ⟨Nat.zero_le _, ?_⟩
    (intro ba n_ba; generalize he_ba : upd _ ba _ = H6; obtain ⟨e_ba, s_ba, f_ba⟩ := new_f he_ba n_ba; clear he_ba)
    refine ⟨(by show 7 ≤ sizeLine; decide), ?_⟩
    (intro y n_y; generalize he_y : upd _ y _ = H7; obtain ⟨e_y, s_y, f_y⟩ := new_f he_y n_y; clear he_y)
    have S27 : Same H2 H7 := ((s_h2.trans s_hl).trans s_ba).trans s_y
    have S02 : Same H H2 := S1.trans G_qs.same
    refine ⟨_, rfl, y, sz, _, _, rfl, rfl, e_y, S27 _ _ (S02 _ _ hsz), (by show 10 ≤ sizeLine; decide), ?_⟩
    (intro m n_m; generalize he_m : upd _ m _ = H8; obtain ⟨e_m, s_m, f_m⟩ := new_f he_m n_m; clear he_m)
    have S28 := S27.trans s_m
    have G := G_qs.grid
    have q3n : ∀ x ∈ qs, H2 x ≠ none := fun x hx z => by
      obtain ⟨o, eo⟩ := G.held hx
      rw [z] at eo; cases eo
    have D3n : H2 D ≠ none := by rw [G.out]; exact fun z => by cases z
    have h3n : H2 Z ≠ none := by rw [eZ2]; exact fun z => by cases z
    have hDZ : Z ≠ D := fun z => by rw [← z, eZ] at hD; cases hD
    have hZq : Z ∉ qs := fun z => by
      have := G_qs.fresh Z z
      rw [eZ] at this
      cases this
    have n2 : H2 h2 = none := n_h2
    have n3 : H2 hl = none := s_h2.free n_hl
    have nm : H2 m = none := S27.free n_m
    have ne : ∀ x y, H2 x = none → H2 y ≠ none → x ≠ y := fun x y a b z => b (z ▸ a)
    have f23 : hl ≠ h2 := fun z => by rw [z, e_h2] at n_hl; cases n_hl
    have fm2 : m ≠ h2 := fun z => by rw [z, s_y _ _ (s_ba _ _ (s_hl _ _ e_h2))] at n_m; cases n_m
    have fm3 : m ≠ hl := fun z => by rw [z, s_y _ _ (s_ba _ _ e_hl)] at n_m; cases n_m
    refine k H8 ⟨m, D, qs, Z, h2, hl, ba, []⟩ (S02.trans S28) { ob := ?_, gr := G.same S28, ho := S28 _ _ eZ2, st := ?_, hl := ?_, ga := (fun g hg => by cases hg), ge := rfl, ba := ?_, nd := ?_, d0 := ?_, d1 := (fun r hr => by rw [List.eq_of_mem_replicate hr, List.length_replicate]), d2 := ?_, d3 := ?_ }
    · rw [e_m]
      rfl
    · exact s_m _ _ (s_y _ _ (s_ba _ _ (s_hl _ _ e_h2)))
    · exact s_m _ _ (s_y _ _ (s_ba _ _ e_hl))
    · exact s_m _ _ (s_y _ _ e_ba)
    · show (m :: D :: Z :: h2 :: hl :: qs).Nodup
      simp only [List.nodup_cons, List.mem_cons, not_or]
      exact ⟨⟨ne _ _ nm D3n, ne _ _ nm h3n, fm2, fm3, fun z => q3n m z nm⟩, ⟨hDZ.symm, (ne _ _ n2 D3n).symm, (ne _ _ n3 D3n).symm, G.nin⟩, ⟨(ne _ _ n2 h3n).symm, (ne _ _ n3 h3n).symm, hZq⟩, ⟨f23.symm, fun z => q3n h2 z n2⟩, fun z => q3n hl z n3, G.nd⟩
    · show ((List.replicate b.toNat (List.replicate 8 (0 : Int))).length : Int) = b
      rw [List.length_replicate]; omega
    · show ((List.replicate b.toNat (0 : Int)).length : Int) = b
      rw [List.length_replicate]; omega
    · show ((List.replicate b.toNat (0 : Int)).length : Int) = b
      rw [List.length_replicate]; omega
/-! ### _law_fresh -/
def sp_Lfresh : Sp := fun vs H Q _ => ∃ (b n s : Int) (sz : Addr), vs = [.int b, .int ((b + 7) / 8), .int (fdOf b n), .ref sz] ∧ H sz = some (.lst (szL b n s)) ∧ 8 ≤ b ∧ b ≤ 64 ∧ 2 ≤ n ∧ fdOf b n ≤ b ∧
  ∀ (H' : Hp) (B : MA), Same H H' → (∀ x ∈ B.own, H x = none) → MdAt H' B (ofV b n (freshM b n) b.toNat) b n s → Q (.ref B.ml) H'
theorem ok_Lfresh (T : Tx K mg) : FnOk P w K mg base CX0 3 T.f_Lfresh T.fd_Lfresh ["_law_blocks", "_law_maps", "_law_first", "_law_sizes"] sp_Lfresh := by
  refine T.F_Lfresh.ok sc_Lfresh (fun vs H Q E h => ?_) (fun cdv A outer s H vs Q E hr h => ?_)
  · obtain ⟨_, _, _, _, rfl, _⟩ := h; rfl
  · obtain ⟨b, n, sl, sz, rfl, hsz, b1, b2, n1, fb, k⟩ := h
    refine ⟨_, (pss_cons (ps_setLc (i := 4) (own := [("_law_x", 5)]) (g := gName 5) (tt := tYes) rfl sc_Lfresh.nd rfl rfl (sw_true rfl rfl rfl (by decide +kernel)) (pi_range1 rfl T.b_range (pa_cons (pv 0) pa_nil)) (blkOk_by (N := ["_law_blocks", "_law_maps", "_law_first", "_law_sizes", "_law_rows_here", "_law_x", "_law_row"]) (sc := defScope s_Lfresh) (by decide +kernel)) (fun _ _ _ _ _ => pg_name (i := 5) sc_Lfresh.nd rfl (Or.inl rfl)) (fun _ _ _ _ _ => pts_nil) (fun _ _ _ _ _ => (pe_lst (pa_cons pe_int (pa_cons pe_int (pa_cons pe_int (pa_cons pe_int (pa_cons pe_int (pa_cons pe_int (pa_cons pe_int (pa_cons pe_int pa_nil)))))))))))
      (pss_cons (ps_for PassesOwn.never rfl (pi_range1 rfl T.b_range (pa_cons (pv 2) pa_nil)) (pg_name (i := 5) sc_Lfresh.nd rfl (.inl rfl))
        (pss_cons (ps_set (i := 6) sc_Lfresh.nd rfl (.inl rfl) (pe_ix ix_list (pv 4) (pe_op op_add pe_int (pe_op op_fdiv (pv 5) pe_int)) (fun _ _ => rfl)))
        (pss_one (ps_asg pe_int (pg_sub (pv 6) (pe_op op_mod (pv 5) pe_int) set_list)))))
      (pss_cons (ps_asg (pe_lst (pa_cons pe_int (pa_cons pe_int (pa_cons pe_int (pa_cons pe_int (pa_cons pe_int (pa_cons pe_int (pa_cons pe_int (pa_cons pe_int pa_nil))))))))) (pg_sub (pv 4) (pe_op op_add pe_int (pv 1)) set_list))
      (pss_one (ps_ret (pe_call (ok_Lof_cells T) hr rfl T.mg_Lof_cells T.F_Lof_cells.kp (b_Lof_cells T) .nil pass0 (pa_cons (pv 4) (pa_cons (pv 2) (pa_cons (pv 3) pa_nil))))))))), ?_⟩
    refine ⟨_, rfl, _, rfl, by omega, by omega, fun D hD => ?_⟩
    refine lc_range (lo := 0) (n := b.toNat) (fun i H' => ∃ qs, NewGrid H H' D qs (List.replicate i (List.replicate 8 0))) ⟨[], NewGrid.start (Same.refl _) hD hD⟩ ?_ ?_
    · rintro i H' hi ⟨qs, G⟩
      refine ⟨rfl, yes_ ⟨(by show 8 ≤ sizeLine; decide), fun q hq => ?_⟩⟩
      refine ⟨_, by rw [upd_ne (ne_of_none G.grid.out hq)]; exact G.grid.out, ?_, qs ++ [q], ?_⟩
      · rw [List.length_map, G.grid.len, List.length_replicate]
        exact small1000 (by omega)
      · rw [List.replicate_succ']
        exact G.snoc (same_upd hq) hq upd_same
    rintro H2 ⟨qs, G_qs⟩
    ((try dsimp only); (first | (refine Rg.sg (σ' := [some (.int b), some (.int ((b + 7) / 8)), some (.int (fdOf b n)), some (.ref sz), some (.ref D), none, none]) ?_ ?_; focus exact rfl) | (refine Rg.sgG (σ' := [some (.int b), some (.int ((b + 7) / 8)), some (.int (fdOf b n)), some (.ref sz), some (.ref D), none, none]) ?_ ?_; focus exact rfl)))
    have fd0 : 0 ≤ fdOf b n := by unfold fdOf; omega
    refine ⟨_, rfl, _, rfl, by omega, by omega, for_range (lo := 0) (n := (fdOf b n).toNat) (fun i σ H' => ∃ (u5 u6 : Option V), σ = [some (.int b), some (.int ((b + 7) / 8)), some (.int (fdOf b n)), some (.ref sz), some (.ref D), u5, u6] ∧ Same H H' ∧ Grid H' D qs (fmM b i)) ⟨none, none, rfl, G_qs.same, G_qs.grid⟩ ?_ ?_⟩
    · rintro i σ H3 hi ⟨u5, u6, rfl, S3, G3⟩
      rw [show (0 : Int) + (i : Int) = (i : Int) by omega]
      ((try dsimp only); (first | (refine Rg.sg (σ' := [some (.int b), some (.int ((b + 7) / 8)), some (.int (fdOf b n)), some (.ref sz), some (.ref D), some (.int (i : Int)), u6]) ?_ ?_; focus exact rfl) | (refine Rg.sgG (σ' := [some (.int b), some (.int ((b + 7) / 8)), some (.int (fdOf b n)), some (.ref sz), some (.ref D), some (.int (i : Int)), u6]) ?_ ?_; focus exact rfl)))
      have hx : 2 + i / 8 < (fmM b i).length := by rw [fmM_len]; unfold fdOf at hi fb; omega
      have em := List.getElem?_eq_getElem hx
      obtain ⟨m, emm⟩ : ∃ m, m = (fmM b i)[2 + i / 8] := ⟨_, rfl⟩
      rw [← emm] at em
      have lm : m.length = 8 := fmM_8 m (List.mem_of_getElem? em)
      obtain ⟨r, er, erc, _⟩ := G3.get em
      refine ⟨_, rfl, _, rfl, _, _, rfl, rfl, (CDiv8 _), _, _, rfl, rfl, D, _, _, .ref r, rfl, rfl, .of G3.out, at_of (j := 2 + i / 8) (by omega) (by rw [List.getElem?_map, er]; rfl), ?_⟩
      ((try dsimp only); (first | (refine Rg.sg (σ' := [some (.int b), some (.int ((b + 7) / 8)), some (.int (fdOf b n)), some (.ref sz), some (.ref D), some (.int (i : Int)), some (.ref r)]) ?_ ?_; focus exact rfl) | (refine Rg.sgG (σ' := [some (.int b), some (.int ((b + 7) / 8)), some (.int (fdOf b n)), some (.ref sz), some (.ref D), some (.int (i : Int)), some (.ref r)]) ?_ ?_; focus exact rfl)))
      refine ⟨_, rfl, _, rfl, _, _, rfl, rfl, (by show (0 : Int) < 8; decide), r, _, _, i % 8, rfl, rfl, erc, ixN_nat (by omega) (by rw [List.length_map, lm]; omega), ?_⟩
      have es : (m.map V.int).set (i % 8) (.int 1) = (m.set (i % 8) 1).map V.int := List.map_set.symm
      rw [es]
      refine ⟨_, _, rfl, fun x o e => ?_, ?_⟩
      · rw [upd_ne (ne_of_none e (G_qs.fresh r (List.mem_of_getElem? er)))]
        exact S3 _ _ e
      · have := G3.put (m := m.set (i % 8) 1) er
        show Grid _ D qs (setC (fmM b i) (2 + i / 8) (i % 8) 1)
        unfold setC
        rw [em]
        exact this
    rintro σ H3 ⟨u5, u6, rfl, S3, G3⟩
    refine ⟨(by show 8 ≤ sizeLine; decide), ?_⟩
    (intro q n_q; generalize he_q : upd _ q _ = H4; obtain ⟨e_q, s_q, f_q⟩ := new_f he_q n_q; clear he_q)
    obtain ⟨x, ex⟩ : ∃ x : Nat, (x : Int) = 2 + (b + 7) / 8 := ⟨(2 + (b + 7) / 8).toNat, by omega⟩
    have xb : (x : Int) < b := by unfold fdOf at fb; omega
    refine ⟨_, rfl, _, rfl, _, _, rfl, rfl, D, _, _, x, rfl, rfl, s_q _ _ G3.out, ixN_nat ex.symm (by rw [List.length_map, G3.len, fmM_len]; omega), ?_⟩
    have G5 := G3.swap (i := x) (m := [2, 1, 0, 0, 0, 0, 0, 1]) s_q n_q e_q
    rw [fresh_rows (by omega) (by omega) fb ex xb] at G5
    have S5 : Same H (upd H4 D (.lst ((qs.map V.ref).set x (V.ref q)))) := fun y o e => by
      rw [upd_ne (ne_of_none e hD)]
      exact s_q _ _ (S3 _ _ e)
    generalize hH5 : upd H4 D _ = H5 at G5 S5 ⊢
    have lf : ((freshM b n).length : Int) = b := by
      rw [← fresh_rows (by omega) (by omega) fb ex xb, List.length_set, fmM_len]; omega
    have l8 : ∀ m ∈ freshM b n, m.length = 8 := fun m hm => by
      rw [← fresh_rows (by omega) (by omega) fb ex xb] at hm
      rcases mem_set_of hm with z | z
      · rw [z]; rfl
      · exact fmM_8 m z
    exact ⟨_, rfl, _, rfl, _, rfl, D, qs.set x q, freshM b n, b, n, sl, sz, rfl, G5, lf, l8, S5 _ _ hsz, b1, b2, n1, fun H' B s6 nB D6 => k H' B (S5.trans s6) (fun y hy => S5.free (nB y hy)) D6⟩
end
end K78
namespace K78
open PySem PySem.Spec PyProof.Rows L2 Rg
structure DW where
  (dq ca hq sa : Addr) (wi : Int) (bs : List Int) (hk hw : Int) (ss : List (Addr × Int × Int))
def DW.At (H : Hp) (d : DW) : Prop := DrwAt H d.dq d.ca d.hq d.sa d.wi d.bs d.hk d.hw d.ss ∧ d.bs.length < 1000 ∧ d.ss.length ≤ 5
theorem DW.At.same {H H' : Hp} {d : DW} (h : d.At H) (s : Same H H') : d.At H' := by
  obtain ⟨⟨h1, h2, h3, h4, h5⟩, b1, b2⟩ := h
  exact ⟨⟨s _ _ h1, s _ _ h2, s _ _ h3, s _ _ h4, fun t ht => s _ _ (h5 t ht)⟩, b1, b2⟩
/-- one list of the caller's written -/
theorem DW.At.k1 {H H' : Hp} {d : DW} (h : d.At H) {a : Addr} {xs : List V} (e : H a = some (.lst xs)) (k : Kp [a] H H') (n1 : d.ca ≠ a) (n2 : d.sa ≠ a) : d.At H' :=
  ⟨h.1.kp k (fun x hx => by rw [List.mem_singleton.mp hx]; exact ⟨_, e⟩) (by simp [n1]) (by simp [n2]), h.2⟩
theorem cutI (l : List Int) (lo hi : Option Int) : ∃ l' : List Int, cutV (l.map V.int) lo hi = l'.map V.int ∧ l'.length ≤ l.length := by
  unfold cutV
  rw [List.length_map, ← List.map_drop, ← List.map_take]
  refine ⟨_, rfl, ?_⟩
  rw [List.length_take, List.length_drop]
  omega
theorem rgc2 {b : Int} (h8 : 8 ≤ b) (h64 : b ≤ 64) : RgC 0 b 2 ((b + 1) / 2).toNat := by
  obtain ⟨k, rfl⟩ : ∃ k : Nat, b = k := ⟨b.toNat, by omega⟩
  have hk : k < 65 := by omega
  refine ⟨by decide, by decide, ?_, ?_⟩
  · revert h8 h64
    have : ∀ k : Fin 65, (8 : Int) ≤ (k.val : Int) → (k.val : Int) ≤ 64 → Builtin.Range.small 0 (k.val : Int) 2 = true := by decide +kernel
    exact this ⟨k, hk⟩
  · show (if (2 : Int) > 0 then (if (0 : Int) < (k : Int) then ((k : Int) - 0 - 1) / 2 + 1 else 0) else _) = _
    rw [if_pos (by decide), if_pos (by omega)]
    omega
theorem zero_cell {b : Int} {i j : Nat} : cellAt (zerosM b) i j = 0 := by
  unfold cellAt zerosM
  rw [List.getElem?_replicate]
  split
  · show ((List.replicate 8 (0 : Int))[j]?).getD 0 = 0
    rw [List.getElem?_replicate]
    split <;> rfl
  · rfl
theorem fm_cell {b n : Int} (n0 : 0 ≤ n) (fb : fdOf b n ≤ b) {y : Nat} : ∀ {k : Nat}, (k : Int) ≤ fdOf b n → k ≤ y → cellAt (fmM b k) (2 + y / 8) (y % 8) = 0
  | 0, _, _ => zero_cell
  | k + 1, h, hy => by
    show cellAt (setC (fmM b k) (2 + k / 8) (k % 8) 1) (2 + y / 8) (y % 8) = 0
    rw [cell_ne (by omega)]
    exact fm_cell n0 fb (by omega) (by omega)
theorem fm_row0 {b : Int} : ∀ {k : Nat}, (fmM b k)[0]? = (zerosM b)[0]?
  | 0 => rfl
  | k + 1 => by
    show (setC (fmM b k) (2 + k / 8) (k % 8) 1)[0]? = _
    rw [setC_ne (by omega)]
    exact fm_row0
theorem fresh_ok {b n : Int} (b8 : 8 ≤ b) (n0 : 0 ≤ n) (fb : fdOf b n < b) {x : Nat} (ex : (x : Int) = 2 + (b + 7) / 8) :
    (∀ o, cellAt (setC (ofM b n (freshM b n) b.toNat) x 3 3) 0 o = 0) ∧ freeL b n (setC (ofM b n (freshM b n) b.toNat) x 3 3) ≠ [] := by
  have xb : (x : Int) < b := by unfold fdOf at fb; omega
  have fr := fresh_rows n0 (show 0 ≤ b by omega) (show fdOf b n ≤ b by omega) ex xb
  have lf : ((freshM b n).length : Int) = b := by rw [← fr, List.length_set, fmM_len]; omega
  have fd0 : 0 ≤ fdOf b n := by unfold fdOf; omega
  refine ⟨fun o => ?_, fun z => ?_⟩
  · rw [cell_ne (.inl (by omega)), cellAt_congr (ofM_fix (n := n) (i := b.toNat) (y := 0) lf (by unfold fdOf at fb; omega) (by omega)), ← fr, cell_set (by omega), cellAt_congr fm_row0]
    exact zero_cell
  · have hm : (b - 1) ∈ freeL b n (setC (ofM b n (freshM b n) b.toNat) x 3 3) := by
      unfold freeL
      rw [List.mem_filter]
      obtain ⟨y, ey⟩ : ∃ y : Nat, (y : Int) = b - 1 := ⟨(b - 1).toNat, by omega⟩
      refine ⟨List.mem_of_getElem? (i := (b - 1 - fdOf b n).toNat) ?_, decide_eq_true ?_⟩
      · rw [rng_get (by omega)]
        congr 1
        omega
      · rw [← ey]
        have e1 : kindOf b n (setC (ofM b n (freshM b n) b.toNat) x 3 3) y = kindOf b n (ofM b n (freshM b n) b.toNat) y := kind_cong (cell_ne (.inl (by omega)))
        have e2 : kindOf b n (ofM b n (freshM b n) b.toNat) y = kindOf b n (freshM b n) y := kindOf_congr n0 (by omega) (by omega) fun z hz => ofM_fix lf (by unfold fdOf at fb; omega) hz
        have e3 : cellAt (freshM b n) (2 + y / 8) (y % 8) = 0 := by
          rw [← fr, cell_set (by omega)]
          exact fm_cell n0 (by omega) (by omega) (by omega)
        rw [e1, e2]
        unfold kindOf
        rw [if_neg (by unfold fdOf at fb; omega), show (2 + (y : Int) / 8).toNat = 2 + y / 8 by omega, show ((y : Int) % 8).toNat = y % 8 by omega, e3]
        decide
    rw [z] at hm
    cases hm
end K78
namespace K78
open PySem PySem.Spec PyProof.Rows L2 Rg
section
variable {P : Program} {w0_ : World} {K : PySem.W.Frag} {mg : Str → Option Value} {base : Heap}
def sp_law (K : PySem.W.Frag) : Sp := fun vs H Q _ => ∃ (a : Addr) (ns : List Int), vs = [.ref a] ∧ SqL K H a (ns.map V.int) ∧ ns.length ≤ 63 ∧ ∀ H', Q (.bl true) H'
theorem ok_law (T : Tx K mg) : FnOk P w0_ K mg base CX0 7 T.f_law T.fd_law ["_law_script"] (sp_law K) := by
  refine T.F_law.ok sc_law (fun vs H Q E h => ?_) (fun cdv A0_ outer s H vs Q E hr h => ?_)
  · obtain ⟨_, _, rfl, _⟩ := h; rfl
  · obtain ⟨a, ns, rfl, hS, hlen, k⟩ := h
    have hr1 : Room 1 _ := hr.mono (by decide)
    have hr2 : Room 2 _ := hr.mono (by decide)
    have hr3 : Room 3 _ := hr.mono (by decide)
    have hr4 : Room 4 _ := hr.mono (by decide)
    have hr5 : Room 5 _ := hr.mono (by decide)
    refine ⟨_, (pss_cons (ps_set (i := 1) sc_law.nd rfl (.inr rfl) (pe_call (ok_Lfeed T) hr1 rfl T.mg_Lfeed T.F_Lfeed.kp (b_Lfeed T) .nil pass0 (pa_cons (pv 0) pa_nil)))
      (pss_cons (ps_set (i := 2) sc_law.nd rfl (.inl rfl) (pe_op op_add pe_int (pe_call (ok_Lpick T) hr1 rfl T.mg_Lpick T.F_Lpick.kp (b_Lpick T) .nil pass0 (pa_cons (pv 1) (pa_cons pe_int pa_nil)))))
      (pss_cons (ps_set (i := 3) sc_law.nd rfl (.inl rfl) (pe_op op_fdiv (pe_op op_add (pv 2) pe_int) pe_int))
      (pss_cons (ps_set (i := 4) sc_law.nd rfl (.inl rfl) (pe_op op_add pe_int (pe_call (ok_Lpick T) hr1 rfl T.mg_Lpick T.F_Lpick.kp (b_Lpick T) .nil pass0 (pa_cons (pv 1) (pa_cons (pe_op op_sub (pe_callB (call_min2 rfl) rfl T.b_min (by decide +kernel) (pa_cons pe_int (pa_cons (pe_op op_sub (pe_op op_sub (pv 2) pe_int) (pv 3)) pa_nil))) pe_int) pa_nil)))))
      (pss_cons (ps_set (i := 5) sc_law.nd rfl (.inl rfl) (pe_lst (pa_cons (pv 2) (pa_cons (pv 4) (pa_cons (pe_op op_add (pe_op op_add (pv 2) pe_int) (pe_call (ok_Lpick T) hr1 rfl T.mg_Lpick T.F_Lpick.kp (b_Lpick T) .nil pass0 (pa_cons (pv 1) (pa_cons (pe_op op_sub pe_int (pv 2)) pa_nil)))) pa_nil)))))
      (pss_cons (ps_set (i := 6) sc_law.nd rfl (.inl rfl) (pe_op op_add (pe_op op_add pe_int (pv 3)) (pv 4)))
      (pss_cons (ps_set (i := 7) sc_law.nd rfl (.inl rfl) (pe_lst pa_nil))
      (pss_cons (ps_for PassesOwn.never rfl (pi_range1 rfl T.b_range (pa_cons (pe_op op_add pe_int (pe_call (ok_Lpick T) hr1 rfl T.mg_Lpick T.F_Lpick.kp (b_Lpick T) .nil pass0 (pa_cons (pv 1) (pa_cons pe_int pa_nil)))) pa_nil)) (pg_name (i := 8) sc_law.nd rfl (.inl rfl))
        (pss_cons (ps_set (i := 9) sc_law.nd rfl (.inl rfl) (pe_call (ok_Lpick T) hr1 rfl T.mg_Lpick T.F_Lpick.kp (b_Lpick T) .nil pass0 (pa_cons (pv 1) (pa_cons pe_int pa_nil))))
        (pss_cons (ps_set (i := 10) sc_law.nd rfl (.inl rfl) (pe_lst (pa_cons (pe_op op_add (pv 6) (pe_op op_mod (pe_op op_fdiv (pe_callTy call_int1 rfl T.b_int (by decide +kernel) (pa_cons (pv 9) pa_nil)) pe_int) (pe_op op_sub (pv 2) (pv 6)))) (pa_cons (pe_op op_add (pv 6) (pe_op op_mod (pe_op op_fdiv (pe_callTy call_int1 rfl T.b_int (by decide +kernel) (pa_cons (pv 9) pa_nil)) pe_int) (pe_op op_sub (pv 2) (pv 6)))) (pa_cons (pe_op op_add (pv 6) pe_int) pa_nil)))))
        (pss_cons (ps_set (i := 11) sc_law.nd rfl (.inl rfl) (pe_op op_mod (pe_callTy call_int1 rfl T.b_int (by decide +kernel) (pa_cons (pe_call (ok_Lpick T) hr1 rfl T.mg_Lpick T.F_Lpick.kp (b_Lpick T) .nil pass0 (pa_cons (pv 1) (pa_cons pe_int pa_nil))) pa_nil)) (pv 2)))
        (pss_cons (ps_setLc (i := 12) (own := [("_law_j", 13)]) (g := gName 13) (tt := tYes) rfl sc_law.nd rfl rfl (sw_true rfl rfl rfl (by decide +kernel)) (pi_range1 rfl T.b_range (pa_cons (pe_op op_mod (pv 9) pe_int) pa_nil)) (blkOk_by (N := ["_law_script", "_law_feed_here", "_law_blocks", "_law_maps", "_law_many", "_law_sizes", "_law_first", "_law_draws", "_law_k", "_law_shape", "_law_closed", "_law_wished", "_law_steps", "_law_j", "_law_rows_here", "_law_kept", "_law_row", "_law_plan", "_law_image", "_law_model", "_law_mixed", "_law_x", "_law_other", "_law_spoilt", "_law_draw", "_law_fresh_here"]) (sc := defScope s_law) (by decide +kernel)) (fun _ _ _ _ _ => pg_name (i := 13) sc_law.nd rfl (Or.inl rfl)) (fun _ _ _ _ _ => pts_nil) (fun _ _ _ _ _ => (pe_tup (pa_cons (pe_call (ok_Lpick T) hr1 rfl T.mg_Lpick T.F_Lpick.kp (b_Lpick T) .nil pass0 (pa_cons (pv 1) (pa_cons pe_int pa_nil))) (pa_cons (pe_call (ok_Lpick T) hr1 rfl T.mg_Lpick T.F_Lpick.kp (b_Lpick T) .nil pass0 (pa_cons (pv 1) (pa_cons pe_int pa_nil))) pa_nil)))))
        (pss_one (ps_expr (pe_bm PySem.F.plainAttrs_list PySem.F.slot_list_append PySem.F.type_list_append mt_append (pv 7) (pa_cons (pe_tup (pa_cons (pv 11) (pa_cons (pe_slice sl_list (pv 10) po_none (po_some (pe_op op_mod (pe_op op_fdiv (pv 9) pe_int) pe_int))) (pa_cons (pe_tup (pa_cons (pe_op op_add pe_int (pe_op op_mod (pe_op op_fdiv (pv 9) pe_int) (pv 4))) (pa_cons (pe_op op_mod (pe_op op_fdiv (pv 9) pe_int) pe_int) pa_nil))) (pa_cons (pv 12) pa_nil))))) pa_nil)))))))))
      (pss_cons (ps_set (i := 14) sc_law.nd rfl (.inl rfl) (pe_call (ok_Lrows T) hr2 rfl T.mg_Lrows T.F_Lrows.kp (b_Lrows T) .nil pass0 (pa_cons (pv 1) (pa_cons (pv 2) (pa_cons (pv 3) pa_nil)))))
      (pss_cons (ps_setLc (i := 15) (own := [("_law_row", 16)]) (g := gName 16) (tt := tYes) rfl sc_law.nd rfl rfl (sw_true rfl rfl rfl (by decide +kernel)) (pi_list (pv 14)) (blkOk_by (N := ["_law_script", "_law_feed_here", "_law_blocks", "_law_maps", "_law_many", "_law_sizes", "_law_first", "_law_draws", "_law_k", "_law_shape", "_law_closed", "_law_wished", "_law_steps", "_law_j", "_law_rows_here", "_law_kept", "_law_row", "_law_plan", "_law_image", "_law_model", "_law_mixed", "_law_x", "_law_other", "_law_spoilt", "_law_draw", "_law_fresh_here"]) (sc := defScope s_law) (by decide +kernel)) (fun _ _ _ _ _ => pg_name (i := 16) sc_law.nd rfl (Or.inl rfl)) (fun _ _ _ _ _ => pts_nil) (fun _ _ _ _ _ => (pe_listof (K := K) (pv 16) T.b_list)))
      (pss_cons (ps_set (i := 17) sc_law.nd rfl (.inl rfl) (pe_makeK T.mk_Plan (ok_Plan_init T) hr2 rfl T.mg_Plan (kb_Plan T) pass0 (pa_cons (pv 2) pa_nil) (pk_cons (pv 4) (pk_cons (pe_ix ix_list (pv 5) pe_int (fun _ _ => rfl)) pk_nil))))
      (pss_cons (ps_set (i := 18) sc_law.nd rfl (.inl rfl) (pe_smeth T.mg_Image T.cr_Image T.sm_Image_of_cells (ok_of_cells T) hr3 (b_Image_of_cells T) .nil pass0 (pa_cons (pv 17) (pa_cons (pv 14) pa_nil))))
      (pss_cons (ps_set (i := 19) sc_law.nd rfl (.inl rfl) (pe_call (ok_Lof_cells T) hr2 rfl T.mg_Lof_cells T.F_Lof_cells.kp (b_Lof_cells T) .nil pass0 (pa_cons (pv 15) (pa_cons (pv 6) (pa_cons (pv 5) pa_nil)))))
      (pss_cons (ps_if (PW.pt (pw_or (pt_cmpR (op_neD hr.units) (pv 14) (pv 15) (nomark _)) (pw_or (pt_not (pt_val (pe_call (ok_Lsame T 3) hr5 rfl T.mg_Lsame T.F_Lsame.kp (b_Lsame T) .nil pass0 (pa_cons (pe_call (ok_Lall T) hr2 rfl T.mg_Lall T.F_Lall.kp (b_Lall T) .nil pass0 (pa_cons (pv 18) pa_nil)) (pa_cons (pv 19) pa_nil))))) (pw_or1 (pt_not (pt_val (pe_call (ok_Ltold_good T) hr4 rfl T.mg_Ltold_good T.F_Ltold_good.kp (b_Ltold_good T) .nil pass0 (pa_cons (pv 18) (pa_cons (pv 19) (pa_cons (pv 6) pa_nil))))))))))
        (pss_one (ps_ret pe_bl))
        pss_nil)
      (pss_cons (ps_setLc (i := 20) (own := [("_law_row", 16)]) (g := gName 16) (tt := tYes) rfl sc_law.nd rfl rfl (sw_true rfl rfl rfl (by decide +kernel)) (pi_list (pv 15)) (blkOk_by (N := ["_law_script", "_law_feed_here", "_law_blocks", "_law_maps", "_law_many", "_law_sizes", "_law_first", "_law_draws", "_law_k", "_law_shape", "_law_closed", "_law_wished", "_law_steps", "_law_j", "_law_rows_here", "_law_kept", "_law_row", "_law_plan", "_law_image", "_law_model", "_law_mixed", "_law_x", "_law_other", "_law_spoilt", "_law_draw", "_law_fresh_here"]) (sc := defScope s_law) (by decide +kernel)) (fun _ _ _ _ _ => pg_name (i := 16) sc_law.nd rfl (Or.inl rfl)) (fun _ _ _ _ _ => pts_nil) (fun _ _ _ _ _ => (pe_listof (K := K) (pv 16) T.b_list)))
      (pss_cons (ps_for PassesOwn.never rfl (pi_range3 rfl T.b_range (pa_cons pe_int (pa_cons (pv 2) (pa_cons pe_int pa_nil)))) (pg_name (i := 21) sc_law.nd rfl (.inl rfl))
        (pss_one (ps_asg (pe_callTy call_tuple_of rfl T.b_tuple (by decide +kernel) (pa_cons (pe_ix ix_list (pv 20) (pv 21) (fun _ _ => rfl)) pa_nil)) (pg_sub (pv 20) (pv 21) set_list))))
      (pss_cons (ps_set (i := 22) sc_law.nd rfl (.inl rfl) (pe_smeth T.mg_Image T.cr_Image T.sm_Image_of_cells (ok_of_cells T) hr3 (b_Image_of_cells T) .nil pass0 (pa_cons (pv 17) (pa_cons (pv 20) pa_nil))))
      (pss_cons (ps_if (PW.pt (pw_or (pt_not (pt_val (pe_call (ok_Lsame T 3) hr5 rfl T.mg_Lsame T.F_Lsame.kp (b_Lsame T) .nil pass0 (pa_cons (pe_call (ok_Lall T) hr2 rfl T.mg_Lall T.F_Lall.kp (b_Lall T) .nil pass0 (pa_cons (pv 22) pa_nil)) (pa_cons (pv 19) pa_nil))))) (pw_or1 (pt_not (pt_val (pe_call (ok_Llists T) hr1 rfl T.mg_Llists T.F_Llists.kp (b_Llists T) .nil pass0 (pa_cons (pv 22) pa_nil)))))))
        (pss_one (ps_ret pe_bl))
        pss_nil)
      (pss_cons (ps_for PassesOwn.never rfl (pi_list (pv 14)) (pg_name (i := 16) sc_law.nd rfl (.inl rfl))
        (pss_one (ps_asg (pe_op op_add (pe_ix ix_list (pv 16) pe_int (fun _ _ => rfl)) pe_int) (pg_sub (pv 16) pe_int set_list))))
      (pss_cons (ps_setLc (i := 23) (own := [("_law_row", 16)]) (g := gName 16) (tt := tYes) rfl sc_law.nd rfl rfl (sw_true rfl rfl rfl (by decide +kernel)) (pi_list (pv 14)) (blkOk_by (N := ["_law_script", "_law_feed_here", "_law_blocks", "_law_maps", "_law_many", "_law_sizes", "_law_first", "_law_draws", "_law_k", "_law_shape", "_law_closed", "_law_wished", "_law_steps", "_law_j", "_law_rows_here", "_law_kept", "_law_row", "_law_plan", "_law_image", "_law_model", "_law_mixed", "_law_x", "_law_other", "_law_spoilt", "_law_draw", "_law_fresh_here"]) (sc := defScope s_law) (by decide +kernel)) (fun _ _ _ _ _ => pg_name (i := 16) sc_law.nd rfl (Or.inl rfl)) (fun _ _ _ _ _ => pts_nil) (fun _ _ _ _ _ => (pe_listof (K := K) (pv 16) T.b_list)))
      (pss_cons (ps_for PassesOwn.never rfl (pi_list (pv 7)) (pg_name (i := 24) sc_law.nd rfl (.inl rfl))
        (pss_cons (ps_set (i := 18) sc_law.nd rfl (.inl rfl) (pe_call (ok_Ldeed T) hr rfl T.mg_Ldeed_good T.F_Ldeed_good.kp (b_Ldeed_good T) .nil pass0 (pa_cons (pv 18) (pa_cons (pv 19) (pa_cons (pv 3) (pa_cons (pv 6) (pa_cons (pv 24) pa_nil)))))))
        (pss_one (ps_if (PW.pt (pw_or (pt_cmpR op_isN (pv 18) pe_non (nomark _)) (pw_or1 (pt_not (pt_val (pe_call (ok_Ltold_good T) hr4 rfl T.mg_Ltold_good T.F_Ltold_good.kp (b_Ltold_good T) .nil pass0 (pa_cons (pv 18) (pa_cons (pv 19) (pa_cons (pv 6) pa_nil)))))))))
          (pss_one (ps_ret pe_bl))
          pss_nil))))
      (pss_cons (ps_if (PW.pt (pw_or (pt_cmpR (op_neD hr.units) (pv 14) (pv 23) (nomark _)) (pw_or1 (pt_not (pt_val (pe_call (ok_Lsame T 3) hr5 rfl T.mg_Lsame T.F_Lsame.kp (b_Lsame T) .nil pass0 (pa_cons (pe_call (ok_Lall T) hr2 rfl T.mg_Lall T.F_Lall.kp (b_Lall T) .nil pass0 (pa_cons (pe_make T.mk_Image (ok_Image_init T) hr2 rfl T.mg_Image (b_Image___init__ T) .nil pass0 (pa_cons (pv 17) pa_nil)) pa_nil)) (pa_cons (pe_call (ok_Lalone T) hr1 rfl T.mg_Lplan_alone T.F_Lplan_alone.kp (b_Lplan_alone T) .nil pass0 (pa_cons (pv 2) (pa_cons (pv 5) pa_nil))) pa_nil))))))))
        (pss_one (ps_ret pe_bl))
        pss_nil)
      (pss_cons (ps_set (i := 25) sc_law.nd rfl (.inl rfl) (pe_smeth T.mg_Image T.cr_Image T.sm_Image_fresh (ok_fresh T) hr4 (b_Image_fresh T) .nil pass0 (pa_cons (pv 17) pa_nil)))
      (pss_cons (ps_set (i := 16) sc_law.nd rfl (.inl rfl) (pe_ix ix_list (pe_fld (pv 25) rfl) (pe_op op_add pe_int (pv 3)) (fun _ _ => rfl)))
      (pss_cons (ps_asg pe_int (pg_sub (pv 16) pe_int set_list))
      (pss_cons (ps_expr (pe_meth (pv 25) T.cl_Image T.m_Image_take (ok_take T) hr4 (b_Image_take T) .nil passLN (pa_cons pe_int (pa_cons pe_int pa_nil))))
      (pss_cons (ps_set (i := 25) sc_law.nd rfl (.inl rfl) (pe_smeth T.mg_Image T.cr_Image T.sm_Image_fresh (ok_fresh T) hr4 (b_Image_fresh T) .nil pass0 (pa_cons (pv 17) pa_nil)))
      (pss_cons (ps_set (i := 19) sc_law.nd rfl (.inl rfl) (pe_call (ok_Lfresh T) hr3 rfl T.mg_Lfresh T.F_Lfresh.kp (b_Lfresh T) .nil pass0 (pa_cons (pv 2) (pa_cons (pv 3) (pa_cons (pv 6) (pa_cons (pv 5) pa_nil))))))
      (pss_one (ps_ret (pe_and (pe_call (ok_Lsame T 3) hr5 rfl T.mg_Lsame T.F_Lsame.kp (b_Lsame T) .nil pass0 (pa_cons (pe_call (ok_Lall T) hr2 rfl T.mg_Lall T.F_Lall.kp (b_Lall T) .nil pass0 (pa_cons (pv 25) pa_nil)) (pa_cons (pv 19) pa_nil))) (pe_one (pe_call (ok_Ltold_good T) hr4 rfl T.mg_Ltold_good T.F_Ltold_good.kp (b_Ltold_good T) .nil pass0 (pa_cons (pv 25) (pa_cons (pv 19) (pa_cons (pv 6) pa_nil)))))))))))))))))))))))))))))))))))), ?_⟩
    refine ⟨_, rfl, a, ns, rfl, hS, hlen, fun H1 fa fs s1 nfa ef _ => ?_⟩
    ((try dsimp only); (first | (refine Rg.sg (σ' := [some (.ref a), some (.ref fa), none, none, none, none, none, none, none, none, none, none, none, none, none, none, none, none, none, none, none, none, none, none, none, none]) ?_ ?_; focus exact rfl) | (refine Rg.sgG (σ' := [some (.ref a), some (.ref fa), none, none, none, none, none, none, none, none, none, none, none, none, none, none, none, none, none, none, none, none, none, none, none, none]) ?_ ?_; focus exact rfl)))
    refine ⟨_, rfl, fa, fs, 57, rfl, ef, by decide, fun r f2 r0 r1 _ => ?_⟩
    (generalize he_y1 : upd _ fa _ = H2; obtain ⟨e_y1, k_y1, f_y1⟩ := own_f he_y1; clear he_y1)
    refine ⟨_, _, rfl, rfl, ?_⟩
    obtain ⟨b, eb⟩ : ∃ b, b = 8 + r := ⟨_, rfl⟩
    ((try dsimp only); (first | (refine Rg.sg (σ' := [some (.ref a), some (.ref fa), some (.int (8 + r)), none, none, none, none, none, none, none, none, none, none, none, none, none, none, none, none, none, none, none, none, none, none, none]) ?_ ?_; focus exact rfl) | (refine Rg.sgG (σ' := [some (.ref a), some (.ref fa), some (.int (8 + r)), none, none, none, none, none, none, none, none, none, none, none, none, none, none, none, none, none, none, none, none, none, none, none]) ?_ ?_; focus exact rfl)))
    rw [← eb]
    have b1 : 8 ≤ b := by omega
    have b2 : b ≤ 64 := by omega
    refine ⟨_, rfl, _, _, rfl, rfl, _, _, rfl, rfl, (CDiv8 _), ?_⟩
    ((try dsimp only); (first | (refine Rg.sg (σ' := [some (.ref a), some (.ref fa), some (.int b), some (.int ((b + 7) / 8)), none, none, none, none, none, none, none, none, none, none, none, none, none, none, none, none, none, none, none, none, none, none]) ?_ ?_; focus exact rfl) | (refine Rg.sgG (σ' := [some (.ref a), some (.ref fa), some (.int b), some (.int ((b + 7) / 8)), none, none, none, none, none, none, none, none, none, none, none, none, none, none, none, none, none, none, none, none, none, none]) ?_ ?_; focus exact rfl)))
    refine ⟨_, rfl, _, rfl, _, _, rfl, rfl, _, rfl, _, _, rfl, rfl, _, _, rfl, _, _, rfl, rfl, fa, f2, _, rfl, e_y1, (by show (0 : Int) < (if b - 4 - (b + 7) / 8 < 16 then b - 4 - (b + 7) / 8 else 16) - 1; split <;> omega), fun r2 f3 r20 r21 _ => ?_⟩
    have r21 : r2 < (if b - 4 - (b + 7) / 8 < 16 then b - 4 - (b + 7) / 8 else 16) - 1 := r21
    (generalize he_y2 : upd _ fa _ = H3; obtain ⟨e_y2, k_y2, f_y2⟩ := own_f he_y2; clear he_y2)
    refine ⟨_, _, rfl, rfl, ?_⟩
    obtain ⟨n, en⟩ : ∃ n, n = 2 + r2 := ⟨_, rfl⟩
    ((try dsimp only); (first | (refine Rg.sg (σ' := [some (.ref a), some (.ref fa), some (.int b), some (.int ((b + 7) / 8)), some (.int (2 + r2)), none, none, none, none, none, none, none, none, none, none, none, none, none, none, none, none, none, none, none, none, none]) ?_ ?_; focus exact rfl) | (refine Rg.sgG (σ' := [some (.ref a), some (.ref fa), some (.int b), some (.int ((b + 7) / 8)), some (.int (2 + r2)), none, none, none, none, none, none, none, none, none, none, none, none, none, none, none, none, none, none, none, none, none]) ?_ ?_; focus exact rfl)))
    rw [← en]
    have n1 : 2 ≤ n := by omega
    have n2 : n ≤ 16 := by split at r21 <;> omega
    have n3 : 2 ≤ b - (2 + (b + 8 - 1) / 8 + n) := by split at r21 <;> omega
    refine ⟨_, rfl, _, rfl, _, rfl, _, _, rfl, rfl, _, rfl, _, rfl, _, _, rfl, rfl, fa, f3, 200 - b, rfl, e_y2, (by omega), fun r3 f4 r30 r31 _ => ?_⟩
    (generalize he_y3 : upd _ fa _ = H4; obtain ⟨e_y3, k_y3, f_y3⟩ := own_f he_y3; clear he_y3)
    refine ⟨_, _, rfl, rfl, (by show 3 ≤ sizeLine; decide), ?_⟩
    (intro sz n_sz; generalize he_sz : upd _ sz _ = H5; obtain ⟨e_sz, s_sz, f_sz⟩ := new_f he_sz n_sz; clear he_sz)
    obtain ⟨sl, esl⟩ : ∃ s, s = b + 1 + r3 := ⟨_, rfl⟩
    have e_sz : H5 sz = some (.lst (szL b n sl)) := by rw [esl]; exact e_sz
    have s1_ : b < sl := by omega
    have s2_ : sl ≤ 200 := by omega
    ((try dsimp only); (first | (refine Rg.sg (σ' := [some (.ref a), some (.ref fa), some (.int b), some (.int ((b + 7) / 8)), some (.int n), some (.ref sz), none, none, none, none, none, none, none, none, none, none, none, none, none, none, none, none, none, none, none, none]) ?_ ?_; focus exact rfl) | (refine Rg.sgG (σ' := [some (.ref a), some (.ref fa), some (.int b), some (.int ((b + 7) / 8)), some (.int n), some (.ref sz), none, none, none, none, none, none, none, none, none, none, none, none, none, none, none, none, none, none, none, none]) ?_ ?_; focus exact rfl)))
    have ef5 := s_sz _ _ e_y3
    refine ⟨_, rfl, _, _, rfl, rfl, _, rfl, _, _, rfl, rfl, ?_⟩
    have efd : 2 + (b + 7) / 8 + n = fdOf b n := by unfold fdOf; omega
    ((try dsimp only); (first | (refine Rg.sg (σ' := [some (.ref a), some (.ref fa), some (.int b), some (.int ((b + 7) / 8)), some (.int n), some (.ref sz), some (.int (2 + (b + 7) / 8 + n)), none, none, none, none, none, none, none, none, none, none, none, none, none, none, none, none, none, none, none]) ?_ ?_; focus exact rfl) | (refine Rg.sgG (σ' := [some (.ref a), some (.ref fa), some (.int b), some (.int ((b + 7) / 8)), some (.int n), some (.ref sz), some (.int (2 + (b + 7) / 8 + n)), none, none, none, none, none, none, none, none, none, none, none, none, none, none, none, none, none, none, none]) ?_ ?_; focus exact rfl)))
    rw [efd]
    have fd0 : 0 < b - fdOf b n := by rw [← efd]; omega
    refine ⟨by show 0 ≤ sizeLine; decide, ?_⟩
    (intro da n_da; generalize he_da : upd _ da _ = H6; obtain ⟨e_da, s_da, f_da⟩ := new_f he_da n_da; clear he_da)
    ((try dsimp only); (first | (refine Rg.sg (σ' := [some (.ref a), some (.ref fa), some (.int b), some (.int ((b + 7) / 8)), some (.int n), some (.ref sz), some (.int (fdOf b n)), some (.ref da), none, none, none, none, none, none, none, none, none, none, none, none, none, none, none, none, none, none]) ?_ ?_; focus exact rfl) | (refine Rg.sgG (σ' := [some (.ref a), some (.ref fa), some (.int b), some (.int ((b + 7) / 8)), some (.int n), some (.ref sz), some (.int (fdOf b n)), some (.ref da), none, none, none, none, none, none, none, none, none, none, none, none, none, none, none, none, none, none]) ?_ ?_; focus exact rfl)))
    have fsz : sz ≠ fa := fun z => by rw [z, e_y3] at n_sz; cases n_sz
    have fda : da ≠ fa := fun z => by rw [z, ef5] at n_da; cases n_da
    have szda : sz ≠ da := fun z => by rw [← z, e_sz] at n_da; cases n_da
    have ef6 := s_da _ _ ef5
    have esz6 := s_da _ _ e_sz
    refine ⟨_, rfl, fa, f4, 3, rfl, ef6, by decide, fun cn f5 c0 c1 _ => ?_⟩
    (generalize he_y4 : upd _ fa _ = H7; obtain ⟨e_y4, k_y4, f_y4⟩ := own_f he_y4; clear he_y4)
    refine ⟨_, _, rfl, rfl, _, rfl, by omega, by omega, for_range (lo := 0) (n := (1 + cn).toNat) (fun i σ H' => ∃ (u8 u9 u10 u11 u12 u13 : Option V) (ds : List DW) (fs : List Int), σ = [some (.ref a), some (.ref fa), some (.int b), some (.int ((b + 7) / 8)), some (.int n), some (.ref sz), some (.int (fdOf b n)), some (.ref da), u8, u9, u10, u11, u12, u13, none, none, none, none, none, none, none, none, none, none, none, none] ∧ H' fa = some (.lst (fs.map V.int)) ∧ H' da = some (.lst (ds.map fun d => V.ref d.dq)) ∧ H' sz = some (.lst (szL b n sl)) ∧ (∀ d ∈ ds, d.At H' ∧ d.ca ≠ fa ∧ d.sa ≠ fa ∧ d.ca ≠ da ∧ d.sa ≠ da) ∧ ds.length ≤ i) ⟨none, none, none, none, none, none, [], f5, rfl, e_y4, k_y4.at1 e_da fda, k_y4.at1 esz6 fsz, (fun d hd => by cases hd), Nat.le_refl _⟩ ?_ ?_⟩
    · rintro i σ Ha hi ⟨u8, u9, u10, u11, u12, u13, ds, g0, rfl, ha1, ha2, ha3, ha4, hal⟩
      ((try dsimp only); (first | (refine Rg.sg (σ' := [some (.ref a), some (.ref fa), some (.int b), some (.int ((b + 7) / 8)), some (.int n), some (.ref sz), some (.int (fdOf b n)), some (.ref da), some (.int (0 + (i : Int))), u9, u10, u11, u12, u13, none, none, none, none, none, none, none, none, none, none, none, none]) ?_ ?_; focus exact rfl) | (refine Rg.sgG (σ' := [some (.ref a), some (.ref fa), some (.int b), some (.int ((b + 7) / 8)), some (.int n), some (.ref sz), some (.int (fdOf b n)), some (.ref da), some (.int (0 + (i : Int))), u9, u10, u11, u12, u13, none, none, none, none, none, none, none, none, none, none, none, none]) ?_ ?_; focus exact rfl)))
      refine ⟨_, rfl, fa, g0, 960, rfl, ha1, by decide, fun sh g1 h0 h1 _ => ?_⟩
      (generalize he_z1 : upd _ fa _ = Hb; obtain ⟨e_z1, k_z1, f_z1⟩ := own_f he_z1; clear he_z1)
      ((try dsimp only); (first | (refine Rg.sg (σ' := [some (.ref a), some (.ref fa), some (.int b), some (.int ((b + 7) / 8)), some (.int n), some (.ref sz), some (.int (fdOf b n)), some (.ref da), some (.int (0 + (i : Int))), some (.int sh), u10, u11, u12, u13, none, none, none, none, none, none, none, none, none, none, none, none]) ?_ ?_; focus exact rfl) | (refine Rg.sgG (σ' := [some (.ref a), some (.ref fa), some (.int b), some (.int ((b + 7) / 8)), some (.int n), some (.ref sz), some (.int (fdOf b n)), some (.ref da), some (.int (0 + (i : Int))), some (.int sh), u10, u11, u12, u13, none, none, none, none, none, none, none, none, none, none, none, none]) ?_ ?_; focus exact rfl)))
      refine ⟨_, rfl, _, rfl, .inl ⟨_, rfl, _, _, rfl, rfl, (by show CDiv sh 6; exact ⟨by decide, by decide⟩), _, rfl, _, rfl, _, _, rfl, rfl, _, _, rfl, rfl, (by show 0 < b - fdOf b n; exact fd0), _, _, rfl, rfl, _, rfl, _, rfl, .inl ⟨_, rfl, _, _, rfl, rfl, (by show CDiv sh 12; exact ⟨by decide, by decide⟩), _, rfl, _, rfl, _, _, rfl, rfl, _, _, rfl, rfl, (by show 0 < b - fdOf b n; exact fd0), _, _, rfl, rfl, _, rfl, _, _, rfl, rfl, (by show 3 ≤ sizeLine; decide), ?_⟩⟩⟩
      (intro cl n_cl; generalize he_cl : upd _ cl _ = Hc; obtain ⟨e_cl, s_cl, f_cl⟩ := new_f he_cl n_cl; clear he_cl)
      ((try dsimp only); (first | (refine Rg.sg (σ' := [some (.ref a), some (.ref fa), some (.int b), some (.int ((b + 7) / 8)), some (.int n), some (.ref sz), some (.int (fdOf b n)), some (.ref da), some (.int (0 + (i : Int))), some (.int sh), some (.ref cl), u11, u12, u13, none, none, none, none, none, none, none, none, none, none, none, none]) ?_ ?_; focus exact rfl) | (refine Rg.sgG (σ' := [some (.ref a), some (.ref fa), some (.int b), some (.int ((b + 7) / 8)), some (.int n), some (.ref sz), some (.int (fdOf b n)), some (.ref da), some (.int (0 + (i : Int))), some (.int sh), some (.ref cl), u11, u12, u13, none, none, none, none, none, none, none, none, none, none, none, none]) ?_ ?_; focus exact rfl)))
      have ecl : ∃ i1 i2 i3 : Int, Hc cl = some (.lst ([i1, i2, i3].map V.int)) := ⟨_, _, _, e_cl⟩
      clear e_cl
      obtain ⟨i1, i2, i3, ecl⟩ := ecl
      have nfacl : cl ≠ fa := fun z => by rw [z, e_z1] at n_cl; cases n_cl
      have hb2 : Hb da = some (.lst (ds.map fun d => V.ref d.dq)) := k_z1.at1 ha2 fda
      have nclda : cl ≠ da := fun z => by rw [z, hb2] at n_cl; cases n_cl
      refine ⟨_, rfl, fa, g1, 64, rfl, s_cl _ _ e_z1, by decide, fun w0 g2 _ _ _ => ?_⟩
      (generalize he_z2 : upd _ fa _ = Hd; obtain ⟨e_z2, k_z2, f_z2⟩ := own_f he_z2; clear he_z2)
      refine .inl ⟨_, rfl, _, rfl, _, _, rfl, rfl, (by show 0 < b; omega), ?_⟩
      obtain ⟨wi, ewi⟩ : ∃ w, w = w0 % b := ⟨_, rfl⟩
      ((try dsimp only); (first | (refine Rg.sg (σ' := [some (.ref a), some (.ref fa), some (.int b), some (.int ((b + 7) / 8)), some (.int n), some (.ref sz), some (.int (fdOf b n)), some (.ref da), some (.int (0 + (i : Int))), some (.int sh), some (.ref cl), some (.int (w0 % b)), u12, u13, none, none, none, none, none, none, none, none, none, none, none, none]) ?_ ?_; focus exact rfl) | (refine Rg.sgG (σ' := [some (.ref a), some (.ref fa), some (.int b), some (.int ((b + 7) / 8)), some (.int n), some (.ref sz), some (.int (fdOf b n)), some (.ref da), some (.int (0 + (i : Int))), some (.int sh), some (.ref cl), some (.int (w0 % b)), u12, u13, none, none, none, none, none, none, none, none, none, none, none, none]) ?_ ?_; focus exact rfl)))
      rw [← ewi]
      clear ewi
      have m60 := Int.emod_nonneg sh (show (6 : Int) ≠ 0 by decide)
      have m61 := Int.emod_lt_of_pos sh (show (0 : Int) < 6 by decide)
      refine ⟨_, rfl, _, _, rfl, rfl, (by show (0 : Int) < 6; decide), _, rfl, by omega, by omega, fun D hD => ?_⟩
      have Dfa : D ≠ fa := fun z => by rw [z, e_z2] at hD; cases hD
      refine lc_range (lo := 0) (n := (sh % 6).toNat) (fun j H' => ∃ (ss : List (Addr × Int × Int)) (g : List Int), ss.length = j ∧ H' D = some (.lst (ss.map fun t => V.ref t.1)) ∧ (∀ t ∈ ss, H' t.1 = some (.tup [.int t.2.1, .int t.2.2])) ∧ H' fa = some (.lst (g.map V.int)) ∧ Kp [fa] Hd H') ⟨[], g2, rfl, upd_same, (fun t ht => by cases ht), by rw [upd_ne Dfa.symm]; exact e_z2, Kp.refl.put hD⟩ ?_ ?_
      · rintro j H' hj ⟨ss, g, lss, q1, q2, q3, q4⟩
        refine ⟨rfl, yes_ ⟨_, rfl, fa, g, 1000, rfl, q3, by decide, fun p1 g3 _ _ _ => ?_⟩⟩
        (generalize he_x1 : upd _ fa _ = J1; obtain ⟨e_x1, k_x1, f_x1⟩ := own_f he_x1; clear he_x1)
        refine ⟨_, rfl, fa, g3, 1000, rfl, e_x1, by decide, fun p2 g4 _ _ _ => ?_⟩
        (generalize he_x2 : upd _ fa _ = J2; obtain ⟨e_x2, k_x2, f_x2⟩ := own_f he_x2; clear he_x2)
        refine ⟨(by show 2 ≤ sizeLine; decide), fun q hq => ?_⟩
        have kk : Kp [fa] H' J2 := k_x1.trans k_x2
        have q1' := kk.at1 q1 Dfa
        have hqD : q ≠ D := fun z => by rw [z, q1'] at hq; cases hq
        refine ⟨_, by rw [upd_ne hqD.symm]; exact q1', small1000 (by rw [List.length_map]; omega), ss ++ [(q, p1, p2)], g4, by rw [List.length_append, lss]; rfl, by rw [upd_same, List.map_append]; rfl, fun t ht => ?_, ?_, ?_⟩
        · rcases List.mem_append.mp ht with z | z
          · have e1 := kk.at1 (q2 t z) (fun y => by have := q2 t z; rw [y, q3] at this; cases this)
            rw [upd_ne (ne_of e1 q1' (by intro y; cases y)), upd_ne (ne_of_none e1 hq)]
            exact e1
          · rw [List.mem_singleton.mp z, upd_ne hqD]
            exact upd_same
        · rw [upd_ne Dfa.symm, upd_ne (ne_of_none e_x2 hq)]
          exact e_x2
        · exact (((q4.trans kk).put (by exact (q4.trans kk).free (fun z => by rw [List.mem_singleton.mp z, e_x2] at hq; cases hq) hq))).put hD
      rintro He ⟨ss, g3, lss, q1, q2, q3, q4⟩
      ((try dsimp only); (first | (refine Rg.sg (σ' := [some (.ref a), some (.ref fa), some (.int b), some (.int ((b + 7) / 8)), some (.int n), some (.ref sz), some (.int (fdOf b n)), some (.ref da), some (.int (0 + (i : Int))), some (.int sh), some (.ref cl), some (.int wi), some (.ref D), u13, none, none, none, none, none, none, none, none, none, none, none, none]) ?_ ?_; focus exact rfl) | (refine Rg.sgG (σ' := [some (.ref a), some (.ref fa), some (.int b), some (.int ((b + 7) / 8)), some (.int n), some (.ref sz), some (.int (fdOf b n)), some (.ref da), some (.int (0 + (i : Int))), some (.int sh), some (.ref cl), some (.int wi), some (.ref D), u13, none, none, none, none, none, none, none, none, none, none, none, none]) ?_ ?_; focus exact rfl)))
      have kde : Kp [fa] Hc He := k_z2.trans q4
      have he2 : He da = some (.lst (ds.map fun d => V.ref d.dq)) := kde.at1 (s_cl _ _ hb2) fda
      have ecl5 := kde.at1 ecl nfacl
      refine ⟨_, rfl, .inl ⟨rfl, _, .inl (.inl he2)⟩, _, rfl, _, rfl, _, rfl, _, _, rfl, rfl, (by show CDiv sh 40; exact ⟨by decide, by decide⟩), _, _, rfl, rfl, (by show (0 : Int) < 4; decide), _, rfl, cl, _, rfl, .of ecl5, ?_⟩
      obtain ⟨bs, ebs, lbs⟩ := cutI [i1, i2, i3] none (some (sh / 40 % 4))
      rw [ebs]
      (intro ca n_ca; generalize he_ca : upd _ ca _ = Hf; obtain ⟨e_ca, s_ca, f_ca⟩ := new_f he_ca n_ca; clear he_ca)
      refine ⟨_, rfl, _, _, rfl, rfl, (by show CDiv sh 20; exact ⟨by decide, by decide⟩), _, rfl, _, _, rfl, rfl, (by show 0 < n; omega), _, _, rfl, rfl, _, rfl, _, _, rfl, rfl, (by show CDiv sh 7; exact ⟨by decide, by decide⟩), _, _, rfl, rfl, (by show (0 : Int) < 3; decide), (by show 2 ≤ sizeLine; decide), ?_⟩
      (intro hq n_hq; generalize he_hq : upd _ hq _ = Hg; obtain ⟨e_hq, s_hq, f_hq⟩ := new_f he_hq n_hq; clear he_hq)
      obtain ⟨hk, hw, ehq⟩ : ∃ k w : Int, Hg hq = some (.tup [.int k, .int w]) := ⟨_, _, e_hq⟩
      refine ⟨_, rfl, (by show 4 ≤ sizeLine; decide), ?_⟩
      (intro dq n_dq; generalize he_dq : upd _ dq _ = Hh; obtain ⟨e_dq, s_dq, f_dq⟩ := new_f he_dq n_dq; clear he_dq)
      have Seh : Same He Hh := (s_ca.trans s_hq).trans s_dq
      refine ⟨da, _, _, rfl, rfl, Seh _ _ he2, lt_line (by rw [List.length_map]; omega), ?_⟩
      (generalize he_yy : upd _ da _ = Hi; obtain ⟨e_yy, k_yy, f_yy⟩ := own_f he_yy; clear he_yy)
      have hcfa : ca ≠ fa := fun z => by rw [z, q3] at n_ca; cases n_ca
      have hcda : ca ≠ da := fun z => by rw [z, he2] at n_ca; cases n_ca
      have hDda : D ≠ da := fun z => by rw [z, k_z2.at1 (s_cl _ _ hb2) fda] at hD; cases hD
      have key : ∀ (x : Addr) (o : HO), Hh x = some o → (∀ xs, o ≠ .lst xs) → Hi x = some o := fun x o e no => k_yy.at1 e fun z => by
        rw [z, Seh _ _ he2] at e
        exact no _ (Option.some.inj e).symm
      refine ⟨_, _, _, _, _, _, ds ++ [⟨dq, ca, hq, D, wi, bs, hk, hw, ss⟩], g3, rfl, k_yy.at1 (Seh _ _ q3) fda.symm, by rw [e_yy, List.map_append]; rfl, k_yy.at1 (Seh _ _ (kde.at1 (s_cl _ _ (k_z1.at1 ha3 fsz)) fsz)) szda, fun d hd => ?_, by rw [List.length_append]; show _ + 1 ≤ _; omega⟩
      rcases List.mem_append.mp hd with z | z
      · obtain ⟨dA, d1, d2, d3, d4⟩ := ha4 d z
        have A1 := (dA.k1 ha1 k_z1 d1 d2).same s_cl
        have A2 := (A1.k1 (s_cl _ _ e_z1) k_z2 d1 d2).k1 e_z2 q4 d1 d2
        have A3 := (A2.same Seh).k1 (Seh _ _ he2) k_yy d3 d4
        exact ⟨A3, d1, d2, d3, d4⟩
      · rw [List.mem_singleton.mp z]
        refine ⟨⟨⟨key _ _ e_dq (fun _ y => by cases y), k_yy.at1 (s_dq _ _ (s_hq _ _ e_ca)) hcda, key _ _ (s_dq _ _ ehq) (fun _ y => by cases y), k_yy.at1 (Seh _ _ q1) hDda, fun t ht => key _ _ (Seh _ _ (q2 t ht)) (fun _ y => by cases y)⟩, ?_, ?_⟩, hcfa, Dfa, hcda, hDda⟩
        · have : bs.length ≤ 3 := lbs
          show bs.length < 1000
          omega
        · show ss.length ≤ 5
          rw [lss]
          omega
    rintro σ Ha ⟨u8, u9, u10, u11, u12, u13, ds, g0, rfl, ha1, ha2, ha3, ha4, hal⟩
    -- the rows
    refine ⟨_, rfl, _, rfl, _, rfl, fa, g0, b, rfl, ha1, b1, b2, fun Hb ra rr R g1 W8 R8_ => ?_⟩
    ((try dsimp only); (first | (refine Rg.sg (σ' := [some (.ref a), some (.ref fa), some (.int b), some (.int ((b + 7) / 8)), some (.int n), some (.ref sz), some (.int (fdOf b n)), some (.ref da), u8, u9, u10, u11, u12, u13, some (.ref ra), none, none, none, none, none, none, none, none, none, none, none]) ?_ ?_; focus exact rfl) | (refine Rg.sgG (σ' := [some (.ref a), some (.ref fa), some (.int b), some (.int ((b + 7) / 8)), some (.int n), some (.ref sz), some (.int (fdOf b n)), some (.ref da), u8, u9, u10, u11, u12, u13, some (.ref ra), none, none, none, none, none, none, none, none, none, none, none]) ?_ ?_; focus exact rfl)))
    have dsb : ∀ d ∈ ds, d.At Hb := fun d hd => by
      obtain ⟨dA, d1, d2, _, _⟩ := ha4 d hd
      exact dA.k1 ha1 W8.k d1 d2
    have eda := W8.k.at1 ha2 fda
    have esz := W8.k.at1 ha3 fsz
    have gra := W8.g
    have lR : (R.length : Int) = b := R8_.1
    -- kept
    refine ⟨_, rfl, ra, rfl, ⟨_, .of gra.out⟩, fun kc hkc => ?_⟩
    refine lc_list (K := K) (a := ra) (xs := (rr).map V.ref) (fun i H' => ∃ qs, NewGrid Hb H' kc qs (List.take i (R))) ⟨[], NewGrid.start (Same.refl _) hkc hkc⟩ (fun i H' _ ⟨qs, G⟩ => .of (G.same _ _ (gra).out)) ?_ ?_
    · rintro i y H' hi ⟨qs, G⟩
      have hil : i < (rr).length := by
        have := (List.getElem?_eq_some_iff.mp hi).1
        rw [List.length_map] at this
        exact this
      rw [List.getElem?_map, List.getElem?_eq_getElem hil] at hi
      have hi : V.ref (rr)[i] = y := Option.some.inj hi
      subst hi
      have hiR : i < (R).length := by rw [← (gra).len]; exact hil
      have hrow := G.same _ _ ((gra).row i (rr)[i] (R)[i] (List.getElem?_eq_getElem hil) (List.getElem?_eq_getElem hiR))
      refine ⟨rfl, ?_⟩
      refine yes_ ?_
      refine ⟨_, rfl, (rr)[i], _, rfl, .inl (.of hrow), fun q hq => ?_⟩
      refine ⟨_, by rw [upd_ne (ne_of_none G.grid.out hq)]; exact G.grid.out, ?_, qs ++ [q], ?_⟩
      · rw [List.length_map, G.grid.len, List.length_take]
        exact small1000 (by omega)
      · rw [List.take_succ, List.getElem?_eq_getElem hiR]
        exact G.snoc (same_upd hq) hq upd_same
    rintro Hc ⟨ks, G_ks⟩
    rw [List.length_map, (gra).len, List.take_length] at G_ks
    have sbc := G_ks.same
    have gk := G_ks.grid
    ((try dsimp only); (first | (refine Rg.sg (σ' := [some (.ref a), some (.ref fa), some (.int b), some (.int ((b + 7) / 8)), some (.int n), some (.ref sz), some (.int (fdOf b n)), some (.ref da), u8, u9, u10, u11, u12, u13, some (.ref ra), some (.ref kc), none, none, none, none, none, none, none, none, none, none]) ?_ ?_; focus exact rfl) | (refine Rg.sgG (σ' := [some (.ref a), some (.ref fa), some (.int b), some (.int ((b + 7) / 8)), some (.int n), some (.ref sz), some (.int (fdOf b n)), some (.ref da), u8, u9, u10, u11, u12, u13, some (.ref ra), some (.ref kc), none, none, none, none, none, none, none, none, none, none]) ?_ ?_; focus exact rfl)))
    -- the plan
    refine ⟨_, rfl, _, rfl, _, rfl, sz, _, 2, .int sl, rfl, rfl, .of (sbc _ _ esz), rfl, rfl, rfl, fun px pdx npx npdx ned => ?_⟩
    refine ⟨px, pdx, b, n, sl, rfl, upd_same, b1, b2, n1, n2, s1_, s2_, n3, rfl, ?_⟩
    have Pl : PlanAt T.C_Plan (upd (upd (upd Hc pdx (.own px)) px (.ins T.C_Plan pdx [])) px (.ins T.C_Plan pdx (planF b n sl))) px b n sl := ⟨⟨pdx, upd_same⟩, b1, b2, n1, n2, s1_, s2_, n3⟩
    have scd : Same Hc (upd (upd (upd Hc pdx (.own px)) px (.ins T.C_Plan pdx [])) px (.ins T.C_Plan pdx (planF b n sl))) := fun x o e => by
      rw [upd_ne (ne_of_none e npx), upd_ne (ne_of_none e npx), upd_ne (ne_of_none e npdx)]
      exact e
    generalize upd (upd (upd Hc pdx (.own px)) px (.ins T.C_Plan pdx [])) px (.ins T.C_Plan pdx (planF b n sl)) = Hd at Pl scd ⊢
    ((try dsimp only); (first | (refine Rg.sg (σ' := [some (.ref a), some (.ref fa), some (.int b), some (.int ((b + 7) / 8)), some (.int n), some (.ref sz), some (.int (fdOf b n)), some (.ref da), u8, u9, u10, u11, u12, u13, some (.ref ra), some (.ref kc), none, some (.ref px), none, none, none, none, none, none, none, none]) ?_ ?_; focus exact rfl) | (refine Rg.sgG (σ' := [some (.ref a), some (.ref fa), some (.int b), some (.int ((b + 7) / 8)), some (.int n), some (.ref sz), some (.int (fdOf b n)), some (.ref da), u8, u9, u10, u11, u12, u13, some (.ref ra), some (.ref kc), none, some (.ref px), none, none, none, none, none, none, none, none]) ?_ ?_; focus exact rfl)))
    have sbd := sbc.trans scd
    -- the image, the model
    refine ⟨_, rfl, _, rfl, px, ra, rr, R, b, n, sl, rfl, Pl, (gra.same sbd).mixed, R8_.1, R8_.2.1, fun He im A sde nim I NA epl => ?_⟩
    ((try dsimp only); (first | (refine Rg.sg (σ' := [some (.ref a), some (.ref fa), some (.int b), some (.int ((b + 7) / 8)), some (.int n), some (.ref sz), some (.int (fdOf b n)), some (.ref da), u8, u9, u10, u11, u12, u13, some (.ref ra), some (.ref kc), none, some (.ref px), some (.ref im), none, none, none, none, none, none, none]) ?_ ?_; focus exact rfl) | (refine Rg.sgG (σ' := [some (.ref a), some (.ref fa), some (.int b), some (.int ((b + 7) / 8)), some (.int n), some (.ref sz), some (.int (fdOf b n)), some (.ref da), u8, u9, u10, u11, u12, u13, some (.ref ra), some (.ref kc), none, some (.ref px), some (.ref im), none, none, none, none, none, none, none]) ?_ ?_; focus exact rfl)))
    have sbe := sbd.trans sde
    refine ⟨_, rfl, _, rfl, _, rfl, kc, ks, R, b, n, sl, sz, rfl, gk.same (scd.trans sde), R8_.1, R8_.2.1, sbe _ _ esz, b1, b2, n1, fun Hf B sef nB D => ?_⟩
    ((try dsimp only); (first | (refine Rg.sg (σ' := [some (.ref a), some (.ref fa), some (.int b), some (.int ((b + 7) / 8)), some (.int n), some (.ref sz), some (.int (fdOf b n)), some (.ref da), u8, u9, u10, u11, u12, u13, some (.ref ra), some (.ref kc), none, some (.ref px), some (.ref im), some (.ref B.ml), none, none, none, none, none, none]) ?_ ?_; focus exact rfl) | (refine Rg.sgG (σ' := [some (.ref a), some (.ref fa), some (.int b), some (.int ((b + 7) / 8)), some (.int n), some (.ref sz), some (.int (fdOf b n)), some (.ref da), u8, u9, u10, u11, u12, u13, some (.ref ra), some (.ref kc), none, some (.ref px), some (.ref im), some (.ref B.ml), none, none, none, none, none, none]) ?_ ?_; focus exact rfl)))
    have If := I.keep sef
    have W : Tw T.C_Image T.C_Plan Hf im A (ofV b n R b.toNat) B [] b n sl := ⟨If, D, fun x hx z => by
      obtain ⟨o, eo⟩ := I.held z
      rw [nB x hx] at eo
      cases eo⟩
    have srt0 : Srt [] ((ofV b n R b.toNat)).hd := ⟨List.Perm.nil, List.Pairwise.nil⟩
    have eqG : PyData.eqv (dG R) (dG R) = true := SeqAt.eqv_refl _ (canG R)
    have sbf := sbe.trans sef
    have scf := (scd.trans sde).trans sef
    refine ⟨_, rfl, _, rfl, dG R, dG R, dpG (gra.same sbf), dpG (gk.same scf), shG _, shG _, _, rfl, ?_⟩
    rw [eqG]
    refine iteF ?_
    refine ⟨_, rfl, im, A, _, b, n, sl, [], rfl, If, srt0, (by show 0 < 1000; decide), fun Hg r1_ c1_ h1_ t1_ d1_ sfg nr1 er1 hD1 => ?_⟩
    refine ⟨_, rfl, _, _, rfl, all_sm (W.same sfg).I (W.same sfg).D (by show 0 < 1000; decide) (by show 0 < 1000; decide) er1 hD1, fun Hh sgh => ⟨_, rfl, iteF ?_⟩⟩
    have sfh := sfg.trans sgh
    refine ⟨_, rfl, _, rfl, _, rfl, im, A, _, B, [], b, n, sl, rfl, W.same sfh, fun Hi shi => ⟨_, rfl, iteF ?_⟩⟩
    have sfi := sfh.trans shi
    have sbi := sbf.trans sfi
    have gki := gk.same (scf.trans sfi)
    -- mixed rows
    refine ⟨_, rfl, kc, rfl, ⟨_, .of gki.out⟩, fun mx hmx => ?_⟩
    refine lc_list (K := K) (a := kc) (xs := (ks).map V.ref) (fun i H' => ∃ qs, NewGrid Hi H' mx qs (List.take i (R))) ⟨[], NewGrid.start (Same.refl _) hmx hmx⟩ (fun i H' _ ⟨qs, G⟩ => .of (G.same _ _ (gki).out)) ?_ ?_
    · rintro i y H' hi ⟨qs, G⟩
      have hil : i < (ks).length := by
        have := (List.getElem?_eq_some_iff.mp hi).1
        rw [List.length_map] at this
        exact this
      rw [List.getElem?_map, List.getElem?_eq_getElem hil] at hi
      have hi : V.ref (ks)[i] = y := Option.some.inj hi
      subst hi
      have hiR : i < (R).length := by rw [← (gki).len]; exact hil
      have hrow := G.same _ _ ((gki).row i (ks)[i] (R)[i] (List.getElem?_eq_getElem hil) (List.getElem?_eq_getElem hiR))
      refine ⟨rfl, ?_⟩
      refine yes_ ?_
      refine ⟨_, rfl, (ks)[i], _, rfl, .inl (.of hrow), fun q hq => ?_⟩
      refine ⟨_, by rw [upd_ne (ne_of_none G.grid.out hq)]; exact G.grid.out, ?_, qs ++ [q], ?_⟩
      · rw [List.length_map, G.grid.len, List.length_take]
        exact small1000 (by omega)
      · rw [List.take_succ, List.getElem?_eq_getElem hiR]
        exact G.snoc (same_upd hq) hq upd_same
    rintro Hj ⟨ms, G_ms⟩
    rw [List.length_map, (gki).len, List.take_length] at G_ms
    ((try dsimp only); (first | (refine Rg.sg (σ' := [some (.ref a), some (.ref fa), some (.int b), some (.int ((b + 7) / 8)), some (.int n), some (.ref sz), some (.int (fdOf b n)), some (.ref da), u8, u9, u10, u11, u12, u13, some (.ref ra), some (.ref kc), none, some (.ref px), some (.ref im), some (.ref B.ml), some (.ref mx), none, none, none, none, none]) ?_ ?_; focus exact rfl) | (refine Rg.sgG (σ' := [some (.ref a), some (.ref fa), some (.int b), some (.int ((b + 7) / 8)), some (.int n), some (.ref sz), some (.int (fdOf b n)), some (.ref da), u8, u9, u10, u11, u12, u13, some (.ref ra), some (.ref kc), none, some (.ref px), some (.ref im), some (.ref B.ml), some (.ref mx), none, none, none, none, none]) ?_ ?_; focus exact rfl)))
    refine ⟨_, rfl, 0, b, 2, _, rfl, rgc2 b1 b2, for_it walk_rangeC (fun i σ H' => ∃ (u21 : Option V) (ms : List Addr), σ = [some (.ref a), some (.ref fa), some (.int b), some (.int ((b + 7) / 8)), some (.int n), some (.ref sz), some (.int (fdOf b n)), some (.ref da), u8, u9, u10, u11, u12, u13, some (.ref ra), some (.ref kc), none, some (.ref px), some (.ref im), some (.ref B.ml), some (.ref mx), u21, none, none, none, none] ∧ GridM H' mx ms R ∧ Same Hi H') ⟨none, ms, rfl, G_ms.grid.mixed, G_ms.same⟩ (fun _ _ _ _ _ => trivial) ?_ ?_⟩
    · rintro i y σ H' Hn hi ⟨u21, ms', rfl, gm, sm⟩ hy
      obtain ⟨rfl, rfl⟩ := hy
      ((try dsimp only); (first | (refine Rg.sg (σ' := [some (.ref a), some (.ref fa), some (.int b), some (.int ((b + 7) / 8)), some (.int n), some (.ref sz), some (.int (fdOf b n)), some (.ref da), u8, u9, u10, u11, u12, u13, some (.ref ra), some (.ref kc), none, some (.ref px), some (.ref im), some (.ref B.ml), some (.ref mx), some (.int (0 + (i : Int) * 2)), none, none, none, none]) ?_ ?_; focus exact rfl) | (refine Rg.sgG (σ' := [some (.ref a), some (.ref fa), some (.int b), some (.int ((b + 7) / 8)), some (.int n), some (.ref sz), some (.int (fdOf b n)), some (.ref da), u8, u9, u10, u11, u12, u13, some (.ref ra), some (.ref kc), none, some (.ref px), some (.ref im), some (.ref B.ml), some (.ref mx), some (.int (0 + (i : Int) * 2)), none, none, none, none]) ?_ ?_; focus exact rfl)))
      have hij : 2 * i < R.length := by omega
      have hlm : 2 * i < ms'.length := by rw [gm.len]; exact hij
      obtain ⟨rj, erj⟩ : ∃ r, ms'[2 * i]? = some r := ⟨_, List.getElem?_eq_getElem hlm⟩
      obtain ⟨mj, emj⟩ : ∃ m, R[2 * i]? = some m := ⟨_, List.getElem?_eq_getElem hij⟩
      have row := gm.row _ rj mj erj emj
      have fin : ∀ (q : Addr) (H2 : Hp), Same Hn H2 → H2 q = some (.tup (mj.map V.int)) → GridM (upd H2 mx (.lst ((ms'.map V.ref).set (2 * i) (V.ref q)))) mx (ms'.set (2 * i) q) R ∧ Same Hi (upd H2 mx (.lst ((ms'.map V.ref).set (2 * i) (V.ref q)))) := fun q H2 s2 e2 => by
        have emx := s2 _ _ gm.out
        refine ⟨⟨by rw [upd_same, map_set], by rw [List.length_set]; exact gm.len, fun x r m e1 e3 => ?_⟩, fun x o e => ?_⟩
        · by_cases z : 2 * i = x
          · subst z
            rw [List.getElem?_set_self hlm] at e1
            cases e1
            rw [emj] at e3
            cases e3
            exact .inr (by rw [upd_ne (ne_of e2 emx (by intro y; cases y))]; exact e2)
          · rw [List.getElem?_set_ne z] at e1
            by_cases c : r = mx
            · exfalso
              have hr := gm.row x r m e1 e3
              rw [c] at hr
              rcases hr with h | h
              · rw [gm.out] at h
                have h := Option.some.inj h
                have h := HO.lst.inj h
                have e0 : (ms'.map V.ref)[x]? = some (.ref r) := by rw [List.getElem?_map, e1]; rfl
                rw [h, List.getElem?_map] at e0
                obtain ⟨y, _, hy⟩ := Option.map_eq_some_iff.mp e0
                cases hy
              · rw [gm.out] at h; cases h
            · rw [upd_ne c]
              exact (gm.row x r m e1 e3).imp (s2 _ _) (s2 _ _)
        · rw [upd_ne (ne_of_none e hmx)]
          exact s2 _ _ (sm _ _ e)
      refine ⟨_, rfl, _, rfl, mx, _, _, .ref rj, rfl, rfl, .of gm.out, at_of (j := 2 * i) (by omega) (by rw [List.getElem?_map, erj]; rfl), rj, mj.map V.int, rfl, ?_⟩
      rcases row with row | row
      · refine .inl ⟨.of row, ?_⟩
        (intro q n_q; generalize he_q : upd _ q _ = H2; obtain ⟨e_q, s_q, f_q⟩ := new_f he_q n_q; clear he_q)
        obtain ⟨f1, f2⟩ := fin q H2 s_q e_q
        refine ⟨_, rfl, _, rfl, mx, _, _, 2 * i, rfl, rfl, s_q _ _ gm.out, ixN_nat (by omega) (by rw [List.length_map]; exact hlm), ?_⟩
        exact ⟨_, _, rfl, f1, f2⟩
      · obtain ⟨f1, f2⟩ := fin rj _ (Same.refl _) row
        refine .inr ⟨.of row, _, rfl, _, rfl, mx, _, _, 2 * i, rfl, rfl, gm.out, ixN_nat (by omega) (by rw [List.length_map]; exact hlm), ?_⟩
        exact ⟨_, _, rfl, f1, f2⟩
    rintro σ Hj' ⟨u21, ms', rfl, gm, sij⟩
    have sdi : Same Hd Hi := (sde.trans sef).trans sfi
    refine ⟨_, rfl, _, rfl, px, mx, ms', R, b, n, sl, rfl, Pl.same (sdi.trans sij), gm, lR, R8_.2.1, fun Hk im2 A2 sjk nim2 I2 NA2 epl2 => ?_⟩
    ((try dsimp only); (first | (refine Rg.sg (σ' := [some (.ref a), some (.ref fa), some (.int b), some (.int ((b + 7) / 8)), some (.int n), some (.ref sz), some (.int (fdOf b n)), some (.ref da), u8, u9, u10, u11, u12, u13, some (.ref ra), some (.ref kc), none, some (.ref px), some (.ref im), some (.ref B.ml), some (.ref mx), u21, some (.ref im2), none, none, none]) ?_ ?_; focus exact rfl) | (refine Rg.sgG (σ' := [some (.ref a), some (.ref fa), some (.int b), some (.int ((b + 7) / 8)), some (.int n), some (.ref sz), some (.int (fdOf b n)), some (.ref da), u8, u9, u10, u11, u12, u13, some (.ref ra), some (.ref kc), none, some (.ref px), some (.ref im), some (.ref B.ml), some (.ref mx), u21, some (.ref im2), none, none, none]) ?_ ?_; focus exact rfl)))
    have sik := sij.trans sjk
    have Wk := W.same (sfi.trans sik)
    refine ⟨_, rfl, im2, A2, _, b, n, sl, [], rfl, I2, srt0, (by show 0 < 1000; decide), fun Hl r1_ c1_ h1_ t1_ d1_ skl nr1 er1 hD1 => ?_⟩
    refine ⟨_, rfl, _, _, rfl, all_sm (I2.keep skl) (Wk.same skl).D (by show 0 < 1000; decide) (by show 0 < 1000; decide) er1 hD1, fun Hm slm => ⟨_, rfl, iteF ?_⟩⟩
    refine ⟨_, rfl, im2, A2, _, b, n, sl, rfl, (I2.keep skl).keep slm, fun Hn smn => ⟨_, rfl, iteF ?_⟩⟩
    have skn := (skl.trans slm).trans smn
    have sin := sik.trans skn
    have sbn := sbi.trans sin
    have Wn := W.same (sfi.trans sin)
    -- the rows spoilt
    have gran := gra.same sbn
    have rne : ∀ x ∈ rr, ∃ o, He x = some o := fun x hx => by
      obtain ⟨o, eo⟩ := gra.held hx
      exact ⟨o, sbe _ _ eo⟩
    have rrB : ∀ x ∈ rr, x ∉ B.own := fun x hx z => by
      obtain ⟨o, eo⟩ := rne x hx
      rw [nB x z] at eo
      cases eo
    have heldD : ∀ {x : Addr} {o : HO}, Hd x = some o → x ≠ im ∧ x ≠ A.ca ∧ x ≠ A.ho ∧ x ≠ A.st ∧ x ≠ A.hd ∧ x ∉ A.rs := fun {x o} e => by
      refine ⟨fun z => ?_, fun z => ?_, fun z => ?_, fun z => ?_, fun z => ?_, fun z => ?_⟩
      · rw [z, nim] at e; cases e
      · rw [z, NA.ca] at e; cases e
      · rw [z, NA.ho] at e; cases e
      · rw [z, NA.st] at e; cases e
      · rw [z, NA.hd] at e; cases e
      · rw [NA.rs x z] at e; cases e
    have rrA : ∀ x ∈ rr, x ∉ A.reads im := fun x hx z => by
      obtain ⟨i, hi, exi⟩ := List.getElem_of_mem hx
      have hiR : i < R.length := by rw [← gra.len]; exact hi
      have ex := gra.row i x _ (by rw [List.getElem?_eq_getElem hi, exi]) (List.getElem?_eq_getElem hiR)
      have exd := sbd _ _ ex
      obtain ⟨q1, q2, q3, q4, q5, q6⟩ := heldD exd
      simp only [IA.reads, List.mem_cons] at z
      rcases z with z | z | z | z | z | z | z | z
      · exact q1 z
      · obtain ⟨dxp, hpl⟩ := Pl.ob
        rw [z, epl, hpl] at exd
        cases exd
      · exact q2 z
      · exact q3 z
      · exact q4 z
      · exact q5 z
      · have eb := I.ba
        rw [← z, sde _ _ exd] at eb
        cases eb
      · exact q6 z
    refine ⟨_, rfl, ra, rfl, ⟨_, .of gran.out⟩, for_list (K := K) (a := ra) (xs := rr.map V.ref) (fun i σ H' => ∃ (u16 : Option V) (R' : List (List Int)), σ = [some (.ref a), some (.ref fa), some (.int b), some (.int ((b + 7) / 8)), some (.int n), some (.ref sz), some (.int (fdOf b n)), some (.ref da), u8, u9, u10, u11, u12, u13, some (.ref ra), some (.ref kc), u16, some (.ref px), some (.ref im), some (.ref B.ml), some (.ref mx), u21, some (.ref im2), none, none, none] ∧ Grid H' ra rr R' ∧ (R'.length : Int) = b ∧ (∀ m ∈ R', m.length = 8) ∧ Kp rr Hn H') ⟨none, R, rfl, gran, lR, R8_.2.1, Kp.refl⟩ (fun i σ H' _ ⟨_, _, _, g, _⟩ => .of g.out) ?_ ?_⟩
    · rintro i yv σ H' hi ⟨u16, R', rfl, g, lR', h8', kk⟩
      rw [List.getElem?_map] at hi
      obtain ⟨x, hx, rfl⟩ := Option.map_eq_some_iff.mp hi
      have hil := (List.getElem?_eq_some_iff.mp hx).1
      have hiR : i < R'.length := by rw [← g.len]; exact hil
      obtain ⟨m, em⟩ : ∃ m, R'[i]? = some m := ⟨_, List.getElem?_eq_getElem hiR⟩
      have lm : m.length = 8 := h8' m (List.mem_of_getElem? em)
      have ex := g.row i x m hx em
      obtain ⟨c, ec⟩ : ∃ c, m[0]? = some c := ⟨_, List.getElem?_eq_getElem (by omega)⟩
      ((try dsimp only); (first | (refine Rg.sg (σ' := [some (.ref a), some (.ref fa), some (.int b), some (.int ((b + 7) / 8)), some (.int n), some (.ref sz), some (.int (fdOf b n)), some (.ref da), u8, u9, u10, u11, u12, u13, some (.ref ra), some (.ref kc), some (.ref x), some (.ref px), some (.ref im), some (.ref B.ml), some (.ref mx), u21, some (.ref im2), none, none, none]) ?_ ?_; focus exact rfl) | (refine Rg.sgG (σ' := [some (.ref a), some (.ref fa), some (.int b), some (.int ((b + 7) / 8)), some (.int n), some (.ref sz), some (.int (fdOf b n)), some (.ref da), u8, u9, u10, u11, u12, u13, some (.ref ra), some (.ref kc), some (.ref x), some (.ref px), some (.ref im), some (.ref B.ml), some (.ref mx), u21, some (.ref im2), none, none, none]) ?_ ?_; focus exact rfl)))
      refine ⟨_, rfl, x, _, 0, .int c, rfl, rfl, .of ex, at_of (j := 0) rfl (by rw [List.getElem?_map, ec]; rfl), _, _, rfl, rfl, _, rfl, x, _, _, 0, rfl, rfl, ex, ixN_nat rfl (by rw [List.length_map, lm]; decide), ?_⟩
      have es : (m.map V.int).set 0 (.int (c + 1)) = (m.set 0 (c + 1)).map V.int := List.map_set.symm
      rw [es]
      refine ⟨_, _, rfl, g.put hx, by rw [List.length_set]; exact lR', fun m' hm' => ?_, kk.trans (Kp.refl.own (List.mem_of_getElem? hx))⟩
      rcases mem_set_of hm' with z | z
      · rw [z, List.length_set]; exact lm
      · exact h8' m' z
    rintro σ Ho ⟨u16, R', rfl, gro, lR', h8', kno⟩
    have rrl : ∀ x ∈ rr, ∃ xs, Hn x = some (.lst xs) := fun x hx => by
      obtain ⟨i, hi, exi⟩ := List.getElem_of_mem hx
      have hiR : i < R.length := by rw [← gra.len]; exact hi
      exact ⟨_, gran.row i x _ (by rw [List.getElem?_eq_getElem hi, exi]) (List.getElem?_eq_getElem hiR)⟩
    have Wo : Tw T.C_Image T.C_Plan Ho im A (ofV b n R b.toNat) B [] b n sl := ⟨Wn.I.keepF fun x o hx e => kno x o e fun z => rrA x z hx, md_n Wn.D kno rrB rrl, Wn.ap⟩
    -- spoilt
    refine ⟨_, rfl, ra, rfl, ⟨_, .of gro.out⟩, fun sp hsp => ?_⟩
    refine lc_list (K := K) (a := ra) (xs := (rr).map V.ref) (fun i H' => ∃ qs, NewGrid Ho H' sp qs (List.take i (R'))) ⟨[], NewGrid.start (Same.refl _) hsp hsp⟩ (fun i H' _ ⟨qs, G⟩ => .of (G.same _ _ (gro).out)) ?_ ?_
    · rintro i y H' hi ⟨qs, G⟩
      have hil : i < (rr).length := by
        have := (List.getElem?_eq_some_iff.mp hi).1
        rw [List.length_map] at this
        exact this
      rw [List.getElem?_map, List.getElem?_eq_getElem hil] at hi
      have hi : V.ref (rr)[i] = y := Option.some.inj hi
      subst hi
      have hiR : i < (R').length := by rw [← (gro).len]; exact hil
      have hrow := G.same _ _ ((gro).row i (rr)[i] (R')[i] (List.getElem?_eq_getElem hil) (List.getElem?_eq_getElem hiR))
      refine ⟨rfl, ?_⟩
      refine yes_ ?_
      refine ⟨_, rfl, (rr)[i], _, rfl, .inl (.of hrow), fun q hq => ?_⟩
      refine ⟨_, by rw [upd_ne (ne_of_none G.grid.out hq)]; exact G.grid.out, ?_, qs ++ [q], ?_⟩
      · rw [List.length_map, G.grid.len, List.length_take]
        exact small1000 (by omega)
      · rw [List.take_succ, List.getElem?_eq_getElem hiR]
        exact G.snoc (same_upd hq) hq upd_same
    rintro Hs ⟨ss_, G_ss_⟩
    rw [List.length_map, (gro).len, List.take_length] at G_ss_
    have Ws := Wo.same G_ss_.same
    ((try dsimp only); (first | (refine Rg.sg (σ' := [some (.ref a), some (.ref fa), some (.int b), some (.int ((b + 7) / 8)), some (.int n), some (.ref sz), some (.int (fdOf b n)), some (.ref da), u8, u9, u10, u11, u12, u13, some (.ref ra), some (.ref kc), u16, some (.ref px), some (.ref im), some (.ref B.ml), some (.ref mx), u21, some (.ref im2), some (.ref sp), none, none]) ?_ ?_; focus exact rfl) | (refine Rg.sgG (σ' := [some (.ref a), some (.ref fa), some (.int b), some (.int ((b + 7) / 8)), some (.int n), some (.ref sz), some (.int (fdOf b n)), some (.ref da), u8, u9, u10, u11, u12, u13, some (.ref ra), some (.ref kc), u16, some (.ref px), some (.ref im), some (.ref B.ml), some (.ref mx), u21, some (.ref im2), some (.ref sp), none, none]) ?_ ?_; focus exact rfl)))
    -- what stands apart from the model
    have heldB : ∀ {x : Addr} {o : HO}, He x = some o → x ∉ B.own := fun {x o} e z => by
      rw [nB x z] at e
      cases e
    have Kns : Kp rr Hn Hs := kno.same G_ss_.same
    have gros := gro.same G_ss_.same
    have dsn : ∀ d ∈ ds, d.At Hn := fun d hd => (dsb d hd).same sbn
    have notrr : ∀ {x : Addr} {o : HO}, Ha x = some o → x ∉ rr := fun {x o} e z => by
      rw [W8.n1 x z] at e
      cases e
    have dss : ∀ d ∈ ds, d.At Hs := fun d hd => ⟨(dsn d hd).1.kp Kns rrl (notrr (ha4 d hd).1.1.c) (notrr (ha4 d hd).1.1.s), (dsn d hd).2⟩
    have dan := sbn _ _ eda
    have das : Hs da = some (.lst (ds.map fun d => V.ref d.dq)) := Kns _ _ dan (notrr ha2)
    have szs : Hs sz = some (.lst (szL b n sl)) := Kns _ _ (sbn _ _ esz) (notrr ha3)
    obtain ⟨dxp, hpl⟩ := Pl.ob
    have sdn := sdi.trans sin
    have pxs : Hs px = some (.ins T.C_Plan dxp (planF b n sl)) := Kns _ _ (sdn _ _ hpl) fun z => by
      obtain ⟨xs, ex⟩ := rrl px z
      rw [sdn _ _ hpl] at ex
      cases ex
    have caB : ∀ d ∈ ds, d.ca ∉ B.own ∧ d.sa ∉ B.own := fun d hd => ⟨heldB (sbe _ _ (dsb d hd).1.c), heldB (sbe _ _ (dsb d hd).1.s)⟩
    have daB : da ∉ B.own := heldB (sbe _ _ eda)
    have szB : sz ∉ B.own := heldB (sbe _ _ esz)
    have lB : ∀ x ∈ B.own, ∃ xs, Hs x = some (.lst xs) := fun x hx => Ws.D.held hx
    have pxB : px ∉ B.own := fun z => by
      obtain ⟨xs, ex⟩ := lB px z
      rw [pxs] at ex
      cases ex
    have O0 : Okv b n (ofV b n R b.toNat) 20 := by
      refine ⟨fun x hx h => ?_, fun h hh => ?_, fun o ho => ?_, by show (1 : Int) ≤ 1; omega⟩
      · have h : (ofH b n R b.toNat)[x]? = some 1 := h
        rw [ofH_at (by omega)] at h
        have h := Option.some.inj h
        have hk : kindOf b n R (x : Int) ≠ 0 := fun z => by rw [if_pos z] at h; cases h
        have e2 : kindOf b n (ofM b n R b.toNat) (x : Int) = kindOf b n R (x : Int) := kindOf_congr (by omega) (by omega) hx fun z hz => ofM_fix lR (by omega) hz
        show kindOf b n (ofM b n R b.toNat) (x : Int) ≠ 0
        rw [e2]
        exact hk
      · show h ≤ 1
        have hh : h ∈ ofH b n R b.toNat := hh
        unfold ofH at hh
        obtain ⟨z, _, rfl⟩ := List.mem_map.mp hh
        split <;> decide
      · show 0 ≤ cellAt (ofM b n R b.toNat) 0 o ∧ cellAt (ofM b n R b.toNat) 0 o ≤ 20
        rw [cellAt_congr (ofM_fix (n := n) (i := b.toNat) (y := 0) lR (by omega) (by omega))]
        exact R8_.2.2 o ho
    -- the deeds
    refine ⟨_, rfl, da, rfl, ⟨_, .of das⟩, for_list (K := K) (a := da) (xs := ds.map fun d => V.ref d.dq) (fun i σ H' => ∃ (u24 : Option V) (im : Addr) (A : IA) (v : IV) (B' : MA) (l : List (Int × Int)), σ = [some (.ref a), some (.ref fa), some (.int b), some (.int ((b + 7) / 8)), some (.int n), some (.ref sz), some (.int (fdOf b n)), some (.ref da), u8, u9, u10, u11, u12, u13, some (.ref ra), some (.ref kc), u16, some (.ref px), some (.ref im), some (.ref B.ml), some (.ref mx), u21, some (.ref im2), some (.ref sp), u24, none] ∧ Tw T.C_Image T.C_Plan H' im A v B' l b n sl ∧ Srt l v.hd ∧ l.length ≤ i ∧ v.ba.length < 1000 ∧ Okv b n v (20 + 5 * (i : Int)) ∧ Kp B.own Hs H' ∧ (∀ x ∈ B'.own, x ∈ B.own ∨ Hs x = none) ∧ B'.ml = B.ml) ⟨none, im, A, _, B, [], rfl, Ws, srt0, Nat.le_refl _, (by show 0 < 1000; decide), O0.mono (by omega), Kp.refl, (fun x hx => .inl hx), rfl⟩ (fun i σ H' _ ⟨_, _, _, _, _, _, _, _, _, _, _, _, kk, _⟩ => .of (kk _ _ das daB)) ?_ ?_⟩
    · rintro i yv σ H' hi ⟨u24, im, A, v, B', l, rfl, Wi, srtl, ll, lba, Oi, ki, nbi, eml⟩
      rw [List.getElem?_map] at hi
      obtain ⟨d, hd, rfl⟩ := Option.map_eq_some_iff.mp hi
      have hdm := List.mem_of_getElem? hd
      have hi5 : i < ds.length := (List.getElem?_eq_some_iff.mp hd).1
      obtain ⟨c1, c2⟩ := caB d hdm
      have dd := (dss d hdm).1.kp ki lB c1 c2
      have hnb : ∀ {x : Addr} {o : HO}, Hs x = some o → x ∉ B.own → x ∉ B'.own := fun {x o} e nx z => by
        rcases nbi x z with q | q
        · exact nx q
        · rw [q] at e; cases e
      ((try dsimp only); (first | (refine Rg.sg (σ' := [some (.ref a), some (.ref fa), some (.int b), some (.int ((b + 7) / 8)), some (.int n), some (.ref sz), some (.int (fdOf b n)), some (.ref da), u8, u9, u10, u11, u12, u13, some (.ref ra), some (.ref kc), u16, some (.ref px), some (.ref im), some (.ref B.ml), some (.ref mx), u21, some (.ref im2), some (.ref sp), some (.ref d.dq), none]) ?_ ?_; focus exact rfl) | (refine Rg.sgG (σ' := [some (.ref a), some (.ref fa), some (.int b), some (.int ((b + 7) / 8)), some (.int n), some (.ref sz), some (.int (fdOf b n)), some (.ref da), u8, u9, u10, u11, u12, u13, some (.ref ra), some (.ref kc), u16, some (.ref px), some (.ref im), some (.ref B.ml), some (.ref mx), u21, some (.ref im2), some (.ref sp), some (.ref d.dq), none]) ?_ ?_; focus exact rfl)))
      have hds : ds.length ≤ 3 := by omega
      refine ⟨_, rfl, _, rfl, _, rfl, _, rfl, _, rfl, im, A, v, B', l, b, n, sl, d.dq, d.ca, d.hq, d.sa, d.wi, d.bs, d.hk, d.hw, d.ss, 20 + 5 * (i : Int), (by rw [eml]; rfl), Wi, dd, hnb (dss d hdm).1.c c1, hnb (dss d hdm).1.s c2, srtl, by omega, lba, (dss d hdm).2.1, (dss d hdm).2.2, Oi, by omega, fun H2 im' A' v' B2 l' W2 srt2 ll2 lba2 O2 k2 nb2 eml2 => ?_⟩
      ((try dsimp only); (first | (refine Rg.sg (σ' := [some (.ref a), some (.ref fa), some (.int b), some (.int ((b + 7) / 8)), some (.int n), some (.ref sz), some (.int (fdOf b n)), some (.ref da), u8, u9, u10, u11, u12, u13, some (.ref ra), some (.ref kc), u16, some (.ref px), some (.ref im'), some (.ref B.ml), some (.ref mx), u21, some (.ref im2), some (.ref sp), some (.ref d.dq), none]) ?_ ?_; focus exact rfl) | (refine Rg.sgG (σ' := [some (.ref a), some (.ref fa), some (.int b), some (.int ((b + 7) / 8)), some (.int n), some (.ref sz), some (.int (fdOf b n)), some (.ref da), u8, u9, u10, u11, u12, u13, some (.ref ra), some (.ref kc), u16, some (.ref px), some (.ref im'), some (.ref B.ml), some (.ref mx), u21, some (.ref im2), some (.ref sp), some (.ref d.dq), none]) ?_ ?_; focus exact rfl)))
      refine ⟨_, rfl, rfl, _, rfl, wF (fun z => nomatch z) ?_⟩
      refine ⟨_, rfl, _, rfl, _, rfl, im', A', v', B2, l', b, n, sl, (by rw [eml2, eml]; rfl), W2, fun H3 s3 => ⟨_, rfl, iteF ?_⟩⟩
      refine ⟨_, im', A', v', B2, l', rfl, W2.same s3, srt2, by omega, lba2, O2.mono (by omega), (fun x o e nx => s3 _ _ (k2 x o (ki x o e nx) (hnb e nx))), fun x hx => ?_, by rw [eml2, eml]⟩
      rcases nb2 x hx with q | q
      · exact nbi x q
      · by_cases e : x ∈ B.own
        · exact .inl e
        · exact .inr (ki.free e q)
    rintro σ Ht ⟨u24, im, A, v, B', l, rfl, Wt, _, _, _, _, kt, nbt, eml⟩
    -- the rows kept
    have grat : Grid Ht ra rr R' := gros.keep fun y o hy e => kt y o e (by
      rcases hy with rfl | hy
      · exact heldB (sbe _ _ gra.out)
      · exact rrB y hy)
    have gspt : Grid Ht sp ss_ R' := G_ss_.grid.keep fun y o hy e => kt y o e fun z => by
      obtain ⟨xs, ex⟩ := Wo.D.held z
      rcases hy with rfl | hy
      · rw [hsp] at ex; cases ex
      · rw [G_ss_.fresh y hy] at ex; cases ex
    have Plt : PlanAt T.C_Plan Ht px b n sl := Pl.of fun o e => by
      rw [hpl] at e
      cases Option.some.inj e
      exact kt _ _ pxs pxB
    have szt := kt _ _ szs szB
    have eqG' : PyData.eqv (dG R') (dG R') = true := SeqAt.eqv_refl _ (canG R')
    refine ⟨_, rfl, _, rfl, dG R', dG R', dpG grat, dpG gspt, shG _, shG _, _, rfl, ?_⟩
    rw [eqG']
    refine iteF ?_
    -- the plan's own image
    have Z : Srt [] (zeroV b).hd := ⟨List.Perm.nil, List.Pairwise.nil⟩
    refine ⟨_, rfl, fun x dx nx ndx nex => ?_⟩
    have s1 : Same Ht (upd (upd Ht dx (.own x)) x (.ins T.C_Image dx [])) := (same_upd ndx).trans (same_upd (by rw [upd_ne nex.symm]; exact nx))
    refine ⟨x, dx, px, b, n, sl, rfl, upd_same, Plt.same s1, fun H1' A1 k1 I1 N1 eA => ⟨rfl, ?_⟩⟩
    have stu : Same Ht H1' := fun y o e => k1 y o (s1 _ _ e) (ne_of_none e nx)
    refine ⟨x, A1, zeroV b, b, n, sl, [], rfl, I1, Z, (by show 0 < 1000; decide), fun H2' r2_ c2_ h2_ t2_ d2_ suv nr2 er2 hD2 => ?_⟩
    refine ⟨_, rfl, _, rfl, b, n, sl, sz, rfl, suv _ _ (stu _ _ szt), b1, b2, fun H3' B3 svw D3 => ?_⟩
    refine ⟨_, _, rfl, all_sm ((I1.keep suv).keep svw) D3 (by show 0 < 1000; decide) (by show 0 < 1000; decide) (svw _ _ er2) (hD2.same svw), fun H4' swx => ⟨_, rfl, iteF ?_⟩⟩
    have stx := ((stu.trans suv).trans svw).trans swx
    -- fresh, spoilt
    refine ⟨_, rfl, px, b, n, sl, rfl, Plt.same stx, fun H5' im5 A5 s45 nim5 I5 NA5 epl5 => ?_⟩
    ((try dsimp only); (first | (refine Rg.sg (σ' := [some (.ref a), some (.ref fa), some (.int b), some (.int ((b + 7) / 8)), some (.int n), some (.ref sz), some (.int (fdOf b n)), some (.ref da), u8, u9, u10, u11, u12, u13, some (.ref ra), some (.ref kc), u16, some (.ref px), some (.ref im), some (.ref B.ml), some (.ref mx), u21, some (.ref im2), some (.ref sp), u24, some (.ref im5)]) ?_ ?_; focus exact rfl) | (refine Rg.sgG (σ' := [some (.ref a), some (.ref fa), some (.int b), some (.int ((b + 7) / 8)), some (.int n), some (.ref sz), some (.int (fdOf b n)), some (.ref da), u8, u9, u10, u11, u12, u13, some (.ref ra), some (.ref kc), u16, some (.ref px), some (.ref im), some (.ref B.ml), some (.ref mx), u21, some (.ref im2), some (.ref sp), u24, some (.ref im5)]) ?_ ?_; focus exact rfl)))
    have fbl : fdOf b n < b := by omega
    obtain ⟨x5, ex5⟩ : ∃ x : Nat, (x : Int) = 2 + (b + 7) / 8 := ⟨(2 + (b + 7) / 8).toNat, by omega⟩
    have x5b : (x5 : Int) < b := by unfold fdOf at fbl; omega
    have d05 : ((ofM b n (freshM b n) b.toNat).length : Int) = b := I5.d0
    obtain ⟨m5, em5⟩ : ∃ m, (ofM b n (freshM b n) b.toNat)[x5]? = some m := ⟨_, List.getElem?_eq_getElem (by omega)⟩
    obtain ⟨r5, er5, er5c, _⟩ := I5.gr.get em5
    have l58 : m5.length = 8 := I5.d1 _ (List.mem_of_getElem? em5)
    refine ⟨_, rfl, im5, _, _, _, _, rfl, I5.ob, T.cl_Image, T.na_Image_cells, rfl, _, rfl, _, _, rfl, rfl, A5.ca, _, _, .ref r5, rfl, rfl, .of I5.gr.out, at_of (j := x5) ex5.symm (by rw [List.getElem?_map, er5]; rfl), ?_⟩
    ((try dsimp only); (first | (refine Rg.sg (σ' := [some (.ref a), some (.ref fa), some (.int b), some (.int ((b + 7) / 8)), some (.int n), some (.ref sz), some (.int (fdOf b n)), some (.ref da), u8, u9, u10, u11, u12, u13, some (.ref ra), some (.ref kc), some (.ref r5), some (.ref px), some (.ref im), some (.ref B.ml), some (.ref mx), u21, some (.ref im2), some (.ref sp), u24, some (.ref im5)]) ?_ ?_; focus exact rfl) | (refine Rg.sgG (σ' := [some (.ref a), some (.ref fa), some (.int b), some (.int ((b + 7) / 8)), some (.int n), some (.ref sz), some (.int (fdOf b n)), some (.ref da), u8, u9, u10, u11, u12, u13, some (.ref ra), some (.ref kc), some (.ref r5), some (.ref px), some (.ref im), some (.ref B.ml), some (.ref mx), u21, some (.ref im2), some (.ref sp), u24, some (.ref im5)]) ?_ ?_; focus exact rfl)))
    refine ⟨_, rfl, r5, _, _, 3, rfl, rfl, er5c, ixN_nat rfl (by rw [List.length_map, l58]; decide), ?_⟩
    have J5 := I5.setC (i := x5) (j := 3) (x := 3) er5 em5
    generalize hH6 : upd H5' r5 _ = H6' at J5 ⊢
    obtain ⟨_, k6, _⟩ := own_f hH6
    clear hH6
    obtain ⟨fo1, fo2⟩ := fresh_ok b1 (by omega : 0 ≤ n) fbl ex5
    have st5 := stx.trans s45
    have sz5 := st5 _ _ szt
    have NA5' : ∀ q ∈ A5.ca :: A5.ho :: A5.st :: A5.rs, H4' q = none := fun q hq => by
      simp only [List.mem_cons] at hq
      rcases hq with rfl | rfl | rfl | hq
      · exact NA5.ca
      · exact NA5.ho
      · exact NA5.st
      · exact NA5.rs q hq
    have r5in : r5 ∈ A5.ca :: A5.ho :: A5.st :: A5.rs := by simp [List.mem_of_getElem? er5]
    refine ⟨_, rfl, im5, _, _, rfl, J5.ob, rfl, im5, A5, _, b, n, sl, 1, 3, rfl, J5, by decide, ?_, fun hq => ?_, fun _ hL => ?_, fun _ x6 _ H7' q7 nq7 I7 k7 => ?_⟩
    · show (cellAt (setC (ofM b n (freshM b n) b.toNat) x5 3 3) 0 3).natAbs.log2 < 1920
      rw [fo1]
      decide
    · exfalso
      have hq : cellAt (setC (ofM b n (freshM b n) b.toNat) x5 3 3) 0 (4 + 3) ≠ 0 := hq.1
      exact hq (fo1 _)
    · exfalso
      have hL : letL b n (setC (ofM b n (freshM b n) b.toNat) x5 3 3) 1 [] = [] := hL
      unfold letL at hL
      rw [if_neg (by decide)] at hL
      exact fo2 hL
    -- fresh anew
    have keep7 : ∀ {y : Addr} {o : HO}, H4' y = some o → H5' y = some o → H7' y = some o := fun {y o} e4 e5 => by
      have ny : y ∉ A5.ca :: A5.ho :: A5.st :: A5.rs := fun z => by
        rw [NA5' y z] at e4
        cases e4
      exact k7 y o (k6.at1 e5 fun z => ny (z ▸ r5in)) ny
    have pxt := kt _ _ pxs pxB
    have Pl7 : PlanAt T.C_Plan H7' px b n sl := Plt.of fun o e => keep7 (stx _ _ e) (st5 _ _ e)
    have sz7 := keep7 (stx _ _ szt) sz5
    refine ⟨_, rfl, px, b, n, sl, rfl, Pl7, fun H8' im8 A8 s78 nim8 I8 NA8 epl8 => ?_⟩
    ((try dsimp only); (first | (refine Rg.sg (σ' := [some (.ref a), some (.ref fa), some (.int b), some (.int ((b + 7) / 8)), some (.int n), some (.ref sz), some (.int (fdOf b n)), some (.ref da), u8, u9, u10, u11, u12, u13, some (.ref ra), some (.ref kc), some (.ref r5), some (.ref px), some (.ref im), some (.ref B.ml), some (.ref mx), u21, some (.ref im2), some (.ref sp), u24, some (.ref im8)]) ?_ ?_; focus exact rfl) | (refine Rg.sgG (σ' := [some (.ref a), some (.ref fa), some (.int b), some (.int ((b + 7) / 8)), some (.int n), some (.ref sz), some (.int (fdOf b n)), some (.ref da), u8, u9, u10, u11, u12, u13, some (.ref ra), some (.ref kc), some (.ref r5), some (.ref px), some (.ref im), some (.ref B.ml), some (.ref mx), u21, some (.ref im2), some (.ref sp), u24, some (.ref im8)]) ?_ ?_; focus exact rfl)))
    refine ⟨_, rfl, _, rfl, _, rfl, _, rfl, b, n, sl, sz, rfl, s78 _ _ sz7, b1, b2, n1, by omega, fun H9' B9 s89 nB9 D9 => ?_⟩
    ((try dsimp only); (first | (refine Rg.sg (σ' := [some (.ref a), some (.ref fa), some (.int b), some (.int ((b + 7) / 8)), some (.int n), some (.ref sz), some (.int (fdOf b n)), some (.ref da), u8, u9, u10, u11, u12, u13, some (.ref ra), some (.ref kc), some (.ref r5), some (.ref px), some (.ref im), some (.ref B9.ml), some (.ref mx), u21, some (.ref im2), some (.ref sp), u24, some (.ref im8)]) ?_ ?_; focus exact rfl) | (refine Rg.sgG (σ' := [some (.ref a), some (.ref fa), some (.int b), some (.int ((b + 7) / 8)), some (.int n), some (.ref sz), some (.int (fdOf b n)), some (.ref da), u8, u9, u10, u11, u12, u13, some (.ref ra), some (.ref kc), some (.ref r5), some (.ref px), some (.ref im), some (.ref B9.ml), some (.ref mx), u21, some (.ref im2), some (.ref sp), u24, some (.ref im8)]) ?_ ?_; focus exact rfl)))
    have W9 : Tw T.C_Image T.C_Plan H9' im8 A8 (ofV b n (freshM b n) b.toNat) B9 [] b n sl := ⟨I8.keep s89, D9, fun x hx z => by
      obtain ⟨o, eo⟩ := I8.held z
      rw [nB9 x hx] at eo
      cases eo⟩
    have Z9 : Srt [] (ofV b n (freshM b n) b.toNat).hd := ⟨List.Perm.nil, List.Pairwise.nil⟩
    refine ⟨_, rfl, im8, A8, _, b, n, sl, [], rfl, W9.I, Z9, (by show 0 < 1000; decide), fun Ha' r9 c9 h9 t9 d9 s9a nr9 er9 hD9 => ?_⟩
    refine ⟨_, rfl, _, _, rfl, all_sm (W9.same s9a).I (W9.same s9a).D (by show 0 < 1000; decide) (by show 0 < 1000; decide) er9 hD9, fun Hb' sab => ⟨_, rfl, iteT ?_⟩⟩
    exact ⟨_, rfl, _, rfl, _, rfl, im8, A8, _, B9, [], b, n, sl, rfl, W9.same (s9a.trans sab), fun Hc' _ => k Hc'⟩
end
end K78
namespace K78
open PySem PySem.Spec PyProof.Rows L2 Rg
theorem law_binds {K : PySem.W.Frag} {mg : Str → Option Value} (T : Tx K mg) (s : Shared) (v : Value) : BindsTo s T.fd_law ⟨[v], []⟩ [("_law_script", v)] := by
  obtain ⟨oc, od, kV, doc, pm, an, cdv, ct, osl, e, lk, hcd⟩ := T.F_law.ex
  rw [e]
  exact .of_eq rfl
theorem fin_F {P : Program} {w : World} {K : PySem.W.Frag} {mg : Str → Option Value} {fa : Addr} (z : Nonempty (Tx K mg)) (hmg : mg "law" = some (.ref fa)) :
    ∃ fd : FuncData, (∀ (s : Shared) (u : Value), BindsTo s fd ⟨[u], []⟩ [("_law_script", u)]) ∧ ∀ base : Heap, K.In base → base.Ns mainGlobals mg → FnOk P w K mg base CX0 7 fa fd ["_law_script"] (sp_law K) := by
  obtain ⟨T⟩ := z
  have e : T.f_law = fa := Value.ref.inj (Option.some.inj (T.mg_law.symm.trans hmg))
  subst e
  exact ⟨T.fd_law, fun s v => law_binds T s v, fun base _ _ => ok_law T⟩
theorem all_mk {w : World} {K : PySem.W.Frag} {h : Heap} {mg : Str → Option Value} (X : K.In h) (G : h.Ns mainGlobals mg)
    {a_Lfeed : Addr}
    {od_Lfeed an_Lfeed : Option Addr} {sl_Lfeed : Array (Option Value)} {oc_Lfeed kV_Lfeed dc_Lfeed pm_Lfeed cd_Lfeed ct_Lfeed : Value}
    (l_Lfeed : K.lookup a_Lfeed = some ⟨oc_Lfeed, od_Lfeed, .func (PySem.W.fnOf "_law_feed" "_law_feed" (defArgs s_Lfeed) (defBody s_Lfeed) (defScope s_Lfeed) .none kV_Lfeed dc_Lfeed pm_Lfeed an_Lfeed cd_Lfeed ct_Lfeed), sl_Lfeed⟩)
    (c_Lfeed : PySem.W.codeIn K cd_Lfeed "_law_feed" = true)
    (k_Lfeed : PySem.W.keepIn K (.ref a_Lfeed) = true)
    (g_Lfeed : PySem.W.nsIn K mainGlobals "_law_feed" = some (some (.ref a_Lfeed)))
    {a_Lpick : Addr}
    {od_Lpick an_Lpick : Option Addr} {sl_Lpick : Array (Option Value)} {oc_Lpick kV_Lpick dc_Lpick pm_Lpick cd_Lpick ct_Lpick : Value}
    (l_Lpick : K.lookup a_Lpick = some ⟨oc_Lpick, od_Lpick, .func (PySem.W.fnOf "_law_pick" "_law_pick" (defArgs s_Lpick) (defBody s_Lpick) (defScope s_Lpick) .none kV_Lpick dc_Lpick pm_Lpick an_Lpick cd_Lpick ct_Lpick), sl_Lpick⟩)
    (c_Lpick : PySem.W.codeIn K cd_Lpick "_law_pick" = true)
    (k_Lpick : PySem.W.keepIn K (.ref a_Lpick) = true)
    (g_Lpick : PySem.W.nsIn K mainGlobals "_law_pick" = some (some (.ref a_Lpick)))
    {a_Lsame : Addr}
    {od_Lsame an_Lsame : Option Addr} {sl_Lsame : Array (Option Value)} {oc_Lsame kV_Lsame dc_Lsame pm_Lsame cd_Lsame ct_Lsame : Value}
    (l_Lsame : K.lookup a_Lsame = some ⟨oc_Lsame, od_Lsame, .func (PySem.W.fnOf "_law_same" "_law_same" (defArgs s_Lsame) (defBody s_Lsame) (defScope s_Lsame) .none kV_Lsame dc_Lsame pm_Lsame an_Lsame cd_Lsame ct_Lsame), sl_Lsame⟩)
    (c_Lsame : PySem.W.codeIn K cd_Lsame "_law_same" = true)
    (k_Lsame : PySem.W.keepIn K (.ref a_Lsame) = true)
    (g_Lsame : PySem.W.nsIn K mainGlobals "_law_same" = some (some (.ref a_Lsame)))
    {a_Lstate : Addr}
    {od_Lstate an_Lstate : Option Addr} {sl_Lstate : Array (Option Value)} {oc_Lstate kV_Lstate dc_Lstate pm_Lstate cd_Lstate ct_Lstate : Value}
    (l_Lstate : K.lookup a_Lstate = some ⟨oc_Lstate, od_Lstate, .func (PySem.W.fnOf "_law_state" "_law_state" (defArgs s_Lstate) (defBody s_Lstate) (defScope s_Lstate) .none kV_Lstate dc_Lstate pm_Lstate an_Lstate cd_Lstate ct_Lstate), sl_Lstate⟩)
    (c_Lstate : PySem.W.codeIn K cd_Lstate "_law_state" = true)
    (k_Lstate : PySem.W.keepIn K (.ref a_Lstate) = true)
    (g_Lstate : PySem.W.nsIn K mainGlobals "_law_state" = some (some (.ref a_Lstate)))
    {a_Lall : Addr}
    {od_Lall an_Lall : Option Addr} {sl_Lall : Array (Option Value)} {oc_Lall kV_Lall dc_Lall pm_Lall cd_Lall ct_Lall : Value}
    (l_Lall : K.lookup a_Lall = some ⟨oc_Lall, od_Lall, .func (PySem.W.fnOf "_law_all" "_law_all" (defArgs s_Lall) (defBody s_Lall) (defScope s_Lall) .none kV_Lall dc_Lall pm_Lall an_Lall cd_Lall ct_Lall), sl_Lall⟩)
    (c_Lall : PySem.W.codeIn K cd_Lall "_law_all" = true)
    (k_Lall : PySem.W.keepIn K (.ref a_Lall) = true)
    (g_Lall : PySem.W.nsIn K mainGlobals "_law_all" = some (some (.ref a_Lall)))
    {a_Lcopy : Addr}
    {od_Lcopy an_Lcopy : Option Addr} {sl_Lcopy : Array (Option Value)} {oc_Lcopy kV_Lcopy dc_Lcopy pm_Lcopy cd_Lcopy ct_Lcopy : Value}
    (l_Lcopy : K.lookup a_Lcopy = some ⟨oc_Lcopy, od_Lcopy, .func (PySem.W.fnOf "_law_copy" "_law_copy" (defArgs s_Lcopy) (defBody s_Lcopy) (defScope s_Lcopy) .none kV_Lcopy dc_Lcopy pm_Lcopy an_Lcopy cd_Lcopy ct_Lcopy), sl_Lcopy⟩)
    (c_Lcopy : PySem.W.codeIn K cd_Lcopy "_law_copy" = true)
    (k_Lcopy : PySem.W.keepIn K (.ref a_Lcopy) = true)
    (g_Lcopy : PySem.W.nsIn K mainGlobals "_law_copy" = some (some (.ref a_Lcopy)))
    {a_Lkind : Addr}
    {od_Lkind an_Lkind : Option Addr} {sl_Lkind : Array (Option Value)} {oc_Lkind kV_Lkind dc_Lkind pm_Lkind cd_Lkind ct_Lkind : Value}
    (l_Lkind : K.lookup a_Lkind = some ⟨oc_Lkind, od_Lkind, .func (PySem.W.fnOf "_law_kind" "_law_kind" (defArgs s_Lkind) (defBody s_Lkind) (defScope s_Lkind) .none kV_Lkind dc_Lkind pm_Lkind an_Lkind cd_Lkind ct_Lkind), sl_Lkind⟩)
    (c_Lkind : PySem.W.codeIn K cd_Lkind "_law_kind" = true)
    (k_Lkind : PySem.W.keepIn K (.ref a_Lkind) = true)
    (g_Lkind : PySem.W.nsIn K mainGlobals "_law_kind" = some (some (.ref a_Lkind)))
    {a_Lrows : Addr}
    {od_Lrows an_Lrows : Option Addr} {sl_Lrows : Array (Option Value)} {oc_Lrows kV_Lrows dc_Lrows pm_Lrows cd_Lrows ct_Lrows : Value}
    (l_Lrows : K.lookup a_Lrows = some ⟨oc_Lrows, od_Lrows, .func (PySem.W.fnOf "_law_rows" "_law_rows" (defArgs s_Lrows) (defBody s_Lrows) (defScope s_Lrows) .none kV_Lrows dc_Lrows pm_Lrows an_Lrows cd_Lrows ct_Lrows), sl_Lrows⟩)
    (c_Lrows : PySem.W.codeIn K cd_Lrows "_law_rows" = true)
    (k_Lrows : PySem.W.keepIn K (.ref a_Lrows) = true)
    (g_Lrows : PySem.W.nsIn K mainGlobals "_law_rows" = some (some (.ref a_Lrows)))
    {a_Lof_cells : Addr}
    {od_Lof_cells an_Lof_cells : Option Addr} {sl_Lof_cells : Array (Option Value)} {oc_Lof_cells kV_Lof_cells dc_Lof_cells pm_Lof_cells cd_Lof_cells ct_Lof_cells : Value}
    (l_Lof_cells : K.lookup a_Lof_cells = some ⟨oc_Lof_cells, od_Lof_cells, .func (PySem.W.fnOf "_law_of_cells" "_law_of_cells" (defArgs s_Lof_cells) (defBody s_Lof_cells) (defScope s_Lof_cells) .none kV_Lof_cells dc_Lof_cells pm_Lof_cells an_Lof_cells cd_Lof_cells ct_Lof_cells), sl_Lof_cells⟩)
    (c_Lof_cells : PySem.W.codeIn K cd_Lof_cells "_law_of_cells" = true)
    (k_Lof_cells : PySem.W.keepIn K (.ref a_Lof_cells) = true)
    (g_Lof_cells : PySem.W.nsIn K mainGlobals "_law_of_cells" = some (some (.ref a_Lof_cells)))
    {a_Lfresh : Addr}
    {od_Lfresh an_Lfresh : Option Addr} {sl_Lfresh : Array (Option Value)} {oc_Lfresh kV_Lfresh dc_Lfresh pm_Lfresh cd_Lfresh ct_Lfresh : Value}
    (l_Lfresh : K.lookup a_Lfresh = some ⟨oc_Lfresh, od_Lfresh, .func (PySem.W.fnOf "_law_fresh" "_law_fresh" (defArgs s_Lfresh) (defBody s_Lfresh) (defScope s_Lfresh) .none kV_Lfresh dc_Lfresh pm_Lfresh an_Lfresh cd_Lfresh ct_Lfresh), sl_Lfresh⟩)
    (c_Lfresh : PySem.W.codeIn K cd_Lfresh "_law_fresh" = true)
    (k_Lfresh : PySem.W.keepIn K (.ref a_Lfresh) = true)
    (g_Lfresh : PySem.W.nsIn K mainGlobals "_law_fresh" = some (some (.ref a_Lfresh)))
    {a_Lplan_alone : Addr}
    {od_Lplan_alone an_Lplan_alone : Option Addr} {sl_Lplan_alone : Array (Option Value)} {oc_Lplan_alone kV_Lplan_alone dc_Lplan_alone pm_Lplan_alone cd_Lplan_alone ct_Lplan_alone : Value}
    (l_Lplan_alone : K.lookup a_Lplan_alone = some ⟨oc_Lplan_alone, od_Lplan_alone, .func (PySem.W.fnOf "_law_plan_alone" "_law_plan_alone" (defArgs s_Lplan_alone) (defBody s_Lplan_alone) (defScope s_Lplan_alone) .none kV_Lplan_alone dc_Lplan_alone pm_Lplan_alone an_Lplan_alone cd_Lplan_alone ct_Lplan_alone), sl_Lplan_alone⟩)
    (c_Lplan_alone : PySem.W.codeIn K cd_Lplan_alone "_law_plan_alone" = true)
    (k_Lplan_alone : PySem.W.keepIn K (.ref a_Lplan_alone) = true)
    (g_Lplan_alone : PySem.W.nsIn K mainGlobals "_law_plan_alone" = some (some (.ref a_Lplan_alone)))
    {a_Llists : Addr}
    {od_Llists an_Llists : Option Addr} {sl_Llists : Array (Option Value)} {oc_Llists kV_Llists dc_Llists pm_Llists cd_Llists ct_Llists : Value}
    (l_Llists : K.lookup a_Llists = some ⟨oc_Llists, od_Llists, .func (PySem.W.fnOf "_law_lists" "_law_lists" (defArgs s_Llists) (defBody s_Llists) (defScope s_Llists) .none kV_Llists dc_Llists pm_Llists an_Llists cd_Llists ct_Llists), sl_Llists⟩)
    (c_Llists : PySem.W.codeIn K cd_Llists "_law_lists" = true)
    (k_Llists : PySem.W.keepIn K (.ref a_Llists) = true)
    (g_Llists : PySem.W.nsIn K mainGlobals "_law_lists" = some (some (.ref a_Llists)))
    {a_Ltold_good : Addr}
    {od_Ltold_good an_Ltold_good : Option Addr} {sl_Ltold_good : Array (Option Value)} {oc_Ltold_good kV_Ltold_good dc_Ltold_good pm_Ltold_good cd_Ltold_good ct_Ltold_good : Value}
    (l_Ltold_good : K.lookup a_Ltold_good = some ⟨oc_Ltold_good, od_Ltold_good, .func (PySem.W.fnOf "_law_told_good" "_law_told_good" (defArgs s_Ltold_good) (defBody s_Ltold_good) (defScope s_Ltold_good) .none kV_Ltold_good dc_Ltold_good pm_Ltold_good an_Ltold_good cd_Ltold_good ct_Ltold_good), sl_Ltold_good⟩)
    (c_Ltold_good : PySem.W.codeIn K cd_Ltold_good "_law_told_good" = true)
    (k_Ltold_good : PySem.W.keepIn K (.ref a_Ltold_good) = true)
    (g_Ltold_good : PySem.W.nsIn K mainGlobals "_law_told_good" = some (some (.ref a_Ltold_good)))
    {a_Ltake : Addr}
    {od_Ltake an_Ltake : Option Addr} {sl_Ltake : Array (Option Value)} {oc_Ltake kV_Ltake dc_Ltake pm_Ltake cd_Ltake ct_Ltake : Value}
    (l_Ltake : K.lookup a_Ltake = some ⟨oc_Ltake, od_Ltake, .func (PySem.W.fnOf "_law_take" "_law_take" (defArgs s_Ltake) (defBody s_Ltake) (defScope s_Ltake) .none kV_Ltake dc_Ltake pm_Ltake an_Ltake cd_Ltake ct_Ltake), sl_Ltake⟩)
    (c_Ltake : PySem.W.codeIn K cd_Ltake "_law_take" = true)
    (k_Ltake : PySem.W.keepIn K (.ref a_Ltake) = true)
    (g_Ltake : PySem.W.nsIn K mainGlobals "_law_take" = some (some (.ref a_Ltake)))
    {a_Ldue_take : Addr}
    {od_Ldue_take an_Ldue_take : Option Addr} {sl_Ldue_take : Array (Option Value)} {oc_Ldue_take kV_Ldue_take dc_Ldue_take pm_Ldue_take cd_Ldue_take ct_Ldue_take : Value}
    (l_Ldue_take : K.lookup a_Ldue_take = some ⟨oc_Ldue_take, od_Ldue_take, .func (PySem.W.fnOf "_law_due_take" "_law_due_take" (defArgs s_Ldue_take) (defBody s_Ldue_take) (defScope s_Ldue_take) .none kV_Ldue_take dc_Ldue_take pm_Ldue_take an_Ldue_take cd_Ldue_take ct_Ldue_take), sl_Ldue_take⟩)
    (c_Ldue_take : PySem.W.codeIn K cd_Ldue_take "_law_due_take" = true)
    (k_Ldue_take : PySem.W.keepIn K (.ref a_Ldue_take) = true)
    (g_Ldue_take : PySem.W.nsIn K mainGlobals "_law_due_take" = some (some (.ref a_Ldue_take)))
    {a_Lgive : Addr}
    {od_Lgive an_Lgive : Option Addr} {sl_Lgive : Array (Option Value)} {oc_Lgive kV_Lgive dc_Lgive pm_Lgive cd_Lgive ct_Lgive : Value}
    (l_Lgive : K.lookup a_Lgive = some ⟨oc_Lgive, od_Lgive, .func (PySem.W.fnOf "_law_give" "_law_give" (defArgs s_Lgive) (defBody s_Lgive) (defScope s_Lgive) .none kV_Lgive dc_Lgive pm_Lgive an_Lgive cd_Lgive ct_Lgive), sl_Lgive⟩)
    (c_Lgive : PySem.W.codeIn K cd_Lgive "_law_give" = true)
    (k_Lgive : PySem.W.keepIn K (.ref a_Lgive) = true)
    (g_Lgive : PySem.W.nsIn K mainGlobals "_law_give" = some (some (.ref a_Lgive)))
    {a_Lput : Addr}
    {od_Lput an_Lput : Option Addr} {sl_Lput : Array (Option Value)} {oc_Lput kV_Lput dc_Lput pm_Lput cd_Lput ct_Lput : Value}
    (l_Lput : K.lookup a_Lput = some ⟨oc_Lput, od_Lput, .func (PySem.W.fnOf "_law_put" "_law_put" (defArgs s_Lput) (defBody s_Lput) (defScope s_Lput) .none kV_Lput dc_Lput pm_Lput an_Lput cd_Lput ct_Lput), sl_Lput⟩)
    (c_Lput : PySem.W.codeIn K cd_Lput "_law_put" = true)
    (k_Lput : PySem.W.keepIn K (.ref a_Lput) = true)
    (g_Lput : PySem.W.nsIn K mainGlobals "_law_put" = some (some (.ref a_Lput)))
    {a_Ldeed_good : Addr}
    {od_Ldeed_good an_Ldeed_good : Option Addr} {sl_Ldeed_good : Array (Option Value)} {oc_Ldeed_good kV_Ldeed_good dc_Ldeed_good pm_Ldeed_good cd_Ldeed_good ct_Ldeed_good : Value}
    (l_Ldeed_good : K.lookup a_Ldeed_good = some ⟨oc_Ldeed_good, od_Ldeed_good, .func (PySem.W.fnOf "_law_deed_good" "_law_deed_good" (defArgs s_Ldeed_good) (defBody s_Ldeed_good) (defScope s_Ldeed_good) .none kV_Ldeed_good dc_Ldeed_good pm_Ldeed_good an_Ldeed_good cd_Ldeed_good ct_Ldeed_good), sl_Ldeed_good⟩)
    (c_Ldeed_good : PySem.W.codeIn K cd_Ldeed_good "_law_deed_good" = true)
    (k_Ldeed_good : PySem.W.keepIn K (.ref a_Ldeed_good) = true)
    (g_Ldeed_good : PySem.W.nsIn K mainGlobals "_law_deed_good" = some (some (.ref a_Ldeed_good)))
    {a_law : Addr}
    {od_law an_law : Option Addr} {sl_law : Array (Option Value)} {oc_law kV_law dc_law pm_law cd_law ct_law : Value}
    (l_law : K.lookup a_law = some ⟨oc_law, od_law, .func (PySem.W.fnOf "law" "law" (defArgs s_law) (defBody s_law) (defScope s_law) .none kV_law dc_law pm_law an_law cd_law ct_law), sl_law⟩)
    (c_law : PySem.W.codeIn K cd_law "law" = true)
    (k_law : PySem.W.keepIn K (.ref a_law) = true)
    (g_law : PySem.W.nsIn K mainGlobals "law" = some (some (.ref a_law)))
    {a_Plan___init__ : Addr}
    {od_Plan___init__ an_Plan___init__ : Option Addr} {sl_Plan___init__ : Array (Option Value)} {oc_Plan___init__ kV_Plan___init__ dc_Plan___init__ pm_Plan___init__ cd_Plan___init__ ct_Plan___init__ : Value}
    (l_Plan___init__ : K.lookup a_Plan___init__ = some ⟨oc_Plan___init__, od_Plan___init__, .func (PySem.W.fnOf "__init__" "Plan.__init__" (defArgs s_Plan___init__) (defBody s_Plan___init__) (defScope s_Plan___init__) .none kV_Plan___init__ dc_Plan___init__ pm_Plan___init__ an_Plan___init__ cd_Plan___init__ ct_Plan___init__), sl_Plan___init__⟩)
    (c_Plan___init__ : PySem.W.codeIn K cd_Plan___init__ "Plan.__init__" = true)
    (k_Plan___init__ : PySem.W.keepIn K (.ref a_Plan___init__) = true)
    {a_Plan_map_place : Addr}
    {od_Plan_map_place an_Plan_map_place : Option Addr} {sl_Plan_map_place : Array (Option Value)} {oc_Plan_map_place kV_Plan_map_place dc_Plan_map_place pm_Plan_map_place cd_Plan_map_place ct_Plan_map_place : Value}
    (l_Plan_map_place : K.lookup a_Plan_map_place = some ⟨oc_Plan_map_place, od_Plan_map_place, .func (PySem.W.fnOf "map_place" "Plan.map_place" (defArgs s_Plan_map_place) (defBody s_Plan_map_place) (defScope s_Plan_map_place) .none kV_Plan_map_place dc_Plan_map_place pm_Plan_map_place an_Plan_map_place cd_Plan_map_place ct_Plan_map_place), sl_Plan_map_place⟩)
    (c_Plan_map_place : PySem.W.codeIn K cd_Plan_map_place "Plan.map_place" = true)
    (k_Plan_map_place : PySem.W.keepIn K (.ref a_Plan_map_place) = true)
    {a_Plan_node_block : Addr}
    {od_Plan_node_block an_Plan_node_block : Option Addr} {sl_Plan_node_block : Array (Option Value)} {oc_Plan_node_block kV_Plan_node_block dc_Plan_node_block pm_Plan_node_block cd_Plan_node_block ct_Plan_node_block : Value}
    (l_Plan_node_block : K.lookup a_Plan_node_block = some ⟨oc_Plan_node_block, od_Plan_node_block, .func (PySem.W.fnOf "node_block" "Plan.node_block" (defArgs s_Plan_node_block) (defBody s_Plan_node_block) (defScope s_Plan_node_block) .none kV_Plan_node_block dc_Plan_node_block pm_Plan_node_block an_Plan_node_block cd_Plan_node_block ct_Plan_node_block), sl_Plan_node_block⟩)
    (c_Plan_node_block : PySem.W.codeIn K cd_Plan_node_block "Plan.node_block" = true)
    (k_Plan_node_block : PySem.W.keepIn K (.ref a_Plan_node_block) = true)
    {a_Plan_data_blocks : Addr}
    {od_Plan_data_blocks an_Plan_data_blocks : Option Addr} {sl_Plan_data_blocks : Array (Option Value)} {oc_Plan_data_blocks kV_Plan_data_blocks dc_Plan_data_blocks pm_Plan_data_blocks cd_Plan_data_blocks ct_Plan_data_blocks : Value}
    (l_Plan_data_blocks : K.lookup a_Plan_data_blocks = some ⟨oc_Plan_data_blocks, od_Plan_data_blocks, .func (PySem.W.fnOf "data_blocks" "Plan.data_blocks" (defArgs s_Plan_data_blocks) (defBody s_Plan_data_blocks) (defScope s_Plan_data_blocks) .none kV_Plan_data_blocks dc_Plan_data_blocks pm_Plan_data_blocks an_Plan_data_blocks cd_Plan_data_blocks ct_Plan_data_blocks), sl_Plan_data_blocks⟩)
    (c_Plan_data_blocks : PySem.W.codeIn K cd_Plan_data_blocks "Plan.data_blocks" = true)
    (k_Plan_data_blocks : PySem.W.keepIn K (.ref a_Plan_data_blocks) = true)
    {a_Image___init__ : Addr}
    {od_Image___init__ an_Image___init__ : Option Addr} {sl_Image___init__ : Array (Option Value)} {oc_Image___init__ kV_Image___init__ dc_Image___init__ pm_Image___init__ cd_Image___init__ ct_Image___init__ : Value}
    (l_Image___init__ : K.lookup a_Image___init__ = some ⟨oc_Image___init__, od_Image___init__, .func (PySem.W.fnOf "__init__" "Image.__init__" (defArgs s_Image___init__) (defBody s_Image___init__) (defScope s_Image___init__) .none kV_Image___init__ dc_Image___init__ pm_Image___init__ an_Image___init__ cd_Image___init__ ct_Image___init__), sl_Image___init__⟩)
    (c_Image___init__ : PySem.W.codeIn K cd_Image___init__ "Image.__init__" = true)
    (k_Image___init__ : PySem.W.keepIn K (.ref a_Image___init__) = true)
    {a_Image_begin : Addr}
    {od_Image_begin an_Image_begin : Option Addr} {sl_Image_begin : Array (Option Value)} {oc_Image_begin kV_Image_begin dc_Image_begin pm_Image_begin cd_Image_begin ct_Image_begin : Value}
    (l_Image_begin : K.lookup a_Image_begin = some ⟨oc_Image_begin, od_Image_begin, .func (PySem.W.fnOf "begin" "Image.begin" (defArgs s_Image_begin) (defBody s_Image_begin) (defScope s_Image_begin) .none kV_Image_begin dc_Image_begin pm_Image_begin an_Image_begin cd_Image_begin ct_Image_begin), sl_Image_begin⟩)
    (c_Image_begin : PySem.W.codeIn K cd_Image_begin "Image.begin" = true)
    (k_Image_begin : PySem.W.keepIn K (.ref a_Image_begin) = true)
    {a_Image_settle : Addr}
    {od_Image_settle an_Image_settle : Option Addr} {sl_Image_settle : Array (Option Value)} {oc_Image_settle kV_Image_settle dc_Image_settle pm_Image_settle cd_Image_settle ct_Image_settle : Value}
    (l_Image_settle : K.lookup a_Image_settle = some ⟨oc_Image_settle, od_Image_settle, .func (PySem.W.fnOf "settle" "Image.settle" (defArgs s_Image_settle) (defBody s_Image_settle) (defScope s_Image_settle) .none kV_Image_settle dc_Image_settle pm_Image_settle an_Image_settle cd_Image_settle ct_Image_settle), sl_Image_settle⟩)
    (c_Image_settle : PySem.W.codeIn K cd_Image_settle "Image.settle" = true)
    (k_Image_settle : PySem.W.keepIn K (.ref a_Image_settle) = true)
    {a_Image_twin : Addr}
    {od_Image_twin an_Image_twin : Option Addr} {sl_Image_twin : Array (Option Value)} {oc_Image_twin kV_Image_twin dc_Image_twin pm_Image_twin cd_Image_twin ct_Image_twin : Value}
    (l_Image_twin : K.lookup a_Image_twin = some ⟨oc_Image_twin, od_Image_twin, .func (PySem.W.fnOf "twin" "Image.twin" (defArgs s_Image_twin) (defBody s_Image_twin) (defScope s_Image_twin) .none kV_Image_twin dc_Image_twin pm_Image_twin an_Image_twin cd_Image_twin ct_Image_twin), sl_Image_twin⟩)
    (c_Image_twin : PySem.W.codeIn K cd_Image_twin "Image.twin" = true)
    (k_Image_twin : PySem.W.keepIn K (.ref a_Image_twin) = true)
    {a_Image_take : Addr}
    {od_Image_take an_Image_take : Option Addr} {sl_Image_take : Array (Option Value)} {oc_Image_take kV_Image_take dc_Image_take pm_Image_take cd_Image_take ct_Image_take : Value}
    (l_Image_take : K.lookup a_Image_take = some ⟨oc_Image_take, od_Image_take, .func (PySem.W.fnOf "take" "Image.take" (defArgs s_Image_take) (defBody s_Image_take) (defScope s_Image_take) .none kV_Image_take dc_Image_take pm_Image_take an_Image_take cd_Image_take ct_Image_take), sl_Image_take⟩)
    (c_Image_take : PySem.W.codeIn K cd_Image_take "Image.take" = true)
    (k_Image_take : PySem.W.keepIn K (.ref a_Image_take) = true)
    {a_Image_give : Addr}
    {od_Image_give an_Image_give : Option Addr} {sl_Image_give : Array (Option Value)} {oc_Image_give kV_Image_give dc_Image_give pm_Image_give cd_Image_give ct_Image_give : Value}
    (l_Image_give : K.lookup a_Image_give = some ⟨oc_Image_give, od_Image_give, .func (PySem.W.fnOf "give" "Image.give" (defArgs s_Image_give) (defBody s_Image_give) (defScope s_Image_give) .none kV_Image_give dc_Image_give pm_Image_give an_Image_give cd_Image_give ct_Image_give), sl_Image_give⟩)
    (c_Image_give : PySem.W.codeIn K cd_Image_give "Image.give" = true)
    (k_Image_give : PySem.W.keepIn K (.ref a_Image_give) = true)
    {a_Image__put_block : Addr}
    {od_Image__put_block an_Image__put_block : Option Addr} {sl_Image__put_block : Array (Option Value)} {oc_Image__put_block kV_Image__put_block dc_Image__put_block pm_Image__put_block cd_Image__put_block ct_Image__put_block : Value}
    (l_Image__put_block : K.lookup a_Image__put_block = some ⟨oc_Image__put_block, od_Image__put_block, .func (PySem.W.fnOf "_put_block" "Image._put_block" (defArgs s_Image__put_block) (defBody s_Image__put_block) (defScope s_Image__put_block) .none kV_Image__put_block dc_Image__put_block pm_Image__put_block an_Image__put_block cd_Image__put_block ct_Image__put_block), sl_Image__put_block⟩)
    (c_Image__put_block : PySem.W.codeIn K cd_Image__put_block "Image._put_block" = true)
    (k_Image__put_block : PySem.W.keepIn K (.ref a_Image__put_block) = true)
    {a_Image_free_blocks : Addr}
    {od_Image_free_blocks an_Image_free_blocks : Option Addr} {sl_Image_free_blocks : Array (Option Value)} {oc_Image_free_blocks kV_Image_free_blocks dc_Image_free_blocks pm_Image_free_blocks cd_Image_free_blocks ct_Image_free_blocks : Value}
    (l_Image_free_blocks : K.lookup a_Image_free_blocks = some ⟨oc_Image_free_blocks, od_Image_free_blocks, .func (PySem.W.fnOf "free_blocks" "Image.free_blocks" (defArgs s_Image_free_blocks) (defBody s_Image_free_blocks) (defScope s_Image_free_blocks) .none kV_Image_free_blocks dc_Image_free_blocks pm_Image_free_blocks an_Image_free_blocks cd_Image_free_blocks ct_Image_free_blocks), sl_Image_free_blocks⟩)
    (c_Image_free_blocks : PySem.W.codeIn K cd_Image_free_blocks "Image.free_blocks" = true)
    (k_Image_free_blocks : PySem.W.keepIn K (.ref a_Image_free_blocks) = true)
    {a_Image_kind : Addr}
    {od_Image_kind an_Image_kind : Option Addr} {sl_Image_kind : Array (Option Value)} {oc_Image_kind kV_Image_kind dc_Image_kind pm_Image_kind cd_Image_kind ct_Image_kind : Value}
    (l_Image_kind : K.lookup a_Image_kind = some ⟨oc_Image_kind, od_Image_kind, .func (PySem.W.fnOf "kind" "Image.kind" (defArgs s_Image_kind) (defBody s_Image_kind) (defScope s_Image_kind) .none kV_Image_kind dc_Image_kind pm_Image_kind an_Image_kind cd_Image_kind ct_Image_kind), sl_Image_kind⟩)
    (c_Image_kind : PySem.W.codeIn K cd_Image_kind "Image.kind" = true)
    (k_Image_kind : PySem.W.keepIn K (.ref a_Image_kind) = true)
    {a_Image_identity : Addr}
    {od_Image_identity an_Image_identity : Option Addr} {sl_Image_identity : Array (Option Value)} {oc_Image_identity kV_Image_identity dc_Image_identity pm_Image_identity cd_Image_identity ct_Image_identity : Value}
    (l_Image_identity : K.lookup a_Image_identity = some ⟨oc_Image_identity, od_Image_identity, .func (PySem.W.fnOf "identity" "Image.identity" (defArgs s_Image_identity) (defBody s_Image_identity) (defScope s_Image_identity) .none kV_Image_identity dc_Image_identity pm_Image_identity an_Image_identity cd_Image_identity ct_Image_identity), sl_Image_identity⟩)
    (c_Image_identity : PySem.W.codeIn K cd_Image_identity "Image.identity" = true)
    (k_Image_identity : PySem.W.keepIn K (.ref a_Image_identity) = true)
    {a_Image_fresh : Addr}
    {od_Image_fresh an_Image_fresh : Option Addr} {sl_Image_fresh : Array (Option Value)} {oc_Image_fresh kV_Image_fresh dc_Image_fresh pm_Image_fresh cd_Image_fresh ct_Image_fresh : Value}
    (l_Image_fresh : K.lookup a_Image_fresh = some ⟨oc_Image_fresh, od_Image_fresh, .func (PySem.W.fnOf "fresh" "Image.fresh" (defArgs s_Image_fresh) (defBody s_Image_fresh) (defScope s_Image_fresh) .none kV_Image_fresh dc_Image_fresh pm_Image_fresh an_Image_fresh cd_Image_fresh ct_Image_fresh), sl_Image_fresh⟩)
    (c_Image_fresh : PySem.W.codeIn K cd_Image_fresh "Image.fresh" = true)
    (k_Image_fresh : PySem.W.keepIn K (.ref a_Image_fresh) = true)
    {a_Image_of_cells : Addr}
    {od_Image_of_cells an_Image_of_cells : Option Addr} {sl_Image_of_cells : Array (Option Value)} {oc_Image_of_cells kV_Image_of_cells dc_Image_of_cells pm_Image_of_cells cd_Image_of_cells ct_Image_of_cells : Value}
    (l_Image_of_cells : K.lookup a_Image_of_cells = some ⟨oc_Image_of_cells, od_Image_of_cells, .func (PySem.W.fnOf "of_cells" "Image.of_cells" (defArgs s_Image_of_cells) (defBody s_Image_of_cells) (defScope s_Image_of_cells) .none kV_Image_of_cells dc_Image_of_cells pm_Image_of_cells an_Image_of_cells cd_Image_of_cells ct_Image_of_cells), sl_Image_of_cells⟩)
    (c_Image_of_cells : PySem.W.codeIn K cd_Image_of_cells "Image.of_cells" = true)
    (k_Image_of_cells : PySem.W.keepIn K (.ref a_Image_of_cells) = true)
    {aC_Plan : Addr}
    (g_Plan : PySem.W.nsIn K mainGlobals "Plan" = some (some (.ref aC_Plan)))
    (pg_Plan : PySem.W.plainGet K aC_Plan Str.empty = true)
    (hd_Plan : PySem.W.hasDictIn K aC_Plan = true)
    (po_Plan : PySem.W.plainOver K aC_Plan = true)
    (sa_Plan : PySem.W.findIn K (.ref aC_Plan) "__setattr__" = some (some (.builtin "object.__setattr__")))
    (n_Plan_blocks : PySem.W.findIn K (.ref aC_Plan) "blocks" = some none)
    (n_Plan_nodes : PySem.W.findIn K (.ref aC_Plan) "nodes" = some none)
    (n_Plan_slots : PySem.W.findIn K (.ref aC_Plan) "slots" = some none)
    (n_Plan_maps : PySem.W.findIn K (.ref aC_Plan) "maps" = some none)
    (n_Plan_first_node : PySem.W.findIn K (.ref aC_Plan) "first_node" = some none)
    (n_Plan_first_data : PySem.W.findIn K (.ref aC_Plan) "first_data" = some none)
    (mk1_Plan : PySem.W.makesIn K aC_Plan = true)
    (mk2_Plan : PySem.W.findIn K (.ref aC_Plan) "__init__" = some (some (.ref a_Plan___init__)))
    (mk3_Plan : PySem.W.isFn K (.ref a_Plan___init__) = true)
    (mk4_Plan : PySem.W.keepIn K (.ref aC_Plan) = true)
    {mcv_Plan : Value}
    (tp_Plan : PySem.W.typeIn K (.ref aC_Plan) = some mcv_Plan)
    (rd_Plan : PySem.W.readsIn K aC_Plan mcv_Plan = true)
    (ga_Plan : PySem.W.specialIn K (.ref aC_Plan) "__getattribute__" = some (some (.builtin "type.__getattribute__")))
    {tv_Plan_WIDTH : Tok}
    (v_Plan_WIDTH : PySem.W.findCls K (.ref aC_Plan) mcv_Plan "WIDTH" = some (.val (.int 8 tv_Plan_WIDTH)))
    {tv_Plan_OWNERS : Tok}
    (v_Plan_OWNERS : PySem.W.findCls K (.ref aC_Plan) mcv_Plan "OWNERS" = some (.val (.int 4 tv_Plan_OWNERS)))
    {tv_Plan_FREE : Tok}
    (v_Plan_FREE : PySem.W.findCls K (.ref aC_Plan) mcv_Plan "FREE" = some (.val (.int 0 tv_Plan_FREE)))
    {tv_Plan_LOGGED : Tok}
    (v_Plan_LOGGED : PySem.W.findCls K (.ref aC_Plan) mcv_Plan "LOGGED" = some (.val (.int 1 tv_Plan_LOGGED)))
    {tv_Plan_PLAIN : Tok}
    (v_Plan_PLAIN : PySem.W.findCls K (.ref aC_Plan) mcv_Plan "PLAIN" = some (.val (.int 2 tv_Plan_PLAIN)))
    {tc_Plan_WIDTH : Tok}
    (o_Plan_WIDTH : PySem.W.findIn K (.ref aC_Plan) "WIDTH" = some (some (.int 8 tc_Plan_WIDTH)))
    (og_Plan_WIDTH : PySem.W.specialIn K (.int 8 tc_Plan_WIDTH) "__get__" = some none)
    {aC_Image : Addr}
    (g_Image : PySem.W.nsIn K mainGlobals "Image" = some (some (.ref aC_Image)))
    (pg_Image : PySem.W.plainGet K aC_Image Str.empty = true)
    (hd_Image : PySem.W.hasDictIn K aC_Image = true)
    (po_Image : PySem.W.plainOver K aC_Image = true)
    (sa_Image : PySem.W.findIn K (.ref aC_Image) "__setattr__" = some (some (.builtin "object.__setattr__")))
    (n_Image_plan : PySem.W.findIn K (.ref aC_Image) "plan" = some none)
    (n_Image_cells : PySem.W.findIn K (.ref aC_Image) "cells" = some none)
    (n_Image_holdings : PySem.W.findIn K (.ref aC_Image) "holdings" = some none)
    (n_Image_stamps : PySem.W.findIn K (.ref aC_Image) "stamps" = some none)
    (n_Image_handles : PySem.W.findIn K (.ref aC_Image) "handles" = some none)
    (n_Image_serial : PySem.W.findIn K (.ref aC_Image) "serial" = some none)
    (n_Image_wish : PySem.W.findIn K (.ref aC_Image) "wish" = some none)
    (n_Image_barred : PySem.W.findIn K (.ref aC_Image) "barred" = some none)
    (mk1_Image : PySem.W.makesIn K aC_Image = true)
    (mk2_Image : PySem.W.findIn K (.ref aC_Image) "__init__" = some (some (.ref a_Image___init__)))
    (mk3_Image : PySem.W.isFn K (.ref a_Image___init__) = true)
    (mk4_Image : PySem.W.keepIn K (.ref aC_Image) = true)
    {mcv_Image : Value}
    (tp_Image : PySem.W.typeIn K (.ref aC_Image) = some mcv_Image)
    (rd_Image : PySem.W.readsIn K aC_Image mcv_Image = true)
    (ga_Image : PySem.W.specialIn K (.ref aC_Image) "__getattribute__" = some (some (.builtin "type.__getattribute__")))
    (m1_Plan_map_place : PySem.W.findIn K (.ref aC_Plan) "map_place" = some (some (.ref a_Plan_map_place)))
    (m2_Plan_map_place : PySem.W.isFn K (.ref a_Plan_map_place) = true)
    (m1_Plan_node_block : PySem.W.findIn K (.ref aC_Plan) "node_block" = some (some (.ref a_Plan_node_block)))
    (m2_Plan_node_block : PySem.W.isFn K (.ref a_Plan_node_block) = true)
    (m1_Plan_data_blocks : PySem.W.findIn K (.ref aC_Plan) "data_blocks" = some (some (.ref a_Plan_data_blocks)))
    (m2_Plan_data_blocks : PySem.W.isFn K (.ref a_Plan_data_blocks) = true)
    (m1_Image_begin : PySem.W.findIn K (.ref aC_Image) "begin" = some (some (.ref a_Image_begin)))
    (m2_Image_begin : PySem.W.isFn K (.ref a_Image_begin) = true)
    (m1_Image_settle : PySem.W.findIn K (.ref aC_Image) "settle" = some (some (.ref a_Image_settle)))
    (m2_Image_settle : PySem.W.isFn K (.ref a_Image_settle) = true)
    (m1_Image_twin : PySem.W.findIn K (.ref aC_Image) "twin" = some (some (.ref a_Image_twin)))
    (m2_Image_twin : PySem.W.isFn K (.ref a_Image_twin) = true)
    (m1_Image_take : PySem.W.findIn K (.ref aC_Image) "take" = some (some (.ref a_Image_take)))
    (m2_Image_take : PySem.W.isFn K (.ref a_Image_take) = true)
    (m1_Image_give : PySem.W.findIn K (.ref aC_Image) "give" = some (some (.ref a_Image_give)))
    (m2_Image_give : PySem.W.isFn K (.ref a_Image_give) = true)
    (m1_Image__put_block : PySem.W.findIn K (.ref aC_Image) "_put_block" = some (some (.ref a_Image__put_block)))
    (m2_Image__put_block : PySem.W.isFn K (.ref a_Image__put_block) = true)
    (m1_Image_free_blocks : PySem.W.findIn K (.ref aC_Image) "free_blocks" = some (some (.ref a_Image_free_blocks)))
    (m2_Image_free_blocks : PySem.W.isFn K (.ref a_Image_free_blocks) = true)
    (m1_Image_kind : PySem.W.findIn K (.ref aC_Image) "kind" = some (some (.ref a_Image_kind)))
    (m2_Image_kind : PySem.W.isFn K (.ref a_Image_kind) = true)
    (m1_Image_identity : PySem.W.findIn K (.ref aC_Image) "identity" = some (some (.ref a_Image_identity)))
    (m2_Image_identity : PySem.W.isFn K (.ref a_Image_identity) = true)
    {sp_Image_fresh : Addr} {sr_Image_fresh : List Value}
    (s1_Image_fresh : PySem.W.findCls K (.ref aC_Image) mcv_Image "fresh" = some (.get (.builtin "staticmethod.__get__") (.ref sp_Image_fresh) .none (.ref aC_Image)))
    (s2_Image_fresh : PySem.W.recIn K sp_Image_fresh "staticmethod" = some (.ref a_Image_fresh :: sr_Image_fresh))
    {sp_Image_of_cells : Addr} {sr_Image_of_cells : List Value}
    (s1_Image_of_cells : PySem.W.findCls K (.ref aC_Image) mcv_Image "of_cells" = some (.get (.builtin "staticmethod.__get__") (.ref sp_Image_of_cells) .none (.ref aC_Image)))
    (s2_Image_of_cells : PySem.W.recIn K sp_Image_of_cells "staticmethod" = some (.ref a_Image_of_cells :: sr_Image_of_cells))
    {aC_BlocksFull : Addr}
    (g_BlocksFull : PySem.W.nsIn K mainGlobals "BlocksFull" = some (some (.ref aC_BlocksFull)))
    (be1_BlocksFull : PySem.W.subIn K (.ref aC_BlocksFull) (.type "BaseException") = some true)
    (te1_BlocksFull : PySem.W.typeIn K (.ref aC_BlocksFull) = some (.type "type"))
    (ie1_BlocksFull : PySem.W.isClsIn K aC_BlocksFull = true)
    (xe1_BlocksFull : PySem.W.excIn K aC_BlocksFull [.type "ValueError", .type "Exception", .type "BaseException", .type "object"] "ValueError.__new__" = true)
    (ke1_BlocksFull : PySem.W.keepIn K (.ref aC_BlocksFull) = true)
    (ec1_BlocksFull : PySem.W.findIn K (.ref aC_BlocksFull) "__getattribute__" = some (some (.builtin "BaseException.__getattribute__")))
    (ec2_BlocksFull : PySem.W.findIn K (.ref aC_BlocksFull) "__getattr__" = some none)
    (ec4_BlocksFull : PySem.W.hasDictIn K aC_BlocksFull = true)
    (ec5_BlocksFull : PySem.W.findIn K (.ref aC_BlocksFull) "__class__" = some (some (.builtin "object.__class__")))
    (ec6_BlocksFull : PySem.W.specialIn K (.builtin "object.__class__") "__get__" = some (some (.builtin "getset_descriptor.__get__")))
    (ec7_BlocksFull : PySem.W.takesIn K (.builtin "object.__class__") = some true)
    (ec8_BlocksFull : PySem.W.mroIn K aC_BlocksFull (.type "object") = some true)
    {aC_OverQuota : Addr}
    (g_OverQuota : PySem.W.nsIn K mainGlobals "OverQuota" = some (some (.ref aC_OverQuota)))
    (be1_OverQuota : PySem.W.subIn K (.ref aC_OverQuota) (.type "BaseException") = some true)
    (te1_OverQuota : PySem.W.typeIn K (.ref aC_OverQuota) = some (.type "type"))
    (ie1_OverQuota : PySem.W.isClsIn K aC_OverQuota = true)
    (xe1_OverQuota : PySem.W.excIn K aC_OverQuota [.type "ValueError", .type "Exception", .type "BaseException", .type "object"] "ValueError.__new__" = true)
    (ke1_OverQuota : PySem.W.keepIn K (.ref aC_OverQuota) = true)
    (ec1_OverQuota : PySem.W.findIn K (.ref aC_OverQuota) "__getattribute__" = some (some (.builtin "BaseException.__getattribute__")))
    (ec2_OverQuota : PySem.W.findIn K (.ref aC_OverQuota) "__getattr__" = some none)
    (ec4_OverQuota : PySem.W.hasDictIn K aC_OverQuota = true)
    (ec5_OverQuota : PySem.W.findIn K (.ref aC_OverQuota) "__class__" = some (some (.builtin "object.__class__")))
    (ec6_OverQuota : PySem.W.specialIn K (.builtin "object.__class__") "__get__" = some (some (.builtin "getset_descriptor.__get__")))
    (ec7_OverQuota : PySem.W.takesIn K (.builtin "object.__class__") = some true)
    (ec8_OverQuota : PySem.W.mroIn K aC_OverQuota (.type "object") = some true)
    (sb_BlocksFull_BlocksFull : PySem.W.subIn K (.ref aC_BlocksFull) (.ref aC_BlocksFull) = some true)
    (sb_BlocksFull_OverQuota : PySem.W.subIn K (.ref aC_BlocksFull) (.ref aC_OverQuota) = some false)
    (sb_OverQuota_BlocksFull : PySem.W.subIn K (.ref aC_OverQuota) (.ref aC_BlocksFull) = some false)
    (sb_OverQuota_OverQuota : PySem.W.subIn K (.ref aC_OverQuota) (.ref aC_OverQuota) = some true)
    {t_SUMS_BLOCK : Tok}
    (gc_SUMS_BLOCK : PySem.W.nsIn K mainGlobals "SUMS_BLOCK" = some (some (.int 0 t_SUMS_BLOCK)))
    {t_ROOT : Tok}
    (gc_ROOT : PySem.W.nsIn K mainGlobals "ROOT" = some (some (.int 1 t_ROOT)))
    {t_KIND : Tok}
    (gc_KIND : PySem.W.nsIn K mainGlobals "KIND" = some (some (.int 0 t_KIND)))
    {t_LINKS : Tok}
    (gc_LINKS : PySem.W.nsIn K mainGlobals "LINKS" = some (some (.int 1 t_LINKS)))
    {t_MAKING : Tok}
    (gc_MAKING : PySem.W.nsIn K mainGlobals "MAKING" = some (some (.int 7 t_MAKING)))
    {t_FOLDER : Tok}
    (gc_FOLDER : PySem.W.nsIn K mainGlobals "FOLDER" = some (some (.int 2 t_FOLDER)))
    {t_LEAST_BLOCKS : Tok}
    (gc_LEAST_BLOCKS : PySem.W.nsIn K mainGlobals "LEAST_BLOCKS" = some (some (.int 8 t_LEAST_BLOCKS)))
    {t_MOST_BLOCKS : Tok}
    (gc_MOST_BLOCKS : PySem.W.nsIn K mainGlobals "MOST_BLOCKS" = some (some (.int 64 t_MOST_BLOCKS)))
    {t_LEAST_NODES : Tok}
    (gc_LEAST_NODES : PySem.W.nsIn K mainGlobals "LEAST_NODES" = some (some (.int 2 t_LEAST_NODES)))
    {t_MOST_NODES : Tok}
    (gc_MOST_NODES : PySem.W.nsIn K mainGlobals "MOST_NODES" = some (some (.int 16 t_MOST_NODES)))
    {t_MOST_SLOTS : Tok}
    (gc_MOST_SLOTS : PySem.W.nsIn K mainGlobals "MOST_SLOTS" = some (some (.int 200 t_MOST_SLOTS)))
    {t_LEAST_DATA : Tok}
    (gc_LEAST_DATA : PySem.W.nsIn K mainGlobals "LEAST_DATA" = some (some (.int 2 t_LEAST_DATA)))
    {t_FIRST_MAP : Tok}
    (gc_FIRST_MAP : PySem.W.nsIn K mainGlobals "FIRST_MAP" = some (some (.int 2 t_FIRST_MAP)))
    (nb_abs : PySem.W.nsIn K mainGlobals "abs" = some none)
    (nb_bool : PySem.W.nsIn K mainGlobals "bool" = some none)
    (nb_dict : PySem.W.nsIn K mainGlobals "dict" = some none)
    (nb_int : PySem.W.nsIn K mainGlobals "int" = some none)
    (nb_isinstance : PySem.W.nsIn K mainGlobals "isinstance" = some none)
    (nb_len : PySem.W.nsIn K mainGlobals "len" = some none)
    (nb_list : PySem.W.nsIn K mainGlobals "list" = some none)
    (nb_min : PySem.W.nsIn K mainGlobals "min" = some none)
    (nb_range : PySem.W.nsIn K mainGlobals "range" = some none)
    (nb_sorted : PySem.W.nsIn K mainGlobals "sorted" = some none)
    (nb_str : PySem.W.nsIn K mainGlobals "str" = some none)
    (nb_tuple : PySem.W.nsIn K mainGlobals "tuple" = some none)
    : Nonempty (Tx K mg) := ⟨{
      f_Lfeed := a_Lfeed,
      fd_Lfeed := PySem.W.fnOf "_law_feed" "_law_feed" (defArgs s_Lfeed) (defBody s_Lfeed) (defScope s_Lfeed) .none kV_Lfeed dc_Lfeed pm_Lfeed an_Lfeed cd_Lfeed ct_Lfeed,
      F_Lfeed := fun_mk (st := s_Lfeed) l_Lfeed c_Lfeed k_Lfeed,
      mg_Lfeed := PySem.W.mg_of X G g_Lfeed,
      f_Lpick := a_Lpick,
      fd_Lpick := PySem.W.fnOf "_law_pick" "_law_pick" (defArgs s_Lpick) (defBody s_Lpick) (defScope s_Lpick) .none kV_Lpick dc_Lpick pm_Lpick an_Lpick cd_Lpick ct_Lpick,
      F_Lpick := fun_mk (st := s_Lpick) l_Lpick c_Lpick k_Lpick,
      mg_Lpick := PySem.W.mg_of X G g_Lpick,
      f_Lsame := a_Lsame,
      fd_Lsame := PySem.W.fnOf "_law_same" "_law_same" (defArgs s_Lsame) (defBody s_Lsame) (defScope s_Lsame) .none kV_Lsame dc_Lsame pm_Lsame an_Lsame cd_Lsame ct_Lsame,
      F_Lsame := fun_mk (st := s_Lsame) l_Lsame c_Lsame k_Lsame,
      mg_Lsame := PySem.W.mg_of X G g_Lsame,
      f_Lstate := a_Lstate,
      fd_Lstate := PySem.W.fnOf "_law_state" "_law_state" (defArgs s_Lstate) (defBody s_Lstate) (defScope s_Lstate) .none kV_Lstate dc_Lstate pm_Lstate an_Lstate cd_Lstate ct_Lstate,
      F_Lstate := fun_mk (st := s_Lstate) l_Lstate c_Lstate k_Lstate,
      mg_Lstate := PySem.W.mg_of X G g_Lstate,
      f_Lall := a_Lall,
      fd_Lall := PySem.W.fnOf "_law_all" "_law_all" (defArgs s_Lall) (defBody s_Lall) (defScope s_Lall) .none kV_Lall dc_Lall pm_Lall an_Lall cd_Lall ct_Lall,
      F_Lall := fun_mk (st := s_Lall) l_Lall c_Lall k_Lall,
      mg_Lall := PySem.W.mg_of X G g_Lall,
      f_Lcopy := a_Lcopy,
      fd_Lcopy := PySem.W.fnOf "_law_copy" "_law_copy" (defArgs s_Lcopy) (defBody s_Lcopy) (defScope s_Lcopy) .none kV_Lcopy dc_Lcopy pm_Lcopy an_Lcopy cd_Lcopy ct_Lcopy,
      F_Lcopy := fun_mk (st := s_Lcopy) l_Lcopy c_Lcopy k_Lcopy,
      mg_Lcopy := PySem.W.mg_of X G g_Lcopy,
      f_Lkind := a_Lkind,
      fd_Lkind := PySem.W.fnOf "_law_kind" "_law_kind" (defArgs s_Lkind) (defBody s_Lkind) (defScope s_Lkind) .none kV_Lkind dc_Lkind pm_Lkind an_Lkind cd_Lkind ct_Lkind,
      F_Lkind := fun_mk (st := s_Lkind) l_Lkind c_Lkind k_Lkind,
      mg_Lkind := PySem.W.mg_of X G g_Lkind,
      f_Lrows := a_Lrows,
      fd_Lrows := PySem.W.fnOf "_law_rows" "_law_rows" (defArgs s_Lrows) (defBody s_Lrows) (defScope s_Lrows) .none kV_Lrows dc_Lrows pm_Lrows an_Lrows cd_Lrows ct_Lrows,
      F_Lrows := fun_mk (st := s_Lrows) l_Lrows c_Lrows k_Lrows,
      mg_Lrows := PySem.W.mg_of X G g_Lrows,
      f_Lof_cells := a_Lof_cells,
      fd_Lof_cells := PySem.W.fnOf "_law_of_cells" "_law_of_cells" (defArgs s_Lof_cells) (defBody s_Lof_cells) (defScope s_Lof_cells) .none kV_Lof_cells dc_Lof_cells pm_Lof_cells an_Lof_cells cd_Lof_cells ct_Lof_cells,
      F_Lof_cells := fun_mk (st := s_Lof_cells) l_Lof_cells c_Lof_cells k_Lof_cells,
      mg_Lof_cells := PySem.W.mg_of X G g_Lof_cells,
      f_Lfresh := a_Lfresh,
      fd_Lfresh := PySem.W.fnOf "_law_fresh" "_law_fresh" (defArgs s_Lfresh) (defBody s_Lfresh) (defScope s_Lfresh) .none kV_Lfresh dc_Lfresh pm_Lfresh an_Lfresh cd_Lfresh ct_Lfresh,
      F_Lfresh := fun_mk (st := s_Lfresh) l_Lfresh c_Lfresh k_Lfresh,
      mg_Lfresh := PySem.W.mg_of X G g_Lfresh,
      f_Lplan_alone := a_Lplan_alone,
      fd_Lplan_alone := PySem.W.fnOf "_law_plan_alone" "_law_plan_alone" (defArgs s_Lplan_alone) (defBody s_Lplan_alone) (defScope s_Lplan_alone) .none kV_Lplan_alone dc_Lplan_alone pm_Lplan_alone an_Lplan_alone cd_Lplan_alone ct_Lplan_alone,
      F_Lplan_alone := fun_mk (st := s_Lplan_alone) l_Lplan_alone c_Lplan_alone k_Lplan_alone,
      mg_Lplan_alone := PySem.W.mg_of X G g_Lplan_alone,
      f_Llists := a_Llists,
      fd_Llists := PySem.W.fnOf "_law_lists" "_law_lists" (defArgs s_Llists) (defBody s_Llists) (defScope s_Llists) .none kV_Llists dc_Llists pm_Llists an_Llists cd_Llists ct_Llists,
      F_Llists := fun_mk (st := s_Llists) l_Llists c_Llists k_Llists,
      mg_Llists := PySem.W.mg_of X G g_Llists,
      f_Ltold_good := a_Ltold_good,
      fd_Ltold_good := PySem.W.fnOf "_law_told_good" "_law_told_good" (defArgs s_Ltold_good) (defBody s_Ltold_good) (defScope s_Ltold_good) .none kV_Ltold_good dc_Ltold_good pm_Ltold_good an_Ltold_good cd_Ltold_good ct_Ltold_good,
      F_Ltold_good := fun_mk (st := s_Ltold_good) l_Ltold_good c_Ltold_good k_Ltold_good,
      mg_Ltold_good := PySem.W.mg_of X G g_Ltold_good,
      f_Ltake := a_Ltake,
      fd_Ltake := PySem.W.fnOf "_law_take" "_law_take" (defArgs s_Ltake) (defBody s_Ltake) (defScope s_Ltake) .none kV_Ltake dc_Ltake pm_Ltake an_Ltake cd_Ltake ct_Ltake,
      F_Ltake := fun_mk (st := s_Ltake) l_Ltake c_Ltake k_Ltake,
      mg_Ltake := PySem.W.mg_of X G g_Ltake,
      f_Ldue_take := a_Ldue_take,
      fd_Ldue_take := PySem.W.fnOf "_law_due_take" "_law_due_take" (defArgs s_Ldue_take) (defBody s_Ldue_take) (defScope s_Ldue_take) .none kV_Ldue_take dc_Ldue_take pm_Ldue_take an_Ldue_take cd_Ldue_take ct_Ldue_take,
      F_Ldue_take := fun_mk (st := s_Ldue_take) l_Ldue_take c_Ldue_take k_Ldue_take,
      mg_Ldue_take := PySem.W.mg_of X G g_Ldue_take,
      f_Lgive := a_Lgive,
      fd_Lgive := PySem.W.fnOf "_law_give" "_law_give" (defArgs s_Lgive) (defBody s_Lgive) (defScope s_Lgive) .none kV_Lgive dc_Lgive pm_Lgive an_Lgive cd_Lgive ct_Lgive,
      F_Lgive := fun_mk (st := s_Lgive) l_Lgive c_Lgive k_Lgive,
      mg_Lgive := PySem.W.mg_of X G g_Lgive,
      f_Lput := a_Lput,
      fd_Lput := PySem.W.fnOf "_law_put" "_law_put" (defArgs s_Lput) (defBody s_Lput) (defScope s_Lput) .none kV_Lput dc_Lput pm_Lput an_Lput cd_Lput ct_Lput,
      F_Lput := fun_mk (st := s_Lput) l_Lput c_Lput k_Lput,
      mg_Lput := PySem.W.mg_of X G g_Lput,
      f_Ldeed_good := a_Ldeed_good,
      fd_Ldeed_good := PySem.W.fnOf "_law_deed_good" "_law_deed_good" (defArgs s_Ldeed_good) (defBody s_Ldeed_good) (defScope s_Ldeed_good) .none kV_Ldeed_good dc_Ldeed_good pm_Ldeed_good an_Ldeed_good cd_Ldeed_good ct_Ldeed_good,
      F_Ldeed_good := fun_mk (st := s_Ldeed_good) l_Ldeed_good c_Ldeed_good k_Ldeed_good,
      mg_Ldeed_good := PySem.W.mg_of X G g_Ldeed_good,
      f_law := a_law,
      fd_law := PySem.W.fnOf "law" "law" (defArgs s_law) (defBody s_law) (defScope s_law) .none kV_law dc_law pm_law an_law cd_law ct_law,
      F_law := fun_mk (st := s_law) l_law c_law k_law,
      mg_law := PySem.W.mg_of X G g_law,
      f_Plan___init__ := a_Plan___init__,
      fd_Plan___init__ := PySem.W.fnOf "__init__" "Plan.__init__" (defArgs s_Plan___init__) (defBody s_Plan___init__) (defScope s_Plan___init__) .none kV_Plan___init__ dc_Plan___init__ pm_Plan___init__ an_Plan___init__ cd_Plan___init__ ct_Plan___init__,
      F_Plan___init__ := fun_mk (st := s_Plan___init__) l_Plan___init__ c_Plan___init__ k_Plan___init__,
      f_Plan_map_place := a_Plan_map_place,
      fd_Plan_map_place := PySem.W.fnOf "map_place" "Plan.map_place" (defArgs s_Plan_map_place) (defBody s_Plan_map_place) (defScope s_Plan_map_place) .none kV_Plan_map_place dc_Plan_map_place pm_Plan_map_place an_Plan_map_place cd_Plan_map_place ct_Plan_map_place,
      F_Plan_map_place := fun_mk (st := s_Plan_map_place) l_Plan_map_place c_Plan_map_place k_Plan_map_place,
      f_Plan_node_block := a_Plan_node_block,
      fd_Plan_node_block := PySem.W.fnOf "node_block" "Plan.node_block" (defArgs s_Plan_node_block) (defBody s_Plan_node_block) (defScope s_Plan_node_block) .none kV_Plan_node_block dc_Plan_node_block pm_Plan_node_block an_Plan_node_block cd_Plan_node_block ct_Plan_node_block,
      F_Plan_node_block := fun_mk (st := s_Plan_node_block) l_Plan_node_block c_Plan_node_block k_Plan_node_block,
      f_Plan_data_blocks := a_Plan_data_blocks,
      fd_Plan_data_blocks := PySem.W.fnOf "data_blocks" "Plan.data_blocks" (defArgs s_Plan_data_blocks) (defBody s_Plan_data_blocks) (defScope s_Plan_data_blocks) .none kV_Plan_data_blocks dc_Plan_data_blocks pm_Plan_data_blocks an_Plan_data_blocks cd_Plan_data_blocks ct_Plan_data_blocks,
      F_Plan_data_blocks := fun_mk (st := s_Plan_data_blocks) l_Plan_data_blocks c_Plan_data_blocks k_Plan_data_blocks,
      f_Image___init__ := a_Image___init__,
      fd_Image___init__ := PySem.W.fnOf "__init__" "Image.__init__" (defArgs s_Image___init__) (defBody s_Image___init__) (defScope s_Image___init__) .none kV_Image___init__ dc_Image___init__ pm_Image___init__ an_Image___init__ cd_Image___init__ ct_Image___init__,
      F_Image___init__ := fun_mk (st := s_Image___init__) l_Image___init__ c_Image___init__ k_Image___init__,
      f_Image_begin := a_Image_begin,
      fd_Image_begin := PySem.W.fnOf "begin" "Image.begin" (defArgs s_Image_begin) (defBody s_Image_begin) (defScope s_Image_begin) .none kV_Image_begin dc_Image_begin pm_Image_begin an_Image_begin cd_Image_begin ct_Image_begin,
      F_Image_begin := fun_mk (st := s_Image_begin) l_Image_begin c_Image_begin k_Image_begin,
      f_Image_settle := a_Image_settle,
      fd_Image_settle := PySem.W.fnOf "settle" "Image.settle" (defArgs s_Image_settle) (defBody s_Image_settle) (defScope s_Image_settle) .none kV_Image_settle dc_Image_settle pm_Image_settle an_Image_settle cd_Image_settle ct_Image_settle,
      F_Image_settle := fun_mk (st := s_Image_settle) l_Image_settle c_Image_settle k_Image_settle,
      f_Image_twin := a_Image_twin,
      fd_Image_twin := PySem.W.fnOf "twin" "Image.twin" (defArgs s_Image_twin) (defBody s_Image_twin) (defScope s_Image_twin) .none kV_Image_twin dc_Image_twin pm_Image_twin an_Image_twin cd_Image_twin ct_Image_twin,
      F_Image_twin := fun_mk (st := s_Image_twin) l_Image_twin c_Image_twin k_Image_twin,
      f_Image_take := a_Image_take,
      fd_Image_take := PySem.W.fnOf "take" "Image.take" (defArgs s_Image_take) (defBody s_Image_take) (defScope s_Image_take) .none kV_Image_take dc_Image_take pm_Image_take an_Image_take cd_Image_take ct_Image_take,
      F_Image_take := fun_mk (st := s_Image_take) l_Image_take c_Image_take k_Image_take,
      f_Image_give := a_Image_give,
      fd_Image_give := PySem.W.fnOf "give" "Image.give" (defArgs s_Image_give) (defBody s_Image_give) (defScope s_Image_give) .none kV_Image_give dc_Image_give pm_Image_give an_Image_give cd_Image_give ct_Image_give,
      F_Image_give := fun_mk (st := s_Image_give) l_Image_give c_Image_give k_Image_give,
      f_Image__put_block := a_Image__put_block,
      fd_Image__put_block := PySem.W.fnOf "_put_block" "Image._put_block" (defArgs s_Image__put_block) (defBody s_Image__put_block) (defScope s_Image__put_block) .none kV_Image__put_block dc_Image__put_block pm_Image__put_block an_Image__put_block cd_Image__put_block ct_Image__put_block,
      F_Image__put_block := fun_mk (st := s_Image__put_block) l_Image__put_block c_Image__put_block k_Image__put_block,
      f_Image_free_blocks := a_Image_free_blocks,
      fd_Image_free_blocks := PySem.W.fnOf "free_blocks" "Image.free_blocks" (defArgs s_Image_free_blocks) (defBody s_Image_free_blocks) (defScope s_Image_free_blocks) .none kV_Image_free_blocks dc_Image_free_blocks pm_Image_free_blocks an_Image_free_blocks cd_Image_free_blocks ct_Image_free_blocks,
      F_Image_free_blocks := fun_mk (st := s_Image_free_blocks) l_Image_free_blocks c_Image_free_blocks k_Image_free_blocks,
      f_Image_kind := a_Image_kind,
      fd_Image_kind := PySem.W.fnOf "kind" "Image.kind" (defArgs s_Image_kind) (defBody s_Image_kind) (defScope s_Image_kind) .none kV_Image_kind dc_Image_kind pm_Image_kind an_Image_kind cd_Image_kind ct_Image_kind,
      F_Image_kind := fun_mk (st := s_Image_kind) l_Image_kind c_Image_kind k_Image_kind,
      f_Image_identity := a_Image_identity,
      fd_Image_identity := PySem.W.fnOf "identity" "Image.identity" (defArgs s_Image_identity) (defBody s_Image_identity) (defScope s_Image_identity) .none kV_Image_identity dc_Image_identity pm_Image_identity an_Image_identity cd_Image_identity ct_Image_identity,
      F_Image_identity := fun_mk (st := s_Image_identity) l_Image_identity c_Image_identity k_Image_identity,
      f_Image_fresh := a_Image_fresh,
      fd_Image_fresh := PySem.W.fnOf "fresh" "Image.fresh" (defArgs s_Image_fresh) (defBody s_Image_fresh) (defScope s_Image_fresh) .none kV_Image_fresh dc_Image_fresh pm_Image_fresh an_Image_fresh cd_Image_fresh ct_Image_fresh,
      F_Image_fresh := fun_mk (st := s_Image_fresh) l_Image_fresh c_Image_fresh k_Image_fresh,
      f_Image_of_cells := a_Image_of_cells,
      fd_Image_of_cells := PySem.W.fnOf "of_cells" "Image.of_cells" (defArgs s_Image_of_cells) (defBody s_Image_of_cells) (defScope s_Image_of_cells) .none kV_Image_of_cells dc_Image_of_cells pm_Image_of_cells an_Image_of_cells cd_Image_of_cells ct_Image_of_cells,
      F_Image_of_cells := fun_mk (st := s_Image_of_cells) l_Image_of_cells c_Image_of_cells k_Image_of_cells,
      C_Plan := aC_Plan,
      mg_Plan := PySem.W.mg_of X G g_Plan,
      cl_Plan := ⟨pg_Plan, hd_Plan, po_Plan, sa_Plan⟩,
      na_Plan_blocks := n_Plan_blocks,
      na_Plan_nodes := n_Plan_nodes,
      na_Plan_slots := n_Plan_slots,
      na_Plan_maps := n_Plan_maps,
      na_Plan_first_node := n_Plan_first_node,
      na_Plan_first_data := n_Plan_first_data,
      mk_Plan := ⟨mk1_Plan, mk2_Plan, mk3_Plan, mk4_Plan⟩,
      mc_Plan := mcv_Plan,
      cr_Plan := ⟨rd_Plan, ga_Plan⟩,
      cv_Plan_WIDTH := ⟨_, v_Plan_WIDTH, ⟨_, rfl⟩⟩,
      cv_Plan_OWNERS := ⟨_, v_Plan_OWNERS, ⟨_, rfl⟩⟩,
      cv_Plan_FREE := ⟨_, v_Plan_FREE, ⟨_, rfl⟩⟩,
      cv_Plan_LOGGED := ⟨_, v_Plan_LOGGED, ⟨_, rfl⟩⟩,
      cv_Plan_PLAIN := ⟨_, v_Plan_PLAIN, ⟨_, rfl⟩⟩,
      con_Plan_WIDTH := ⟨_, o_Plan_WIDTH, ⟨_, rfl⟩, og_Plan_WIDTH, by decide +kernel⟩,
      C_Image := aC_Image,
      mg_Image := PySem.W.mg_of X G g_Image,
      cl_Image := ⟨pg_Image, hd_Image, po_Image, sa_Image⟩,
      na_Image_plan := n_Image_plan,
      na_Image_cells := n_Image_cells,
      na_Image_holdings := n_Image_holdings,
      na_Image_stamps := n_Image_stamps,
      na_Image_handles := n_Image_handles,
      na_Image_serial := n_Image_serial,
      na_Image_wish := n_Image_wish,
      na_Image_barred := n_Image_barred,
      mk_Image := ⟨mk1_Image, mk2_Image, mk3_Image, mk4_Image⟩,
      mc_Image := mcv_Image,
      cr_Image := ⟨rd_Image, ga_Image⟩,
      m_Plan_map_place := ⟨m1_Plan_map_place, m2_Plan_map_place, k_Plan_map_place⟩,
      m_Plan_node_block := ⟨m1_Plan_node_block, m2_Plan_node_block, k_Plan_node_block⟩,
      m_Plan_data_blocks := ⟨m1_Plan_data_blocks, m2_Plan_data_blocks, k_Plan_data_blocks⟩,
      m_Image_begin := ⟨m1_Image_begin, m2_Image_begin, k_Image_begin⟩,
      m_Image_settle := ⟨m1_Image_settle, m2_Image_settle, k_Image_settle⟩,
      m_Image_twin := ⟨m1_Image_twin, m2_Image_twin, k_Image_twin⟩,
      m_Image_take := ⟨m1_Image_take, m2_Image_take, k_Image_take⟩,
      m_Image_give := ⟨m1_Image_give, m2_Image_give, k_Image_give⟩,
      m_Image__put_block := ⟨m1_Image__put_block, m2_Image__put_block, k_Image__put_block⟩,
      m_Image_free_blocks := ⟨m1_Image_free_blocks, m2_Image_free_blocks, k_Image_free_blocks⟩,
      m_Image_kind := ⟨m1_Image_kind, m2_Image_kind, k_Image_kind⟩,
      m_Image_identity := ⟨m1_Image_identity, m2_Image_identity, k_Image_identity⟩,
      sm_Image_fresh := ⟨_, s1_Image_fresh, ⟨_, s2_Image_fresh⟩, k_Image_fresh⟩,
      sm_Image_of_cells := ⟨_, s1_Image_of_cells, ⟨_, s2_Image_of_cells⟩, k_Image_of_cells⟩,
      C_BlocksFull := aC_BlocksFull,
      mg_BlocksFull := PySem.W.mg_of X G g_BlocksFull,
      be_BlocksFull := be1_BlocksFull,
      te_BlocksFull := te1_BlocksFull,
      ie_BlocksFull := ie1_BlocksFull,
      xe_BlocksFull := xe1_BlocksFull,
      ke_BlocksFull := ke1_BlocksFull,
      ec_BlocksFull := ⟨ec1_BlocksFull, ec2_BlocksFull, be1_BlocksFull, ec4_BlocksFull, ec5_BlocksFull, ec6_BlocksFull, ec7_BlocksFull, ec8_BlocksFull⟩,
      C_OverQuota := aC_OverQuota,
      mg_OverQuota := PySem.W.mg_of X G g_OverQuota,
      be_OverQuota := be1_OverQuota,
      te_OverQuota := te1_OverQuota,
      ie_OverQuota := ie1_OverQuota,
      xe_OverQuota := xe1_OverQuota,
      ke_OverQuota := ke1_OverQuota,
      ec_OverQuota := ⟨ec1_OverQuota, ec2_OverQuota, be1_OverQuota, ec4_OverQuota, ec5_OverQuota, ec6_OverQuota, ec7_OverQuota, ec8_OverQuota⟩,
      sub_BlocksFull_BlocksFull := sb_BlocksFull_BlocksFull,
      sub_BlocksFull_OverQuota := sb_BlocksFull_OverQuota,
      sub_OverQuota_BlocksFull := sb_OverQuota_BlocksFull,
      sub_OverQuota_OverQuota := sb_OverQuota_OverQuota,
      c_SUMS_BLOCK := ⟨_, PySem.W.mg_of X G gc_SUMS_BLOCK⟩,
      c_ROOT := ⟨_, PySem.W.mg_of X G gc_ROOT⟩,
      c_KIND := ⟨_, PySem.W.mg_of X G gc_KIND⟩,
      c_LINKS := ⟨_, PySem.W.mg_of X G gc_LINKS⟩,
      c_MAKING := ⟨_, PySem.W.mg_of X G gc_MAKING⟩,
      c_FOLDER := ⟨_, PySem.W.mg_of X G gc_FOLDER⟩,
      c_LEAST_BLOCKS := ⟨_, PySem.W.mg_of X G gc_LEAST_BLOCKS⟩,
      c_MOST_BLOCKS := ⟨_, PySem.W.mg_of X G gc_MOST_BLOCKS⟩,
      c_LEAST_NODES := ⟨_, PySem.W.mg_of X G gc_LEAST_NODES⟩,
      c_MOST_NODES := ⟨_, PySem.W.mg_of X G gc_MOST_NODES⟩,
      c_MOST_SLOTS := ⟨_, PySem.W.mg_of X G gc_MOST_SLOTS⟩,
      c_LEAST_DATA := ⟨_, PySem.W.mg_of X G gc_LEAST_DATA⟩,
      c_FIRST_MAP := ⟨_, PySem.W.mg_of X G gc_FIRST_MAP⟩,
      b_abs := PySem.W.mg_none_of X G nb_abs,
      b_bool := PySem.W.mg_none_of X G nb_bool,
      b_dict := PySem.W.mg_none_of X G nb_dict,
      b_int := PySem.W.mg_none_of X G nb_int,
      b_isinstance := PySem.W.mg_none_of X G nb_isinstance,
      b_len := PySem.W.mg_none_of X G nb_len,
      b_list := PySem.W.mg_none_of X G nb_list,
      b_min := PySem.W.mg_none_of X G nb_min,
      b_range := PySem.W.mg_none_of X G nb_range,
      b_sorted := PySem.W.mg_none_of X G nb_sorted,
      b_str := PySem.W.mg_none_of X G nb_str,
      b_tuple := PySem.W.mg_none_of X G nb_tuple
    }⟩
end K78
open PySem PySem.W PyProof.Rows
set_option maxRecDepth 100000 in
set_option maxHeartbeats 0 in
theorem PySem.Challenge.cw_lotsandties_k78_images_of_cells_holds : PySem.Challenge.rw_lotsandties_k78_images_of_cells.Holds := by
  w_on; o_law; k_head; (case hw => w_witness2)
  k_fill
  refine L2.walk_of (l := PySem.Challenge.rw_lotsandties_k78_images_of_cells) (n := 63) (k := 7) (x := "_law_script") (CX := fun _ => L2.CX0) (sp := fun w => K78.sp_law _) rfl (by decide) rfl ⟨rfl, by decide, by decide⟩ (fun w h Y => PySem.W.kIn_of Y) ?F (fun _ _ a ns hl _ hS => ⟨a, ns, rfl, hS, hl, fun _ => rfl⟩) (fun _ _ _ _ _ h => h)
  case F =>
    intro w mg fa h KX G hmg
    refine K78.fin_F ?_ hmg
    refine' K78.all_mk (w := w) KX G ?l_Lfeed ?c_Lfeed ?k_Lfeed ?g_Lfeed ?l_Lpick ?c_Lpick ?k_Lpick ?g_Lpick ?l_Lsame ?c_Lsame ?k_Lsame ?g_Lsame ?l_Lstate ?c_Lstate ?k_Lstate ?g_Lstate ?l_Lall ?c_Lall ?k_Lall ?g_Lall ?l_Lcopy ?c_Lcopy ?k_Lcopy ?g_Lcopy ?l_Lkind ?c_Lkind ?k_Lkind ?g_Lkind ?l_Lrows ?c_Lrows ?k_Lrows ?g_Lrows ?l_Lof_cells ?c_Lof_cells ?k_Lof_cells ?g_Lof_cells ?l_Lfresh ?c_Lfresh ?k_Lfresh ?g_Lfresh ?l_Lplan_alone ?c_Lplan_alone ?k_Lplan_alone ?g_Lplan_alone ?l_Llists ?c_Llists ?k_Llists ?g_Llists ?l_Ltold_good ?c_Ltold_good ?k_Ltold_good ?g_Ltold_good ?l_Ltake ?c_Ltake ?k_Ltake ?g_Ltake ?l_Ldue_take ?c_Ldue_take ?k_Ldue_take ?g_Ldue_take ?l_Lgive ?c_Lgive ?k_Lgive ?g_Lgive ?l_Lput ?c_Lput ?k_Lput ?g_Lput ?l_Ldeed_good ?c_Ldeed_good ?k_Ldeed_good ?g_Ldeed_good ?l_law ?c_law ?k_law ?g_law ?l_Plan___init__ ?c_Plan___init__ ?k_Plan___init__ ?l_Plan_map_place ?c_Plan_map_place ?k_Plan_map_place ?l_Plan_node_block ?c_Plan_node_block ?k_Plan_node_block ?l_Plan_data_blocks ?c_Plan_data_blocks ?k_Plan_data_blocks ?l_Image___init__ ?c_Image___init__ ?k_Image___init__ ?l_Image_begin ?c_Image_begin ?k_Image_begin ?l_Image_settle ?c_Image_settle ?k_Image_settle ?l_Image_twin ?c_Image_twin ?k_Image_twin ?l_Image_take ?c_Image_take ?k_Image_take ?l_Image_give ?c_Image_give ?k_Image_give ?l_Image__put_block ?c_Image__put_block ?k_Image__put_block ?l_Image_free_blocks ?c_Image_free_blocks ?k_Image_free_blocks ?l_Image_kind ?c_Image_kind ?k_Image_kind ?l_Image_identity ?c_Image_identity ?k_Image_identity ?l_Image_fresh ?c_Image_fresh ?k_Image_fresh ?l_Image_of_cells ?c_Image_of_cells ?k_Image_of_cells ?g_Plan ?pg_Plan ?hd_Plan ?po_Plan ?sa_Plan ?n_Plan_blocks ?n_Plan_nodes ?n_Plan_slots ?n_Plan_maps ?n_Plan_first_node ?n_Plan_first_data ?mk1_Plan ?mk2_Plan ?mk3_Plan ?mk4_Plan ?tp_Plan ?rd_Plan ?ga_Plan ?v_Plan_WIDTH ?v_Plan_OWNERS ?v_Plan_FREE ?v_Plan_LOGGED ?v_Plan_PLAIN ?o_Plan_WIDTH ?og_Plan_WIDTH ?g_Image ?pg_Image ?hd_Image ?po_Image ?sa_Image ?n_Image_plan ?n_Image_cells ?n_Image_holdings ?n_Image_stamps ?n_Image_handles ?n_Image_serial ?n_Image_wish ?n_Image_barred ?mk1_Image ?mk2_Image ?mk3_Image ?mk4_Image ?tp_Image ?rd_Image ?ga_Image ?m1_Plan_map_place ?m2_Plan_map_place ?m1_Plan_node_block ?m2_Plan_node_block ?m1_Plan_data_blocks ?m2_Plan_data_blocks ?m1_Image_begin ?m2_Image_begin ?m1_Image_settle ?m2_Image_settle ?m1_Image_twin ?m2_Image_twin ?m1_Image_take ?m2_Image_take ?m1_Image_give ?m2_Image_give ?m1_Image__put_block ?m2_Image__put_block ?m1_Image_free_blocks ?m2_Image_free_blocks ?m1_Image_kind ?m2_Image_kind ?m1_Image_identity ?m2_Image_identity ?s1_Image_fresh ?s2_Image_fresh ?s1_Image_of_cells ?s2_Image_of_cells ?g_BlocksFull ?be1_BlocksFull ?te1_BlocksFull ?ie1_BlocksFull ?xe1_BlocksFull ?ke1_BlocksFull ?ec1_BlocksFull ?ec2_BlocksFull ?ec4_BlocksFull ?ec5_BlocksFull ?ec6_BlocksFull ?ec7_BlocksFull ?ec8_BlocksFull ?g_OverQuota ?be1_OverQuota ?te1_OverQuota ?ie1_OverQuota ?xe1_OverQuota ?ke1_OverQuota ?ec1_OverQuota ?ec2_OverQuota ?ec4_OverQuota ?ec5_OverQuota ?ec6_OverQuota ?ec7_OverQuota ?ec8_OverQuota ?sb_BlocksFull_BlocksFull ?sb_BlocksFull_OverQuota ?sb_OverQuota_BlocksFull ?sb_OverQuota_OverQuota ?gc_SUMS_BLOCK ?gc_ROOT ?gc_KIND ?gc_LINKS ?gc_MAKING ?gc_FOLDER ?gc_LEAST_BLOCKS ?gc_MOST_BLOCKS ?gc_LEAST_NODES ?gc_MOST_NODES ?gc_MOST_SLOTS ?gc_LEAST_DATA ?gc_FIRST_MAP ?nb_abs ?nb_bool ?nb_dict ?nb_int ?nb_isinstance ?nb_len ?nb_list ?nb_min ?nb_range ?nb_sorted ?nb_str ?nb_tuple
    (case g_Lfeed => k_is)
    (case g_Lpick => k_is)
    (case g_Lsame => k_is)
    (case g_Lstate => k_is)
    (case g_Lall => k_is)
    (case g_Lcopy => k_is)
    (case g_Lkind => k_is)
    (case g_Lrows => k_is)
    (case g_Lof_cells => k_is)
    (case g_Lfresh => k_is)
    (case g_Lplan_alone => k_is)
    (case g_Llists => k_is)
    (case g_Ltold_good => k_is)
    (case g_Ltake => k_is)
    (case g_Ldue_take => k_is)
    (case g_Lgive => k_is)
    (case g_Lput => k_is)
    (case g_Ldeed_good => k_is)
    (case g_law => k_is)
    (case g_Plan => k_is)
    (case g_Image => k_is)
    (case g_BlocksFull => k_is)
    (case g_OverQuota => k_is)
    (case tp_Plan => k_is)
    (case tp_Image => k_is)
    (case mk2_Plan => k_is)
    (case mk2_Image => k_is)
    (case m1_Plan_map_place => k_is)
    (case m1_Plan_node_block => k_is)
    (case m1_Plan_data_blocks => k_is)
    (case m1_Image_begin => k_is)
    (case m1_Image_settle => k_is)
    (case m1_Image_twin => k_is)
    (case m1_Image_take => k_is)
    (case m1_Image_give => k_is)
    (case m1_Image__put_block => k_is)
    (case m1_Image_free_blocks => k_is)
    (case m1_Image_kind => k_is)
    (case m1_Image_identity => k_is)
    (case s1_Image_fresh => k_is)
    (case s1_Image_of_cells => k_is)
    (case s2_Image_fresh => k_is)
    (case s2_Image_of_cells => k_is)
    (case l_Lfeed => k_is)
    (case c_Lfeed => k_is)
    (case k_Lfeed => k_is)
    (case l_Lpick => k_is)
    (case c_Lpick => k_is)
    (case k_Lpick => k_is)
    (case l_Lsame => k_is)
    (case c_Lsame => k_is)
    (case k_Lsame => k_is)
    (case l_Lstate => k_is)
    (case c_Lstate => k_is)
    (case k_Lstate => k_is)
    (case l_Lall => k_is)
    (case c_Lall => k_is)
    (case k_Lall => k_is)
    (case l_Lcopy => k_is)
    (case c_Lcopy => k_is)
    (case k_Lcopy => k_is)
    (case l_Lkind => k_is)
    (case c_Lkind => k_is)
    (case k_Lkind => k_is)
    (case l_Lrows => k_is)
    (case c_Lrows => k_is)
    (case k_Lrows => k_is)
    (case l_Lof_cells => k_is)
    (case c_Lof_cells => k_is)
    (case k_Lof_cells => k_is)
    (case l_Lfresh => k_is)
    (case c_Lfresh => k_is)
    (case k_Lfresh => k_is)
    (case l_Lplan_alone => k_is)
    (case c_Lplan_alone => k_is)
    (case k_Lplan_alone => k_is)
    (case l_Llists => k_is)
    (case c_Llists => k_is)
    (case k_Llists => k_is)
    (case l_Ltold_good => k_is)
    (case c_Ltold_good => k_is)
    (case k_Ltold_good => k_is)
    (case l_Ltake => k_is)
    (case c_Ltake => k_is)
    (case k_Ltake => k_is)
    (case l_Ldue_take => k_is)
    (case c_Ldue_take => k_is)
    (case k_Ldue_take => k_is)
    (case l_Lgive => k_is)
    (case c_Lgive => k_is)
    (case k_Lgive => k_is)
    (case l_Lput => k_is)
    (case c_Lput => k_is)
    (case k_Lput => k_is)
    (case l_Ldeed_good => k_is)
    (case c_Ldeed_good => k_is)
    (case k_Ldeed_good => k_is)
    (case l_law => k_is)
    (case c_law => k_is)
    (case k_law => k_is)
    (case l_Plan___init__ => k_is)
    (case c_Plan___init__ => k_is)
    (case k_Plan___init__ => k_is)
    (case l_Plan_map_place => k_is)
    (case c_Plan_map_place => k_is)
    (case k_Plan_map_place => k_is)
    (case l_Plan_node_block => k_is)
    (case c_Plan_node_block => k_is)
    (case k_Plan_node_block => k_is)
    (case l_Plan_data_blocks => k_is)
    (case c_Plan_data_blocks => k_is)
    (case k_Plan_data_blocks => k_is)
    (case l_Image___init__ => k_is)
    (case c_Image___init__ => k_is)
    (case k_Image___init__ => k_is)
    (case l_Image_begin => k_is)
    (case c_Image_begin => k_is)
    (case k_Image_begin => k_is)
    (case l_Image_settle => k_is)
    (case c_Image_settle => k_is)
    (case k_Image_settle => k_is)
    (case l_Image_twin => k_is)
    (case c_Image_twin => k_is)
    (case k_Image_twin => k_is)
    (case l_Image_take => k_is)
    (case c_Image_take => k_is)
    (case k_Image_take => k_is)
    (case l_Image_give => k_is)
    (case c_Image_give => k_is)
    (case k_Image_give => k_is)
    (case l_Image__put_block => k_is)
    (case c_Image__put_block => k_is)
    (case k_Image__put_block => k_is)
    (case l_Image_free_blocks => k_is)
    (case c_Image_free_blocks => k_is)
    (case k_Image_free_blocks => k_is)
    (case l_Image_kind => k_is)
    (case c_Image_kind => k_is)
    (case k_Image_kind => k_is)
    (case l_Image_identity => k_is)
    (case c_Image_identity => k_is)
    (case k_Image_identity => k_is)
    (case l_Image_fresh => k_is)
    (case c_Image_fresh => k_is)
    (case k_Image_fresh => k_is)
    (case l_Image_of_cells => k_is)
    (case c_Image_of_cells => k_is)
    (case k_Image_of_cells => k_is)
    (case pg_Plan => k_is)
    (case hd_Plan => k_is)
    (case po_Plan => k_is)
    (case sa_Plan => k_is)
    (case n_Plan_blocks => k_is)
    (case n_Plan_nodes => k_is)
    (case n_Plan_slots => k_is)
    (case n_Plan_maps => k_is)
    (case n_Plan_first_node => k_is)
    (case n_Plan_first_data => k_is)
    (case mk1_Plan => k_is)
    (case mk3_Plan => k_is)
    (case mk4_Plan => k_is)
    (case rd_Plan => k_is)
    (case ga_Plan => k_is)
    (case v_Plan_WIDTH => k_is)
    (case v_Plan_OWNERS => k_is)
    (case v_Plan_FREE => k_is)
    (case v_Plan_LOGGED => k_is)
    (case v_Plan_PLAIN => k_is)
    (case o_Plan_WIDTH => k_is)
    (case og_Plan_WIDTH => k_is)
    (case pg_Image => k_is)
    (case hd_Image => k_is)
    (case po_Image => k_is)
    (case sa_Image => k_is)
    (case n_Image_plan => k_is)
    (case n_Image_cells => k_is)
    (case n_Image_holdings => k_is)
    (case n_Image_stamps => k_is)
    (case n_Image_handles => k_is)
    (case n_Image_serial => k_is)
    (case n_Image_wish => k_is)
    (case n_Image_barred => k_is)
    (case mk1_Image => k_is)
    (case mk3_Image => k_is)
    (case mk4_Image => k_is)
    (case rd_Image => k_is)
    (case ga_Image => k_is)
    (case m2_Plan_map_place => k_is)
    (case m2_Plan_node_block => k_is)
    (case m2_Plan_data_blocks => k_is)
    (case m2_Image_begin => k_is)
    (case m2_Image_settle => k_is)
    (case m2_Image_twin => k_is)
    (case m2_Image_take => k_is)
    (case m2_Image_give => k_is)
    (case m2_Image__put_block => k_is)
    (case m2_Image_free_blocks => k_is)
    (case m2_Image_kind => k_is)
    (case m2_Image_identity => k_is)
    (case be1_BlocksFull => k_is)
    (case te1_BlocksFull => k_is)
    (case ie1_BlocksFull => k_is)
    (case xe1_BlocksFull => first | k_exc | k_is)
    (case ke1_BlocksFull => k_is)
    (case ec1_BlocksFull => k_is)
    (case ec2_BlocksFull => k_is)
    (case ec4_BlocksFull => k_is)
    (case ec5_BlocksFull => k_is)
    (case ec6_BlocksFull => k_is)
    (case ec7_BlocksFull => k_is)
    (case ec8_BlocksFull => k_is)
    (case be1_OverQuota => k_is)
    (case te1_OverQuota => k_is)
    (case ie1_OverQuota => k_is)
    (case xe1_OverQuota => first | k_exc | k_is)
    (case ke1_OverQuota => k_is)
    (case ec1_OverQuota => k_is)
    (case ec2_OverQuota => k_is)
    (case ec4_OverQuota => k_is)
    (case ec5_OverQuota => k_is)
    (case ec6_OverQuota => k_is)
    (case ec7_OverQuota => k_is)
    (case ec8_OverQuota => k_is)
    (case sb_BlocksFull_BlocksFull => first | rfl | k_is)
    (case sb_BlocksFull_OverQuota => first | rfl | k_is)
    (case sb_OverQuota_BlocksFull => first | rfl | k_is)
    (case sb_OverQuota_OverQuota => first | rfl | k_is)
    (case gc_SUMS_BLOCK => k_is)
    (case gc_ROOT => k_is)
    (case gc_KIND => k_is)
    (case gc_LINKS => k_is)
    (case gc_MAKING => k_is)
    (case gc_FOLDER => k_is)
    (case gc_LEAST_BLOCKS => k_is)
    (case gc_MOST_BLOCKS => k_is)
    (case gc_LEAST_NODES => k_is)
    (case gc_MOST_NODES => k_is)
    (case gc_MOST_SLOTS => k_is)
    (case gc_LEAST_DATA => k_is)
    (case gc_FIRST_MAP => k_is)
    (case nb_abs => k_is)
    (case nb_bool => k_is)
    (case nb_dict => k_is)
    (case nb_int => k_is)
    (case nb_isinstance => k_is)
    (case nb_len => k_is)
    (case nb_list => k_is)
    (case nb_min => k_is)
    (case nb_range => k_is)
    (case nb_sorted => k_is)
    (case nb_str => k_is)
    (case nb_tuple => k_is)
