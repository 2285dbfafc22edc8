import PyProof.Rows.All
import Wide.All
import OpenK.AllK
import Wide.FinOn
import HandS.ForMost
import HandS.IsInst
import HandS.Evl
import HandS.ClsMeth
import HandS.MakeKwOnly
import HandS.TryOnly
import HandS.TryMany
import HandS.Iter
import HandS.Property
import HandS.DictComp
import HandS.WordsDict
import HandS.ExcOwn
import HandS.ExcIs
import HandS.ExcCtx
import HandS.HotCalls
import HandS.WordsExc
import HandS.Conv
import HandS.FStr
import HandS.RaiseMore
import HandS.Style
import HandS.Small
import HandS.More
import HandS.Star
import KE.GoesMore
import HandS.Walk
import HandS.SetBool
import HandS.Strs
import HandS.SetFor
import HandS.SortInts
import HandS.SortRule
import HandS.HeadHook2
import KE.KOwnIter
import HandS.Iter
import HandS.IterVal
import HandS.Lambda
import HandS.RevTup
import HandS.Rev
import HandS.EndTab
import HandS.TupMul
import HandS.Zip
import HandS.Dict
import HandS.StrMore
import HandS.HeadHook4
import KE.KNestM
import HandS.AnyAll
import HandS.GenOver
import HandS.Deep
import HandS.ReplaceDef
import HandS.ReplaceLit
import HandS.Replace
import PySem.Challenge.RW_lotsandties_k52_one_letter
set_option Elab.async false
set_option linter.all false
set_option maxRecDepth 100000
set_option maxHeartbeats 4000000
namespace Rg
open PySem PySem.Spec PyProof.Rows L2
/-! ### heaps -/
theorem same_upd {H : Hp} {p : Addr} {o : HO} (h : H p = none) : Same H (upd H p o) := fun b x e => by
  rw [upd_ne (ne_of_none e h)]
  exact e
theorem upd_id {H : Hp} {p : Addr} {o : HO} (h : H p = some o) : upd H p o = H := by
  funext b
  by_cases e : b = p
  · rw [e, upd_same, h]
  · rw [upd_ne e]
theorem yes_ {σ : L2.St} {H : Hp} {A B : Hp → Prop} (h : A H) : tYes σ H fun b H3 => if b = true then A H3 else B H3 := by
  show if true = true then A H else B H
  rw [if_pos rfl]
  exact h
/-- what is free behind a store was free, and is another place -/
theorem un {H : Hp} {a b : Addr} {o : HO} (e : upd H a o b = none) : H b = none := by
  by_cases z : b = a
  · rw [z, upd_same] at e; cases e
  · rw [upd_ne z] at e; exact e
theorem unn {H : Hp} {a b : Addr} {o : HO} (e : upd H a o b = none) : b ≠ a := fun z => by
  rw [z, upd_same] at e; cases e
theorem unn' {H : Hp} {a b : Addr} {o : HO} (e : upd H a o b = none) : a ≠ b := fun z => unn e z.symm
theorem upd_comm {H : Hp} {p q : Addr} {o o' : HO} (h : p ≠ q) : upd (upd H p o) q o' = upd (upd H q o') p o := by
  funext b
  by_cases e : b = p
  · rw [e, upd_same, upd_ne h, upd_same]
  · by_cases e2 : b = q
    · rw [e2, upd_same, upd_ne h.symm, upd_same]
    · rw [upd_ne e2, upd_ne e, upd_ne e, upd_ne e2]
theorem upd_app {H : Hp} {p : Addr} {fs : List Int} {x : Int} : upd (upd H p (.lst (fs.map V.int))) p (.lst (fs.map V.int ++ [V.int x])) = upd H p (.lst ((fs ++ [x]).map V.int)) := by
  rw [upd_upd, List.map_append]
  rfl
/-- kept but for what stands at S -/
def Kp (S : List Addr) (H H' : Hp) : Prop := ∀ x o, H x = some o → x ∉ S → H' x = some o
theorem Kp.refl {S : List Addr} {H : Hp} : Kp S H H := fun _ _ e _ => e
theorem Kp.new {S : List Addr} {H H1 : Hp} {a : Addr} {o : HO} (k : Kp S H H1) (h : H1 a = none) : Kp S H (upd H1 a o) := fun x u e n => by
  rw [upd_ne (ne_of_none (k x u e n) h)]
  exact k x u e n
theorem Kp.own {S : List Addr} {H H1 : Hp} {a : Addr} {o : HO} (k : Kp S H H1) (h : a ∈ S) : Kp S H (upd H1 a o) := fun x u e n => by
  have z : x ≠ a := fun z => by rw [z] at n; exact n h
  rw [upd_ne z]
  exact k x u e n
theorem Kp.own1 {p : Addr} {H H1 : Hp} {o : HO} (k : Kp [p] H H1) : Kp [p] H (upd H1 p o) := k.own (by simp)
theorem Kp.trans {S : List Addr} {H H1 H2 : Hp} (a : Kp S H H1) (b : Kp S H1 H2) : Kp S H H2 := fun x o e n => b x o (a x o e n) n
theorem Kp.same {S : List Addr} {H H1 H2 : Hp} (a : Kp S H H1) (b : Same H1 H2) : Kp S H H2 := fun x o e n => b x o (a x o e n)
theorem Kp.of {S : List Addr} {H H1 : Hp} (b : Same H H1) : Kp S H H1 := fun x o e _ => b x o e
theorem Kp.mono {S S' : List Addr} {H H1 : Hp} (a : Kp S H H1) (h : ∀ x, x ∈ S → x ∈ S') : Kp S' H H1 := fun x o e n => a x o e fun z => n (h x z)
theorem Kp.free {S : List Addr} {H H1 : Hp} {x : Addr} (a : Kp S H H1) (n : x ∉ S) (h : H1 x = none) : H x = none := by
  cases q : H x with
  | none => rfl
  | some o => rw [a x o q n] at h; cases h
theorem Kp.at1 {p x : Addr} {H H' : Hp} {o : HO} (k : Kp [p] H H') (e : H x = some o) (n : x ≠ p) : H' x = some o := k x o e (by simp [n])
theorem Kp.ret {a : Addr} {S : List Addr} {H H' : Hp} {o : HO} (k : Kp (a :: S) H H') (h : H a = none) : Kp S H H' := fun x u e n => k x u e (by
  intro z
  rcases List.mem_cons.mp z with z | z
  · rw [z, h] at e; cases e
  · exact n z)
theorem own_f {H H' : Hp} {p : Addr} {o : HO} (h : upd H p o = H') : H' p = some o ∧ Kp [p] H H' ∧ ∀ x, H' x = none → H x = none ∧ x ≠ p := by
  subst h
  exact ⟨upd_same, Kp.refl.own1, fun x e => ⟨un e, unn e⟩⟩
theorem new_f {H H' : Hp} {a : Addr} {o : HO} (h : upd H a o = H') (n : H a = none) : H' a = some o ∧ Same H H' ∧ ∀ x, H' x = none → H x = none ∧ x ≠ a := by
  subst h
  exact ⟨upd_same, same_upd n, fun x e => ⟨un e, unn e⟩⟩
/-- a whole-number constant of the module -/
theorem pe_gc {X : Cx} {x : Str} {n : Int} {pos : Pos} (hm : ∃ t, X.mg x = some (.int n t)) (hg : Gl X x := by rfl) (hd : (x == ("__debug__" : Str)) = false := by decide) : PE X (.Name x pos) (tC (.int n)) :=
  let ⟨t, h⟩ := hm
  pe_glob hg h ⟨t, rfl⟩ hd
/-- a text constant of the module -/
theorem pe_gs {X : Cx} {x z : Str} {pos : Pos} (hm : ∃ t, X.mg x = some (.str z t)) (hg : Gl X x := by rfl) (hd : (x == ("__debug__" : Str)) = false := by decide) : PE X (.Name x pos) (tC (.str z)) :=
  let ⟨t, h⟩ := hm
  pe_glob hg h ⟨t, rfl⟩ hd
/-- C.f, C a class of the module, f a value of the class -/
theorem pe_cv {X : Cx} {x f : Str} {C : Addr} {mc : Value} {v : V} {p pos : Pos} (hm : X.mg x = some (.ref C)) (r : ClX.CRead X.K C mc) (k : ∃ u, ClX.CVal X.K C mc f v u) (hg : Gl X x := by rfl) (hd : (x == ("__debug__" : Str)) = false := by decide)
    (hb : attributeBase (.Name x p) f X.env (eval (.Name x p) X.env) = eval (.Name x p) X.env := by rfl) : PE X (.Attribute (.Name x p) f pos) (tC v) := by
  obtain ⟨u, k⟩ := k
  have := (ClX.pe_cval (pos := pos) (pe_glob (X := X) (x := x) (v := .ref C) (u := .ref C) (pos := p) hg hm rfl hd) hb)
  exact ⟨fun pins s σ H Q I h => this.run pins s σ H Q I ⟨C, mc, v, u, rfl, r, k, h⟩⟩
/-! ### the same rules with the written part named (inside a comprehension) -/
section
variable {X : Cx} {K : PySem.W.Frag}
def rListOf (K : PySem.W.Frag) : List V → Hp → VK → Prop := fun xs H Q => ∃ p ys, xs = [.ref p] ∧ (SqL K H p ys ∨ SqT K H p ys) ∧ ∀ l, H l = none → Q (.ref l) (upd H l (.lst ys))
theorem pe_listof {e : Expr} {te : TE} {p pos : Pos} (he : PE X e te) (hm : X.mg "list" = none) (hK : X.K = K := by rfl) (hg : Gl X "list" := by rfl) (hs : starEach [e] X.env = (false, eval e X.env) :: starEach [] X.env := by rfl) : PE X (.Call (.Name "list" p) [e] [] pos) (tCB (rListOf K) (tCons te tNil)) := by
  subst hK
  exact pe_callTy call_list_of hg hm (by decide +kernel) (pa_cons he pa_nil hs) (he := hs)
theorem pe_fldK {e : Expr} {f : Str} {pos : Pos} {ta : TE} (he : PE X e ta) (hb : attributeBase e f X.env (eval e X.env) = eval e X.env) (hK : X.K = K := by rfl) : PE X (.Attribute e f pos) (tFld K ta f) := by
  subst hK
  exact pe_fld he hb
theorem pe_ixK {a b : Expr} {pos : Pos} {ta tb : TE} (ha : PE X a ta) (hb : PE X b tb) (hs : PlainIx b) (hK : X.K = K := by rfl) : PE X (.Subscript a b pos) (tOp (rIxL K) ta tb) := by
  subst hK
  exact pe_ix ix_list ha hb hs
theorem pe_lenK {e : Expr} {te : TE} {p pos : Pos} (he : PE X e te) (hm : X.mg "len" = none) (hK : X.K = K := by rfl) (hg : Gl X "len" := by rfl) (hs : starEach [e] X.env = (false, eval e X.env) :: starEach [] X.env := by rfl) : PE X (.Call (.Name "len" p) [e] [] pos) (tCB (fun xs H Q => ∃ p ys, xs = [.ref p] ∧ (SqL K H p ys ∨ SqT K H p ys) ∧ Q (.int ys.length) H) (tCons te tNil)) := by
  subst hK
  exact pe_callB call_len_seq hg hm (by decide +kernel) (pa_cons he pa_nil hs) (he := hs)
end
/-! ### static methods, called off the class -/
structure SMet (K : PySem.W.Frag) (C : Addr) (mc : Value) (m : Str) (g : Addr) : Prop where
  ex : ∃ p, PySem.W.findCls K (.ref C) mc m = some (.get (.builtin "staticmethod.__get__") (.ref p) .none (.ref C)) ∧ (∃ rest, PySem.W.recIn K p "staticmethod" = some (.ref g :: rest)) ∧ PySem.W.keepIn K (.ref g) = true
/-- C.m(e, ..), C the class at C, m a static method -/
def tSMeth (sp : Sp) (dvs : List V) (E : XK) (t : TA) : TE := fun σ H Q => t σ H fun vs H2 => sp (vs ++ dvs) H2 Q E
section
variable {X : Cx} {CX : CXT} {k : Nat} {C g : Addr} {mc : Value} {sp : Sp} {E : XK} {x : Str} {e : Expr} {es : List Expr} {m : Str} {p pos apos : Pos} {t : TA} {pl : Sem Bool} {fd : FuncData} {ps : List Str} {ds : List Value} {dvs : List V}
theorem pe_smeth (hmx : X.mg x = some (.ref C)) (r : ClX.CRead X.K C mc) (c : SMet X.K C mc m g) (F : FnOk X.prog X.w X.K X.mg X.base CX k g fd ps sp) (hr : Room k X.A) (hb : Binds X.K fd ps ds) (hd : Vals dvs ds) (hx : Passes CX X E) (ha : PA X (e :: es) t) (hg : Gl X x := by rfl) (hdb : (x == ("__debug__" : Str)) = false := by decide)
    (hst : starEach (e :: es) X.env = (false, eval e X.env) :: starEach es X.env := by rfl) (hpl : (backTo pos (starEach es X.env)).any (·.1) = false := by rfl)
    (ht : eval (.Call (.Attribute (.Name x p) m apos) (e :: es) [] pos) X.env = (do
      let ov ← eval (.Name x p) X.env
      standAt apos.atName
      let (f, first) ← holding [ov] (getMethod ov m pl)
      callWith pos f first (backTo pos (starEach (e :: es) X.env)) (backToKw pos (keywordEach [] X.env))) := by rfl) :
    PE X (.Call (.Attribute (.Name x p) m apos) (e :: es) [] pos) (tSMeth sp dvs E t) := by
  obtain ⟨q, at_, ⟨rest, hp⟩, hk⟩ := c.ex
  refine ⟨fun pins s σ H Q I h => ?_⟩
  refine PySem.W.methodCall_KW (pl := pl) (ld_glob I hg hmx ?_ hdb) ht
  refine PySem.W.method_cls I.kIn r.ga (PySem.W.cls_bind I.kIn r.rd at_ ?_)
  refine wpAny_call (PySem.W.sm_get (s := { s with toks := s.toks + 1 }) I.kIn hp (PySem.W.handed_on rfl ?_))
  refine PySem.W.callWith_K (f := .ref g) (first := []) (h₀ := X.base) I.ok.mod.kin hk (thn (ha.run pos pins _ σ H _ (I.tok _) h) fun us s1 ⟨vs, H1, I1, r1, q1⟩ => ⟨I1.kIn, ?_⟩) hst hpl
  exact run_fn F hr hb hd hx I1 r1 q1
end
/-! ### errors -/
theorem exm_sub {K : PySem.W.Frag} {D S : Addr} (h1 : PySem.W.subIn K (.ref S) (.type "BaseException") = some true) (h2 : PySem.W.isClsIn K S = true) (h3 : PySem.W.typeIn K (.ref S) = some (.type "type")) (h4 : PySem.W.subIn K (.ref D) (.ref S) = some true) :
    PySem.W.exmOne K (.ref D) (.ref S) = some true := by
  have e1 : (PySem.W.subIn K (.ref S) (.type "BaseException") == some true) = true := by rw [h1] <;> rfl
  have e2 : ((PySem.W.clsIn K S).isSome && PySem.W.typeIn K (.ref S) == some (.type "type")) = true := by
    have h2' : (PySem.W.clsIn K S).isSome = true := h2
    rw [h2', h3] <;> rfl
  show (if (PySem.W.subIn K (.ref S) (.type "BaseException") == some true) = true then (if ((PySem.W.clsIn K S).isSome && PySem.W.typeIn K (.ref S) == some (.type "type")) = true then PySem.W.subIn K (.ref D) (.ref S) else none) else none) = some true
  rw [if_pos e1, if_pos e2]
  exact h4
theorem kit_sub {K : PySem.W.Frag} {D S : Addr} {b : Bool} (hne : D ≠ S) (h2 : PySem.W.isClsIn K S = true) (h3 : PySem.W.typeIn K (.ref S) = some (.type "type")) (h4 : PySem.W.subIn K (.ref D) (.ref S) = some b) :
    PySem.W.kitOne K (.ref D) (.ref S) = some b := by
  have e2 : ((PySem.W.clsIn K S).isSome && PySem.W.typeIn K (.ref S) == some (.type "type")) = true := by
    have h2' : (PySem.W.clsIn K S).isSome = true := h2
    rw [h2', h3] <;> rfl
  unfold PySem.W.kitOne
  rw [if_neg (by intro z; exact hne (Value.ref.inj (beq_iff_eq.mp z)))]
  show (if ((PySem.W.clsIn K S).isSome && PySem.W.typeIn K (.ref S) == some (.type "type")) = true then PySem.W.subIn K (.ref D) (.ref S) else none) = some b
  rw [if_pos e2]
  exact h4
/-- a suite that is come to by an error of the class at D alone (no fields of its own) -/
def tOnly (cls : Value) (d : Option Addr) (D : Addr) (t : TS) : TS := fun E σ H => cls = .ref D ∧ d = none ∧ t E σ H
theorem pss_only {X : Cx} {sts : List Stmt} {t : TS} {cls : Value} {d : Option Addr} {D : Addr} (h : cls = .ref D → d = none → PSs X sts t) : PSs X sts (tOnly cls d D t) :=
  ⟨fun pins s σ H E I hh => (h hh.1 hh.2.1).run pins s σ H E I hh.2.2⟩
theorem kit_self {K : PySem.W.Frag} {D : Addr} : PySem.W.kitOne K (.ref D) (.ref D) = some true := by
  unfold PySem.W.kitOne
  rw [if_pos (beq_self_eq_true _)]
theorem dec_iv (a d : Int) : decide (V.int a = V.int d) = decide (a = d) := by
  by_cases e : a = d
  · subst e; simp
  · rw [decide_eq_false e, decide_eq_false fun q => e (V.int.inj q)]
end Rg
namespace Rg
open PySem PySem.Spec PyProof.Rows L2
/-! ### tests that are known -/
theorem wT {c A B : Prop} [Decidable c] (h : c) (a : A) : if decide c = true then A else B := by rw [decide_eq_true h, if_pos rfl]; exact a
theorem wF {c A B : Prop} [Decidable c] (h : ¬ c) (a : B) : if decide c = true then A else B := by rw [decide_eq_false h, if_neg Bool.false_ne_true]; exact a
theorem wTv {a b : Int} {A B : Prop} (h : a = b) (k : A) : if decide (V.int a = V.int b) = true then A else B := wT (by rw [h]) k
theorem wFv {a b : Int} {A B : Prop} (h : ¬ a = b) (k : B) : if decide (V.int a = V.int b) = true then A else B := wF (fun z => h (V.int.inj z)) k
theorem wI {a b : Int} {A B : Prop} (h1 : a = b → A) (h2 : ¬ a = b → B) : if decide (V.int a = V.int b) = true then A else B := by
  by_cases e : a = b
  · exact wTv e (h1 e)
  · exact wFv e (h2 e)
theorem wD {c A B : Prop} [Decidable c] (h1 : c → A) (h2 : ¬ c → B) : if decide c = true then A else B := by
  by_cases e : c
  · exact wT e (h1 e)
  · exact wF e (h2 e)
theorem wTn {c A B : Prop} [Decidable c] (h : ¬ c) (a : A) : if (!decide c) = true then A else B := by rw [decide_eq_false h]; exact iteT a
theorem wFn {c A B : Prop} [Decidable c] (h : c) (a : B) : if (!decide c) = true then A else B := by rw [decide_eq_true h]; exact iteF a
theorem wTb {b : Bool} {A B : Prop} (h : b = true) (a : A) : if b = true then A else B := by rw [if_pos h]; exact a
theorem wFb {b : Bool} {A B : Prop} (h : b = false) (a : B) : if b = true then A else B := by rw [if_neg (by rw [h]; decide)]; exact a
/-- what was free before may be written -/
theorem Kp.put {S : List Addr} {H H1 : Hp} {a : Addr} {o : HO} (k : Kp S H H1) (h : H a = none) : Kp S H (upd H1 a o) := fun x u e n => by
  rw [upd_ne (ne_of_none e h)]
  exact k x u e n
theorem wNT {a b : Int} {A B : Prop} (h : ¬ a = b) (k : A) : if (!decide (V.int a = V.int b)) = true then A else B := wTn (fun z => h (V.int.inj z)) k
theorem wNF {a b : Int} {A B : Prop} (h : a = b) (k : B) : if (!decide (V.int a = V.int b)) = true then A else B := wFn (by rw [h]) k
theorem wNe {a b : Int} {A B : Prop} (h1 : ¬ a = b → A) (h2 : a = b → B) : if (!decide (V.int a = V.int b)) = true then A else B := by
  by_cases e : a = b
  · exact wNF e (h2 e)
  · exact wNT e (h1 e)
theorem wND {c A B : Prop} [Decidable c] (h1 : ¬ c → A) (h2 : c → B) : if (!decide c) = true then A else B := by
  by_cases e : c
  · exact wFn e (h2 e)
  · exact wTn e (h1 e)
theorem CMul_l {i j : Int} (h : -(2 ^ 64) < i ∧ i < 2 ^ 64) : CMul i j := .inl h
theorem CMul_r {i j : Int} (h : -(2 ^ 64) < j ∧ j < 2 ^ 64) : CMul i j := .inr h
theorem lt_line {n : Nat} (h : n ≤ 10000) : n < sizeLine := Nat.lt_of_le_of_lt h (by decide)
/-- the slots written out -/
theorem sg {t : L2.St → Hp → Prop} {σ σ' : L2.St} {H : Hp} (e : σ = σ') (h : t σ' H) : t σ H := by rw [e]; exact h
theorem sgG {i : Nat} {v : V} {σ σ' : L2.St} {H : Hp} {k : L2.St → Hp → Prop} (e : σ.set i (some v) = σ') (h : k σ' H) : gName i v σ H k := by
  subst e
  exact h
end Rg
namespace Rg
open PySem PySem.Spec PyProof.Rows L2
/-! ### an error that a suite holds, handed to a def of one's own -/
section
variable {prog : Program} {w : World} {A : Around} {E : Value → Shared → Prop} {s : Shared}
/-- a walk over a list comes to its end while an error is handled -/
theorem list_end_hot {it l x1 : Addr} {i : Nat} {items} {Q : Option Value → Shared → Prop} (hot : HotX.HotAt A x1 s.heap) (hit : s.heap.IsListIter it l i) (hl : s.heap.IsList l items) (hx : items[i]? = none)
    (hQ : ∀ h', Heap.ExtBut it s.heap h' → Q none { s with heap := h' }) : wpAny (model prog w) A (pyNext (.ref it)) Q E s := by
  obtain ⟨hh, o1, vs1, h1, d1, c1⟩ := hot; obtain ⟨o, ho, hc, hd⟩ := id hit
  obtain ⟨ol, hol, _, nl, hdl⟩ := hl; unfold pyNext
  have ni : it ≠ x1 := fun z => by
    rw [← z, ho] at h1
    cases h1
    rw [hd] at d1
    cases d1
    simp at c1
  refine wpAny_bind (wpAny_attempt (wpAny_callSpecial?_slot (name := Str.ofString "__next__") hit.typeIs slot_listiter_next (wpAny_call_entry slot_listiter_next hit.typeIs entry_listiter_next ?_ (args_listiter_next _))))
  refine (show wpAny _ _ (field (.ref it) 0 >>= _) _ _ s from ?_); refine wpAny_bind (wpAny_field ho hd (x := .ref l) rfl ?_)
  refine (show wpAny _ _ (if (Value.ref l == Value.none) = true then _ else _) _ _ s from ?_); rw [if_neg (show ¬ ((Value.ref l == Value.none) = true) from Bool.false_ne_true)]
  refine (show wpAny _ _ (field (.ref it) 1 >>= _) _ _ s from ?_); refine wpAny_bind (wpAny_field ho hd (x := .int i 0) rfl ?_)
  refine (show wpAny _ _ (seqItems? (.ref l) >>= _) _ _ s from ?_); refine wpAny_bind (wpAny_seqItems hol hdl ?_)
  simp only [Int.toNat_natCast, hx]; refine wpAny_bind (wpAny_rule (wpAny_bind (wpAny_setField ho hd (by simp) ?_)))
  refine (show wpAny _ _ (newExc (.type "StopIteration") [] >>= _) _ _ _ from ?_); refine wpAny_bind ?_
  simp only [newExc, newTuple]; refine wpAny_bind (wpAny_newObj_type ?_ (by size_fits))
  refine wpAny_bind (m := firstArgMember _ _) (wpAny_of_eq (a := Value.none) (by first | rfl | (simp only [firstArgMember]; rfl)) ?_); refine wpAny_newObj_type ?_ (by size_fits)
  have g1 : ∀ f : Obj → Obj, (s.heap.update it f).get? x1 = some o1 := fun f => by rw [Heap.get?_update_other _ _ ni]; exact h1
  refine HotX.raiseNew_hot ⟨hh, o1, vs1, Heap.get?_push_of_some _ (Heap.get?_push_of_some _ (g1 _)), d1, c1⟩ (Nat.ne_of_lt (Heap.lt_size (Heap.get?_push_of_some _ (g1 _)))) (Heap.get?_push_size _ rfl) rfl (by first | (simp; done) | (simp; omega) | (simp only [Array.size_append]; simp; omega)) ?_
  refine wpAny_bind (wpAny_isInstance (T := "StopIteration") (b := true) ⟨_, Heap.get?_update_self _ (Heap.get?_push_size _ rfl) rfl, rfl⟩ isSubtype_stop ?_); refine wpAny_pure (hQ _ fun b o' nb e => ?_)
  have e2 : ∀ f oo, ((s.heap.update it f).push oo).get? b = some o' := fun f oo => (Heap.SameBut.update ..).extBut.push _ b o' nb e
  rw [Heap.get?_update_other _ _ (Nat.ne_of_gt (Heap.lt_size (e2 _ _)))]; exact Heap.get?_push_of_some _ (e2 _ _)
end
/-- the turns of a walk over a list while an error is handled -/
theorem turn_listH {P : Program} {w : World} {K : PySem.W.Frag} {tg : Expr} (a it : Addr) : L2H.TurnH P w K tg (Itl K a) [it] it (fun i h => h.IsListIter it a i) where
  mem := by simp
  obj := fun i h st b hb => (turn_list (P := P) (w := w) (K := K) (tg := tg) a it).obj i h st b hb
  keep := fun i h h' st k => (turn_list (P := P) (w := w) (K := K) (tg := tg) a it).keep i h h' st k
  item := by
    intro X hP hw hK hc i pins s σ H E I hf st hg; subst hP hw hK
    obtain ⟨xs, x, hq, hx⟩ := hg; obtain ⟨its, rv, p, hz⟩ := I.list hq
    obtain ⟨u, hu, ru⟩ := rv.get hx; obtain ⟨f0, f1, f2, f3, f4, f5⟩ := hf it (by simp)
    refine wpAny_pyNext_list_item st p.isList (x := u) (by simpa using hu) fun h' st' sb => ?_
    have I1 : Inv X pins σ H { s with heap := h' } := I.turned (t' := s.toks) (fun b o hb e => (sb.2 b hb).trans e) f0 f1 f3 f4 f5
    obtain ⟨o, e, c, d⟩ := id st'
    exact ⟨u, rfl, go_of (s := { s with heap := h' }) e c d (by decide) ⟨x, H, I1, ru, ⟨rfl, fun ys hy => by rw [I.list_inj hy hq]; exact hx⟩, st', fun b hb => (hf b hb).1⟩⟩
  done := by
    intro X hP hw hK hc i pins s σ H E I hf st hg; subst hP hw hK
    obtain ⟨xs, hq, hx⟩ := hg; obtain ⟨its, rv, p, hz⟩ := I.list hq
    obtain ⟨f0, f1, f2, f3, f4, f5⟩ := hf it (by simp); obtain ⟨x1, hot⟩ := hc.at I
    have hl := rv.length
    exact list_end_hot hot st p.isList (by simp; omega) fun h' eb => ⟨rfl, I.turned (t' := s.toks) (fun b o hb e => eb b o hb e) f0 f1 f3 f4 f5⟩
  self := fun _ _ _ _ _ st h => wpAny_pyIter_listiter st h
theorem pi_listH {X : Cx} {tg l : Expr} {tl : TE} (hl : PE X l tl) : L2H.PIH X tg l (iList X.K tl) := by
  refine ⟨fun pins s σ H R I h => thn (hl.run pins s σ H _ I h) fun v s1 ⟨x, H1, I1, r1, q1⟩ => ?_⟩
  obtain ⟨a, e, ⟨xs, hq⟩, q⟩ := q1; subst e; cases r1
  obtain ⟨its, rv, p, hz⟩ := I1.list hq; refine wpAny_pyIter_list p.isList ?_
  refine ⟨s1.heap.objs.size, [s1.heap.objs.size], _, _, H1, rfl, I1.kept (t' := s1.toks) (fun b o e => Heap.get?_push_of_some _ e), turn_listH a _, ⟨_, Heap.get?_push_size _ rfl, rfl, rfl⟩, fun b hb => ?_, q⟩
  have e : b = s1.heap.objs.size := by simpa using hb
  subst e; exact I1.fpOk (Nat.le_refl _) (I1.hok.fresh (Nat.le_refl _))
/-- a def that is called with the error that a suite holds (of the class at D) and lets nothing out -/
structure FnE (P : Program) (w : World) (K : PySem.W.Frag) (mg : Str → Option Value) (base : Heap) (k : Nat) (f : Addr) (fd : FuncData) (ps : List Str) (D : Addr) (sp : Addr → Sp) : Prop where
  len : ∀ a vs H Q E, sp a vs H Q E → vs.length = ps.length
  run : ∀ (A : Around) (outer : List Env) (s : Shared) (H : Hp) (args : Args) (us : List Value) (vs : List V) (Q : VK) (E : XK) (p : Addr × Obj), L2H.RoomH k A → L2H.Hot1 A p → Zc (.ref D) none p.2 → L2H.PinOk outer H s p → Env0 P w K mg base A outer s H →
    BindsTo s fd args (ps.zip us) → Vals vs us → sp p.1 vs H Q E → codeAny (model P w) A (.call (.ref f) args) (CR CX0 outer P w H s Q E) s
section
variable {P : Program} {w : World} {K : PySem.W.Frag} {mg : Str → Option Value} {base : Heap}
theorem _root_.L2.Fun.okE {x qual : Str} {st : Stmt} {f D : Addr} {fd : FuncData} {N ps : List Str} {k : Nat} {sp : Addr → Sp} (F : Fun K x qual st f fd) (S : FnScope N ps (defScope st)) (len : ∀ a vs H Q E, sp a vs H Q E → vs.length = ps.length)
    (hbody : ∀ (cdv : Value) (A : Around) (outer : List Env) (s : Shared) (H : Hp) (vs : List V) (Q : VK) (E : XK) (p : Addr × Obj), L2H.Hot1 A p → Zc (.ref D) none p.2 → L2H.RoomH k (A.deeper (envOfC qual (defScope st) s.heap.objs.size f cdv)) → sp p.1 vs H Q E →
      ∃ t, PSs (L2H.cxH CX0 P w K mg base N qual (defScope st) f cdv A outer s H E p) (defBody st) t ∧ t { nx := fun _ H' => Q .non H', rt := Q } (L2.start N vs) H) : FnE P w K mg base (k + 1) f fd ps D sp := by
  obtain ⟨oc, od, kV, doc, pm, an, cdv, ct, osl, rfl, lk, hcd⟩ := F.ex
  refine ⟨len, fun A outer s H args us vs Q E p hr hot hz hpin e0 hb r hsp => ?_⟩
  have hl := len _ _ _ _ _ hsp; have KX : K.In s.heap := e0.mod.kin.keeps fun b o e => (e0.bs b o e).1
  have lim : s.heap.NoLimit := e0.mod.nolimit.keeps fun b o e => (e0.bs b o e).1; have bb := hb
  have hkind : ∀ y ∈ ps.zip us, (defScope st).names.lookup y.1 = some .local ∨ ((defScope st).names.lookup y.1 = some .cell ∧ ((cellsFrom (s.heap.objs.size + 1) (defScope st).names []).lookup y.1).isSome = true) := fun ⟨n, v⟩ hy =>
    (S.par n (List.of_mem_zip hy).1).elim .inl fun q => .inr ⟨q, PySem.W.cellsFrom_some _ _ _ (.inl q)⟩
  refine codeAny_call_function hr.depth (KX _ _ lk) rfl S.co S.gen rfl (PySem.W.codeRec_of KX hcd) (bb _ _ _ _ (wpAny_newFunctionEnv_cells S.kind hkind fun env he s1 x => ?_))
  subst he; refine ⟨lim.keeps x.toInCall.keep, codeAny_func ?_⟩
  obtain ⟨t, ht, hq⟩ := hbody cdv A outer s H vs Q E p hot hz (hr.deeper _) hsp
  have I := L2H.inv_startH (CX := CX0) (E := E) S hpin e0 hl r x
  refine wpAny_mono (ht.run [] s1 (L2.start N vs) H _ I hq) (fun fl s' hs => ?_) fun _ _ hs => hs
  cases fl with
  | ret u => exact hs.elim fun v ⟨σ', H', J, rv, q⟩ => ⟨v, H', J.os, J.bare, J.base, J.hok, rv, q⟩
  | next => exact hs.elim fun σ' ⟨H', J, q⟩ => ⟨V.non, H', J.os, J.bare, J.base, J.hok, rfl, q⟩
  | brk => exact hs.elim fun _ ⟨_, _, q⟩ => q.elim
  | cont => exact hs.elim fun _ ⟨_, _, q⟩ => q.elim
end
section
variable {X : Cx} {k : Nat} {f D : Addr} {fd : FuncData} {ps : List Str} {sp : Addr → Sp} {x : Str} {q pos : Pos} {e : Expr} {es : List Expr} {t : TA}
/-- f(e, ..), f a def for the error at a -/
def tCallE (sp : Addr → Sp) (a : Addr) (t : TA) : TE := fun σ H Q => t σ H fun vs H1 => sp a vs H1 Q E0
theorem pe_callE (F : FnE X.prog X.w X.K X.mg X.base k f fd ps D sp) (hr : L2H.RoomH k X.A) {p : Addr × Obj} (hot : L2H.Hot1 X.A p) (hz : Zc (.ref D) none p.2) (hp : p ∈ X.pn) (hg : Gl X x) (hm : X.mg x = some (.ref f)) (hk : PySem.W.keepIn X.K (.ref f) = true) (hb : Binds X.K fd ps [])
    (ha : PA X (e :: es) t) (hdb : (x == ("__debug__" : Str)) = false := by decide) (he : starEach (e :: es) X.env = (false, eval e X.env) :: starEach es X.env := by rfl) (hpl : (backTo pos (starEach es X.env)).any (·.1) = false := by rfl) :
    PE X (.Call (.Name x q) (e :: es) [] pos) (tCallE sp p.1 t) := by
  refine ⟨fun pins s σ H Q I h => wpAny_Call_Name_kw (ld_glob I hg hm ?_ hdb)⟩
  refine PySem.W.callWith_K (h₀ := X.base) I.ok.mod.kin hk (thn (ha.run pos pins s σ H _ I h) fun us s1 ⟨vs, H1, I1, r, q⟩ => ⟨I1.kIn, ?_⟩) he hpl
  have hl : us.length = ps.length := by rw [← r.length]; exact F.len _ _ _ _ _ q
  have b := hb s1 us I1.kIn (by rw [List.append_nil]; exact hl)
  rw [List.append_nil] at b
  have P1 := I1.pin p (List.mem_append_left _ hp)
  have hpin : L2H.PinOk X.stack H1 s1 p := ⟨P1.1, P1.2.1, fun hm' => (List.mem_cons.mp (I1.stkSub p.1 hm')).elim P1.2.2.1 P1.2.2.2.1, P1.2.2.2.2⟩
  refine wpAny_call (codeAny_mono (F.run X.A X.stack s1 H1 ⟨us, []⟩ us vs Q E0 p hr hot hz hpin I1.env0 b r q) fun r' s' hq => ?_)
  cases r' with
  | error e => exact False.elim hq
  | ok fl =>
    cases fl with
    | ret u => exact I1.after hq
    | _ => exact False.elim hq
/-- isinstance of the error that is handled, in whatever def it is asked -/
theorem call_isP {a D : Addr} {oe : Obj} (C : ExcC X.K D) (hz : Zc (.ref D) none oe) (hf : ∃ vs, oe.data = .fields vs) (hp : (a, oe) ∈ X.pn) : CallR X (.builtin "isinstance") (rIsE X.K D a) := by
  rintro pins s σ H xs us Q I r ⟨c, cv, b, rfl, hcv, e, q⟩
  obtain ⟨vs, hv⟩ := hf
  cases r with
  | cons rx rr =>
    cases rr with
    | cons rt rr =>
      cases rr; cases rx
      have ec := hcv _ rt
      subst ec
      have hget := (I.pin (a, oe) (List.mem_append_left _ hp)).1
      have J : PySem.W.InstAt s.heap a oe D none := by
        obtain ⟨oc, od, oda, osl⟩ := oe
        obtain ⟨h1, h2⟩ := hz
        subst hv
        cases h1
        cases h2
        exact ⟨hget, rfl, rfl, trivial⟩
      exact PySem.W.kia_one (PySem.W.handS_kitx_exc C.hg C.hk C.hs C.hd C.ha C.hn C.ht C.hm) I.kIn J e (fun z => nomatch z) fun tk => ⟨.bl b, H, I.kept (t' := tk) fun _ _ z => z, rfl, q⟩
end
/-! ### defs that raise: the error's context is told to be None -/
section
variable {P : Program} {w : World} {K : PySem.W.Frag} {mg : Str → Option Value} {base : Heap}
theorem _root_.L2.Fun.okN {x qual : Str} {st : Stmt} {f : Addr} {fd : FuncData} {N ps : List Str} {k : Nat} {sp : Sp} (F : Fun K x qual st f fd) (S : FnScope N ps (defScope st)) (len : ∀ vs H Q E, sp vs H Q E → vs.length = ps.length)
    (hbody : ∀ (cdv : Value) (A : Around) (outer : List Env) (s : Shared) (H : Hp) (vs : List V) (Q : VK) (E : XK), Room k (A.deeper (envOfC qual (defScope st) s.heap.objs.size f cdv)) → sp vs H Q E →
      ∃ t, PSs (cxOf (L2N.CX P w) P w K mg base N qual (defScope st) f cdv A outer s H E) (defBody st) t ∧ t { nx := fun _ H' => Q .non H', rt := Q } (L2.start N vs) H) : FnOk P w K mg base (L2N.CX P w) (k + 1) f fd ps sp := by
  obtain ⟨oc, od, kV, doc, pm, an, cdv, ct, osl, rfl, lk, hcd⟩ := F.ex
  exact fn_of lk hcd S len fun A outer s H vs Q E hr hsp => hbody cdv A outer s H vs Q E hr hsp
theorem takes0N {X : Cx} : L2N.Takes X (fun _ _ _ _ => False) := fun _ _ x => by
  obtain ⟨_, _, _, _, _, _, _, _, _, _, _, _, _, _, _, _, z⟩ := x
  cases z
end
section
variable {X : Cx} {C : Addr} {bmB : List Value} {B newId initId : String}
/-- X(e) -/
theorem pmk_own1N {x : Str} {e : Expr} {ta : TE} {p pos : Pos} (F : ExcBaseFacts B newId initId bmB) (q : PySem.W.excIn X.K C bmB newId = true) (gC : X.mg x = some (.ref C)) (kC : PySem.W.keepIn X.K (.ref C) = true) (r : Raises X (.ref C)) (hg : Gl X x) (he : PE X e ta)
    (hs : starEach [e] X.env = (false, eval e X.env) :: starEach [] X.env := by rfl) (hdb : (x == ("__debug__" : Str)) = false := by decide) : L2N.PMk X (.Call (.Name x p) [e] [] pos) (fun σ H Q => ta σ H fun _ H1 => Q (.ref C) none H1) := by
  intro pins s σ H Q I h; refine wpAny_Call_Name_kw (ld_glob I hg gC ?_ hdb)
  refine PySem.W.callWith_K (h₀ := X.base) I.ok.mod.kin kC ?_ hs (by rfl); rw [hs]
  refine (show wpAny _ _ (spliced ((false, eval e X.env) :: backTo pos (starEach [] X.env))) _ _ s from ?_)
  refine Calls.spliced_cons (thn (he.run pins s σ H _ I h) fun u s1 ⟨v, H1, I1, r1, q1⟩ => Calls.spliced_nil ⟨I1.kIn, ?_⟩)
  refine (show wpAny _ _ (call (.ref C) [u]) _ _ _ from ?_)
  obtain ⟨bm, N, nm, qn, bs, hdct, sn, sub, ab, col, dd, k0, k1, k2, k3, k5, mN, hC, hN, hni, T⟩ := exc_obj I1.kIn q
  exact wpAny_call_exc_subT F T hC hN hni (fun h' e' hm => L2N.mk_of I1 hm r q1 (I1.hok.gone hm.new)) (by show 1 ≤ sizeLine; rw [sizeLine_eq]; omega)
end
/-! ### which class an error is of -/
theorem kit_subT {K : PySem.W.Frag} {D S : Addr} (h2 : PySem.W.isClsIn K S = true) (h3 : PySem.W.typeIn K (.ref S) = some (.type "type")) (h4 : PySem.W.subIn K (.ref D) (.ref S) = some true) : PySem.W.kitOne K (.ref D) (.ref S) = some true := by
  by_cases e : D = S
  · subst e
    exact kit_self
  · exact kit_sub e h2 h3 h4
theorem kit_blt {K : PySem.W.Frag} {D : Addr} {b : String} {r : Bool} (hm : PySem.W.kitMeta b = true) (h : PySem.W.subIn K (.ref D) (.type b) = some r) : PySem.W.kitOne K (.ref D) (.type b) = some r := by
  unfold PySem.W.kitOne
  rw [if_neg (by intro z; exact nomatch (beq_iff_eq.mp z))]
  unfold PySem.W.kitCls
  simpa [hm] using h
theorem takeB {α : Type} {l : List α} {i : Nat} {x : α} (h : l[i]? = some x) : l.take (i + 1) = l.take i ++ [x] := by
  rw [List.take_succ, h]
  rfl
/-! ### unpacking a tuple while an error is handled -/
section
variable {prog : Program} {w : World} {A : Around} {E : Value → Shared → Prop} {s : Shared}
theorem tup_end_hot {it l x1 : Addr} {i : Nat} {items} {Q : Option Value → Shared → Prop} (hot : HotX.HotAt A x1 s.heap) (hit : IsTupIter s.heap it l i) (hl : IsTup s.heap l items) (hx : items[i]? = none)
    (hQ : ∀ h', Heap.ExtBut it s.heap h' → Q none { s with heap := h' }) : wpAny (model prog w) A (pyNext (.ref it)) Q E s := by
  obtain ⟨hh, o1, vs1, h1, d1, c1⟩ := hot; obtain ⟨o, ho, hc, hd⟩ := id hit
  obtain ⟨ol, hol, _, nl, hdl⟩ := hl; unfold pyNext
  have ni : it ≠ x1 := fun z => by
    rw [← z, ho] at h1
    cases h1
    rw [hd] at d1
    cases d1
    simp at c1
  refine wpAny_bind (wpAny_attempt (wpAny_callSpecial?_slot (name := Str.ofString "__next__") hit.typeIs slot_tupleiter_next (wpAny_call_entry slot_tupleiter_next hit.typeIs entry_tupleiter_next ?_ (args_tupleiter_next _))))
  refine (show wpAny _ _ (field (.ref it) 0 >>= _) _ _ s from ?_); refine wpAny_bind (wpAny_field ho hd (x := .ref l) rfl ?_)
  refine (show wpAny _ _ (if (Value.ref l == Value.none) = true then _ else _) _ _ s from ?_); rw [if_neg (show ¬ ((Value.ref l == Value.none) = true) from Bool.false_ne_true)]
  refine (show wpAny _ _ (field (.ref it) 1 >>= _) _ _ s from ?_); refine wpAny_bind (wpAny_field ho hd (x := .int i 0) rfl ?_)
  refine (show wpAny _ _ (seqItems? (.ref l) >>= _) _ _ s from ?_); refine wpAny_bind (wpAny_seqItems hol hdl ?_)
  simp only [Int.toNat_natCast, hx]; refine wpAny_bind (wpAny_rule (wpAny_bind (wpAny_setField ho hd (by simp) ?_)))
  refine (show wpAny _ _ (newExc (.type "StopIteration") [] >>= _) _ _ _ from ?_); refine wpAny_bind ?_
  simp only [newExc, newTuple]; refine wpAny_bind (wpAny_newObj_type ?_ (by size_fits))
  refine wpAny_bind (m := firstArgMember _ _) (wpAny_of_eq (a := Value.none) (by first | rfl | (simp only [firstArgMember]; rfl)) ?_); refine wpAny_newObj_type ?_ (by size_fits)
  have g1 : ∀ f : Obj → Obj, (s.heap.update it f).get? x1 = some o1 := fun f => by rw [Heap.get?_update_other _ _ ni]; exact h1
  refine HotX.raiseNew_hot ⟨hh, o1, vs1, Heap.get?_push_of_some _ (Heap.get?_push_of_some _ (g1 _)), d1, c1⟩ (Nat.ne_of_lt (Heap.lt_size (Heap.get?_push_of_some _ (g1 _)))) (Heap.get?_push_size _ rfl) rfl (by first | (simp; done) | (simp; omega) | (simp only [Array.size_append]; simp; omega)) ?_
  refine wpAny_bind (wpAny_isInstance (T := "StopIteration") (b := true) ⟨_, Heap.get?_update_self _ (Heap.get?_push_size _ rfl) rfl, rfl⟩ isSubtype_stop ?_); refine wpAny_pure (hQ _ fun b o' nb e => ?_)
  have e2 : ∀ f oo, ((s.heap.update it f).push oo).get? b = some o' := fun f oo => (Heap.SameBut.update ..).extBut.push _ b o' nb e
  rw [Heap.get?_update_other _ _ (Nat.ne_of_gt (Heap.lt_size (e2 _ _)))]; exact Heap.get?_push_of_some _ (e2 _ _)
theorem unpack_hot {t x1 : Addr} {items : Array Value} {Q : List Value → Shared → Prop} (hot : HotX.HotAt A x1 s.heap) (ht : IsTup s.heap t items)
    (hQ : ∀ h', Heap.ExtBut s.heap.objs.size s.heap h' → Q items.toList { s with heap := h' }) : wpAny (model prog w) A (unpackItems (.ref t) items.size none) Q E s := by
  have hlt : t ≠ s.heap.objs.size := ht.elim fun o ho => Nat.ne_of_lt (Heap.lt_size ho.1)
  have hx : x1 ≠ s.heap.objs.size := hot.2.elim fun o ho => ho.elim fun _ h => Nat.ne_of_lt (Heap.lt_size h.1)
  unfold unpackItems notIterableAtAll; refine wpAny_bind (wpAny_bind (wpAny_specialOf ht.typeIs slot_tuple_iter.lookup (wpAny_pure ?_)))
  simp only [Bool.false_eq_true, if_false]; refine wpAny_bind (wpAny_holding (iter_tuple ht (wpAny_bind (wpAny_holding (draw_tuple hlt items.size 0 _ _ ⟨_, Heap.get?_push_size _ rfl, rfl, rfl⟩ (ht.push _) (by omega) fun h₁ hit₁ hs₁ => ?_)))))
  have hall : List.take items.size (List.drop 0 items.toList) = items.toList := by rw [List.drop_zero]; exact List.take_of_length_le (by simp)
  rw [hall, if_neg (by simp)]
  have ht₁ := (ht.push { cls := .type "tuple_iterator", data := .fields #[.ref t, .int 0 0] }).extBut hs₁.extBut hlt
  have hot₁ : HotX.HotAt A x1 h₁ := hot.2.elim fun o ho => ho.elim fun vv h => ⟨hot.1, o, vv, hs₁.extBut x1 o hx (Heap.get?_push_of_some _ h.1), h.2.1, h.2.2⟩
  refine wpAny_bind (wpAny_holding (tup_end_hot hot₁ hit₁ ht₁ (by simp) fun h₂ he₂ => ?_))
  simp only [Option.isSome_none, Bool.false_eq_true, if_false]; exact wpAny_pure (hQ h₂ fun b o hb e => he₂ b o hb (hs₁.extBut b o hb (Heap.get?_push_of_some _ e)))
end
/-- (a, b, ..) = a tuple, while an error is handled -/
theorem pg_tupH {X : Cx} {pos : Pos} {es : List Expr} {k : Nat} {t : TGs} {n : Nat} (hc : L2H.HotC X) (h : PGs X es t) (hn : (assignEach es X.env).length = n := by rfl) (hst : (assignEach es X.env).findIdx? (·.1) = none := by rfl) : PG X (.Tuple es k pos) (gTup X.K n t) := by
  refine ⟨fun pins s σ H v u Q I r hw => ?_⟩
  obtain ⟨a, xs, e1, hq, hl, hw⟩ := hw; subst e1; cases r
  obtain ⟨its, rv, ht, hz⟩ := I.tuple hq; obtain ⟨x1, hot⟩ := hc.at I
  rw [assign_Tuple]; refine wpAny_bind (wpAny_standAt ?_); unfold unpack
  rw [show (assignEach es X.env).length = its.toArray.size by simp [hn, ← hl, rv.length], hst]
  refine wpAny_bind (wpAny_holding (unpack_hot hot ht fun h' hx => ?_))
  have I1 : Inv X pins σ H { s with heap := h' } := I.kept (t' := s.toks) fun b o e => hx b o (Nat.ne_of_lt (Heap.lt_size e)) e
  exact h.run pins _ σ H xs _ Q I1 (by simpa using rv) hw
/-- a def that may raise, called where it does not -/
theorem passLN {X : Cx} : Passes (L2N.CX X.prog X.w) X E0 := fun _ _ _ _ _ _ _ h => by
  obtain ⟨_, _, _, _, _, _, _, _, _, _, _, _, z⟩ := h
  exact False.elim z
end Rg
namespace Rg
open PySem PySem.Spec PyProof.Rows L2
/-! ### enumerate(tuple) -/
open Sem (wp)
open AutoSeq1 (wpAny_loadPart')
theorem meets_enumerate_newT (l : Addr) (items : Array Value) (n : Nat) (dct : Option Addr) (sl : Array (Option Value)) :
    Meets (Builtin.«enumerate.__new__» ⟨[.type "enumerate", .ref l], []⟩) (fun _ R s => s.heap.get? l = some { cls := .type "tuple", dict := dct, data := .seq items n, slots := sl } ∧
      R (.ok (.ret (.ref (s.heap.push { cls := .type "tuple_iterator", data := .fields #[.ref l, .int 0 0] }).objs.size)))
        { s with heap := (s.heap.push { cls := .type "tuple_iterator", data := .fields #[.ref l, .int 0 0] }).push { cls := .type "enumerate", data := .fields #[.none, .bool false, .ref s.heap.objs.size, rawInt 0, .none, .none] } }) :=
  .of_wp fun prog w A R s h => by
    obtain ⟨hp, g, d, tk, os⟩ := s; obtain ⟨hl, h⟩ := h
    have hsub := sub_enumerate
    have hL : Heap.IsTuple (Shared.heap ⟨hp, g, d, tk, os⟩) l items := ⟨_, hl, rfl, n, rfl⟩
    wp_walk using wpAny_loadPart' hl
    refine wpAny_stack_any fun st => wpAny_pure ?_
    split
    · rename_i c _ _ _ _ _
      cases (c == Value.type "enumerate")
      · wp_walk using wpAny_loadPart' hl, wpAny_pyIter_tuple hL
        exact ⟨_, rfl, h⟩
      · wp_walk using wpAny_loadPart' hl, wpAny_pyIter_tuple hL
        exact ⟨_, rfl, h⟩
    · wp_walk using wpAny_loadPart' hl, wpAny_pyIter_tuple hL
      exact ⟨_, rfl, h⟩
section
variable {prog : Program} {w : World} {A : Around} {E : Value → Shared → Prop} {s : Shared}
theorem call_enumerate_tuple {l : Addr} {items : Array Value} {Q : Value → Shared → Prop} (hL : s.heap.IsTuple l items)
    (h : ∀ h', IsEnum h' (s.heap.objs.size + 1) s.heap.objs.size 0 .none → h'.IsTupleIter s.heap.objs.size l 0 → h'.objs.size = s.heap.objs.size + 2 →
      (∀ b o, s.heap.get? b = some o → h'.get? b = some o) → Q (.ref (s.heap.objs.size + 1)) { s with heap := h' }) :
    wpAny (model prog w) A (call (.type "enumerate") [.ref l]) Q E s := by
  obtain ⟨⟨c, dct, dt, sl⟩, hl, hc, n, hd⟩ := hL
  replace hc : c = .type "tuple" := hc
  replace hd : dt = .seq items n := hd
  subst hc hd
  refine callType_new F.called_enumerate (by decide) (F.typeCall_enumerate_1 _) (F.newCall_enumerate_1 _) (fun obj => F.args_object_init_2 obj _) F.entry_enumerate_new
    (meets_enumerate_newT l items n dct sl) ⟨hl, ?_⟩
  have hz : (s.heap.push { cls := .type "tuple_iterator", data := .fields #[.ref l, .int 0 0] }).objs.size = s.heap.objs.size + 1 := Heap.size_push ..
  show _ ∧ _
  rw [hz]
  have he : IsEnum ((s.heap.push { cls := .type "tuple_iterator", data := .fields #[.ref l, .int 0 0] }).push
      { cls := .type "enumerate", data := .fields #[.none, .bool false, .ref s.heap.objs.size, rawInt 0, .none, .none] }) (s.heap.objs.size + 1) s.heap.objs.size 0 .none := by
    have := Heap.get?_push_size (s.heap.push { cls := .type "tuple_iterator", data := .fields #[.ref l, .int 0 0] })
      (o := { cls := .type "enumerate", data := .fields #[.none, .bool false, .ref s.heap.objs.size, rawInt 0, .none, .none] }) rfl
    rw [hz] at this; exact this
  refine ⟨⟨_, he, rfl⟩, h _ he ⟨_, Heap.get?_push_of_some _ (Heap.get?_push_size _ rfl), rfl, rfl⟩ (by rw [Heap.size_push, hz]) fun b o x => Heap.get?_push_of_some _ (Heap.get?_push_of_some _ x)⟩
end
/-- the tuple at a as it stands at each turn, each item in a new pair -/
def IteT (K : PySem.W.Frag) (a : Addr) : It :=
  ⟨fun i H => ∃ (xs : List V) (x : V), SqT K H a xs ∧ xs[i]? = some x, fun i H v H' => ∃ T x, v = .ref T ∧ H T = none ∧ H' = upd H T (.tup [.int (i : Nat), x]) ∧ ∀ xs, SqT K H a xs → xs[i]? = some x, fun i H => ∃ xs : List V, SqT K H a xs ∧ xs.length ≤ i⟩
theorem turn_enumT {P : Program} {w : World} {K : PySem.W.Frag} {elts : List Expr} {kk : Nat} {tpos : Pos} (a e it : Addr) :
    Turn P w K (.Tuple elts kk tpos) (IteT K a) [e, it] e (fun i h => (∃ old, IsEnum h e it ((i : Nat) : Int) old) ∧ h.IsTupleIter it a i ∧ e ≠ it) where
  mem := by simp
  obj := fun i h st b hb => by
    obtain ⟨⟨old, he⟩, ⟨o, ho, hc, hd⟩, _⟩ := st
    have e' : b = e ∨ b = it := by simpa using hb
    rcases e' with z | z
    · rw [z]; exact ⟨_, he, fun v q => nomatch q⟩
    · rw [z]; exact ⟨o, ho, fun v q => by rw [hd] at q; cases q⟩
  keep := fun i h h' st k => let ⟨⟨old, he⟩, hi, hne⟩ := st; ⟨⟨old, k e (by simp) _ he⟩, hi.at fun o q => k it (by simp) o q, hne⟩
  item := by
    intro X hP hw hK hc i pins s σ H E I hf st hg
    subst hP hw hK
    obtain ⟨⟨old, he⟩, hit, hne⟩ := st
    obtain ⟨xs, x, hq, hx⟩ := hg
    obtain ⟨its, rv, p, hz⟩ := I.tuple hq
    obtain ⟨u, hu, ru⟩ := rv.get hx
    have hlt : i < its.toArray.size := by
      have := (List.getElem?_eq_some_iff.mp hu).1
      simpa using this
    have hel : e < s.heap.objs.size := Heap.lt_size he
    have hil : it < s.heap.objs.size := by obtain ⟨_, q, _⟩ := hit; exact Heap.lt_size q
    have hae : a ≠ e := fun z => by
      obtain ⟨o, ho, hc', _⟩ := p
      rw [z] at ho
      have := Option.some.inj (ho.symm.trans he)
      rw [this] at hc'
      have hc2 : Value.type "enumerate" = Value.type "tuple" := hc'
      exact absurd hc2 (by decide)
    have hai : a ≠ it := fun z => by
      obtain ⟨o, ho, hc', _⟩ := p
      obtain ⟨o2, ho2, hc2, _⟩ := hit
      rw [z] at ho
      have := Option.some.inj (ho.symm.trans ho2)
      rw [this, hc2] at hc'
      exact absurd hc' (by decide)
    refine wpAny_pyNext_enum_itemD (Draws.tuple (prog := X.prog) (w := X.w) (A := X.A.in1) (I.ok.hd hc) it a hai its.toArray) he ⟨hit, p⟩ hlt hne (by simp [hne, hae.symm]) fun y h' tk hy ho hit' hT hsz hk => ?_
    have ey : y = u := by
      have e1 : its.toArray[i]? = some u := by simpa using hu
      rw [e1] at hy
      exact (Option.some.inj hy).symm
    subst ey
    refine ⟨_, rfl, wpAny_letOwnedTupleGo_enum (s := { s with heap := h', toks := tk + 1 }) ho fun h'' he' sb => ?_⟩
    have hT2 : h''.get? s.heap.objs.size = some { cls := .type "tuple", data := .seq #[.int i tk, y] } := (sb.2 _ (Nat.ne_of_gt hel)).trans hT
    have new : ObjOk X.prog X.w (upd H s.heap.objs.size (.tup [.int (i : Nat), x])) h'' s.heap.objs.size (.tup [.int (i : Nat), x]) :=
      ⟨by show 2 ≤ sizeLine; decide, [.int i tk, y], .cons ⟨_, rfl⟩ (.cons ru .nil), ⟨_, hT2, rfl, _, rfl⟩⟩
    have I1 : Inv X pins σ (upd H s.heap.objs.size (.tup [.int (i : Nat), x])) { s with heap := h'', toks := tk + 1 } :=
      I.turnedNew (t' := tk + 1) (ch := [e, it]) (fun b ob hb q => (sb.2 b (fun z => hb (by simp [z]))).trans (hk b ob (fun z => hb (by simp [z])) (fun z => hb (by simp [z])) q)) hf (Nat.le_refl _) new
    refine ⟨.ref s.heap.objs.size, _, I1, rfl, ⟨_, x, rfl, I.hok.fresh (Nat.le_refl _), rfl, fun ys hy => by rw [I.tuple_inj hy hq]; exact hx⟩, ⟨⟨y, ?_⟩, hit'.1.at fun o q => (sb.2 it (Ne.symm hne)).trans q, hne⟩, fun b hb => ?_⟩
    · have e1 : ((i + 1 : Nat) : Int) = (i : Int) + 1 := by omega
      rw [e1]; exact he'
    · have hb' : b < s.heap.objs.size := by
        have e' : b = e ∨ b = it := by simpa using hb
        rcases e' with z | z
        · rw [z]; exact hel
        · rw [z]; exact hil
      rw [upd_ne (Nat.ne_of_lt hb')]
      exact (hf b hb).1
  done := by
    intro X hP hw hK hc i pins s σ H E I hf st hg
    subst hP hw hK
    obtain ⟨⟨old, he⟩, hit, hne⟩ := st
    obtain ⟨xs, hq, hx⟩ := hg
    obtain ⟨its, rv, p, hz⟩ := I.tuple hq
    obtain ⟨f0, f1, f2, f3, f4, f5⟩ := hf it (by simp)
    have hl := rv.length
    unfold pyNext
    have hT : s.TypeIs (.ref e) "enumerate" := ⟨_, he, rfl⟩
    refine wpAny_bind (wpAny_attempt (wpAny_callSpecial?_slot (name := Str.ofString "__next__") hT F.slot_enumerate_next
      (wpAny_call_entry F.slot_enumerate_next hT F.entry_enumerate_next ?_ (F.args_enumerate_next_1 _))))
    show wpAny _ _ (field (.ref e) 2 >>= _) _ _ _
    refine wpAny_bind (wpAny_field he rfl (x := .ref it) rfl ?_)
    refine wpAny_bind (wpAny_nextOf_tuple_end (I.ok.hd hc) hit p (by simp; omega) fun h' x he' hx' => ?_)
    obtain ⟨o, ho, hc'⟩ := hx'
    refine wpAny_bind (wpAny_isInstance (T := "StopIteration") (b := true) ⟨o, ho, hc'⟩ isSubtype_stop ?_)
    exact wpAny_pure ⟨rfl, I.turned (t' := s.toks) (fun b o hb q => he' b o hb q) f0 f1 f3 f4 f5⟩
  self := fun A i s Q E st h => let ⟨⟨_, he⟩, _⟩ := st; wpAny_pyIter_enum he h
theorem walk_enumT {K : PySem.W.Frag} {a : Addr} {xs : List V} : Walk (IteT K a) xs.length (fun H => SqT K H a xs) (YPair (fun i => some (.int (i : Nat))) (fun i => xs[i]?)) := by
  refine ⟨fun i _ hi q => ⟨xs, xs[i], q, by simp [hi]⟩, fun _ q => ⟨xs, q, Nat.le_refl _⟩, fun i H v H' _ q y => ?_⟩
  obtain ⟨T, x, h1, h2, h3, h4⟩ := y
  exact ⟨T, .int (i : Nat), x, h1, h2, h3, rfl, h4 xs q⟩
/-- over a list or a tuple, which stays as it is -/
def iEnumA (ta : TA) : TI := fun σ H R => ta σ H fun vs H1 => ∃ a xs, vs = [.ref a] ∧ (H1 a = some (.lst xs) ∨ H1 a = some (.tup xs)) ∧ ∀ J, Walk J xs.length (fun H' => H' a = H1 a) (YPair (fun i => some (.int (i : Nat))) (fun i => xs[i]?)) → R J H1
theorem pi_enumA {X : Cx} {e : Expr} {ta : TA} {p pos tpos : Pos} {elts : List Expr} {kk : Nat} (hg : Gl X "enumerate") (hm : X.mg "enumerate" = none) (ha : PA X [e] ta) (hs : starEach [e] X.env = [(false, eval e X.env)] := by rfl) :
    PI X (.Tuple elts kk tpos) (.Call (.Name "enumerate" p) [e] [] pos) (iEnumA ta) := by
  refine ⟨fun pins s σ H R I h => ?_⟩
  refine Call_ (ld_blt I hg hm boot_enumerate (PyProof.Rows.callWith_type1 (thn (ha.run pos pins s σ H _ I h) fun us s1 ⟨vs, H1, I1, r1, q1⟩ => ?_) hs rfl))
  obtain ⟨a, xs, ex, hw, q⟩ := q1
  subst ex
  cases r1 with
  | cons r rr =>
    cases rr
    cases r
    have fp : ∀ b, b = s1.heap.objs.size + 1 ∨ b = s1.heap.objs.size → FpOk X pins H1 b := fun b e' => by
      have hle : s1.heap.objs.size ≤ b := by
        rcases e' with z | z
        · rw [z]; exact Nat.le_add_right _ _
        · rw [z]; exact Nat.le_refl _
      exact I1.fpOk hle (I1.hok.fresh hle)
    rcases hw with hw | hw
    · have hq : SqL X.K H1 a xs := .of hw
      have q := q (Ite X.K a) (walk_enum.mono (fun H' e => .of (e.trans hw)) fun _ _ _ _ _ _ y => y)
      obtain ⟨its, rv, p', hz⟩ := I1.list hq
      refine call_enumerate_list p'.isList fun h' he hit hsz hk => wpAny_pyIter_enum he ?_
      have I2 : Inv X pins σ H1 { s1 with heap := h' } := I1.kept (t' := s1.toks) hk
      refine ⟨s1.heap.objs.size + 1, [s1.heap.objs.size + 1, s1.heap.objs.size], _, _, H1, rfl, I2, turn_enum a (s1.heap.objs.size + 1) s1.heap.objs.size, ⟨⟨.none, he⟩, hit, Nat.succ_ne_self _⟩, fun b hb => fp b (by simpa using hb), q⟩
    · have hq : SqT X.K H1 a xs := .of hw
      have q := q (IteT X.K a) (walk_enumT.mono (fun H' e => .of (e.trans hw)) fun _ _ _ _ _ _ y => y)
      obtain ⟨its, rv, p', hz⟩ := I1.tuple hq
      refine call_enumerate_tuple p' fun h' he hit hsz hk => wpAny_pyIter_enum he ?_
      have I2 : Inv X pins σ H1 { s1 with heap := h' } := I1.kept (t' := s1.toks) hk
      refine ⟨s1.heap.objs.size + 1, [s1.heap.objs.size + 1, s1.heap.objs.size], _, _, H1, rfl, I2, turn_enumT a (s1.heap.objs.size + 1) s1.heap.objs.size, ⟨⟨.none, he⟩, hit, Nat.succ_ne_self _⟩, fun b hb => fp b (by simpa using hb), q⟩
end Rg
namespace Rg
open PySem PySem.Spec PyProof.Rows L2
/-! ### tuples of the written part -/
def relAllS (vs : List V) (us : List Value) : Bool := He.relAll vs us && decide (us.length ≤ 1000)
theorem relAllS_ok {vs : List V} {us : Array Value} (h : relAllS vs us.toList = true) : Vals vs us.toList := He.relAll_ok (Bool.and_eq_true_iff.mp h).1
theorem relAllS_sz {vs : List V} {us : Array Value} (h : relAllS vs us.toList = true) : us.size ≤ sizeLine := by
  have := of_decide_eq_true (Bool.and_eq_true_iff.mp h).2
  rw [Array.length_toList] at this
  have : 1000 ≤ sizeLine := by decide
  omega
/-! ### own classes: x in o, o op u, for x in o -/
section
variable {X : Cx} {k : Nat} {f C : Addr} {fd : FuncData} {sp : Sp}
/-- x in o, by the class's own __contains__ -/
def rInOwn (C : Addr) (sp : Sp) (c : Bool → Bool) : R2 := fun x y H Q => ∃ a dx fs, y = .ref a ∧ H a = some (.ins C dx fs) ∧ sp [.ref a, x] H (fun v H1 => ∃ b, v = .bl b ∧ Q (.bl (c b)) H1) E0
theorem op_inOwn (hm : Meth X.K C "__contains__" f) (F : FnOk X.prog X.w X.K X.mg X.base CX0 k f fd ["self", "name"] sp) (hr : Room k X.A) (hb : Binds X.K fd ["self", "name"] []) : OpR X (compareOp .In) (rInOwn C sp fun b => b) := by
  intro pins s σ H x y v u Q I rx ry h
  obtain ⟨a, dx, fs, rfl, e, h⟩ := h
  obtain rfl : u = Value.ref a := ry
  obtain ⟨mA, O, _, _, _, _⟩ := ins_get I.hok e
  obtain ⟨od, at_, _⟩ := O.look
  obtain ⟨m, fr⟩ := I.fr
  refine PySem.W.in_K fr I.mod.kin at_ hm.at_ hm.fn ?_
  refine wpAny_mono (run_fn (us := [.ref a, v]) (vs := [.ref a, x]) F hr hb .nil pass0 I (.cons rfl (.cons rx .nil)) h) (fun r s' hq => ?_) fun _ _ z => z
  obtain ⟨z, H1, I1, rz, b, rfl, q⟩ := hq
  obtain rfl : r = Value.bool b := rz
  exact wpAny_truthy_bool ⟨.bl b, H1, I1, rfl, q⟩
theorem op_notInOwn (hm : Meth X.K C "__contains__" f) (F : FnOk X.prog X.w X.K X.mg X.base CX0 k f fd ["self", "name"] sp) (hr : Room k X.A) (hb : Binds X.K fd ["self", "name"] []) : OpR X (compareOp .NotIn) (rInOwn C sp fun b => !b) := by
  intro pins s σ H x y v u Q I rx ry h
  obtain ⟨a, dx, fs, rfl, e, h⟩ := h
  obtain rfl : u = Value.ref a := ry
  obtain ⟨mA, O, _, _, _, _⟩ := ins_get I.hok e
  obtain ⟨od, at_, _⟩ := O.look
  obtain ⟨m, fr⟩ := I.fr
  refine PySem.W.notIn_K fr I.mod.kin at_ hm.at_ hm.fn ?_
  refine wpAny_mono (run_fn (us := [.ref a, v]) (vs := [.ref a, x]) F hr hb .nil pass0 I (.cons rfl (.cons rx .nil)) h) (fun r s' hq => ?_) fun _ _ z => z
  obtain ⟨z, H1, I1, rz, b, rfl, q⟩ := hq
  obtain rfl : r = Value.bool b := rz
  exact wpAny_truthy_bool ⟨.bl (!b), H1, I1, rfl, q⟩
/-- o op u, both of the class C, by its own method -/
def rOpOwn (C : Addr) (sp : Sp) : R2 := fun x y H Q => ∃ a dx fs b dy gs, x = .ref a ∧ y = .ref b ∧ H a = some (.ins C dx fs) ∧ H b = some (.ins C dy gs) ∧ sp [.ref a, .ref b] H (fun v H1 => Q v H1) E0
theorem op_own {op : Operator} {ps : List Str} (hs : PySem.W.selfFirst X.K C = true) (hm : Meth X.K C (PySem.dunder op.info.2) f) (F : FnOk X.prog X.w X.K X.mg X.base CX0 k f fd ps sp) (hr : Room k X.A) (hb : Binds X.K fd ps []) : OpR X (binaryOp op) (rOpOwn C sp) := by
  intro pins s σ H x y v u Q I rx ry h
  obtain ⟨a, dx, fs, b, dy, gs, rfl, rfl, e, e', h⟩ := h
  obtain rfl : v = Value.ref a := rx
  obtain rfl : u = Value.ref b := ry
  obtain ⟨mA, O, _, _, _, _⟩ := ins_get I.hok e
  obtain ⟨od, at_, _⟩ := O.look
  obtain ⟨mB, O', _, _, _, _⟩ := ins_get I.hok e'
  obtain ⟨od', at', _⟩ := O'.look
  obtain ⟨m, fr⟩ := I.fr
  refine PySem.W.binop_K fr I.mod.kin at_ at'.type hs hm.at_ hm.fn ?_
  refine wpAny_mono (run_fn (us := [.ref a, .ref b]) (vs := [.ref a, .ref b]) F hr hb .nil pass0 I (.cons rfl (.cons rfl .nil)) h) (fun r s' hq => ?_) fun _ _ z => z
  obtain ⟨z, H1, I1, rz, q⟩ := hq
  cases z with
  | non => cases rz; exact ⟨.non, H1, I1, rfl, q⟩
  | bl b => cases rz; exact ⟨.bl b, H1, I1, rfl, q⟩
  | int i => obtain ⟨t, rfl⟩ := rz; exact ⟨.int i, H1, I1, ⟨t, rfl⟩, q⟩
  | str i => obtain ⟨t, rfl⟩ := rz; exact ⟨.str i, H1, I1, ⟨t, rfl⟩, q⟩
  | byt i => obtain ⟨t, rfl⟩ := rz; exact ⟨.byt i, H1, I1, ⟨t, rfl⟩, q⟩
  | flt i => obtain ⟨t, rfl⟩ := rz; exact ⟨.flt i, H1, I1, ⟨t, rfl⟩, q⟩
  | ref i => cases rz; exact ⟨.ref i, H1, I1, rfl, q⟩
  | ty i => cases rz; exact ⟨.ty i, H1, I1, rfl, q⟩
end
/-! ### iter(t), t a tuple; walks by an own __iter__ that hands it back -/
abbrev itT (l : Addr) : Obj := { cls := .type "tuple_iterator", data := .fields #[.ref l, .int 0 0] }
def ItTO (l it : Addr) : HO := .ext fun h => h.get? it = some (itT l)
theorem itTO_ok {P : Program} {w : World} {H : Hp} {h : Heap} {l it : Addr} (e : h.get? it = some (itT l)) : ObjOk P w H h it (ItTO l it) := ⟨e, ⟨_, e⟩, fun h1 h2 q k => k _ q⟩
theorem call_iter_tup {prog : Program} {w : World} {A : Around} {E : Value → Shared → Prop} {s : Shared} {l : Addr} {items : Array Value} {Q : Value → Shared → Prop} (hl : s.heap.IsTuple l items) (h : Q (.ref s.heap.objs.size) { s with heap := s.heap.push (itT l) }) : wpAny (model prog w) A (call (.builtin "iter") [.ref l]) Q E s := by
  refine Calls.call_function_entry (by decide +kernel) (by decide +kernel) PySem.W.kdk_entry_iter (PySem.W.kdk_args_iter _) ?_
  unfold Builtin.«iter»
  refine wpAny_bind (m := PySem.someArgs "iter" 1 2 _) (wpAny_of_eq (a := [Value.ref l]) (by first | rfl | kernel_rfl!) ?_)
  show wpAny _ _ (pyIter (.ref l) >>= _) _ _ _
  refine wpAny_bind (wpAny_pyIter_tuple hl ?_)
  exact wpAny_pure ⟨_, rfl, h⟩
def rIterT (K : PySem.W.Frag) (n : Nat) : List V → Hp → VK → Prop := fun xs H Q => ∃ (l : Addr) (zs : List V), xs = [.ref l] ∧ SqT K H l zs ∧ ∀ it, H it = none → n ≤ it → Q (.ref it) (upd H it (ItTO l it))
theorem call_iterT {X : Cx} : CallR X (.builtin "iter") (rIterT X.K X.s_0.heap.objs.size) := by
  intro pins s σ H xs us Q I r h
  obtain ⟨l, zs, rfl, hq, q⟩ := h
  obtain ⟨u, rfl, ru⟩ := vals1 r
  cases ru
  obtain ⟨its, rv, pl, hz⟩ := I.tuple hq
  refine call_iter_tup (show s.heap.IsTuple l its.toArray from pl) ?_
  exact ⟨.ref s.heap.objs.size, _, I.laid (t' := s.toks) (fun b u e => Heap.get?_push_of_some _ e) (Nat.le_refl _) (itTO_ok (Heap.get?_push_size _ rfl)), rfl, q _ (I.hok.fresh (Nat.le_refl _)) I.sz⟩
/-- a def whose promise knows how many objects there are at its entry -/
structure FnS (P : Program) (w : World) (K : PySem.W.Frag) (mg : Str → Option Value) (base : Heap) (k : Nat) (f : Addr) (fd : FuncData) (ps : List Str) (sp : Nat → Sp) : Prop where
  run : ∀ (A : Around) (outer : List Env) (s : Shared) (H : Hp) (args : Args) (us : List Value) (vs : List V) (Q : VK), Room k A → Env0 P w K mg base A outer s H → BindsTo s fd args (ps.zip us) → Vals vs us → sp s.heap.objs.size vs H Q E0 →
    codeAny (model P w) A (.call (.ref f) args) (CR CX0 outer P w H s Q E0) s
theorem _root_.L2.Fun.okS {P : Program} {w : World} {K : PySem.W.Frag} {mg : Str → Option Value} {base : Heap} {x qual : Str} {st : Stmt} {f : Addr} {fd : FuncData} {N ps : List Str} {k : Nat} {sp : Nat → Sp} (F : Fun K x qual st f fd) (S : FnScope N ps (defScope st)) (len : ∀ n vs H Q E, sp n vs H Q E → vs.length = ps.length)
    (hbody : ∀ (cdv : Value) (A : Around) (outer : List Env) (s : Shared) (H : Hp) (vs : List V) (Q : VK), Room k (A.deeper (envOfC qual (defScope st) s.heap.objs.size f cdv)) → sp s.heap.objs.size vs H Q E0 →
      ∃ t, PSs (cxOf CX0 P w K mg base N qual (defScope st) f cdv A outer s H E0) (defBody st) t ∧ t { nx := fun _ H' => Q .non H', rt := Q } (L2.start N vs) H) : FnS P w K mg base (k + 1) f fd ps sp := by
  obtain ⟨oc, od, kV, doc, pm, an, cdv, ct, osl, rfl, lk, hcd⟩ := F.ex
  exact ⟨fun A outer s H args us vs Q hr e0 hb r hsp => LamX.run_ofS lk hcd S hr e0 hb r (len _ _ _ _ _ hsp) fun hr' => hbody _ A outer s H vs Q hr' hsp⟩
/-- o walked: o's class at C has an own __iter__ that keeps sp and hands back a tuple's iterator -/
def iOwnT (K : PySem.W.Frag) (C : Addr) (sp : Nat → Sp) (te : TE) : TI := fun σ H R => te σ H fun x H1 => ∃ a dx fs, x = .ref a ∧ H1 a = some (.ins C dx fs) ∧
  ∀ n, sp n [.ref a] H1 (fun v H2 => ∃ it l xs, v = .ref it ∧ n ≤ it ∧ H2 it = some (ItTO l it) ∧ SqT K (ItX.dropH H2 it) l xs ∧ R (Itt K l) (ItX.dropH H2 it)) E0
theorem pi_ownT {X : Cx} {k : Nat} {f C : Addr} {fd : FuncData} {sp : Nat → Sp} {e tg : Expr} {te : TE} (hm : Meth X.K C "__iter__" f) (F : FnS X.prog X.w X.K X.mg X.base k f fd ["self"] sp) (hr : Room k X.A) (hb : Binds X.K fd ["self"] []) (he : PE X e te) : PI X tg e (iOwnT X.K C sp te) := by
  refine ⟨fun pins s σ H R I h => thn (he.run pins s σ H _ I h) fun v s1 ⟨x, H1, I1, r1, a, dx, fs, ex, ea, h⟩ => ?_⟩
  subst ex
  obtain rfl : v = Value.ref a := r1
  obtain ⟨mA, O, _, _, _, _⟩ := ins_get I1.hok ea
  obtain ⟨od, at_, _⟩ := O.look
  obtain ⟨m, fr⟩ := I1.fr
  refine PySem.W.owit_iter fr I1.mod.kin at_ hm.at_ hm.fn ?_
  refine wpAny_call (codeAny_mono (F.run X.A X.stack s1 H1 ⟨[.ref a], []⟩ [.ref a] [.ref a] _ hr I1.env0 (hb s1 [.ref a] I1.kIn rfl) (.cons rfl .nil) (h _)) fun r s2 hq => ?_)
  cases r with
  | error e => exact hq.elim
  | ok fl =>
    cases fl with
    | ret u =>
      obtain ⟨z, H2, os, bare, un, hok, rz, it, l, xs, rfl, young, hit, hl, hR⟩ := hq
      obtain rfl : u = Value.ref it := rz
      obtain ⟨hh, g, d, t, os'⟩ := s2
      obtain rfl : os' = s1.os := os
      have I2 : Inv X pins σ H2 ⟨hh, g, d, t, s1.os⟩ := I1.call (h' := hh) (g' := g) (d' := d) (t' := t) (ch := []) un hok bare (fun b z => absurd z (by simp))
      have I3 := ItX.inv_drop I2 hit
      have at3 : hh.get? it = some (itT l) := (I2.hok it _ hit).1
      unfold PySem.W.OwitIt
      have hst : hh.IsTupleIter it l 0 := ⟨_, at3, rfl, rfl⟩
      refine wpAny_specialOf (name := Str.ofString "__next__") (T := "tuple_iterator") (Heap.IsTupleIter.typeIs (s := ⟨hh, g, d, t, s1.os⟩) hst) PySem.F.slot_tuple_iterator_next.lookup ?_
      refine ⟨it, [it], _, Itt X.K l, _, rfl, I3, turn_tuple l it, hst, fun b hb => ?_, hR⟩
      have e : b = it := by simpa using hb
      subst e
      exact ItX.inv_fp I2 hit (Nat.le_trans I1.sz young)
    | next => exact False.elim hq
    | brk => exact False.elim hq
    | cont => exact False.elim hq
/-! ### a walk over a list or a tuple -/
def iSeq (K : PySem.W.Frag) (tl : TE) : TI := fun σ H R => tl σ H fun x H1 => ∃ a, x = .ref a ∧ (((∃ xs, SqL K H1 a xs) ∧ R (Itl K a) H1) ∨ ((∃ xs, SqT K H1 a xs) ∧ R (Itt K a) H1))
theorem pi_seq {X : Cx} {tg l : Expr} {tl : TE} (hl : PE X l tl) : PI X tg l (iSeq X.K tl) := by
  refine ⟨fun pins s σ H R I h => ?_⟩
  refine thn (hl.run pins s σ H _ I h) fun v s1 ⟨x, H1, I1, r1, q1⟩ => ?_
  obtain ⟨a, e, q⟩ := q1
  subst e
  cases r1
  rcases q with ⟨⟨xs, hq⟩, q⟩ | ⟨⟨xs, hq⟩, q⟩
  · obtain ⟨its, rv, p, hz⟩ := I1.list hq
    refine wpAny_pyIter_list p.isList ?_
    refine ⟨s1.heap.objs.size, [s1.heap.objs.size], _, _, H1, rfl, I1.kept (t' := s1.toks) fun b o e => Heap.get?_push_of_some _ e, turn_list a _, ⟨_, Heap.get?_push_size _ rfl, rfl, rfl⟩, fun b hb => ?_, q⟩
    have e : b = s1.heap.objs.size := by simpa using hb
    subst e
    exact I1.fpOk (Nat.le_refl _) (I1.hok.fresh (Nat.le_refl _))
  · obtain ⟨its, rv, p, hz⟩ := I1.tuple hq
    refine wpAny_pyIter_tuple (show s1.heap.IsTuple a its.toArray from p) ?_
    refine ⟨s1.heap.objs.size, [s1.heap.objs.size], _, _, H1, rfl, I1.kept (t' := s1.toks) fun b o e => Heap.get?_push_of_some _ e, turn_tuple a _, ⟨_, Heap.get?_push_size _ rfl, rfl, rfl⟩, fun b hb => ?_, q⟩
    have e : b = s1.heap.objs.size := by simpa using hb
    subst e
    exact I1.fpOk (Nat.le_refl _) (I1.hok.fresh (Nat.le_refl _))
/-! ### enumerate of a tuple that may be written -/
def iEnumT (K : PySem.W.Frag) (ta : TA) : TI := fun σ H R => ta σ H fun vs H1 => ∃ a xs, vs = [.ref a] ∧ SqT K H1 a xs ∧ R (IteT K a) H1
theorem pi_enumT {X : Cx} {e : Expr} {ta : TA} {p pos tpos : Pos} {elts : List Expr} {kk : Nat} (hg : Gl X "enumerate") (hm : X.mg "enumerate" = none) (ha : PA X [e] ta) (hs : starEach [e] X.env = [(false, eval e X.env)] := by rfl) :
    PI X (.Tuple elts kk tpos) (.Call (.Name "enumerate" p) [e] [] pos) (iEnumT X.K ta) := by
  refine ⟨fun pins s σ H R I h => ?_⟩
  refine Call_ (ld_blt I hg hm boot_enumerate (PyProof.Rows.callWith_type1 (thn (ha.run pos pins s σ H _ I h) fun us s1 ⟨vs, H1, I1, r1, q1⟩ => ?_) hs rfl))
  obtain ⟨a, xs, ex, hq, q⟩ := q1
  subst ex
  cases r1 with
  | cons r rr =>
    cases rr
    cases r
    have fp : ∀ b, b = s1.heap.objs.size + 1 ∨ b = s1.heap.objs.size → FpOk X pins H1 b := fun b e' => by
      have hle : s1.heap.objs.size ≤ b := by
        rcases e' with z | z
        · rw [z]; exact Nat.le_add_right _ _
        · rw [z]; exact Nat.le_refl _
      exact I1.fpOk hle (I1.hok.fresh hle)
    obtain ⟨its, rv, p', hz⟩ := I1.tuple hq
    refine call_enumerate_tuple p' fun h' he hit hsz hk => wpAny_pyIter_enum he ?_
    have I2 : Inv X pins σ H1 { s1 with heap := h' } := I1.kept (t' := s1.toks) hk
    refine ⟨s1.heap.objs.size + 1, [s1.heap.objs.size + 1, s1.heap.objs.size], _, _, H1, rfl, I2, turn_enumT a (s1.heap.objs.size + 1) s1.heap.objs.size, ⟨⟨.none, he⟩, hit, Nat.succ_ne_self _⟩, fun b hb => fp b (by simpa using hb), q⟩
/-! ### an object made, a static method called, where the body may raise -/
section
variable {X : Cx} {CX : CXT} {k : Nat} {f C g : Addr} {mc : Value} {fd : FuncData} {ps : List Str} {sp : Sp} {E : L2.St → XK} {x m : Str} {p pos apos : Pos} {e : Expr} {es : List Expr} {t : TA} {pl : Sem Bool}
theorem run_makeS {pins : List (Addr × Obj)} {σ : L2.St} {H : Hp} {s : Shared} {Q : VK} {us : List Value} {vs : List V} (M : Mk X.K C f) (F : FnOk X.prog X.w X.K X.mg X.base CX k f fd ps sp) (hr : Room (k + 1) X.A) (hb : Binds X.K fd ps []) (hx : PassesAt CX X σ (E σ)) (I : Inv X pins σ H s) (r : Vals vs us)
    (h : ∀ x dx, H x = none → H dx = none → dx ≠ x → sp (.ref x :: vs) (upd (upd H dx (.own x)) x (.ins C dx [])) (fun v H2 => v = .non ∧ Q (.ref x) H2) (E σ)) :
    wpAny (model X.prog X.w) X.A (call (.ref C) us) (EP X pins σ Q) X.xe s := by
  have hq := h (s.heap.objs.size + 1) s.heap.objs.size (I.hok.fresh (Nat.le_succ _)) (I.hok.fresh (Nat.le_refl _)) (Nat.ne_of_lt (Nat.lt_succ_self _))
  have I2 := Inv.made (C := C) I
  have r2 : Vals (V.ref (s.heap.objs.size + 1) :: vs) (Value.ref (s.heap.objs.size + 1) :: us) := .cons rfl r
  have hl : (Value.ref (s.heap.objs.size + 1) :: us).length = ps.length := by
    have e := r2.length
    rw [F.len _ _ _ _ hq] at e
    exact e.symm
  have b := hb _ (Value.ref (s.heap.objs.size + 1) :: us) I2.kIn (by rw [List.append_nil]; exact hl)
  rw [List.append_nil] at b
  refine wpAny_call (make_map (f := f) I.kIn M.makes M.init (beq_iff_eq.mp M.fn) (codeAny_mono (F.run _ X.stack _ _ ⟨Value.ref (s.heap.objs.size + 1) :: us, []⟩ (Value.ref (s.heap.objs.size + 1) :: us) _ _ (E σ) (hr.make C us [])
    (I2.env0.make C us []) b r2 hq) fun r s' hq' => ?_))
  cases r with
  | error e => exact hx pins _ _ e s' I2 hq'
  | ok fl =>
    cases fl with
    | ret u =>
      obtain ⟨v, H', I3, rv, ev, q3⟩ := I2.after hq'
      subst ev
      exact ⟨rv, ⟨V.ref (s.heap.objs.size + 1), H', I3, rfl, q3⟩⟩
    | next => exact False.elim hq'
    | brk => exact False.elim hq'
    | cont => exact False.elim hq'
def tMakeS (C : Addr) (sp : Sp) (E : L2.St → XK) (t : TA) : TE := fun σ H Q => t σ H fun vs H1 => ∀ x dx, H1 x = none → H1 dx = none → dx ≠ x → sp (.ref x :: vs) (upd (upd H1 dx (.own x)) x (.ins C dx [])) (fun v H2 => v = .non ∧ Q (.ref x) H2) (E σ)
theorem pe_makeS (M : Mk X.K C f) (F : FnOk X.prog X.w X.K X.mg X.base CX k f fd ps sp) (hr : Room (k + 1) X.A) (hg : Gl X x) (hm : X.mg x = some (.ref C)) (hb : Binds X.K fd ps []) (hx : ∀ σ, PassesAt CX X σ (E σ))
    (ha : PA X (e :: es) t) (hdb : (x == ("__debug__" : Str)) = false := by decide) (he : starEach (e :: es) X.env = (false, eval e X.env) :: starEach es X.env := by rfl) (hpl : (backTo pos (starEach es X.env)).any (·.1) = false := by rfl) :
    PE X (.Call (.Name x p) (e :: es) [] pos) (tMakeS C sp E t) := by
  refine ⟨fun pins s σ H Q I h => ?_⟩
  refine wpAny_Call_Name_kw (ld_glob I hg hm ?_ hdb)
  refine PySem.W.callWith_K (h₀ := X.base) I.ok.mod.kin M.kp (thn (ha.run pos pins s σ H _ I h) fun us s1 ⟨vs, H1, I1, r, q⟩ => ⟨I1.kIn, ?_⟩) he hpl
  exact run_makeS M F hr hb (hx σ) I1 r q
def tSMethS (sp : Sp) (E : L2.St → XK) (t : TA) : TE := fun σ H Q => t σ H fun vs H2 => sp vs H2 Q (E σ)
theorem pe_smethS (hmx : X.mg x = some (.ref C)) (r : ClX.CRead X.K C mc) (c : SMet X.K C mc m g) (F : FnOk X.prog X.w X.K X.mg X.base CX k g fd ps sp) (hr : Room k X.A) (hb : Binds X.K fd ps []) (hx : ∀ σ, PassesAt CX X σ (E σ)) (ha : PA X (e :: es) t) (hg : Gl X x := by rfl) (hdb : (x == ("__debug__" : Str)) = false := by decide)
    (hst : starEach (e :: es) X.env = (false, eval e X.env) :: starEach es X.env := by rfl) (hpl : (backTo pos (starEach es X.env)).any (·.1) = false := by rfl)
    (ht : eval (.Call (.Attribute (.Name x p) m apos) (e :: es) [] pos) X.env = (do
      let ov ← eval (.Name x p) X.env
      standAt apos.atName
      let (f, first) ← holding [ov] (getMethod ov m pl)
      callWith pos f first (backTo pos (starEach (e :: es) X.env)) (backToKw pos (keywordEach [] X.env))) := by rfl) :
    PE X (.Call (.Attribute (.Name x p) m apos) (e :: es) [] pos) (tSMethS sp E t) := by
  obtain ⟨q, at_, ⟨rest, hp⟩, hk⟩ := c.ex
  refine ⟨fun pins s σ H Q I h => ?_⟩
  refine PySem.W.methodCall_KW (pl := pl) (ld_glob I hg hmx ?_ hdb) ht
  refine PySem.W.method_cls I.kIn r.ga (PySem.W.cls_bind I.kIn r.rd at_ ?_)
  refine wpAny_call (PySem.W.sm_get (s := { s with toks := s.toks + 1 }) I.kIn hp (PySem.W.handed_on rfl ?_))
  refine PySem.W.callWith_K (f := .ref g) (first := []) (h₀ := X.base) I.ok.mod.kin hk (thn (ha.run pos pins _ σ H _ (I.tok _) h) fun us s1 ⟨vs, H1, I1, r1, q1⟩ => ⟨I1.kIn, ?_⟩) hst hpl
  exact run_fnS F hr hb (hx σ) I1 r1 q1
theorem pe_smeth0 (hmx : X.mg x = some (.ref C)) (r : ClX.CRead X.K C mc) (c : SMet X.K C mc m g) {E : XK} (F : FnOk X.prog X.w X.K X.mg X.base CX k g fd ps sp) (hr : Room k X.A) (hb : Binds X.K fd ps []) (hx : Passes CX X E) (hg : Gl X x := by rfl) (hdb : (x == ("__debug__" : Str)) = false := by decide)
    (ht : eval (.Call (.Attribute (.Name x p) m apos) [] [] pos) X.env = (do
      let ov ← eval (.Name x p) X.env
      standAt apos.atName
      let (f, first) ← holding [ov] (getMethod ov m pl)
      callWith pos f first (backTo pos (starEach [] X.env)) (backToKw pos (keywordEach [] X.env))) := by rfl) :
    PE X (.Call (.Attribute (.Name x p) m apos) [] [] pos) (fun σ H Q => sp [] H Q E) := by
  obtain ⟨q, at_, ⟨rest, hp⟩, hk⟩ := c.ex
  refine ⟨fun pins s σ H Q I h => ?_⟩
  refine PySem.W.methodCall_KW (pl := pl) (ld_glob I hg hmx ?_ hdb) ht
  refine PySem.W.method_cls I.kIn r.ga (PySem.W.cls_bind I.kIn r.rd at_ ?_)
  refine wpAny_call (PySem.W.sm_get (s := { s with toks := s.toks + 1 }) I.kIn hp (PySem.W.handed_on rfl ?_))
  exact PySem.W.callWith_K0 (first := []) (I.tok (s.toks + 1)).kIn hk (run_fn (us := []) (vs := []) F hr hb .nil hx (I.tok (s.toks + 1)) .nil h)
end
/-! ### isinstance(e, (c1, c2, ..)), e the exception that the suite holds -/
def rIsET (K : PySem.W.Frag) (D a : Addr) : List V → Hp → VK → Prop := fun xs H Q => ∃ (tp : Addr) (cs : List V) (us : List Value) (b : Bool), xs = [.ref a, .ref tp] ∧ H tp = some (.tup cs) ∧ Paired ClsV cs us ∧ PySem.W.kitAny K (.ref D) us = some b ∧ Q (.bl b) H
theorem call_isET {X : Cx} {a D : Addr} {oe : Obj} {pn : List (Addr × Obj)} (C : ExcC X.K D) (hz : Zc (.ref D) none oe) (hf : ∃ vs, oe.data = .fields vs) : CallR (X.suite a ((a, oe) :: pn)) (.builtin "isinstance") (rIsET X.K D a) := by
  intro pins s σ H xs us Q I r h
  obtain ⟨tp, cs, ws, b, rfl, hT, k, e, q⟩ := h
  cases r with
  | cons rx rr =>
    cases rr with
    | cons rt rr =>
      cases rr
      cases rx
      cases rt
      obtain ⟨hget, _⟩ := I.pin (a, oe) (List.mem_append.mpr (.inl List.mem_cons_self))
      obtain ⟨vs, hv⟩ := hf
      have J : PySem.W.InstAt s.heap a oe D none := by
        obtain ⟨oc, od, oda, osl⟩ := oe
        obtain ⟨h1, h2⟩ := hz
        dsimp only at h1 h2 hv
        subst h1 h2 hv
        exact ⟨hget, rfl, rfl, trivial⟩
      obtain ⟨_, its, rv, o, h1, h2, n, h3⟩ := (show ObjOk X.prog X.w H s.heap tp (.tup cs) from I.hok tp _ hT)
      have e3 := ClsV.all k rv
      subst e3
      obtain ⟨oc, od, dt, sl⟩ := o
      simp only at h2 h3
      subst h2 h3
      exact PySem.W.kia_tup (PySem.W.handS_kitx_exc C.hg C.hk C.hs C.hd C.ha C.hn C.ht C.hm) I.kIn J h1 e (fun z => nomatch z) fun tk => ⟨.bl b, H, I.kept (t' := tk) fun _ _ z => z, rfl, q⟩
end Rg
namespace Rg
open PySem PySem.Spec PyProof.Rows L2
theorem op_inK {X : Cx} {K : PySem.W.Frag} (hK : X.K = K := by rfl) : OpR X (compareOp .In) (rIn K false) := by
  subst hK
  exact op_in_seq
theorem pg_tupK {X : Cx} {K : PySem.W.Frag} {es : List Expr} {k n : Nat} {pos : Pos} {t : TGs} (hc : X.calm = true) (h : PGs X es t) (hn : (assignEach es X.env).length = n := by rfl) (hst : (assignEach es X.env).findIdx? (·.1) = none := by rfl) (hK : X.K = K := by rfl) : PG X (.Tuple es k pos) (gTup K n t) := by
  subst hK
  exact pg_tup hc h hn hst
def tTru (K : PySem.W.Frag) (ta : TE) : TT := fun σ H Q => ta σ H fun x H' => ∃ k, TruV K x H' k ∧ Q k H'
theorem pt_truthK {X : Cx} {K : PySem.W.Frag} {a : Expr} {ta : TE} (ha : PE X a ta) (he : ∀ whole, isTrue a X.env whole = (do let v ← whole; standAt a.pos; holding [v] (truthy v))) (hK : X.K = K := by rfl) : PT X a (tTru K ta) := by
  subst hK
  exact pt_truth ha he
theorem op_notInK {X : Cx} {K : PySem.W.Frag} (hK : X.K = K := by rfl) : OpR X (compareOp .NotIn) (rIn K true) := by
  subst hK
  exact op_notIn_seq
end Rg
namespace RT
open PySem PySem.Spec PyProof.Rows
open Builtin
section
variable {prog : Program} {w : World} {A : Around} {E : Value → Shared → Prop} {s : Shared}
theorem list_init_rev {R : Result → Shared → Prop} {it l S : Addr} {items : Array Value} (hh : A.handled = none) (hit : s.heap.IsRevIter it l ((items.size : Int) - 1)) (hl : s.heap.IsList l items) (hne : l ≠ it) (hn : items.size ≤ sizeLine) (hSi : S ≠ it) (hSl : S ≠ l)
    (hS : s.heap.get? S = some { cls := .type "list", data := .seq #[] })
    (hR : ∀ (h' : Heap) (tk : Nat) (acc' : Array Value) (c' : Nat), (∀ b o, b ≠ S → b ≠ it → s.heap.get? b = some o → h'.get? b = some o) → h'.get? S = some { cls := .type "list", dict := none, data := .seq acc' c', slots := #[] } → ItemsOf (fun i v => items[items.size - 1 - i]? = some v) acc' items.size → R (.ok (.ret .none)) { s with heap := h', toks := tk }) :
    wpAny (model prog w) A.in1 (Builtin.«list.__init__» ⟨[.ref S, .ref it], []⟩)
      (fun fin s' => match fin with | .done f => R (.ok f) s' | .again c' => c'.quiet = true ∧ codeAny (model prog w) A c' R s') (fun e s' => R (.error e) s') s := by
  have W := (Walks.listRev (prog := prog) (w := w) (A := A.in1) hh it l hne items).toS
  have hSf : S ∉ [it, l] := by simp only [List.mem_cons, List.not_mem_nil, or_false, not_or]; exact ⟨hSi, hSl⟩
  show wpAny _ A.in1 (do let old ← Builtin.List.listItems (.ref S); Builtin.List.listUpdate (.ref S) (fun _ => #[]); letGo old.toList.reverse; Builtin.List.listExtendWith (.ref S) (.ref it) .none) _ _ s
  refine wpAny_bind ?_
  unfold Builtin.List.listItems
  refine wpAny_bind (wpAny_seqItems hS rfl (wpAny_pure ?_))
  show wpAny _ A.in1 (updateSeq S (fun _ => #[]) >>= fun _ => letGo (#[] : Array Value).toList.reverse >>= fun _ => Builtin.List.listExtendWith (.ref S) (.ref it) .none) _ _ s
  refine wpAny_bind (wpAny_updateSeq hS rfl ?_)
  have hS₂ := Heap.get?_update_self (Obj.mapSeq (fun _ => (#[] : Array Value))) hS rfl
  have oth : ∀ b o, b ≠ S → s.heap.get? b = some o → (s.heap.update S (Obj.mapSeq (fun _ => (#[] : Array Value)))).get? b = some o :=
    fun b o hb e => (Heap.get?_update_other _ _ (Ne.symm hb)).trans e
  refine wpAny_bind (wpAny_letGo ?_)
  have hit1 : (s.heap.update S (Obj.mapSeq (fun _ => (#[] : Array Value)))).IsRevIter it l ((items.size : Int) - 1) := hit.at fun o e => oth _ _ (Ne.symm hSi) e
  obtain ⟨ol, hol, q1, q2⟩ := id hl
  have hl1 : (s.heap.update S (Obj.mapSeq (fun _ => (#[] : Array Value)))).IsList l items := ⟨ol, oth _ _ (Ne.symm hSl) hol, q1, q2⟩
  have hT : ({ s with heap := s.heap.update S (Obj.mapSeq (fun _ => (#[] : Array Value))) } : Shared).TypeIs (.ref it) "list_reverseiterator" := Heap.IsRevIter.typeIs (s := { s with heap := s.heap.update S (Obj.mapSeq (fun _ => (#[] : Array Value))) }) hit1
  have h1 : Builtin.List.listSameRef (.ref S) (.ref it) = false := by simp [Builtin.List.listSameRef, hSi]
  unfold Builtin.List.listExtendWith
  refine wpAny_bind (wpAny_typeOf hT ?_)
  rw [if_neg (by rw [h1]; decide)]
  refine wpAny_bind (wpAny_pyIter_revIter (s := { s with heap := s.heap.update S (Obj.mapSeq (fun _ => (#[] : Array Value))) }) hit1 ?_)
  refine wpAny_bind (wpAny_holding ?_)
  unfold Builtin.List.listLengthHint
  refine wpAny_bind (wpAny_specialOf hT nolen_lri ?_)
  show wpAny _ A.in1 (specialOf (Value.ref it) (Str.ofString "__length_hint__") >>= _) _ _ _
  refine wpAny_bind (wpAny_specialOf hT hint_lri ?_)
  generalize hid : ("list_reverseiterator.__length_hint__" : String) = id0
  wp_delta
  rw [show splitId id0 = some ("list_reverseiterator", "__length_hint__") from by subst hid; decide +kernel]
  subst hid
  refine wpAny_bind (wpAny_isInstance (b := true) hT (by rw [isSubtype_type]; kernel_rfl) ?_)
  refine wpAny_pure ?_
  rw [if_neg (by decide)]
  have e0 : ((items.size : Nat) : Int) - 1 - ((0 : Nat) : Int) = (items.size : Int) - 1 := by omega
  refine wpAny_pure ⟨plainId_quiet F.plain_extend_loop _, codeAny_extend_loopS W hn _ hSf _ items.size 0 _ _ _ rfl (Nat.zero_le _) ⟨Nat.zero_le _, by rw [e0]; exact hit1, hl1⟩ hS₂ (ItemsOf.nil _) fun s' acc' c' hm hS' hacc => ?_⟩
  rw [Moved.eq_with hm]
  refine hR s'.heap s'.toks acc' c' (fun b o hb hi e => hm.heap b o (fun hmem => ?_) (oth b o hb e)) hS' hacc
  rcases List.mem_cons.mp hmem with e' | hmem
  · exact hb e'
  · exact hi (List.mem_singleton.mp hmem)
theorem call_list_rev {it l : Addr} {items : Array Value} {Q : Value → Shared → Prop} (hh : A.handled = none) (hit : s.heap.IsRevIter it l ((items.size : Int) - 1)) (hl : s.heap.IsList l items) (hne : l ≠ it) (hn : items.size ≤ sizeLine)
    (hQ : ∀ (h' : Heap) (tk : Nat) (acc : Array Value) (c : Nat), (∀ b o, b ≠ it → s.heap.get? b = some o → h'.get? b = some o) → h'.get? s.heap.objs.size = some { cls := .type "list", dict := none, data := .seq acc c, slots := #[] } → ItemsOf (fun i v => items[items.size - 1 - i]? = some v) acc items.size → Q (.ref s.heap.objs.size) { s with heap := h', toks := tk }) :
    wpAny (model prog w) A (call (.type "list") [.ref it]) Q E s := by
  obtain ⟨oi, hoi, _⟩ := id hit
  obtain ⟨ol, hol, _⟩ := id hl
  have hSi : s.heap.objs.size ≠ it := Nat.ne_of_gt (Heap.lt_size hoi)
  have hSl : s.heap.objs.size ≠ l := Nat.ne_of_gt (Heap.lt_size hol)
  refine callType_codes (Q₁ := fun obj s₁ => obj = .ref s.heap.objs.size ∧ s₁ = { s with heap := s.heap.push { cls := .type "list", data := .seq #[] } }) F.called_list (F.typeCall_list_1 _) F.entry_list_init
    (code_list_new _ ⟨rfl, rfl⟩) fun obj s₁ h₁ => ?_
  obtain ⟨rfl, rfl⟩ := h₁
  have hS : (s.heap.push { cls := .type "list", data := .seq #[] }).get? s.heap.objs.size = some { cls := .type "list", data := .seq #[] } := Heap.get?_push_size _ rfl
  refine ⟨⟨_, hS, rfl⟩, F.args_list_init_2 _ _, list_init_rev (s := { s with heap := s.heap.push { cls := .type "list", data := .seq #[] } }) hh (hit.at fun o e => Heap.get?_push_of_some _ e) (hl.push _) hne hn hSi hSl hS fun h' tk acc' c' hk hS' hacc => ?_⟩
  exact ⟨rfl, hQ h' tk acc' c' (fun b o hb e => hk b o (Nat.ne_of_lt (Heap.lt_size e)) hb (Heap.get?_push_of_some _ e)) hS' hacc⟩
end
end RT
namespace Rg
open PySem PySem.Spec PyProof.Rows L2 RT
/-- list(reversed(x)), x a list: a new list -/
def tListRev (K : PySem.W.Frag) (te : TE) : TE := fun σ H Q => te σ H fun v H1 => ∃ (a : Addr) (xs : List V), v = .ref a ∧ SqL K H1 a xs ∧ ∀ q, H1 q = none → Q (.ref q) (upd H1 q (.lst xs.reverse))
theorem pe_listRev {X : Cx} {e : Expr} {te : TE} {p p2 pos pos2 : Pos} (hc : X.calm = true) (hg : Gl X "list") (hm : X.mg "list" = none) (hg2 : Gl X "reversed") (hm2 : X.mg "reversed" = none) (he : PE X e te)
    (hs : starEach [e] X.env = (false, eval e X.env) :: starEach [] X.env := by rfl)
    (hs2 : starEach [.Call (.Name "reversed" p2) [e] [] pos2] X.env = (false, eval (.Call (.Name "reversed" p2) [e] [] pos2) X.env) :: starEach [] X.env := by rfl) :
    PE X (.Call (.Name "list" p) [.Call (.Name "reversed" p2) [e] [] pos2] [] pos) (tListRev X.K te) := by
  refine ⟨fun pins s σ H Q I h => ?_⟩
  refine Call_ (ld_blt I hg hm boot_list (PyProof.Rows.callWith_type1 (args_cons (Call_ (ld_blt I hg2 hm2 PyProof.Rows.boot_reversed (PyProof.Rows.callWith_type1 (args_cons (thn (he.run pins s σ H _ I h) fun u s1 ⟨v, H1, I1, r1, q1⟩ => args_nil ?_) hs) hs rfl))) hs2) hs2 rfl))
  obtain ⟨a, xs, ev, hq, q⟩ := q1
  subst ev
  obtain rfl : u = Value.ref a := r1
  obtain ⟨its, rv, p', hz⟩ := I1.list hq
  refine call_reversed_list p'.isList (args_nil ?_)
  have k0 : ∀ b o, s1.heap.get? b = some o → (s1.heap.push (revObj a ((its.toArray.size : Int) - 1))).get? b = some o := fun b o e => Heap.get?_push_of_some _ e
  have I2 : Inv X pins σ H1 { s1 with heap := s1.heap.push (revObj a ((its.toArray.size : Int) - 1)) } := I1.kept (t' := s1.toks) k0
  obtain ⟨f0, f1, f2, f3, f4, f5⟩ := I1.fpOk (H' := H1) (b := s1.heap.objs.size) (Nat.le_refl _) (I1.hok.fresh (Nat.le_refl _))
  have hl := p'.isList
  obtain ⟨ol, hol, _⟩ := id hl
  have hne : a ≠ s1.heap.objs.size := Nat.ne_of_lt (Heap.lt_size hol)
  have hn : its.toArray.size ≤ sizeLine := by rw [List.size_toArray, ← rv.length]; exact hz
  have hsz : (s1.heap.push (revObj a ((its.toArray.size : Int) - 1))).objs.size = s1.heap.objs.size + 1 := Heap.size_push ..
  refine call_list_rev (s := { s1 with heap := s1.heap.push (revObj a ((its.toArray.size : Int) - 1)) }) (I1.ok.hd hc) ⟨_, Heap.get?_push_size _ rfl, rfl, rfl⟩ (hl.push _) hne hn fun h' tk acc c hk hS hi => ?_
  have hle : s1.heap.objs.size ≤ (s1.heap.push (revObj a ((its.toArray.size : Int) - 1))).objs.size := by rw [hsz]; exact Nat.le_succ _
  refine ⟨.ref (s1.heap.push (revObj a ((its.toArray.size : Int) - 1))).objs.size, upd H1 (s1.heap.push (revObj a ((its.toArray.size : Int) - 1))).objs.size (.lst xs.reverse), I1.laid (t' := tk) (fun b o e => hk b o (Nat.ne_of_lt (Heap.lt_size e)) (k0 b o e)) hle (show ObjOk X.prog X.w _ _ _ (.lst xs.reverse) from ⟨by rw [List.length_reverse]; exact hz, acc.toList, c, vals_rev rv hi, ?_⟩), rfl, q _ (I1.hok.fresh hle)⟩
  rw [Array.toArray_toList]
  exact hS
end Rg
namespace Rg
open PySem PySem.Spec PyProof.Rows L2
/-! ### {e for x in xs if ..}, e a whole number -/
/-- D the new set -/
def tScI (w : World) (wi : TI) (g : TG) (tt : TT) (te : TE) (vs : List Nat) : TE := fun σ H Q => wi σ H fun J H1 => ∀ D, H1 D = none → ∃ W : Nat → Nat → Hp → Prop, (∃ m, W 0 m (upd H1 D (SetO w D (fun _ => false) 0))) ∧ ∀ i m H, W i m H →
  (J.stop i H ∧ Q (.ref D) H) ∨ (J.go i H ∧ ∃ Nx : Hp → Prop, (∀ H', Nx H' → ∃ m', m' < m ∧ W (i + 1) m' H') ∧ ∀ x H', J.yld i H x H' → g x (wipe σ vs) H' fun σ2 H2 => wipe σ2 vs = wipe σ vs ∧ tt σ2 H2 fun b H3 =>
    if b = true then te σ2 H3 fun y H4 => ∃ (c : Int) (S : Int → Bool) (n : Nat), y = .int c ∧ H4 D = some (SetO w D S n) ∧ n + 1 < scanBound ∧ Nx (upd H4 D (SetO w D (fun j => S j || decide (j = c)) (if S c = true then n else n + 1))) else Nx H3)
theorem pe_scI {X : Cx} {elt tg iter : Expr} {ifs : List Expr} {scope : Scope} {own : List (PySem.Str × Nat)} {pos : Pos} {wi : TI} {g : TG} {tt : TT} {te : TE} (hc : X.calm = true) (hN : X.N.Nodup) (hi : PI X tg iter wi) (ok : BlkOk X.N X.env.scope scope own)
    (hg : ∀ (s : Shared) (H : Hp) (C : Addr) (cl : List (PySem.Str × Addr)) (fp : List Addr), PG (X.blk s H scope (compEnvC scope cl C X.env) fp) tg g) (ht : ∀ (s : Shared) (H : Hp) (C : Addr) (cl : List (PySem.Str × Addr)) (fp : List Addr), PTs (X.blk s H scope (compEnvC scope cl C X.env) fp) ifs tt)
    (he : ∀ (s : Shared) (H : Hp) (C : Addr) (cl : List (PySem.Str × Addr)) (fp : List Addr), PE (X.blk s H scope (compEnvC scope cl C X.env) fp) elt te) (hs : ∀ x, foldedSetIterable iter X.env x = pure x := by intro _; rfl) :
    PE X (.SetComp elt [⟨tg, iter, ifs, 0⟩] scope pos) (tScI X.w wi g tt te (own.map (·.2))) := by
  refine ⟨fun pins s σ H Q I h => ?_⟩
  rw [PpSet.eval_SetComp]
  have free : ∀ y ∈ scope.names, y.2 = .free → ∃ c, X.env.cells.lookup y.1 = some c := fun y hy e => (ok.free y hy e).elim (fun k => I.ok.has _ (.inl k)) fun k => I.ok.has _ (.inr k)
  refine wpAny_comprehension_free (use := none) rfl hs (closure_ok free) ok.kind (fun y hy e => by rw [ok.uniq y hy, e])
    (thn (hi.run pins s σ H _ I h) fun xv s1 hx => thn hx fun itv s2 h2 => ?_)
  obtain ⟨it, fp, tn, J, H2, rfl, I2, T, st2, f2, q⟩ := h2
  refine PpSet.newSet_ok (newEnv_comp ?_)
  have keep2 : ∀ (b : Addr) (o : Obj), s2.heap.get? b = some o → (s2.heap.push { cls := .type "set", dict := none, data := .set #[] 0 (.fresh 0 0 (!X.w.params.followText "set-order")) }).get? b = some o := fun b o e => Heap.get?_push_of_some _ e
  have ltF : ∀ b ∈ fp, b < s2.heap.objs.size := fun b hb => let ⟨o, e, _⟩ := T.obj _ _ st2 b hb; Heap.lt_size e
  obtain ⟨D, hD⟩ : ∃ D, D = s2.heap.objs.size := ⟨_, rfl⟩
  rw [← hD]
  have nD : H2 D = none := I2.hok.fresh (Nat.le_of_eq hD.symm)
  obtain ⟨W, ⟨m0, w0⟩, turn⟩ := q D nD
  obtain ⟨s3, e3⟩ : ∃ s3 : Shared, s3 = { s2 with heap := s2.heap.push { cls := .type "set", dict := none, data := .set #[] 0 (.fresh 0 0 (!X.w.params.followText "set-order")) } } := ⟨_, rfl⟩
  rw [← e3]
  have h3 : s3.heap = s2.heap.push { cls := .type "set", dict := none, data := .set #[] 0 (.fresh 0 0 (!X.w.params.followText "set-order")) } := by rw [e3]
  obtain ⟨H3, eH3⟩ : ∃ H3, H3 = upd H2 D (SetO X.w D (fun _ => false) 0) := ⟨_, rfl⟩
  rw [← eH3] at w0
  have I3 : Inv X pins σ H3 s3 := by
    rw [e3, eH3]
    refine I2.laid (t' := s2.toks) keep2 (Nat.le_of_eq hD.symm) ?_
    rw [hD]
    exact setO_new (setR_fresh X.w)
  have f3 : ∀ b ∈ fp, FpOk X pins H3 b ∧ b < s3.heap.objs.size := fun b hb => by
    have hlt := ltF b hb
    refine ⟨⟨?_, (f2 b hb).2⟩, by rw [h3, Heap.size_push]; exact Nat.lt_succ_of_lt hlt⟩
    rw [eH3, upd_ne (by rw [hD]; exact Nat.ne_of_lt hlt)]
    exact (f2 b hb).1
  have st3 : tn 0 s3.heap := T.keep _ _ _ st2 fun b _ o e => by rw [h3]; exact keep2 b o e
  have I4 := block_start I3 ok hN f3
  obtain ⟨cl, ecl⟩ : ∃ cl, cl = cellsFrom (s3.heap.objs.size + 1) scope.names (cloFrom X.env.cells scope.names []) := ⟨_, rfl⟩
  rw [← ecl] at I4 ⊢
  obtain ⟨ce, ece⟩ : ∃ ce, ce = compEnvC scope cl s3.heap.objs.size X.env := ⟨_, rfl⟩
  have pg := hg s3 H3 s3.heap.objs.size cl fp
  have pt := ht s3 H3 s3.heap.objs.size cl fp
  have pe := he s3 H3 s3.heap.objs.size cl fp
  rw [← ece] at I4 pg pt pe
  show codeAny _ _ (.compStart (.SetComp elt [⟨tg, iter, ifs, 0⟩] scope pos) 0 (.ref it) (.ref D) (compEnvC scope cl s3.heap.objs.size X.env)) _ { s3 with heap := pushCells (s3.heap.push { cls := .type "dict", data := .dict #[] }) scope.names }
  rw [← ece]
  have cL : ce.locals = s3.heap.objs.size := by rw [ece]; rfl
  generalize es4 : ({ s3 with heap := pushCells (s3.heap.push { cls := .type "dict", data := .dict #[] }) scope.names } : Shared) = s4 at I4 ⊢
  have st4 : tn 0 s4.heap := T.keep _ _ _ st3 fun b _ o e => by rw [← es4]; exact pushCells_keeps _ _ _ _ (Heap.get?_push_of_some _ e)
  have stat : ∀ {σ' : L2.St} {H' : Hp} {s' : Shared}, Inv (X.blk s3 H3 scope ce fp) [] σ' H' s' → (∀ b ∈ fp, H' b = none) → ∀ b ∈ fp, FpOk (X.blk s3 H3 scope ce fp) [] H' b := fun {σ' H' s'} I' hn b hb =>
    ⟨hn b hb, (I'.ok.exf b hb).1, I'.ok.exfs b hb, .inl hb, fun x c e => (I'.ok.exf b hb).2 x c e, fun p hp => absurd (show p ∈ ([] : List (Addr × Obj)) ++ [] from hp) (by simp)⟩
  have loop : codeAny (model X.prog X.w) X.A (.compLoop (.SetComp elt [⟨tg, iter, ifs, 0⟩] scope pos) 0 (.ref it) (.ref D) ce) (compPost (model X.prog X.w) X.A X.xe none (EP X pins σ Q) (.ref D) s3.heap.objs.size) s4 := by
    refine PpSet.compLoopS_any (fun n s' => ∃ i H', Inv (X.blk s3 H3 scope ce fp) [] (wipe σ (own.map (·.2))) H' s' ∧ tn i s'.heap ∧ (∀ b ∈ fp, H' b = none) ∧ W i n H') ?_ m0 ⟨0, H3, I4, st4, fun b hb => (f3 b hb).1.1, w0⟩
    rintro n s5 ⟨i, H5, I5, st5, n5, w5⟩
    rcases turn i n H5 w5 with ⟨stop, qq⟩ | ⟨go, Nx, hNx, step⟩
    · refine thnF (T.done (X.blk s3 H3 scope ce fp) rfl rfl rfl hc i [] s5 _ H5 (fun _ _ => False) I5 (stat I5 n5) st5 stop) fun r s6 ⟨hr, I6⟩ => ?_
      subst hr
      have I7 : Inv X pins σ H5 s6 := I3.call' (ch := fp) I6.os I6.base I6.hok I6.bare fun b hb => ⟨(f3 b hb).1.2.2.2.1, (f3 b hb).1.2.1, (f3 b hb).1.2.2.2.2.1, (f3 b hb).1.2.2.2.2.2⟩
      have nC : H5 s3.heap.objs.size = none := by rw [← cL]; exact I6.free
      obtain ⟨m, hn, _⟩ := I6.loc
      have hn : s6.heap.Ns ce.locals m := hn
      rw [cL] at hn
      refine ⟨m, hn, fun h'' sb => ?_⟩
      obtain ⟨a0, a1, a2, a3, a4, a5⟩ := I3.fpOk (Nat.le_refl _) nC
      exact ⟨.ref D, H5, I7.turned (t' := s6.toks) (fun b o hb e => (sb.2 b hb).trans e) a0 a1 a3 a4 a5, rfl, qq⟩
    · refine thnF (T.item (X.blk s3 H3 scope ce fp) rfl rfl rfl hc i [] s5 _ H5 (fun _ _ => False) I5 (stat I5 n5) st5 go) fun r s6 ⟨u, hr, h6⟩ => ?_
      subst hr
      refine thnF h6 fun _ s7 ⟨x, H7, I7, r7, y7, st7, n7⟩ => ?_
      have I7' := I7.pinned (stat I7 n7) (T.obj _ _ st7)
      refine thnF (pg.run _ s7 _ H7 x u _ I7' r7 (step x H7 y7)) fun _ s8 ⟨σ8, H8, I8, hw8, q8⟩ => ?_
      refine thnF (pt.run _ s8 σ8 H8 _ I8 q8) fun b s9 ⟨H9, I9, q9⟩ => ?_
      have fin : ∀ {s' : Shared} {H' : Hp}, Inv (X.blk s3 H3 scope ce fp) ([] ++ pinsAt fp s7.heap) σ8 H' s' → Nx H' → ∃ m, m < n ∧ ∃ i H', Inv (X.blk s3 H3 scope ce fp) [] (wipe σ (own.map (·.2))) H' s' ∧ tn i s'.heap ∧ (∀ b ∈ fp, H' b = none) ∧ W i m H' := fun {s' H'} I' nx => by
        obtain ⟨m', hm, w'⟩ := hNx H' nx
        have pin : ∀ b ∈ fp, ∀ o, s7.heap.get? b = some o → s'.heap.get? b = some o ∧ H' b = none := fun b hb o e =>
          let z := I'.pin (b, o) (List.mem_append_right _ (List.mem_append_right _ (mem_pinsAt hb e)))
          ⟨z.1, z.2.1⟩
        refine ⟨m', hm, i + 1, H', (I'.unpinned (pins := [])).weak (by rw [← hw8, wipe_length]) (fun j v e => by rw [← hw8] at e; exact (wipe_some e).1), T.keep _ _ _ st7 fun b hb o e => (pin b hb o e).1, fun b hb => ?_, w'⟩
        obtain ⟨o, e, _⟩ := T.obj _ _ st7 b hb
        exact (pin b hb o e).2
      cases b with
      | false =>
        simp only [Bool.false_eq_true, if_false] at q9 ⊢
        exact fin I9 q9
      | true =>
        simp only [if_true] at q9 ⊢
        refine thnF (pe.run _ s9 σ8 H9 _ I9 q9) fun z s10 ⟨yv, H10, I10, r10, c, S0, n0, ey, hD10, hz10, nx⟩ => ?_
        subst ey
        obtain ⟨tk, rfl⟩ := r10
        exact thnF (mt_sadd (X := X.blk s3 H3 scope ce fp) _ s10 σ8 H10 (.ref D) [.int c] (.ref D) [.int c tk] (fun _ H' => Nx H') I10 rfl (.cons ⟨tk, rfl⟩ .nil) ⟨D, c, S0, n0, rfl, rfl, hD10, hz10, nx⟩) fun _ s11 ⟨_, _, I11, _, nx'⟩ => fin I11 nx'
  exact PpSet.codeAny_compStart_set loop (T.self X.A 0 _ _ _ st4 loop)
end Rg
namespace Rg
open PySem PySem.Spec PyProof.Rows L2
/-! ### set(xs) of a list of whole numbers, as a set that sorted walks -/
section
variable {P : Program} {w : World} {A : Around} {E : Value → Shared → Prop} {s : Shared}
/-- the new, empty set -/
def nSet (w : World) : Obj := { cls := .type "set", dict := none, data := .set #[] 0 (.fresh 0 0 (!w.params.followText "set-order")) }
set_option maxRecDepth 100000 in
set_option maxHeartbeats 3200000 in
theorem call_set_listI {l : Addr} {items : Array Value} (ns : List Int) {Q : Value → Shared → Prop} (hh : A.handled = none) (hl : s.heap.IsList l items) (hit : IntsAre items.toList ns) (hb : ns.length + 1 < scanBound)
    (h : ∀ (h' : Heap) (tk c : Nat), SetR w h' s.heap.objs.size (fun j => decide (j ∈ ns)) c → c ≤ ns.length → (∀ b o, s.heap.get? b = some o → h'.get? b = some o) → Q (.ref s.heap.objs.size) { s with heap := h', toks := tk }) :
    wpAny (model P w) A (call (.type "set") [.ref l]) Q E s := by
  have hsz : items.size = ns.length := by have q := IntsAre.length hit; rw [Array.length_toList] at q; exact q
  obtain ⟨c, tl, hmro⟩ := F.called_set.mro
  have hmade := F.called_set.made
  have hsub := F.called_set.sub
  refine wpAny_call (codeAny_of_tree ?_)
  show wpAny _ _ (callAny (.type "set") _) _ _ _
  refine wpAny_pure ⟨Code.quiet_builtin _ (by decide +kernel), codeAny_builtin F.entry_type_call ?_⟩
  rw [Around.under_plain (weight_type_call_type "set" [.ref l] []) rfl]
  have h1 := F.called_set.notType
  have h2 := F.called_set.canCreate
  have hct := F.typeCall_set_1 (.ref l)
  repeat (any_goals (first | assumption | wp_step))
  refine codeAny_mono (code_set_led1 (.ref l) (E := E) (Q₁ := fun obj s₁ => obj = .ref s.heap.objs.size ∧ s₁ = { s with heap := s.heap.push (nSet w) }) ⟨rfl, rfl⟩) fun r s₁ hr => ?_
  match r, hr with
  | .error e, hr => exact hr
  | .ok (.ret obj), ⟨eo, es⟩ =>
    subst eo es
    have hS : (s.heap.push (nSet w)).get? s.heap.objs.size = some (nSet w) := Heap.get?_push_size _ rfl
    have hT : Shared.TypeIs { s with heap := s.heap.push (nSet w) } (.ref s.heap.objs.size) "set" := ⟨_, hS, rfl⟩
    have hli := F.called_set.init.lookup
    have hbi := F.called_set.init.bind (.ref s.heap.objs.size)
    repeat (any_goals (first | assumption | wp_step))
    refine codeAny_mono (codeAny_call_builtin (R := wants (fun r s₂ => r = .none ∧ ∃ h' tk c, s₂ = { s with heap := h', toks := tk } ∧ SetR w h' s.heap.objs.size (fun j => decide (j ∈ ns)) c ∧ c ≤ ns.length ∧
        (∀ b o, s.heap.get? b = some o → h'.get? b = some o)) E) F.called_set.init.plain F.entry_set_init (check_set_init_1 hT ?_)) fun r₂ s₂ hr₂ => ?_
    · obtain ⟨⟨ocls, odict, odata, oslots⟩, hol, hcl, nl, hdl⟩ := hl
      simp only at hcl hdl
      subst hcl; subst hdl
      have hol' : (s.heap.push (nSet w)).get? l = some { cls := .type "list", dict := odict, data := .seq items nl, slots := oslots } := Heap.get?_push_of_some _ hol
      have hsls := F.sub_list_set
      have hslf := F.sub_list_frozenset
      have hne : (Value.type "list" == Value.type "dict") = false := by decide
      have hl1 : (s.heap.push (nSet w)).IsList l items := ⟨_, hol', rfl, nl, rfl⟩
      unfold Builtin.«set.__init__» noKeywords Builtin.Frozenset.updateFrom
      generalize hPI : pyIter = PI
      wp_walk
      subst hPI
      refine wpAny_pyIter_list hl1 ?_
      refine wpAny_bind (wpAny_runValue ?_)
      have lS : l < s.heap.objs.size := Heap.lt_size hol
      have z1 : (s.heap.push (nSet w)).objs.size = s.heap.objs.size + 1 := Heap.size_push ..
      have nI : l ≠ (s.heap.push (nSet w)).objs.size := by rw [z1]; exact Nat.ne_of_lt (Nat.lt_succ_of_lt lS)
      have nS : s.heap.objs.size ∉ [(s.heap.push (nSet w)).objs.size, l] := by
        rw [z1]
        simp only [List.mem_cons, List.not_mem_nil, or_false, not_or]
        exact ⟨Nat.ne_of_lt (Nat.lt_succ_self _), Nat.ne_of_gt lS⟩
      have val : ∀ (i : Nat) (v : Value), items[i]? = some v → ∃ k t, ns[i]? = some k ∧ v = .int k t := fun i v hv => by
        have hi : i < ns.length := by rw [← hsz]; exact (Array.getElem?_eq_some_iff.mp hv).1
        obtain ⟨t, e⟩ := PyProof.Rows.IntsAre.int_at hit i v (by rw [Array.getElem?_toList]; exact hv)
        refine ⟨ns[i], t, List.getElem?_eq_getElem hi, ?_⟩
        rw [e, List.getD_eq_getElem?_getD, List.getElem?_eq_getElem hi] <;> rfl
      refine set_update_ints ((Walks.list (A := A.in1.in1.in1) (by simp [hh]) _ l nI items).toS) s.heap.objs.size nS ns hsz hb val (items.size - 0) 0 _ (by omega) (Nat.zero_le _)
        ⟨⟨_, Heap.get?_push_size _ rfl, rfl, rfl⟩, (hl1.push _)⟩ ⟨0, Nat.le_refl 0, setR_new_at (Heap.get?_push_of_some _ hS)⟩ fun s' c' hm hc' hS' => ?_
      obtain ⟨h', g2, d', tk', os'⟩ := s'
      have eg : g2 = s.gens := hm.gens
      have ed : d' = s.drawn := hm.drawn
      have eo : os' = s.os := hm.os
      subst eg; subst ed; subst eo
      rw [hsz] at hc'
      show wpAny _ _ _ _ _ _
      refine wpAny_pure ?_
      show wpAny _ _ (ret Value.none) _ _ _
      refine wpAny_pure ⟨rfl, h', tk', c', rfl, hS', hc', fun b o e => ?_⟩
      have b0 : b < s.heap.objs.size := Heap.lt_size e
      refine hm.heap b o ?_ (Heap.get?_push_of_some _ (Heap.get?_push_of_some _ e))
      simp only [List.mem_cons, List.not_mem_nil, or_false, not_or]
      exact ⟨Nat.ne_of_lt b0, by rw [z1]; exact Nat.ne_of_lt (Nat.lt_succ_of_lt b0)⟩
    · match r₂, hr₂ with
      | .error e, hr₂ => exact hr₂
      | .ok (.ret r), hr₂ =>
        obtain ⟨rfl, h', tk, c', rfl, hS', hc', hk'⟩ := hr₂
        repeat (any_goals (first | assumption | wp_step))
        exact h _ _ _ hS' hc' hk'
end
section
variable {X : Cx}
/-- set(xs) -/
def rSetLI (K : PySem.W.Frag) (w : World) : List V → Hp → VK → Prop := fun vs H Q => ∃ (a : Addr) (ns : List Int), vs = [V.ref a] ∧ SqL K H a (ns.map V.int) ∧ ns.length + 1 < scanBound ∧
  ∀ (p : Addr) (c : Nat), H p = none → c ≤ ns.length → Q (.ref p) (upd H p (SetO w p (fun j => decide (j ∈ ns)) c))
theorem call_setLI (hc : X.calm = true) : CallR X (.type "set") (rSetLI X.K X.w) := by
  intro pins s σ H vs us Q I r h
  obtain ⟨a, ns, rfl, hs, hb, q⟩ := h
  obtain ⟨its, rv, hl, _⟩ := I.list hs
  rw [Vals.ref1 r]
  refine call_set_listI (w := X.w) ns (I.ok.hd hc) hl.isList (ints_of_vals rv) hb fun h' tk c hR hle hk => ?_
  have fresh := I.hok.fresh (Nat.le_refl s.heap.objs.size)
  exact ⟨.ref s.heap.objs.size, upd H s.heap.objs.size (SetO X.w s.heap.objs.size (fun j => decide (j ∈ ns)) c), I.laid (t' := tk) hk (Nat.le_refl _) (setO_new hR), rfl, q _ c fresh hle⟩
end
end Rg
/-! ### all, any of a generator expression whose element calls one's own defs -/
namespace GxL
open PySem PySem.Spec PyProof.Rows L2
open Sem (wp)
/-- the state is the same but for the generators' table, what was drawn, the tokens -/
def Slept (s s' : Shared) : Prop := s'.os = s.os ∧ AllBare s'.gens ∧ s'.heap = s.heap
theorem Slept.trans {a b c : Shared} (x : Slept a b) (y : Slept b c) : Slept a c := ⟨y.1.trans x.1, y.2.1, y.2.2.trans x.2.2⟩
theorem bare_set {gs : Array GenState} {g : Nat} {x : GenState} (h : AllBare gs) (hx : x.bare = true) : AllBare (gs.setIfInBounds g x) := fun y hy => by
  obtain ⟨i, hi, rfl⟩ := Array.mem_iff_getElem.mp hy
  rw [Array.getElem_setIfInBounds (by simpa using hi)]
  split
  · exact hx
  · exact h _ (Array.getElem_mem _)
theorem Slept.set {s : Shared} {g : Nat} {x : GenState} (h : AllBare s.gens) (hx : x.bare = true) : Slept s (s.setGen g x) := ⟨rfl, bare_set h hx, rfl⟩
/-- the generator's frame, entered at s: its iterator's objects at fp -/
def genCx (X : Cx) (s : Shared) (H : Hp) (cenv : Env) (fp : List Addr) : Cx where
  prog := X.prog
  w := X.w
  K := X.K
  mg := X.mg
  base := X.base
  A := X.A.in1.in1.deeper cenv
  N := X.N
  s_0 := s
  H_0 := H
  env := cenv
  outer := X.stack
  stack := cenv :: X.stack
  ex := fp
  fn := fun _ => false
  calm := true
  pn := []
  xe := fun _ _ => False
/-- the generator's frame's environment over the def's -/
abbrev gEnv (X : Cx) (scope : Scope) (C : Addr) (code : Value) : Env := genEnv scope (cloFrom X.env.cells scope.names []) C code builtinsNs X.env
section
variable {X : Cx} {pins : List (Addr × Obj)} {σ : L2.St} {H H' : Hp} {s : Shared}
theorem slept_inv (I : Inv X pins σ H s) {s' : Shared} (h : Slept s s') : Inv X pins σ H s' := by
  refine I.call' (ch := []) h.1 (Un.kept fun b u e => by rw [h.2.2]; exact e) (by rw [h.2.2]; exact I.hok) h.2.1 fun b z => absurd z (by simp)
/-- a generator's scope -/
structure GSc (scope : Scope) : Prop where
  co : scope.isCoroutine = false
  cell : ∀ y ∈ scope.names, y.2 ≠ .cell
  dot : scope.names.lookup (".0" : Str) = some NameKind.local
def gscB (scope : Scope) : Bool := !scope.isCoroutine && (scope.names.all fun y => !decide (y.2 = .cell)) && decide (scope.names.lookup (".0" : Str) = some NameKind.local)
theorem gsc_by {scope : Scope} (h : gscB scope = true) : GSc scope := by
  unfold gscB at h
  simp only [Bool.and_eq_true, Bool.not_eq_true', decide_eq_true_eq, decide_eq_false_iff_not, List.all_eq_true] at h
  exact ⟨h.1.1, fun y hy => h.1.2 y hy, h.2⟩
theorem gen_start {scope : Scope} {own : List (Str × Nat)} {fp : List Addr} {code : Value} {m : Str → Option Value} {s5 : Shared} (I : Inv X pins σ H s) (ok : BlkOk X.N X.env.scope scope own) (S : GSc scope) (hN : X.N.Nodup) (hd : X.A.handled = none)
    (hfp : ∀ b ∈ fp, FpOk X pins H b ∧ b < s.heap.objs.size) (ho : s5.os = s.os) (hb : AllBare s5.gens) (hns : s5.heap.Ns s.heap.objs.size m) (kp : ∀ b o, s.heap.get? b = some o → s5.heap.get? b = some o) :
    Inv (genCx X s H (gEnv X scope s.heap.objs.size code) fp) [] (wipe σ (own.map (·.2))) H s5 := by
  have hfree : ∀ y ∈ scope.names, y.2 = .free → ∃ c, X.env.cells.lookup y.1 = some c := fun y hy e => by
    rcases ok.free y hy e with k | k
    · exact I.ok.has _ (.inl k)
    · exact I.ok.has _ (.inr k)
  have cm : ∀ {y c}, (cloFrom X.env.cells scope.names []).lookup y = some c → X.env.cells.lookup y = some c := fun {y c} e => by
    rcases cloFrom_mem (PySem.mem_of_lookup e) with hm | ⟨h1, h2⟩
    · cases hm
    · obtain ⟨c1, hc⟩ := hfree _ h1 rfl
      have hc : X.env.cells.lookup y = some c1 := hc
      have e2 : c = c1 := by
        rw [h2, hc] <;> rfl
      rw [e2]
      exact hc
  have look : ∀ {y}, scope.names.lookup y = some .free → ∃ c, (cloFrom X.env.cells scope.names []).lookup y = some c := fun {y} hl => by
    have hy : (y, NameKind.free) ∈ scope.names := PySem.mem_of_lookup hl
    exact mem_lookup (cloFrom_has (cells := X.env.cells) (acc := []) hy)
  have okB : (genCx X s H (gEnv X scope s.heap.objs.size code) fp).Ok := by
    refine ⟨I.ok.mod, ok.kind, I.ok.glob, rfl, Nat.le_refl _, fun y z c e1 e2 => I.ok.inj y z c (cm e1) (cm e2), fun y hy => ?_, fun y c z _ => ?_, fun _ => hd, Around.frames_deeper I.ok.frames, .inr ⟨rfl, rfl⟩, fun b hb => ⟨?_, fun y c e z => ?_⟩, I.bs, Nat.le_trans I.ok.bsz I.sz,
      fun b o e hb => ?_, fun b hb z => ?_, I.stack, I.stkFree⟩
    · have hy : scope.names.lookup y = some .cell ∨ scope.names.lookup y = some .free := hy
      rcases hy with hy | hy
      · exact absurd rfl (S.cell _ (PySem.mem_of_lookup hy))
      · exact look hy
    · have z : false = true := z
      cases z
    · exact Nat.ne_of_lt (hfp b hb).2
    · exact (hfp b hb).1.2.2.2.2.1 y c (cm e) z
    · rcases (hfp b hb).1.2.2.2.1 with z | z
      · exact I.ok.noex b o e z
      · exact absurd (Nat.lt_of_lt_of_le (Heap.lt_size e) (Nat.le_trans I.ok.bsz z)) (Nat.lt_irrefl _)
    · rcases List.mem_cons.mp (I.stkSub b z) with z | z
      · exact (hfp b hb).1.2.1 z
      · exact (hfp b hb).1.2.2.1 z
  refine ⟨okB, ho, hb, Un.kept kp, ⟨m, hns, fun i y av e1 e2 e3 => ?_⟩, fun y c e => ?_, I.hok.fresh (Nat.le_refl _), fun y c e => I.freeC y c (cm e), fun p hp => absurd (show p ∈ ([] : List (Addr × Obj)) ++ [] from hp) (by simp), I.hok.kept kp, by rw [wipe_length]; exact I.len⟩
  · obtain ⟨e2, hne⟩ := wipe_some e2
    have e3 : Vis scope y := e3
    have no : ∀ k, scope.names.lookup y = some k → ¬ (k = .local ∨ k = .cell) := fun k e hh => by
      rcases ok.own _ (PySem.mem_of_lookup e) hh with e' | e'
      · obtain ⟨p, hp, hpy⟩ := List.mem_map.mp e'
        have e3 := ok.ix p hp
        have : p.1 = y := hpy
        rw [this] at e3
        exact hne (List.mem_map.mpr ⟨p, hp, nodup_ix hN e3 e1⟩)
      · exact e' (List.mem_of_getElem? e1)
    rcases e3 with k | k | k
    · exact absurd (.inl rfl) (no _ k)
    · exact absurd (.inr rfl) (no _ k)
    · obtain ⟨m, hn, hl⟩ := I.loc
      have hvis : Vis X.env.scope y := (ok.free _ (PySem.mem_of_lookup k) rfl).elim (fun k => .inr (.inl k)) (fun k => .inr (.inr k))
      obtain ⟨w', r, q⟩ := hl i y av e1 e2 hvis
      obtain ⟨c2, h2⟩ := look k
      refine ⟨w', r, .inr ⟨.inr k, c2, h2, ?_⟩⟩
      have c1 := cm h2
      rcases q with ⟨k', _⟩ | ⟨_, c3, e', z⟩
      · have k' : X.env.scope.names.lookup y = some .local := k'
        rcases ok.free _ (PySem.mem_of_lookup k) rfl with k2 | k2 <;> rw [show X.env.scope.names.lookup y = _ from k2] at k' <;> cases k'
      · rw [c1] at e'
        cases e'
        exact z.keeps kp
  · obtain ⟨w', z⟩ := I.cell y c (cm e)
    exact ⟨w', z.keeps kp⟩
end
end GxL
namespace GxL
open PySem PySem.Spec PyProof.Rows L2
open Sem (wp)
theorem over_gen {A : Around} {elt tg iter : Expr} {ifs : List Expr} {scope : Scope} {pos : Pos} {it acc : Value} {env : Env} : A.over (.compLoop (.GeneratorExp elt [⟨tg, iter, ifs, 0⟩] scope pos) 0 it acc env) [] = A.deeper env := by
  first
    | rfl
    | (obtain ⟨hd, d, fr, gs, u⟩ := A; simp [Around.over, Around.deeper, marksOver, frameCount, unitsOf, envsOf, guardsOf, pushEnvs, pushGuards, Code.envs, Code.env?, Code.isFrame, Code.guards, Code.isGuard, Code.weight, Code.frames, Code.isCreation, Code.isCaller, Code.cUnits])
theorem over_gstart {A : Around} {elt tg iter : Expr} {ifs : List Expr} {scope : Scope} {pos : Pos} {it acc : Value} {env : Env} : A.over (.compStart (.GeneratorExp elt [⟨tg, iter, ifs, 0⟩] scope pos) 0 it acc env) [] = A.deeper env := by
  first
    | rfl
    | (obtain ⟨hd, d, fr, gs, u⟩ := A; simp [Around.over, Around.deeper, marksOver, frameCount, unitsOf, envsOf, guardsOf, pushEnvs, pushGuards, Code.envs, Code.env?, Code.isFrame, Code.guards, Code.isGuard, Code.weight, Code.frames, Code.isCreation, Code.isCaller, Code.cUnits])
/-- the whole turn's reading: c: all's true, any's false; W by the turn and a measure -/
def GTurn (c : Bool) (J : It) (g : TG) (tt : TT) (te : TE) (vs : List Nat) (σ : L2.St) (Q : VK) (W : Nat → Nat → Hp → Prop) : Prop :=
  ∀ i m H, W i m H → (J.stop i H ∧ Q (.bl c) H) ∨ (J.go i H ∧ ∃ Nx : Hp → Prop, (∀ H', Nx H' → ∃ m', m' < m ∧ W (i + 1) m' H') ∧ ∀ x H', J.yld i H x H' → g x (wipe σ vs) H' fun σ2 H2 => wipe σ2 vs = wipe σ vs ∧ tt σ2 H2 fun b H3 =>
    if b = true then te σ2 H3 fun y H4 => ∃ k, y = .bl k ∧ if k = c then Nx H4 else Q (.bl (!c)) H4 else Nx H3)
/-- the generator's end, its protocol -/
def gR (G : Cx) (pn : List (Addr × Obj)) (σ : L2.St) (Q : Hp → Prop) : GenEnd := fun _ _ r s₁ => r = .ok .next ∧ ∃ H', Inv G pn σ H' s₁ ∧ Q H'
def gY (G : Cx) (pn : List (Addr × Obj)) (σ : L2.St) (c : Bool) (Q : Hp → Prop) : Protocol := fun _ _ v s₁ kap => ∃ k H', v = .bool k ∧ Inv G pn σ H' s₁ ∧ if k = c then ∀ s'', Slept s₁ s'' → kap (.send .none) s'' else Q H'
section
variable {X : Cx}
theorem thnS {α : Type} {t : Sem α} {Q Q' : α → Shared → Prop} {M : Model} {A : Around} {E : Value → Shared → Prop} {s : Shared} (h : wpAny M A t Q (fun _ _ => False) s) (hQ : ∀ a s, Q a s → Q' a s) : wpAny M A t Q' E s := wpAny_mono h hQ fun _ _ z => False.elim z
theorem gen_seg {s3 : Shared} {H3 : Hp} {cenv : Env} {fp : List Addr} {it a : Addr} {ob : Obj} {tn : Nat → Heap → Prop} {J : It} {elt tg iter : Expr} {ifs : List Expr} {scope : Scope} {pos : Pos} {g : TG} {tt : TT} {te : TE} {vs : List Nat} {σ : L2.St} {c : Bool} {Q : VK} {W : Nat → Nat → Hp → Prop}
    (T : Turn X.prog X.w X.K tg J fp it tn) (hco : cenv.scope.isCoroutine = false) (ha : ∀ b ∈ fp, a ≠ b)
    (hg : PG (genCx X s3 H3 cenv fp) tg g) (ht : PTs (genCx X s3 H3 cenv fp) ifs tt) (he : PE (genCx X s3 H3 cenv fp) elt te) (turn : GTurn c J g tt te vs σ Q W) :
    ∀ (m n i : Nat) (s₀ s : Shared) (H : Hp), m < n → Inv (genCx X s3 H3 cenv fp) [(a, ob)] (wipe σ vs) H s → tn i s.heap → (∀ b ∈ fp, H b = none) → W i m H →
      Seg (model X.prog X.w) X.A.in1.in1 (gR (genCx X s3 H3 cenv fp) [(a, ob)] (wipe σ vs) (Q (.bl c))) (gY (genCx X s3 H3 cenv fp) [(a, ob)] (wipe σ vs) c (Q (.bl (!c)))) n s₀
        (.compLoop (.GeneratorExp elt [⟨tg, iter, ifs, 0⟩] scope pos) 0 (.ref it) .none cenv)
        ((model X.prog X.w).den (.compLoop (.GeneratorExp elt [⟨tg, iter, ifs, 0⟩] scope pos) 0 (.ref it) .none cenv)) [] s := by
  intro m
  induction m using Nat.strongRecOn with
  | ind m ih =>
  intro n i s₀ s H hmn I st nf w
  have stat : ∀ {σ' : L2.St} {H' : Hp} {s' : Shared}, Inv (genCx X s3 H3 cenv fp) [(a, ob)] σ' H' s' → (∀ b ∈ fp, H' b = none) → ∀ b ∈ fp, FpOk (genCx X s3 H3 cenv fp) [(a, ob)] H' b := fun {σ' H' s'} I' hn b hb =>
    ⟨hn b hb, (I'.ok.exf b hb).1, I'.ok.exfs b hb, .inl hb, fun x c e => (I'.ok.exf b hb).2 x c e, fun p hp => by
      have hp : p ∈ ([] : List (Addr × Obj)) ++ [(a, ob)] := hp
      simp at hp
      rw [hp]
      exact ha b hb⟩
  show Seg _ _ _ _ _ s₀ _ ((compTurn (.GeneratorExp elt [⟨tg, iter, ifs, 0⟩] scope pos) 0 (.ref it) .none cenv).onRaise (leaving cenv)) [] s
  rw [compTurn_gen, Sem.onRaise_eq_wrap]
  refine seg_bind_wrap (wpAny_standAt ?_)
  rcases turn i m H w with ⟨stop, qq⟩ | ⟨go, Nx, hNx, step⟩
  · have td := T.done (genCx X s3 H3 cenv fp) rfl rfl rfl rfl i [(a, ob)] s _ H (fun _ _ => False) I (stat I nf) st stop
    refine seg_bind_wrap ?_
    rw [over_gen]
    refine thnS td fun r s6 ⟨hr, I6⟩ => ?_
    subst hr
    exact seg_end (.ok .next) ⟨rfl, H, I6, qq⟩
  · have ti := T.item (genCx X s3 H3 cenv fp) rfl rfl rfl rfl i [(a, ob)] s _ H (fun _ _ => False) I (stat I nf) st go
    refine seg_bind_wrap ?_
    rw [over_gen]
    refine thnS ti fun r s6 ⟨u, hr, h6⟩ => ?_
    subst hr
    refine seg_bind_wrap ?_
    rw [over_gen]
    refine thnS h6 fun _ s7 ⟨x, H7, I7, r7, y7, st7, n7⟩ => ?_
    have I7' := I7.pinned (stat I7 n7) (T.obj _ _ st7)
    refine seg_bind_wrap ?_
    rw [over_gen]
    refine thnS (hg.run _ s7 _ H7 x u _ I7' r7 (step x H7 y7)) fun _ s8 ⟨σ8, H8, I8, hw8, q8⟩ => ?_
    refine seg_bind_wrap ?_
    rw [over_gen]
    refine thnS (ht.run _ s8 σ8 H8 _ I8 q8) fun b s9 ⟨H9, I9, q9⟩ => ?_
    -- the turn's end
    have fin : ∀ {s' : Shared} {H' : Hp}, Inv (genCx X s3 H3 cenv fp) ([(a, ob)] ++ pinsAt fp s7.heap) σ8 H' s' → Inv (genCx X s3 H3 cenv fp) [(a, ob)] (wipe σ vs) H' s' ∧ tn (i + 1) s'.heap ∧ ∀ b ∈ fp, H' b = none := fun {s' H'} I' => by
      have pin' : ∀ b ∈ fp, ∀ o, s7.heap.get? b = some o → s'.heap.get? b = some o ∧ H' b = none := fun b hb o e =>
        let z := I'.pin (b, o) (List.mem_append_right _ (List.mem_append_right _ (mem_pinsAt hb e)))
        ⟨z.1, z.2.1⟩
      have hl : (wipe σ vs).length = σ8.length := by rw [← hw8, wipe_length]
      refine ⟨(I'.unpinned (pins := [(a, ob)])).weak hl (fun j v e => ?_), T.keep _ _ _ st7 fun b hb o e => (pin' b hb o e).1, fun b hb => ?_⟩
      · rw [← hw8] at e
        exact (wipe_some e).1
      · obtain ⟨o, e, _⟩ := T.obj _ _ st7 b hb
        exact (pin' b hb o e).2
    cases b with
    | false =>
      simp only [Bool.false_eq_true, if_false] at q9 ⊢
      obtain ⟨m', hm, w'⟩ := hNx H9 q9
      obtain ⟨J1, J2, J3⟩ := fin I9
      exact seg_again rfl (ih m' hm n (i + 1) s₀ s9 H9 (by omega) J1 J2 J3 w')
    | true =>
      simp only [if_true] at q9 ⊢
      have hy : ∀ v, yieldOut cenv v = yieldValue v := fun v => by simp only [yieldOut, hco, Bool.false_eq_true, if_false]
      simp only [hy]
      rw [Sem.bind_eq_wrap', Sem.bind_eq_wrap', Sem.wrap_wrap, Sem.wrap_wrap]
      refine seg_wrap ?_
      rw [over_gen]
      refine thnS (he.run _ s9 σ8 H9 _ I9 q9) fun z s10 ⟨yv, H10, I10, r10, k, ek, q10⟩ => ?_
      subst ek
      obtain rfl : z = Value.bool k := r10
      obtain ⟨J1, J2, J3⟩ := fin I10
      obtain ⟨n', rfl⟩ : ∃ n', n = n' + 1 := by
        cases n with
        | succ n' => exact ⟨n', rfl⟩
        | zero => exact absurd hmn (Nat.not_lt_zero _)
      refine seg_at (seg_yield rfl rfl rfl ⟨k, H10, rfl, J1, ?_⟩)
      by_cases hk : k = c
      · rw [if_pos hk] at q10 ⊢
        intro s'' hs
        obtain ⟨m', hm, w'⟩ := hNx H10 q10
        exact seg_again rfl (ih m' hm n' (i + 1) s'' s'' H10 (by omega) (slept_inv J1 hs) (by rw [hs.2.2]; exact J2) J3 w')
      · rw [if_neg hk] at q10 ⊢
        exact q10
/-- the generator's start -/
theorem gen_seg0 {s3 : Shared} {H3 : Hp} {cenv : Env} {fp : List Addr} {it a : Addr} {ob : Obj} {tn : Nat → Heap → Prop} {J : It} {elt tg iter : Expr} {ifs : List Expr} {scope : Scope} {pos : Pos} {g : TG} {tt : TT} {te : TE} {vs : List Nat} {σ : L2.St} {c : Bool} {Q : VK} {W : Nat → Nat → Hp → Prop}
    (T : Turn X.prog X.w X.K tg J fp it tn) (hco : cenv.scope.isCoroutine = false) (ha : ∀ b ∈ fp, a ≠ b)
    (hg : PG (genCx X s3 H3 cenv fp) tg g) (ht : PTs (genCx X s3 H3 cenv fp) ifs tt) (he : PE (genCx X s3 H3 cenv fp) elt te) (turn : GTurn c J g tt te vs σ Q W)
    {m n : Nat} {s₀ s : Shared} {H : Hp} (hmn : m < n) (I : Inv (genCx X s3 H3 cenv fp) [(a, ob)] (wipe σ vs) H s) (st : tn 0 s.heap) (nf : ∀ b ∈ fp, H b = none) (w : W 0 m H) :
      Seg (model X.prog X.w) X.A.in1.in1 (gR (genCx X s3 H3 cenv fp) [(a, ob)] (wipe σ vs) (Q (.bl c))) (gY (genCx X s3 H3 cenv fp) [(a, ob)] (wipe σ vs) c (Q (.bl (!c)))) n s₀
        (.compStart (.GeneratorExp elt [⟨tg, iter, ifs, 0⟩] scope pos) 0 (.ref it) .none cenv)
        ((model X.prog X.w).den (.compStart (.GeneratorExp elt [⟨tg, iter, ifs, 0⟩] scope pos) 0 (.ref it) .none cenv)) [] s := by
  have loop := gen_seg (pos := pos) (iter := iter) (scope := scope) T hco ha hg ht he turn m n 0 s₀ s H hmn I st nf w
  show Seg _ _ _ _ _ s₀ _ ((compStart (.GeneratorExp elt [⟨tg, iter, ifs, 0⟩] scope pos) 0 (.ref it) .none cenv).onRaise (leaving cenv)) [] s
  unfold compStart
  rw [Sem.onRaise_eq_wrap]
  show Seg _ _ _ _ _ s₀ _ ((ask >>= _).wrap _ _ _ _) [] s
  refine seg_bind_wrap (wpAny_askSetting ?_)
  split
  · exact seg_again rfl loop
  · first
      | exact seg_bind_wrap (wpAny_rule (seg_bind_wrap (wpAny_standAt (seg_bind_wrap (T.self _ 0 s _ _ st (seg_again rfl loop))))))
      | (refine seg_bind_wrap (wpAny_rule ?_); show Seg _ _ _ _ _ s₀ _ ((standAt iter.pos >>= _).wrap _ _ _ _) [] s; exact seg_bind_wrap (wpAny_standAt (seg_bind_wrap (T.self _ 0 s _ _ st (seg_again rfl loop)))))
/-- the generator's object: its number gi -/
structure GOb (ob : Obj) (gi : Nat) : Prop where
  cls : ob.cls = .type "generator"
  data : ∃ nm qn : Value, ob.data = .fields #[.int gi 0, nm, qn]
  slots : ob.slots = #[]
theorem GOb.at {ob : Obj} {gi : Nat} (h : GOb ob gi) {hp : Heap} {a : Addr} (e : hp.get? a = some ob) : hp.IsGen a gi := by
  obtain ⟨nm, qn, hd⟩ := h.data
  exact ⟨ob, nm, qn, e, h.cls, hd, h.slots⟩
/-- the generator at a, ready to be walked: n bounds its turns -/
def GReady (X : Cx) (G : Cx) (a : Addr) (ob : Obj) (gi : Nat) (σ : L2.St) (c : Bool) (Qs Qb : Hp → Prop) (n : Nat) (s : Shared) : Prop :=
  s.heap.NoLimit ∧ AllBare s.gens ∧ s.heap.get? a = some ob ∧ ∃ gs, s.gens[gi]? = some gs ∧ ∀ s'', Slept s s'' → gs.Goes (model X.prog X.w) X.A.in1.in1 (gR G [(a, ob)] σ Qs) (gY G [(a, ob)] σ c Qb) n (.send .none) s''
/-- a turn of the consumer -/
theorem gen_next {G : Cx} {a : Addr} {ob : Obj} {gi : Nat} {σ : L2.St} {c : Bool} {Qs Qb : Hp → Prop} {n : Nat} {s : Shared} {E : Value → Shared → Prop} {Q' : Option Value → Shared → Prop} {k : Nat} (hr : Room k X.A)
    (hob : GOb ob gi) (R : GReady X G a ob gi σ c Qs Qb n s)
    (hend : ∀ s' H', Inv G [(a, ob)] σ H' s' → Qs H' → Q' none s')
    (hgo : ∀ n' s', n = n' + 1 → GReady X G a ob gi σ c Qs Qb n' s' → Q' (some (.bool c)) s')
    (hbr : ∀ s' H', Inv G [(a, ob)] σ H' s' → Qb H' → Q' (some (.bool (!c))) s') :
    wpAny (model X.prog X.w) X.A.in1 (pyNext (.ref a)) Q' E s := by
  obtain ⟨lim, bare, hG, gs, hgs, goes⟩ := R
  have hlt : gi < s.gens.size := (Array.getElem?_eq_some_iff.mp hgs).1
  refine GenW.wpAny_gsz (n := s.gens.size) (Nat.le_refl _) ?_
  refine wpAny_pyNext_genexpQ (A := X.A.in1) (P := fun _ _ s₁ => ∃ H', Inv G [(a, ob)] σ H' s₁ ∧ Qs H') hr.hd lim (by have := hr.dp; show X.A.depth < _; omega) (hob.at hG) hgs (goes _ (Slept.set bare rfl)) (fun v s₁ gs' hb hv => ?_) (fun s₁ hp h' hk => ?_)
  · intro hsz
    obtain ⟨kk, H', rfl, I', hk⟩ := hv
    by_cases e : kk = c
    · subst e
      rw [if_pos rfl] at hk
      have sl : Slept s₁ (s₁.setGen gi gs') := Slept.set I'.bare hb
      cases n with
      | zero => exact False.elim (hk s₁ ⟨rfl, I'.bare, rfl⟩)
      | succ n' =>
        have hlt' : gi < s₁.gens.size := by
          rw [GenW.setGen_size] at hsz
          exact Nat.lt_of_lt_of_le hlt hsz
        refine hgo n' _ rfl ⟨I'.nolimit, (slept_inv I' sl).bare, (I'.pin (a, ob) (List.mem_append_right _ (by simp))).1, gs', ?_, fun s'' hs => hk s'' (sl.trans hs)⟩
        simp [Shared.setGen, hlt']
    · rw [if_neg e] at hk
      have e2 : kk = !c := by cases kk <;> cases c <;> simp_all
      rw [e2]
      exact hbr _ H' (slept_inv I' (Slept.set I'.bare hb)) hk
  · intro _
    obtain ⟨H', I', q⟩ := hp
    have I2 := slept_inv I' (Slept.set (g := gi) (x := .finished) I'.bare rfl)
    exact hend _ H' (I2.kept (t' := (s₁.setGen gi .finished).toks) hk) q
/-- all's loop, any's loop -/
theorem all_loop {G : Cx} {a : Addr} {ob : Obj} {gi : Nat} {σ : L2.St} {Qs Qb : Hp → Prop} {k : Nat} {R : Result → Shared → Prop} (hr : Room k X.A) (hob : GOb ob gi)
    (hs : ∀ s' H', Inv G [(a, ob)] σ H' s' → Qs H' → R (.ok (.ret (.bool true))) s') (hb : ∀ s' H', Inv G [(a, ob)] σ H' s' → Qb H' → R (.ok (.ret (.bool false))) s') :
    ∀ (n : Nat) (s : Shared), GReady X G a ob gi σ true Qs Qb n s → codeAny (model X.prog X.w) X.A (.builtin "all.loop" ⟨[.ref a], []⟩) R s := by
  intro n
  induction n with
  | zero =>
    intro s g
    refine codeAny_builtin F.entry_all_loop ?_
    rw [Around.under_plainId F.plain_all_loop _]
    show wpAny _ X.A.in1 (pyNext (.ref a) >>= _) _ _ s
    refine wpAny_bind (gen_next hr hob g (fun s' H' I q => ?_) (fun n' s' e => by cases e) (fun s' H' I q => ?_))
    · exact wpAny_bind (wpAny_rule (wpAny_pure (hs s' H' I q)))
    · refine wpAny_bind (wpAny_holding (wpAny_truthy_bool ?_))
      refine wpAny_bind (wpAny_letGo ?_)
      simp only [Bool.not_true, Bool.false_eq_true, if_false]
      exact wpAny_bind (wpAny_rule (wpAny_pure (hb s' H' I q)))
  | succ n ih =>
    intro s g
    refine codeAny_builtin F.entry_all_loop ?_
    rw [Around.under_plainId F.plain_all_loop _]
    show wpAny _ X.A.in1 (pyNext (.ref a) >>= _) _ _ s
    refine wpAny_bind (gen_next hr hob g (fun s' H' I q => ?_) (fun n' s' e g' => ?_) (fun s' H' I q => ?_))
    · exact wpAny_bind (wpAny_rule (wpAny_pure (hs s' H' I q)))
    · cases e
      refine wpAny_bind (wpAny_holding (wpAny_truthy_bool ?_))
      refine wpAny_bind (wpAny_letGo ?_)
      simp only [if_true]
      exact wpAny_pure ⟨plainId_quiet F.plain_all_loop _, ih s' g'⟩
    · refine wpAny_bind (wpAny_holding (wpAny_truthy_bool ?_))
      refine wpAny_bind (wpAny_letGo ?_)
      simp only [Bool.not_true, Bool.false_eq_true, if_false]
      exact wpAny_bind (wpAny_rule (wpAny_pure (hb s' H' I q)))
theorem any_loop {G : Cx} {a : Addr} {ob : Obj} {gi : Nat} {σ : L2.St} {Qs Qb : Hp → Prop} {k : Nat} {R : Result → Shared → Prop} (hr : Room k X.A) (hob : GOb ob gi)
    (hs : ∀ s' H', Inv G [(a, ob)] σ H' s' → Qs H' → R (.ok (.ret (.bool false))) s') (hb : ∀ s' H', Inv G [(a, ob)] σ H' s' → Qb H' → R (.ok (.ret (.bool true))) s') :
    ∀ (n : Nat) (s : Shared), GReady X G a ob gi σ false Qs Qb n s → codeAny (model X.prog X.w) X.A (.builtin "any.loop" ⟨[.ref a], []⟩) R s := by
  intro n
  induction n with
  | zero =>
    intro s g
    refine codeAny_builtin F.entry_any_loop ?_
    rw [Around.under_plainId F.plain_any_loop _]
    show wpAny _ X.A.in1 (pyNext (.ref a) >>= _) _ _ s
    refine wpAny_bind (gen_next hr hob g (fun s' H' I q => ?_) (fun n' s' e => by cases e) (fun s' H' I q => ?_))
    · exact wpAny_bind (wpAny_rule (wpAny_pure (hs s' H' I q)))
    · refine wpAny_bind (wpAny_holding (wpAny_truthy_bool ?_))
      refine wpAny_bind (wpAny_letGo ?_)
      simp only [Bool.not_false, if_true]
      exact wpAny_bind (wpAny_rule (wpAny_pure (hb s' H' I q)))
  | succ n ih =>
    intro s g
    refine codeAny_builtin F.entry_any_loop ?_
    rw [Around.under_plainId F.plain_any_loop _]
    show wpAny _ X.A.in1 (pyNext (.ref a) >>= _) _ _ s
    refine wpAny_bind (gen_next hr hob g (fun s' H' I q => ?_) (fun n' s' e g' => ?_) (fun s' H' I q => ?_))
    · exact wpAny_bind (wpAny_rule (wpAny_pure (hs s' H' I q)))
    · cases e
      refine wpAny_bind (wpAny_holding (wpAny_truthy_bool ?_))
      refine wpAny_bind (wpAny_letGo ?_)
      simp only [Bool.false_eq_true, if_false]
      exact wpAny_pure ⟨plainId_quiet F.plain_any_loop _, ih s' g'⟩
    · refine wpAny_bind (wpAny_holding (wpAny_truthy_bool ?_))
      refine wpAny_bind (wpAny_letGo ?_)
      simp only [Bool.not_false, if_true]
      exact wpAny_bind (wpAny_rule (wpAny_pure (hb s' H' I q)))
end
end GxL
namespace GxL
open PySem PySem.Spec PyProof.Rows L2
open Sem (wp)
/-- all(..) (c: true), any(..) (c: false) of a generator expression; the def's table at P may have grown -/
def tGx (c : Bool) (P : Addr) (wi : TI) (g : TG) (tt : TT) (te : TE) (vs : List Nat) : TE := fun σ H Q => wi σ H fun J H1 => GxR.TabG H1 P ∧ ∀ H2, GxR.Tabbed P H1 H2 → ∃ W : Nat → Nat → Hp → Prop, (∃ m, W 0 m H2) ∧ GTurn c J g tt te vs σ Q W
section
variable {X : Cx}
theorem gen_made {cc P : Addr} {c : Bool} {elt tg iter : Expr} {ifs : List Expr} {scope : Scope} {own : List (Str × Nat)} {gpos : Pos} {wi : TI} {g : TG} {tt : TT} {te : TE} {k : Nat} {pins : List (Addr × Obj)} {s : Shared} {σ : L2.St} {H : Hp} {Q : VK} {Q' : Value → Shared → Prop}
    (hr : Room (k + 3) X.A) (TB : LamX.TabB X.base X.mg cc P) (hcode : X.env.code = .ref cc) (S : GSc scope) (ok : BlkOk X.N X.env.scope scope own) (hN : X.N.Nodup) (hi : PI X tg iter wi)
    (hg : ∀ (s : Shared) (H : Hp) (C : Addr) (code : Value) (fp : List Addr), PG (genCx X s H (gEnv X scope C code) fp) tg g) (ht : ∀ (s : Shared) (H : Hp) (C : Addr) (code : Value) (fp : List Addr), Room k (genCx X s H (gEnv X scope C code) fp).A → PTs (genCx X s H (gEnv X scope C code) fp) ifs tt)
    (he : ∀ (s : Shared) (H : Hp) (C : Addr) (code : Value) (fp : List Addr), Room k (genCx X s H (gEnv X scope C code) fp).A → PE (genCx X s H (gEnv X scope C code) fp) elt te) (hs : ∀ v, genFold iter X.env v = pure v)
    (I : Inv X pins σ H s) (h : tGx c P wi g tt te (own.map (·.2)) σ H Q)
    (hQ : ∀ (G : Cx) (a : Addr) (ob : Obj) (gi n : Nat) (s5 : Shared), GOb ob gi → GReady X G a ob gi (wipe σ (own.map (·.2))) c (Q (.bl c)) (Q (.bl (!c))) n s5 → (∀ s' H', Inv G [(a, ob)] (wipe σ (own.map (·.2))) H' s' → Inv X pins σ H' s') → Q' (.ref a) s5) :
    wpAny (model X.prog X.w) X.A (eval (.GeneratorExp elt [⟨tg, iter, ifs, 0⟩] scope gpos) X.env) Q' X.xe s := by
  have hfree : ∀ y ∈ scope.names, y.2 = .free → ∃ c, X.env.cells.lookup y.1 = some c := fun y hy e => by
    rcases ok.free y hy e with k | k
    · exact I.ok.has _ (.inl k)
    · exact I.ok.has _ (.inr k)
  refine wpAny_GeneratorExp_make S.co (closure_ok hfree) S.cell S.dot ok.kind (by have := hr.dp; omega) ?_ hs
  refine thn (hi.run pins s σ H _ I h) fun xv s1 h1 => thn h1 fun itv s2 h2 => ?_
  obtain ⟨it, fp, tn, J, H2, e, I2, T, st2, f2, ⟨ps, hP, hto⟩, q⟩ := h2
  subst e
  have hPs : s2.heap.get? P = some { cls := .none, data := .fields ps } := I2.hok P _ hP
  have cd : PySem.W.CodeHd s2.heap cc P := TB.code.keeps I2.bk
  have sz : ∀ b ∈ fp, b < s2.heap.objs.size := fun b hb => by
    obtain ⟨o, e, _⟩ := T.obj _ _ st2 b hb
    exact Heap.lt_size e
  have nfP : ∀ b ∈ fp, b ≠ P := fun b hb z => by
    have z1 := (f2 b hb).1
    rw [z, hP] at z1
    cases z1
  have cont : ∀ (code : Value) (h3 : Heap) (tk : Nat) (more : Array Value), Heap.ExtBut P s2.heap h3 → s2.heap.objs.size ≤ h3.objs.size → h3.get? P = some { cls := .none, data := .fields (ps ++ more) } → TriplesOk (ps ++ more).toList →
      wpAny (model X.prog X.w) X.A (builtinsFor X.env.globals X.env.builtins) (fun bi s₄ =>
        ∀ h', h'.Ns s₄.heap.objs.size (fun y => if y = ".0" then some (.ref it) else none) → Heap.SameBut s₄.heap.objs.size (s₄.heap.push { cls := .type "frame", data := .dict #[] }) h' →
          Q' (.ref h'.objs.size) { s₄ with
            gens := s₄.gens.push (.fresh (.compStart (.GeneratorExp elt [⟨tg, iter, ifs, 0⟩] scope gpos) 0 (.ref it) .none (genEnv scope (cloFrom X.env.cells scope.names []) s₄.heap.objs.size code bi X.env))),
            toks := s₄.toks + 1 + 1 + 1,
            heap := h'.push { cls := .type "generator", data := .fields #[.int s₄.gens.size 0, .str "<genexpr>" (s₄.toks + 1), .str (X.env.qual ++ "<genexpr>") (s₄.toks + 1 + 1)] } }) X.xe { s2 with heap := h3, toks := tk } := by
    intro code h3 tk more hx hsz hP3 ht3
    have I3 : Inv X pins σ (upd H2 P (.tbl (ps ++ more))) { s2 with heap := h3, gens := s2.gens, drawn := s2.drawn, toks := tk } := GxR.inv_tab I2 hP (fun b o hb e => hx b o hb e) hP3 I2.bare
    obtain ⟨bm, ob, e1, e2, e3, e4, e5, e6, e7, e8⟩ := TB.bm
    have keep3 : ∀ b u, b ≠ P → s2.heap.get? b = some u → h3.get? b = some u := fun b u hb e => hx b u hb e
    refine wpAny_builtinsFor (m := X.mg) (by rw [I2.ok.glob]; exact (I2.mod.glob.keeps I2.bk).extBut hx TB.gP) e1 e2 (keep3 _ _ e4 (I2.bk _ _ e5)) e6 e7 e8 ?_
    intro h' hns hsb
    obtain ⟨W, ⟨m0, w0⟩, turn⟩ := q (upd H2 P (.tbl (ps ++ more))) ⟨⟨ps ++ more, upd_same, ht3⟩, fun b hb => upd_ne hb⟩
    generalize hH3 : upd H2 P (.tbl (ps ++ more)) = H3 at I3 w0
    have n3 : ∀ b ∈ fp, H3 b = none := fun b hb => by rw [← hH3, upd_ne (nfP b hb)]; exact (f2 b hb).1
    generalize hs3 : ({ s2 with heap := h3, gens := s2.gens, drawn := s2.drawn, toks := tk } : Shared) = s3 at I3
    have es3 : ({ s2 with heap := h3, toks := tk } : Shared) = s3 := by rw [← hs3]
    have eh3 : h3 = s3.heap := by rw [← hs3]
    rw [show ({ s2 with heap := h3, toks := tk } : Shared).heap = s3.heap from by rw [es3]] at hns hsb
    have f3 : ∀ b ∈ fp, FpOk X pins H3 b ∧ b < s3.heap.objs.size := fun b hb => ⟨⟨n3 b hb, (f2 b hb).2⟩, by rw [← eh3]; exact Nat.lt_of_lt_of_le (sz b hb) hsz⟩
    have szh : h'.objs.size = s3.heap.objs.size + 1 := by rw [hsb.1, Heap.size_push]
    have kp' : ∀ b o, s3.heap.get? b = some o → h'.get? b = some o := fun b o e => hsb.extBut b o (Nat.ne_of_lt (Heap.lt_size e)) (Heap.get?_push_of_some _ e)
    generalize hob : ({ cls := .type "generator", data := .fields #[.int s3.gens.size 0, .str "<genexpr>" (s3.toks + 1), .str (X.env.qual ++ "<genexpr>") (s3.toks + 1 + 1)] } : Obj) = og
    have GO : GOb og s3.gens.size := by
      rw [← hob]
      exact ⟨rfl, ⟨_, _, rfl⟩, rfl⟩
    have kp5 : ∀ b o, s3.heap.get? b = some o → (h'.push og).get? b = some o := fun b o e => Heap.get?_push_of_some _ (kp' b o e)
    have ga : (h'.push og).get? h'.objs.size = some og := Heap.get?_push_size _ (by rw [← hob]; rfl)
    refine hQ (genCx X s3 H3 (gEnv X scope s3.heap.objs.size code) fp) h'.objs.size og s3.gens.size (m0 + 1) _ GO ?_ fun s' H' I' => ?_
    · generalize hs5 : ({ s3 with
            gens := s3.gens.push (.fresh (.compStart (.GeneratorExp elt [⟨tg, iter, ifs, 0⟩] scope gpos) 0 (.ref it) .none (genEnv scope (cloFrom X.env.cells scope.names []) s3.heap.objs.size code builtinsNs X.env))),
            toks := s3.toks + 1 + 1 + 1, heap := h'.push og } : Shared) = s5
      have eh5 : s5.heap = h'.push og := by rw [← hs5]
      have I5 : Inv (genCx X s3 H3 (gEnv X scope s3.heap.objs.size code) fp) [] (wipe σ (own.map (·.2))) H3 s5 :=
        gen_start I3 ok S hN hr.hd f3 (by rw [← hs5]) (by rw [← hs5]; exact I3.bare.push rfl) (by rw [eh5]; exact hns.push _) (by rw [eh5]; exact kp5)
      have I6 : Inv (genCx X s3 H3 (gEnv X scope s3.heap.objs.size code) fp) [(h'.objs.size, og)] (wipe σ (own.map (·.2))) H3 s5 := by
        refine I5.pins_of fun p hp => ?_
        have hp : p = (h'.objs.size, og) := by simpa using hp
        rw [hp]
        have hge : s3.heap.objs.size ≤ h'.objs.size := by omega
        refine ⟨by rw [eh5]; exact ga, I3.hok.fresh hge, ?_, fun z => ?_, fun v z => ?_⟩
        · show h'.objs.size ≠ s3.heap.objs.size
          omega
        · obtain ⟨_, o, ho, _⟩ := I5.ok.funs.mem z
          have ho : s3.heap.get? h'.objs.size = some o := ho
          exact absurd (Nat.lt_of_lt_of_le (Heap.lt_size ho) hge) (Nat.lt_irrefl _)
        · rw [← hob] at z
          cases z
      have st5 : tn 0 s5.heap := T.keep _ _ _ st2 fun b hb o e => by rw [eh5]; exact kp5 b o (by rw [← eh3]; exact keep3 b o (nfP b hb) e)
      have hgs : s5.gens[s3.gens.size]? = some (.fresh (.compStart (.GeneratorExp elt [⟨tg, iter, ifs, 0⟩] scope gpos) 0 (.ref it) .none (gEnv X scope s3.heap.objs.size code))) := by
        rw [← hs5]
        exact Array.getElem?_push_size ..
      refine ⟨I6.nolimit, I6.bare, by rw [eh5]; exact ga, _, hgs, fun s'' hsl => ⟨rfl, ?_⟩⟩
      have hab : ∀ b ∈ fp, h'.objs.size ≠ b := fun b hb z => by
        have h1 := (f3 b hb).2
        rw [← z] at h1
        have h1 : h'.objs.size < s3.heap.objs.size := h1
        omega
      exact gen_seg0 T S.co hab (hg _ _ _ _ _) (ht _ _ _ _ _ (hr.in1.in1.deeper _)) (he _ _ _ _ _ (hr.in1.in1.deeper _)) turn (Nat.lt_succ_self m0) (slept_inv I6 hsl) (by rw [hsl.2.2]; exact st5) n3 w0
    · exact I3.call' (ch := fp) I'.os I'.base I'.hok I'.bare fun b hb => ⟨(f3 b hb).1.2.2.2.1, (f3 b hb).1.2.1, (f3 b hb).1.2.2.2.2.1, (f3 b hb).1.2.2.2.2.2⟩
  refine ⟨I2.nolimit, ?_⟩
  cases hf : codeAmong gpos ps.toList with
  | none =>
    refine wpAny_genexprCodeX hcode (cd.code hPs hto) (cd.tab hPs) hf fun c' h' tk hx hge hlt hco' _ htab' _ => ?_
    obtain ⟨o1, vs, f1, tf, fl, tg, inF, tx, tt, op, _, _, _, _, _, _, _, _, _, htr, _⟩ := hco'
    exact cont _ h' tk _ hx (Nat.le_trans hge (Nat.le_of_lt hlt)) htab'.2 htr
  | some cv =>
    refine wpAny_genexprCode_hit hcode (cd.code hPs hto) hf ?_
    exact cont cv s2.heap s2.toks #[] (Heap.ExtBut.refl _ _) (Nat.le_refl _) (by simpa using hPs) (by simpa using hto)
/-- all(.. for .. in ..) -/
theorem pe_allG {cc P : Addr} {elt tg iter : Expr} {ifs : List Expr} {scope : Scope} {own : List (Str × Nat)} {p pos gpos : Pos} {wi : TI} {g : TG} {tt : TT} {te : TE} {k : Nat}
    (hr : Room (k + 3) X.A) (hgl : Gl X "all") (hm : X.mg "all" = none) (TB : LamX.TabB X.base X.mg cc P) (hcode : X.env.code = .ref cc) (S : GSc scope) (ok : BlkOk X.N X.env.scope scope own) (hN : X.N.Nodup) (hi : PI X tg iter wi)
    (hg : ∀ (s : Shared) (H : Hp) (C : Addr) (code : Value) (fp : List Addr), PG (genCx X s H (gEnv X scope C code) fp) tg g) (ht : ∀ (s : Shared) (H : Hp) (C : Addr) (code : Value) (fp : List Addr), Room k (genCx X s H (gEnv X scope C code) fp).A → PTs (genCx X s H (gEnv X scope C code) fp) ifs tt)
    (he : ∀ (s : Shared) (H : Hp) (C : Addr) (code : Value) (fp : List Addr), Room k (genCx X s H (gEnv X scope C code) fp).A → PE (genCx X s H (gEnv X scope C code) fp) elt te) (hb : bootBuiltins "all" = some (.builtin "all") := by rfl) (hs : ∀ v, genFold iter X.env v = pure v := by intro _; rfl)
    (hst : starEach [.GeneratorExp elt [⟨tg, iter, ifs, 0⟩] scope gpos] X.env = (false, eval (.GeneratorExp elt [⟨tg, iter, ifs, 0⟩] scope gpos) X.env) :: starEach [] X.env := by rfl) :
    PE X (.Call (.Name "all" p) [.GeneratorExp elt [⟨tg, iter, ifs, 0⟩] scope gpos] [] pos) (tGx true P wi g tt te (own.map (·.2))) := by
  refine ⟨fun pins s σ H Q I h => ?_⟩
  refine wpAny_Call_Name_kw (ld_blt I hgl hm hb ?_)
  refine PyProof.Rows.callWith_builtin1 ?_ hst (by rfl)
  rw [hst]
  show wpAny _ _ (spliced ((false, eval (.GeneratorExp elt [⟨tg, iter, ifs, 0⟩] scope gpos) X.env) :: backTo pos (starEach [] X.env))) _ _ s
  refine Calls.spliced_cons (gen_made hr TB hcode S ok hN hi hg ht he hs I h fun G a ob gi n s5 hob R back => ?_)
  refine Calls.spliced_nil ?_
  refine call_function_tree F.kind_all F.plain_all F.entry_all (F.args_all1 _) ?_
  unfold Builtin.«all»
  refine wpAny_bind (m := oneArg "all" _) (wpAny_pure ?_)
  refine wpAny_bind (wpAny_pyIter_gen (hob.at R.2.2.1) ?_)
  exact wpAny_pure ⟨plainId_quiet F.plain_all_loop _, all_loop hr hob (fun s' H' I' q => ⟨.bl true, H', back s' H' I', rfl, q⟩) (fun s' H' I' q => ⟨.bl false, H', back s' H' I', rfl, q⟩) n s5 R⟩
/-- any(.. for .. in ..) -/
theorem pe_anyG {cc P : Addr} {elt tg iter : Expr} {ifs : List Expr} {scope : Scope} {own : List (Str × Nat)} {p pos gpos : Pos} {wi : TI} {g : TG} {tt : TT} {te : TE} {k : Nat}
    (hr : Room (k + 3) X.A) (hgl : Gl X "any") (hm : X.mg "any" = none) (TB : LamX.TabB X.base X.mg cc P) (hcode : X.env.code = .ref cc) (S : GSc scope) (ok : BlkOk X.N X.env.scope scope own) (hN : X.N.Nodup) (hi : PI X tg iter wi)
    (hg : ∀ (s : Shared) (H : Hp) (C : Addr) (code : Value) (fp : List Addr), PG (genCx X s H (gEnv X scope C code) fp) tg g) (ht : ∀ (s : Shared) (H : Hp) (C : Addr) (code : Value) (fp : List Addr), Room k (genCx X s H (gEnv X scope C code) fp).A → PTs (genCx X s H (gEnv X scope C code) fp) ifs tt)
    (he : ∀ (s : Shared) (H : Hp) (C : Addr) (code : Value) (fp : List Addr), Room k (genCx X s H (gEnv X scope C code) fp).A → PE (genCx X s H (gEnv X scope C code) fp) elt te) (hs : ∀ v, genFold iter X.env v = pure v := by intro _; rfl)
    (hst : starEach [.GeneratorExp elt [⟨tg, iter, ifs, 0⟩] scope gpos] X.env = (false, eval (.GeneratorExp elt [⟨tg, iter, ifs, 0⟩] scope gpos) X.env) :: starEach [] X.env := by rfl) :
    PE X (.Call (.Name "any" p) [.GeneratorExp elt [⟨tg, iter, ifs, 0⟩] scope gpos] [] pos) (tGx false P wi g tt te (own.map (·.2))) := by
  refine ⟨fun pins s σ H Q I h => ?_⟩
  refine wpAny_Call_Name_kw (ld_blt I hgl hm boot_any ?_)
  refine PyProof.Rows.callWith_builtin1 ?_ hst (by rfl)
  rw [hst]
  show wpAny _ _ (spliced ((false, eval (.GeneratorExp elt [⟨tg, iter, ifs, 0⟩] scope gpos) X.env) :: backTo pos (starEach [] X.env))) _ _ s
  refine Calls.spliced_cons (gen_made hr TB hcode S ok hN hi hg ht he hs I h fun G a ob gi n s5 hob R back => ?_)
  refine Calls.spliced_nil ?_
  refine call_function_tree F.kind_any F.plain_any F.entry_any (F.args_any1 _) ?_
  unfold Builtin.«any»
  refine wpAny_bind (m := oneArg "any" _) (wpAny_pure ?_)
  refine wpAny_bind (wpAny_pyIter_gen (hob.at R.2.2.1) ?_)
  exact wpAny_pure ⟨plainId_quiet F.plain_any_loop _, any_loop hr hob (fun s' H' I' q => ⟨.bl false, H', back s' H' I', rfl, q⟩) (fun s' H' I' q => ⟨.bl true, H', back s' H' I', rfl, q⟩) n s5 R⟩
end
end GxL
namespace Rg
open PySem PySem.Spec PyProof.Rows L2
/-! ### tables of code objects: all the law's tables stand, all else is kept -/
def Tab (Ps : List Addr) (H : Hp) : Prop := ∀ p ∈ Ps, GxR.TabG H p
structure Tk (Ps : List Addr) (H H' : Hp) : Prop where
  tab : Tab Ps H'
  kp : Kp Ps H H'
section
variable {Ps : List Addr} {H H1 H2 : Hp} {a P : Addr} {o : HO}
theorem Tk.refl (t : Tab Ps H) : Tk Ps H H := ⟨t, .refl⟩
theorem Tk.trans (x : Tk Ps H H1) (y : Tk Ps H1 H2) : Tk Ps H H2 := ⟨y.tab, x.kp.trans y.kp⟩
theorem Tab.same (t : Tab Ps H) (s : Same H H1) : Tab Ps H1 := fun p hp => let ⟨ps, e, r⟩ := t p hp; ⟨ps, s _ _ e, r⟩
theorem Tk.of (t : Tab Ps H) (s : Same H H1) : Tk Ps H H1 := ⟨t.same s, .of s⟩
theorem Tk.same (x : Tk Ps H H1) (s : Same H1 H2) : Tk Ps H H2 := x.trans (.of x.tab s)
theorem Tab.new (t : Tab Ps H) (h : H a = none) : Tab Ps (upd H a o) := t.same (same_upd h)
theorem Tk.new (x : Tk Ps H H1) (h : H1 a = none) : Tk Ps H (upd H1 a o) := x.same (same_upd h)
theorem Tab.ne (t : Tab Ps H) (hp : P ∈ Ps) (h : H a = some o) (n : ∀ ps, o ≠ .tbl ps) : a ≠ P := fun z => by
  obtain ⟨ps, e, _⟩ := t P hp
  rw [z, e] at h
  exact n ps (Option.some.inj h).symm
theorem Tab.nin (t : Tab Ps H) (h : H a = some o) (n : ∀ ps, o ≠ .tbl ps) : a ∉ Ps := fun z => t.ne z h n rfl
theorem Tab.ninN (t : Tab Ps H) (h : H a = none) : a ∉ Ps := fun z => by
  obtain ⟨ps, e, _⟩ := t a z
  rw [h] at e
  cases e
/-- what is no table is kept -/
theorem Tk.at (x : Tk Ps H H1) (t : Tab Ps H) (h : H a = some o) (n : ∀ ps, o ≠ .tbl ps := by intro _ z; cases z) : H1 a = some o := x.kp a o h (t.nin h n)
theorem Tk.at' (x : Tk Ps H H1) (h : H a = some o) (n : a ∉ Ps) : H1 a = some o := x.kp a o h n
theorem Tk.free (x : Tk Ps H H1) (h : H1 a = none) : H a = none := x.kp.free (x.tab.ninN h) h
theorem Tab.upd (t : Tab Ps H) (h : H a = some o) (n : ∀ ps, o ≠ .tbl ps) {u : HO} : Tab Ps (upd H a u) := fun p hp => by
  obtain ⟨ps, e, r⟩ := t p hp
  exact ⟨ps, by rw [upd_ne (t.ne hp h n).symm]; exact e, r⟩
/-- one table has grown -/
theorem Tk.tabbed (t : Tab Ps H) (hp : P ∈ Ps) (h : GxR.Tabbed P H H1) : Tk Ps H H1 := by
  refine ⟨fun p q => ?_, fun x o e n => by rw [h.2 x fun z => n (z ▸ hp)]; exact e⟩
  by_cases z : p = P
  · rw [z]; exact h.1
  · obtain ⟨ps, e, r⟩ := t p q
    exact ⟨ps, by rw [h.2 p z]; exact e, r⟩
end
/-! ### all, any: the forms one uses -/
theorem gx_by {c : Bool} {J : It} {g : TG} {tt : TT} {te : TE} {vs : List Nat} {σ : L2.St} {Q : VK} {H2 : Hp} (n : Nat) (Pv : Nat → Hp → Prop) (h0 : Pv 0 H2) (hgo : ∀ i H, i < n → Pv i H → J.go i H) (hstop : ∀ H, Pv n H → J.stop n H)
    (hs : ∀ i x H H', i < n → Pv i H → J.yld i H x H' → g x (wipe σ vs) H' fun σ2 H2 => wipe σ2 vs = wipe σ vs ∧ tt σ2 H2 fun b H3 => if b = true then te σ2 H3 fun y H4 => ∃ k, y = .bl k ∧ if k = c then Pv (i + 1) H4 else Q (.bl (!c)) H4 else Pv (i + 1) H3)
    (hd : ∀ H, Pv n H → Q (.bl c) H) : ∃ W : Nat → Nat → Hp → Prop, (∃ m, W 0 m H2) ∧ GxL.GTurn c J g tt te vs σ Q W := by
  refine ⟨fun i m H => m = n - i ∧ i ≤ n ∧ Pv i H, ⟨n, by simp, Nat.zero_le _, h0⟩, ?_⟩
  rintro i m H ⟨rfl, hi, p⟩
  by_cases hlt : i < n
  · exact .inr ⟨hgo i H hlt p, Pv (i + 1), fun H' p' => ⟨n - (i + 1), by omega, rfl, hlt, p'⟩, fun x H' y => hs i x H H' hlt p y⟩
  · have e : i = n := by omega
    subst e
    exact .inl ⟨hstop H p, hd H p⟩
/-- over a list -/
theorem gx_list {K : PySem.W.Frag} {a : Addr} {xs : List V} {c : Bool} {g : TG} {tt : TT} {te : TE} {vs : List Nat} {σ : L2.St} {Q : VK} {H2 : Hp} (Pv : Nat → Hp → Prop) (h0 : Pv 0 H2) (hl : ∀ i H, i ≤ xs.length → Pv i H → SqL K H a xs)
    (hs : ∀ i x H, xs[i]? = some x → Pv i H → g x (wipe σ vs) H fun σ2 H2 => wipe σ2 vs = wipe σ vs ∧ tt σ2 H2 fun b H3 => if b = true then te σ2 H3 fun y H4 => ∃ k, y = .bl k ∧ if k = c then Pv (i + 1) H4 else Q (.bl (!c)) H4 else Pv (i + 1) H3)
    (hd : ∀ H, Pv xs.length H → Q (.bl c) H) : ∃ W : Nat → Nat → Hp → Prop, (∃ m, W 0 m H2) ∧ GxL.GTurn c (Itl K a) g tt te vs σ Q W := by
  refine gx_by xs.length Pv h0 (fun i H hi p => ⟨xs, xs[i], hl i H (Nat.le_of_lt hi) p, by simp [hi]⟩) (fun H p => ⟨xs, hl _ H (Nat.le_refl _) p, Nat.le_refl _⟩) (fun i x H H' hi p y => ?_) hd
  obtain ⟨e, y⟩ := y
  subst e
  exact hs i x _ (y xs (hl i _ (Nat.le_of_lt hi) p)) p
/-- over a tuple -/
theorem gx_tup {K : PySem.W.Frag} {a : Addr} {xs : List V} {c : Bool} {g : TG} {tt : TT} {te : TE} {vs : List Nat} {σ : L2.St} {Q : VK} {H2 : Hp} (Pv : Nat → Hp → Prop) (h0 : Pv 0 H2) (hl : ∀ i H, i ≤ xs.length → Pv i H → SqT K H a xs)
    (hs : ∀ i x H, xs[i]? = some x → Pv i H → g x (wipe σ vs) H fun σ2 H2 => wipe σ2 vs = wipe σ vs ∧ tt σ2 H2 fun b H3 => if b = true then te σ2 H3 fun y H4 => ∃ k, y = .bl k ∧ if k = c then Pv (i + 1) H4 else Q (.bl (!c)) H4 else Pv (i + 1) H3)
    (hd : ∀ H, Pv xs.length H → Q (.bl c) H) : ∃ W : Nat → Nat → Hp → Prop, (∃ m, W 0 m H2) ∧ GxL.GTurn c (Itt K a) g tt te vs σ Q W := by
  refine gx_by xs.length Pv h0 (fun i H hi p => ⟨xs, xs[i], hl i H (Nat.le_of_lt hi) p, by simp [hi]⟩) (fun H p => ⟨xs, hl _ H (Nat.le_refl _) p, Nat.le_refl _⟩) (fun i x H H' hi p y => ?_) hd
  obtain ⟨e, y⟩ := y
  subst e
  exact hs i x _ (y xs (hl i _ (Nat.le_of_lt hi) p)) p
/-- over the signs of a text -/
theorem gx_str {x : Str} {c : Bool} {g : TG} {tt : TT} {te : TE} {vs : List Nat} {σ : L2.St} {Q : VK} {H2 : Hp} (Pv : Nat → Hp → Prop) (h0 : Pv 0 H2)
    (hs : ∀ i s H, x.cps[i]? = some s → Pv i H → g (.str ⟨#[s]⟩) (wipe σ vs) H fun σ2 H2 => wipe σ2 vs = wipe σ vs ∧ tt σ2 H2 fun b H3 => if b = true then te σ2 H3 fun y H4 => ∃ k, y = .bl k ∧ if k = c then Pv (i + 1) H4 else Q (.bl (!c)) H4 else Pv (i + 1) H3)
    (hd : ∀ H, Pv x.cps.size H → Q (.bl c) H) : ∃ W : Nat → Nat → Hp → Prop, (∃ m, W 0 m H2) ∧ GxL.GTurn c (Its x) g tt te vs σ Q W := by
  refine gx_by x.cps.size Pv h0 (fun i H hi p => hi) (fun H p => Nat.le_refl _) (fun i v H H' hi p y => ?_) hd
  obtain ⟨rfl, s, e, rfl⟩ := y
  exact hs i s _ e p
/-- a test of every item by a Bool, nothing changed but the tables: all(f(x) for x in xs), any(..) -/
def allB (c : Bool) {α : Type} (f : α → Bool) (xs : List α) : Bool := if c = true then xs.all f else xs.any f
/-! ### a def whose code object is known -/
section
variable {P : Program} {w : World} {K : PySem.W.Frag} {mg : Str → Option Value} {base : Heap}
theorem fun_okC {x qual : Str} {st : Stmt} {f cc : Addr} {fd : FuncData} {N ps : List Str} {k : Nat} {sp : Sp} (F : Fun K x qual st f fd) (hc : fd.code = .ref cc) (S : FnScope N ps (defScope st)) (len : ∀ vs H Q E, sp vs H Q E → vs.length = ps.length)
    (hbody : ∀ (A : Around) (outer : List Env) (s : Shared) (H : Hp) (vs : List V) (Q : VK) (E : XK), Room k (A.deeper (envOfC qual (defScope st) s.heap.objs.size f (.ref cc))) → sp vs H Q E →
      ∃ t, PSs (cxOf CX0 P w K mg base N qual (defScope st) f (.ref cc) A outer s H E).nox (defBody st) t ∧ t { nx := fun _ H' => Q .non H', rt := Q } (start N vs) H) : FnOk P w K mg base CX0 (k + 1) f fd ps sp := by
  obtain ⟨oc, od, kV, doc, pm, an, cdv, ct, osl, rfl, lk, hcd⟩ := F.ex
  obtain rfl : cdv = .ref cc := hc
  refine fn_of lk hcd S len fun A outer s H vs Q E hr hsp => ?_
  obtain ⟨t, h, q⟩ := hbody A outer s H vs Q E hr hsp
  exact ⟨t, h.nox, q⟩
end
/-! ### the end: a top def's table is empty at the law's entry -/
def TabsOf (q : Program) (mg : Str → Option Value) (h : Heap) : Prop := ∀ d ∈ recsOf q, ∃ a o fd c P, mg d.name = some (.ref a) ∧ h.get? a = some o ∧ o.data = .func fd ∧ fd.code = .ref c ∧ h.IsCode c P #[] ∧ h.TableAt c P #[]
theorem tab_of {q : Program} {K : PySem.W.Frag} {mg : Str → Option Value} {h : Heap} {x : Str} {a c P : Addr} {oc : Value} {od : Option Addr} {osl : Array (Option Value)} {fd : FuncData} (T : TabsOf q mg h) (KX : K.In h) (hx : (recsOf q).any (fun d => d.name == x) = true)
    (hm : mg x = some (.ref a)) (lk : K.lookup a = some ⟨oc, od, .func fd, osl⟩) (hc : fd.code = .ref c) (hh : PySem.W.codeHdIn K c P = true) : h.get? P = some { cls := .none, data := .fields #[] } := by
  obtain ⟨d, hd, e⟩ := List.any_eq_true.mp hx
  have e : d.name = x := by simpa using e
  obtain ⟨a', o, fd', c', P', m1, m2, m3, m4, m5, m6⟩ := T d hd
  rw [e, hm] at m1
  cases m1
  rw [KX _ _ lk] at m2
  cases m2
  cases m3
  rw [hc] at m4
  cases m4
  obtain ⟨o1, vs, _, _, _, _, _, _, _, g1, g2, g3, g4, _⟩ := PySem.W.codeHd_of_K KX hh
  obtain ⟨⟨o2, vs2, f1, f2, f3, f4⟩, f5⟩ := m6
  rw [g1] at f1
  cases f1
  rw [g3] at f3
  cases f3
  rw [g4] at f4
  cases f4
  exact f5
theorem walk_ofG {l : PySem.W.OpenLaw} {n k : Nat} {q : Program} {loose : List Str} {XP : (Str → Option Value) → Heap → Prop} {YP : World → Heap → Prop} {d : DefRec} {K : Params → PySem.W.Frag} {CX : World → CXT} {x : Str}
    (hn : l.most = some n) (hn2 : n ≤ sizeLine) (hdf : d.params.defaults = []) (hr : Room k callerA) (hY : ∀ (w : World) (h : Heap), YP w h → (K w.params).In h)
    (F : ∀ (w : World) (mg : Str → Option Value) (fa : Addr) (h : Heap), TabsOf q mg h → YP w h → (K w.params).In h → h.Ns mainGlobals mg → mg d.name = some (.ref fa) → LamX.LawAtS l w (K w.params) (CX w) k n x mg fa h)
    (hCX : ∀ (w : World) (H : Hp) (s : Shared) (e : Value) (s' : Shared), CX w [] H s (fun _ _ _ => False) e s' → False) :
    PySem.W.WalkO q loose XP YP l.row.toRowW d [] (fun f vs => PySem.call f vs) := by
  refine Att.attach_callB hn hdf fun w s₀ s₁ mg mb fa o pm cd doc a vs ns G Y ho hd hcd hmg hobj hints hlen hbits hg => ?_
  have KX := hY w _ Y
  obtain ⟨fd, cs, sp, hT, nT, C, hb, hsp, hF⟩ := F w mg fa _ G.T.tab Y KX G.T.g hmg
  exact LamX.law_callTs KX G.T.g G.T.b G.T.builtins G.T.nolimit hg hT nT C G.T.bmain hobj hints (Nat.le_trans hlen hn2) hr hF hb (fun H hH hS => hsp H a ns hlen hbits hH hS) fun H e s' => hCX w H s₁ e s'
end Rg
namespace Rg
open PySem PySem.Spec PyProof.Rows L2
/-! ### x is True, x is not False: bools told by value -/
theorem op_isV {X : Cx} : OpR X (compareOp .Is) (fun x y H Q => ∃ a c, x = .bl a ∧ y = .bl c ∧ Q (.bl (decide (a = c))) H) := by
  intro pins s σ H x y v u Q I rx ry h
  obtain ⟨a, c, rfl, rfl, q⟩ := h
  cases rx
  cases ry
  by_cases e : a = c
  · subst e
    rw [decide_eq_true rfl] at q
    exact wpAny_is_self rfl ⟨.bl true, H, I, rfl, q⟩
  · rw [decide_eq_false e] at q
    exact wpAny_is_other rfl (fun z => e (by injection z)) ⟨.bl false, H, I, rfl, q⟩
theorem op_notV {X : Cx} : OpR X (compareOp .IsNot) (fun x y H Q => ∃ a c, x = .bl a ∧ y = .bl c ∧ Q (.bl (!decide (a = c))) H) := by
  intro pins s σ H x y v u Q I rx ry h
  obtain ⟨a, c, rfl, rfl, q⟩ := h
  cases rx
  cases ry
  by_cases e : a = c
  · subst e
    rw [decide_eq_true rfl] at q
    exact wpAny_isNot_self rfl ⟨.bl false, H, I, rfl, q⟩
  · rw [decide_eq_false e] at q
    exact wpAny_isNot_other rfl (fun z => e (by injection z)) ⟨.bl true, H, I, rfl, q⟩
theorem take_snoc {α : Type} {l : List α} {i : Nat} {c : α} (h : l[i]? = some c) : l.take (i + 1) = l.take i ++ [c] := by
  rw [List.take_succ, h]
  rfl
theorem atN {α : Type} {xs : List α} {z : Int} {j : Nat} {v : α} (e : z = (j : Int)) (h : xs[j]? = some v) : atI xs z = some v := by
  subst e
  exact atI_nat h
theorem S_at {l : List Nat} {i c : Nat} (h : (SX.S l).cps[i]? = some c) : l[i]? = some c := by simpa using h
/-! ### a loop over the signs of a text -/
theorem for_str {x : Str} {g : TG} {tb : TS} {D : Ends} {σ : L2.St} {H : Hp} (Pv : Nat → L2.St → Hp → Prop) (h0 : Pv 0 σ H)
    (hs : ∀ i s σ H, x.cps[i]? = some s → Pv i σ H → g (.str ⟨#[s]⟩) σ H fun σ2 H2 => tb { D with nx := Pv (i + 1), ct := Pv (i + 1), bk := D.nx } σ2 H2) (hd : ∀ σ H, Pv x.cps.size σ H → D.nx σ H) :
    ∃ W : Nat → Nat → L2.St → Hp → Prop, (∃ m, W 0 m σ H) ∧ ∀ i m σ H, W i m σ H →
      ((Its x).stop i H ∧ D.nx σ H) ∨ ((Its x).go i H ∧ ∃ N : L2.St → Hp → Prop, (∀ σ' H', N σ' H' → ∃ m', m' < m ∧ W (i + 1) m' σ' H') ∧ ∀ v H', (Its x).yld i H v H' → g v σ H' fun σ2 H2 => tb { D with nx := N, ct := N, bk := D.nx } σ2 H2) := by
  refine ⟨fun i m σ H => m = x.cps.size - i ∧ i ≤ x.cps.size ∧ Pv i σ H, ⟨x.cps.size, by simp, Nat.zero_le _, h0⟩, ?_⟩
  rintro i m σ H ⟨rfl, hi, p⟩
  by_cases hlt : i < x.cps.size
  · refine .inr ⟨hlt, Pv (i + 1), fun σ' H' p' => ⟨x.cps.size - (i + 1), by omega, rfl, hlt, p'⟩, fun v H' y => ?_⟩
    obtain ⟨rfl, s, e, rfl⟩ := y
    exact hs i s σ _ e p
  · have e : i = x.cps.size := by omega
    subst e
    exact .inl ⟨Nat.le_refl _, hd σ H p⟩
end Rg
namespace Rg
open PySem PySem.Spec PyProof.Rows L2
/-! ### t[lo:hi], the whole of t: t itself -/
section
variable {prog : Program} {w : World} {A : Around} {E : Value → Shared → Prop} {s : Shared}
theorem getItem_tuple_all {t sl : Addr} {items : Array Value} {vl vu : Value} {lo hi : Option Int} {Q : Value → Shared → Prop} (ht : IsTup s.heap t items) (hs : s.heap.IsSliceOf sl vl vu .none) (pl : IsPart vl lo) (pu : IsPart vu hi)
    (hw : HT.sIx items.size 0 lo = 0 ∧ HT.sIx items.size items.size hi = items.size) (h : Q (.ref t) s) : wpAny (model prog w) A (getItem (.ref t) (.ref sl)) Q E s := by
  obtain ⟨os, hos, hcs, hds⟩ := id hs
  have hTs : s.TypeIs (.ref sl) "slice" := ⟨os, hos, hcs⟩
  unfold getItem
  try with_reducible refine wpAny_holding ?_
  first | refine wpAny_bind (wpAny_pure ?_) | skip
  refine wpAny_bind (wpAny_sequenceKey ht.typeIs (by decide) ?_)
  refine wpAny_bind (wpAny_callSpecial?_slot (name := Str.ofString "__getitem__") ht.typeIs PyProof.Rows.slot_tuple_getitem
    (wpAny_call_entry PyProof.Rows.slot_tuple_getitem ht.typeIs entry_tuple_getitem ?_ (args_tuple_getitem _ _)))
  show wpAny _ _ (Builtin.Tuple.tupleItemsOf (.ref t) >>= _) _ _ s
  refine wpAny_bind (tupleItemsOf_ ht ?_)
  refine wpAny_bind (wpAny_typeOf hTs ?_)
  rw [if_pos (by decide)]
  refine wpAny_bind (HT.sliceApplied_gen hs pl pu ?_)
  have hyes : (((HT.sIx items.size 0 lo : Nat) : Int) == 0 && (1 : Int) == 1 && (HT.sIx items.size items.size hi - HT.sIx items.size 0 lo) == items.size) = true := by
    rw [hw.1, hw.2]
    simp
  show wpAny _ _ (if (((HT.sIx items.size 0 lo : Nat) : Int) == 0 && (1 : Int) == 1 && (HT.sIx items.size items.size hi - HT.sIx items.size 0 lo) == items.size) = true then _ else _) _ _ s
  rw [if_pos hyes]
  refine wpAny_bind (m := Builtin.Tuple.tupleIsExact _) ?_
  unfold Builtin.Tuple.tupleIsExact
  refine wpAny_bind (wpAny_typeOf ht.typeIs (wpAny_pure ?_))
  show wpAny _ _ (if ((Value.type "tuple" == Value.type "tuple") = true) then _ else _) _ _ s
  rw [if_pos (by decide)]
  refine wpAny_bind (wpAny_rule (wpAny_pure ?_))
  exact ⟨_, rfl, wpAny_pure h⟩
end
/-- the whole of a tuple, by values -/
def rSlTA (K : PySem.W.Frag) : V → Option Int → Option Int → Hp → VK → Prop := fun x lo hi H Q => ∃ a xs, x = .ref a ∧ SqT K H a xs ∧ HT.sIx xs.length 0 lo = 0 ∧ HT.sIx xs.length xs.length hi = xs.length ∧ Q (.ref a) H
theorem sl_tupA {X : Cx} : SlR X (rSlTA X.K) := by
  intro pins s σ H x v vl vu lo hi sl Q I rx hs pl pu h
  obtain ⟨a, xs, rfl, hx, h1, h2, q⟩ := h
  cases rx
  obtain ⟨its, r, ht, hz⟩ := I.tuple hx
  have hlen : its.toArray.size = xs.length := by rw [List.size_toArray]; exact r.length.symm
  refine ⟨"tuple", _, PyProof.Rows.slot_tuple_getitem.lookup, ht.typeIs, ?_⟩
  exact getItem_tuple_all ht hs pl pu (by rw [hlen]; exact ⟨h1, h2⟩) ⟨.ref a, H, I, rfl, q⟩
theorem ixN_at {n : Nat} {z : Int} {i : Nat} (e : z = i) (h : i < n) : ixN n z = some i := by
  subst e
  exact Evl.ixN_nat h
theorem pe_ixTK {X : Cx} {K : PySem.W.Frag} {a b : Expr} {pos : Pos} {ta tb : TE} (ha : PE X a ta) (hb : PE X b tb) (hs : PlainIx b) (hK : X.K = K := by rfl) : PE X (.Subscript a b pos) (tOp (rIxT K) ta tb) := by
  subst hK
  exact pe_ix ix_tup ha hb hs
theorem op_repTK {X : Cx} {K : PySem.W.Frag} (hK : X.K = K := by rfl) : OpR X (binaryOp .Mult) (rRepT K) := by
  subst hK
  exact op_repT
/-! ### what is kept -/
section
variable {K : PySem.W.Frag} {Ps : List Addr} {H H1 : Hp} {a : Addr} {xs : List V}
theorem sameT (e : Same H H1) (h : SqT K H a xs) : SqT K H1 a xs := by
  rcases h with (h | ⟨o, h⟩) | h
  · exact .inl (.inl (e _ _ h))
  · exact .inl (.inr ⟨o, e _ _ h⟩)
  · exact .inr h
theorem Tk.seqT (k : Tk Ps H H1) (t : Tab Ps H) (h : SqT K H a xs) : SqT K H1 a xs := by
  rcases h with (h | ⟨o, h⟩) | h
  · exact .inl (.inl (k.at t h))
  · exact .inl (.inr ⟨o, k.at t h⟩)
  · exact .inr h
theorem Tk.seqL (k : Tk Ps H H1) (t : Tab Ps H) (h : SqL K H a xs) : SqL K H1 a xs := by
  rcases h with (h | ⟨o, h⟩) | h
  · exact .inl (.inl (k.at t h))
  · exact .inl (.inr ⟨o, k.at t h⟩)
  · exact .inr h
/-- what was new is written again -/
theorem Tk.put {o u : HO} (k : Tk Ps H H1) (h : H a = none) (e : H1 a = some o) (n : ∀ ps, o ≠ .tbl ps := by intro _ z; cases z) : Tk Ps H (upd H1 a u) := ⟨k.tab.upd e n, fun b v eb nb => by
  rw [upd_ne (ne_of_none eb h)]
  exact k.kp b v eb nb⟩
theorem tyT (h : SqT K H a xs) : TyX K H (.ref a) (.type "tuple") := by
  rcases h with (h | ⟨o, h⟩) | ⟨o, its, n, e, c, _⟩
  · exact .base (.tup h)
  · exact .fTuple h
  · exact .kTuple e c
end
/-! ### all, any over zip -/
theorem gx_zipL {K : PySem.W.Frag} {a b : Addr} {xs ys : List V} {c : Bool} {g : TG} {tt : TT} {te : TE} {vs : List Nat} {σ : L2.St} {Q : VK} {H2 : Hp} (hl : ys.length ≤ xs.length) (Pv : Nat → Hp → Prop) (h0 : Pv 0 H2) (hq : ∀ i H, Pv i H → SqL K H a xs ∧ SqL K H b ys)
    (hs : ∀ i x y T H, xs[i]? = some x → ys[i]? = some y → Pv i H → H T = none → g (.ref T) (wipe σ vs) (upd H T (.tup [x, y])) fun σ2 H2 => wipe σ2 vs = wipe σ vs ∧ tt σ2 H2 fun b H3 => if b = true then te σ2 H3 fun y H4 => ∃ k, y = .bl k ∧ if k = c then Pv (i + 1) H4 else Q (.bl (!c)) H4 else Pv (i + 1) H3)
    (hd : ∀ H, Pv ys.length H → Q (.bl c) H) : ∃ W : Nat → Nat → Hp → Prop, (∃ m, W 0 m H2) ∧ GxL.GTurn c (Itz K a b) g tt te vs σ Q W := by
  refine gx_by ys.length Pv h0 (fun i H hi p => ?_) (fun H p => ⟨xs, ys, (hq _ H p).1, (hq _ H p).2, .inr (Nat.le_refl _)⟩) (fun i x H H' hi p y => ?_) hd
  · exact ⟨xs, ys, xs[i], ys[i], (hq i H p).1, (hq i H p).2, List.getElem?_eq_getElem (by omega), List.getElem?_eq_getElem hi⟩
  · obtain ⟨T, x', y', rfl, hT, rfl, f1, f2⟩ := y
    exact hs i x' y' T H (f1 xs (hq i H p).1) (f2 ys (hq i H p).2) p hT
theorem gx_zipT {K : PySem.W.Frag} {a b : Addr} {xs ys : List V} {c : Bool} {g : TG} {tt : TT} {te : TE} {vs : List Nat} {σ : L2.St} {Q : VK} {H2 : Hp} (hl : ys.length ≤ xs.length) (Pv : Nat → Hp → Prop) (h0 : Pv 0 H2) (hq : ∀ i H, Pv i H → SqT K H a xs ∧ SqT K H b ys)
    (hs : ∀ i x y T H, xs[i]? = some x → ys[i]? = some y → Pv i H → H T = none → g (.ref T) (wipe σ vs) (upd H T (.tup [x, y])) fun σ2 H2 => wipe σ2 vs = wipe σ vs ∧ tt σ2 H2 fun b H3 => if b = true then te σ2 H3 fun y H4 => ∃ k, y = .bl k ∧ if k = c then Pv (i + 1) H4 else Q (.bl (!c)) H4 else Pv (i + 1) H3)
    (hd : ∀ H, Pv ys.length H → Q (.bl c) H) : ∃ W : Nat → Nat → Hp → Prop, (∃ m, W 0 m H2) ∧ GxL.GTurn c (RZ.ItzT K a b) g tt te vs σ Q W := by
  refine gx_by ys.length Pv h0 (fun i H hi p => ?_) (fun H p => ⟨xs, ys, (hq _ H p).1, (hq _ H p).2, .inr (Nat.le_refl _)⟩) (fun i x H H' hi p y => ?_) hd
  · exact ⟨xs, ys, xs[i], ys[i], (hq i H p).1, (hq i H p).2, List.getElem?_eq_getElem (by omega), List.getElem?_eq_getElem hi⟩
  · obtain ⟨T, x', y', rfl, hT, rfl, f1, f2⟩ := y
    exact hs i x' y' T H (f1 xs (hq i H p).1) (f2 ys (hq i H p).2) p hT
end Rg
namespace K52
open PySem PySem.Spec PyProof.Rows L2 Rg
/-! ### books of rules, in values -/
def Rs : List Str := ["copies", "mark", "words", "reuse", "late", "revoke", "lapse", "shelve", "frozen", "wait", "room", "told"]
def nm : List Str → Nat → List Str
  | [], _ => []
  | r :: t, n => if n % 2 = 1 then r :: nm t (n / 2) else nm t (n / 2)
def ord (B : List Str) : List Str := Rs.filter fun r => decide (r ∈ B)
/-- the weights of the first i rules that B has -/
def wts (B : List Str) (i : Nat) : List Int := ((List.range i).filter fun k => Rs[k]?.any fun r => decide (r ∈ B)).map fun k => (2 : Int) ^ k
def numB (B : List Str) : Int := (wts B 12).sum
theorem Rs_len : Rs.length = 12 := rfl
theorem Rs_nodup : Rs.Nodup := by decide +kernel
theorem nm_sub : ∀ {l : List Str} {n : Nat}, (nm l n).Sublist l
  | [], _ => .slnil
  | r :: t, n => by
    unfold nm
    split
    · exact nm_sub.cons_cons r
    · exact nm_sub.cons r
theorem filt_sub : ∀ {l B : List Str}, l.Nodup → B.Sublist l → (l.filter fun r => decide (r ∈ B)) = B
  | [], B, _, h => by
    cases h
    rfl
  | r :: t, B, hn, h => by
    have hn' := List.nodup_cons.mp hn
    cases h with
    | cons _ h =>
      have : r ∉ B := fun z => hn'.1 (h.subset z)
      rw [List.filter_cons, if_neg (by simpa using this)]
      exact filt_sub hn'.2 h
    | @cons_cons B' _ _ h =>
      rw [List.filter_cons, if_pos (by simp)]
      congr 1
      refine Eq.trans (List.filter_congr fun x hx => ?_) (filt_sub hn'.2 h)
      have : x ≠ r := fun z => hn'.1 (z ▸ hx)
      simp [this]
theorem ord_sub {B : List Str} (h : B.Sublist Rs) : ord B = B := filt_sub Rs_nodup h
theorem ord_subl {B : List Str} : (ord B).Sublist Rs := List.filter_sublist
theorem nm_take_s {l : List Str} {i n : Nat} {r : Str} (h : l[i]? = some r) : nm (l.take (i + 1)) n = nm (l.take i) n ++ if (n / 2 ^ i) % 2 = 1 then [r] else [] := by
  induction l generalizing i n with
  | nil => simp at h
  | cons a t ih =>
    cases i with
    | zero =>
      have : a = r := by simpa using h
      subst this
      simp only [List.take_succ_cons, List.take_zero, Nat.pow_zero, Nat.div_one]
      unfold nm
      split <;> simp [nm]
    | succ i =>
      have h' : t[i]? = some r := by simpa using h
      simp only [List.take_succ_cons]
      unfold nm
      rw [ih h', show n / 2 / 2 ^ i = n / 2 ^ (i + 1) by rw [Nat.div_div_eq_div_mul, Nat.pow_succ, Nat.mul_comm]]
      split <;> rfl
theorem wts_s {B : List Str} {i : Nat} {r : Str} (h : Rs[i]? = some r) : wts B (i + 1) = wts B i ++ if r ∈ B then [(2 : Int) ^ i] else [] := by
  unfold wts
  rw [List.range_succ, List.filter_append, List.map_append]
  congr 1
  by_cases z : r ∈ B
  · rw [if_pos z, List.filter_cons, if_pos (by rw [h]; simpa using z)]
    rfl
  · rw [if_neg z, List.filter_cons, if_neg (by rw [h]; simpa using z)]
    rfl
theorem wts_congr {B B' : List Str} {i : Nat} (h : ∀ r ∈ Rs, r ∈ B ↔ r ∈ B') : wts B i = wts B' i := by
  unfold wts
  congr 1
  refine List.filter_congr fun k _ => ?_
  cases q : Rs[k]? with
  | none => rfl
  | some r => exact decide_eq_decide.mpr (h r (List.mem_of_getElem? q))
theorem mem_ord {B : List Str} {r : Str} : r ∈ ord B ↔ r ∈ Rs ∧ r ∈ B := by
  unfold ord
  rw [List.mem_filter, decide_eq_true_eq]
theorem numB_ord {B : List Str} : numB (ord B) = numB B := by
  unfold numB
  rw [wts_congr fun r hr => ⟨fun h => (mem_ord.mp h).2, fun h => mem_ord.mpr ⟨hr, h⟩⟩]
theorem ord_congr {B B' : List Str} (h : ∀ r ∈ Rs, r ∈ B ↔ r ∈ B') : ord B = ord B' := List.filter_congr fun r hr => decide_eq_decide.mpr (h r hr)
theorem wts_len {B : List Str} {i : Nat} : (wts B i).length ≤ i := by
  unfold wts
  rw [List.length_map]
  exact Nat.le_trans (List.length_filter_le _ _) (by rw [List.length_range]; exact Nat.le_refl _)
theorem nm_len {l : List Str} {n : Nat} : (nm l n).length ≤ l.length := nm_sub.length_le
theorem nm_take_all {n : Nat} : nm (Rs.take 12) n = nm Rs n := rfl
/-- the written form -/
def txB (B : List Str) : Str := if B = [] then "none" else Txt.join " " B
theorem sp1 : TL.tl (" " : Str) = [32] := by decide +kernel
theorem no_sp : ∀ r ∈ Rs, 32 ∉ TL.tl r := by decide +kernel
theorem split_of {L : List Str} (h : L ≠ []) (hs : ∀ p ∈ L, 32 ∉ TL.tl p) : Txt.split (Txt.join " " L) " " = L := TL.split_join sp1 (by decide +kernel) h hs
/-- a list of names that is not a book's -/
theorem not_ord {L : List Str} (h : ¬ L.Sublist Rs) : ord L ≠ L := fun e => h (by rw [← e]; exact ord_subl)
theorem not_mem {L : List Str} {x : Str} (h : x ∈ L) (hx : x ∉ Rs) : ord L ≠ L := not_ord fun z => hx (z.subset h)
theorem not_nodup {L : List Str} (h : ¬ L.Nodup) : ord L ≠ L := not_ord fun z => h (z.nodup Rs_nodup)
/-- a text that is no book's: what its parts are -/
structure BadT (t : Str) (L : List Str) : Prop where
  ne : L ≠ []
  nsp : ∀ p ∈ L, 32 ∉ TL.tl p
  eq : t = Txt.join " " L
  nord : ord L ≠ L
  nnone : L ≠ [("none" : Str)]
  len : t.length ≤ 900
theorem BadT.split {t : Str} {L : List Str} (h : BadT t L) : Txt.split t " " = L := by rw [h.eq, split_of h.ne h.nsp]
theorem BadT.not {t : Str} {L : List Str} (h : BadT t L) : t ≠ "none" := fun e => h.nnone (by rw [← h.split, e]; decide +kernel)
theorem txB_split {B : List Str} (h : B.Sublist Rs) (hn : B ≠ []) : Txt.split (txB B) " " = B := by
  unfold txB
  rw [if_neg hn]
  exact split_of hn fun p hp => no_sp p (h.subset hp)
theorem txB_ne {B : List Str} (h : B.Sublist Rs) (hn : B ≠ []) : txB B ≠ "none" := fun e => by
  have := txB_split h hn
  rw [e] at this
  have e2 : Txt.split ("none" : Str) " " = [("none" : Str)] := by decide +kernel
  rw [e2] at this
  subst this
  exact absurd (h.subset (List.mem_singleton.mpr rfl)) (by decide +kernel)
end K52
namespace K52
open PySem PySem.Spec PyProof.Rows L2 Rg
def top (i : Nat) : Stmt := PySem.Challenge.pw_lotsandties_k52_one_letter.main.body.getD i (.Pass ⟨0, 0, 0, 0⟩)
abbrev s_kind_behind : Stmt := top 10
abbrev s_kind_c : Stmt := top 11
abbrev s_kind_r : Stmt := top 12
abbrev s_content_c : Stmt := top 13
abbrev s_content_r : Stmt := top 14
abbrev s_is_due : Stmt := top 15
abbrev s_may_follow : Stmt := top 16
abbrev s_content_fits : Stmt := top 17
abbrev s_is_standing : Stmt := top 18
abbrev s_must_wait : Stmt := top 20
abbrev s_home_gone : Stmt := top 21
abbrev s_home_behind_mark : Stmt := top 28
abbrev s_log_behind_mark : Stmt := top 29
abbrev s_running_words : Stmt := top 33
abbrev s_closing_words : Stmt := top 34
abbrev s_takel : Stmt := top 22
abbrev s_takep : Stmt := top 23
abbrev s_change : Stmt := top 24
abbrev s_free : Stmt := top 25
abbrev s_close : Stmt := top 26
abbrev s_copy : Stmt := top 27
abbrev s_mark : Stmt := top 30
abbrev s_home : Stmt := top 31
abbrev s_early : Stmt := top 32
abbrev s_words : Stmt := top 35
abbrev s_room : Stmt := top 36
abbrev s_told : Stmt := top 37
abbrev s_after : Stmt := top 39
abbrev s_let_letters : Stmt := top 40
abbrev s_numbered_names : Stmt := top 44
abbrev s_Lfeed : Stmt := top 48
abbrev s_Lpick : Stmt := top 49
abbrev s_Lrules : Stmt := top 50
abbrev s_Lnames : Stmt := top 51
abbrev s_Lletters : Stmt := top 52
abbrev s_Lkind_c : Stmt := top 53
abbrev s_Lkind_r : Stmt := top 54
abbrev s_Lone : Stmt := top 55
abbrev s_Ldrawn : Stmt := top 56
abbrev s_Lcontent_c : Stmt := top 57
abbrev s_Lcontent_r : Stmt := top 58
abbrev s_Lwords_let : Stmt := top 59
abbrev s_Llet : Stmt := top 60
abbrev s_Llog : Stmt := top 61
abbrev s_Lmarked : Stmt := top 62
abbrev s_Lbehind : Stmt := top 63
abbrev s_Lsame : Stmt := top 64
abbrev s_Lletter_good : Stmt := top 65
abbrev s_Lraises : Stmt := top 66
abbrev s_Lspoilt : Stmt := top 67
abbrev s_law : Stmt := top 68
abbrev s_RuleSet___init__ : Stmt := inClass (top 42) 1
abbrev s_RuleSet___contains__ : Stmt := inClass (top 42) 2
abbrev s_Book_of_number : Stmt := inClass (top 46) 2
theorem sc_kind_behind : FnScope ["kind", "change"] ["kind", "change"] (defScope s_kind_behind) := ⟨rfl, rfl, rfl, by decide +kernel, rfl, by decide +kernel, by decide +kernel⟩
theorem sc_kind_c : FnScope ["standing"] ["standing"] (defScope s_kind_c) := ⟨rfl, rfl, rfl, by decide +kernel, rfl, by decide +kernel, by decide +kernel⟩
theorem sc_kind_r : FnScope ["standing"] ["standing"] (defScope s_kind_r) := ⟨rfl, rfl, rfl, by decide +kernel, rfl, by decide +kernel, by decide +kernel⟩
theorem sc_content_c : FnScope ["standing"] ["standing"] (defScope s_content_c) := ⟨rfl, rfl, rfl, by decide +kernel, rfl, by decide +kernel, by decide +kernel⟩
theorem sc_content_r : FnScope ["standing"] ["standing"] (defScope s_content_r) := ⟨rfl, rfl, rfl, by decide +kernel, rfl, by decide +kernel, by decide +kernel⟩
theorem sc_is_due : FnScope ["standing"] ["standing"] (defScope s_is_due) := ⟨rfl, rfl, rfl, by decide +kernel, rfl, by decide +kernel, by decide +kernel⟩
theorem sc_may_follow : FnScope ["kind", "change"] ["kind", "change"] (defScope s_may_follow) := ⟨rfl, rfl, rfl, by decide +kernel, rfl, by decide +kernel, by decide +kernel⟩
theorem sc_content_fits : FnScope ["signs", "k", "c", "r", "h", "g"] ["signs"] (defScope s_content_fits) := ⟨rfl, rfl, rfl, by decide +kernel, rfl, by decide +kernel, by decide +kernel⟩
theorem sc_is_standing : FnScope ["signs", "sign", "row"] ["signs"] (defScope s_is_standing) := ⟨rfl, rfl, rfl, by decide +kernel, rfl, by decide +kernel, by decide +kernel⟩
theorem sc_must_wait : FnScope ["standing", "book"] ["standing", "book"] (defScope s_must_wait) := ⟨rfl, rfl, rfl, by decide +kernel, rfl, by decide +kernel, by decide +kernel⟩
theorem sc_home_gone : FnScope ["h"] ["h"] (defScope s_home_gone) := ⟨rfl, rfl, rfl, by decide +kernel, rfl, by decide +kernel, by decide +kernel⟩
theorem sc_home_behind_mark : FnScope ["c", "h"] ["c", "h"] (defScope s_home_behind_mark) := ⟨rfl, rfl, rfl, by decide +kernel, rfl, by decide +kernel, by decide +kernel⟩
theorem sc_log_behind_mark : FnScope ["standing", "book", "k", "c", "_", "g", "y", "struck"] ["standing", "book"] (defScope s_log_behind_mark) := ⟨rfl, rfl, rfl, by decide +kernel, rfl, by decide +kernel, by decide +kernel⟩
theorem sc_running_words : FnScope ["standing", "book", "content", "known", "same"] ["standing", "book"] (defScope s_running_words) := ⟨rfl, rfl, rfl, by decide +kernel, rfl, by decide +kernel, by decide +kernel⟩
theorem sc_closing_words : FnScope ["standing", "book", "k", "c"] ["standing", "book"] (defScope s_closing_words) := ⟨rfl, rfl, rfl, by decide +kernel, rfl, by decide +kernel, by decide +kernel⟩
theorem sc_takel : FnScope ["standing", "book", "k", "c", "_", "h", "g", "y"] ["standing", "book"] (defScope s_takel) := ⟨rfl, rfl, rfl, by decide +kernel, rfl, by decide +kernel, by decide +kernel⟩
theorem sc_takep : FnScope ["standing", "book", "k", "c", "_", "h", "g", "y"] ["standing", "book"] (defScope s_takep) := ⟨rfl, rfl, rfl, by decide +kernel, rfl, by decide +kernel, by decide +kernel⟩
theorem sc_change : FnScope ["standing", "book", "k", "c", "r", "h", "g", "y"] ["standing", "book"] (defScope s_change) := ⟨rfl, rfl, rfl, by decide +kernel, rfl, by decide +kernel, by decide +kernel⟩
theorem sc_free : FnScope ["standing", "book", "k", "c", "_", "h", "g", "y"] ["standing", "book"] (defScope s_free) := ⟨rfl, rfl, rfl, by decide +kernel, rfl, by decide +kernel, by decide +kernel⟩
theorem sc_close : FnScope ["standing", "book", "k", "c", "r", "h", "g", "y"] ["standing", "book"] (defScope s_close) := ⟨rfl, rfl, rfl, by decide +kernel, rfl, by decide +kernel, by decide +kernel⟩
theorem sc_copy : FnScope ["standing", "book", "k", "c", "r", "h", "g", "y"] ["standing", "book"] (defScope s_copy) := ⟨rfl, rfl, rfl, by decide +kernel, rfl, by decide +kernel, by decide +kernel⟩
theorem sc_mark : FnScope ["standing", "book", "_", "c", "r", "h", "y"] ["standing", "book"] (defScope s_mark) := ⟨rfl, rfl, rfl, by decide +kernel, rfl, by decide +kernel, by decide +kernel⟩
theorem sc_home : FnScope ["standing", "book", "k", "c", "r", "_", "g", "y"] ["standing", "book"] (defScope s_home) := ⟨rfl, rfl, rfl, by decide +kernel, rfl, by decide +kernel, by decide +kernel⟩
theorem sc_early : FnScope ["standing", "book", "k", "c", "r", "_", "g", "y", "content"] ["standing", "book"] (defScope s_early) := ⟨rfl, rfl, rfl, by decide +kernel, rfl, by decide +kernel, by decide +kernel⟩
theorem sc_words : FnScope ["standing", "book", "k", "c", "r", "_", "g", "y", "runs", "content"] ["standing", "book"] (defScope s_words) := ⟨rfl, rfl, rfl, by decide +kernel, rfl, by decide +kernel, by decide +kernel⟩
theorem sc_room : FnScope ["standing", "book", "k", "c", "r", "h", "g", "y"] ["standing", "book"] (defScope s_room) := ⟨rfl, rfl, rfl, by decide +kernel, rfl, by decide +kernel, by decide +kernel⟩
theorem sc_told : FnScope ["standing", "book"] ["standing", "book"] (defScope s_told) := ⟨rfl, rfl, rfl, by decide +kernel, rfl, by decide +kernel, by decide +kernel⟩
theorem sc_after : FnScope ["standing", "letter", "book", "step"] ["standing", "letter", "book"] (defScope s_after) := ⟨rfl, rfl, rfl, by decide +kernel, rfl, by decide +kernel, by decide +kernel⟩
theorem sc_let_letters : FnScope ["standing", "book", "letter"] ["standing", "book"] (defScope s_let_letters) := ⟨rfl, rfl, rfl, by decide +kernel, rfl, by decide +kernel, by decide +kernel⟩
theorem sc_numbered_names : FnScope ["number", "rules", "k", "rule"] ["number", "rules"] (defScope s_numbered_names) := ⟨rfl, rfl, rfl, by decide +kernel, rfl, by decide +kernel, by decide +kernel⟩
theorem sc_Lfeed : FnScope ["_law_script", "_law_feed_here", "_law_cell", "_law_rest", "_law_k"] ["_law_script"] (defScope s_Lfeed) := ⟨rfl, rfl, rfl, by decide +kernel, rfl, by decide +kernel, by decide +kernel⟩
theorem sc_Lpick : FnScope ["_law_feed_here", "_law_limit"] ["_law_feed_here", "_law_limit"] (defScope s_Lpick) := ⟨rfl, rfl, rfl, by decide +kernel, rfl, by decide +kernel, by decide +kernel⟩
theorem sc_Lrules : FnScope ["_law_row"] [] (defScope s_Lrules) := ⟨rfl, rfl, rfl, by decide +kernel, rfl, by decide +kernel, by decide +kernel⟩
theorem sc_Lnames : FnScope ["_law_number", "_law_names_here", "_law_rest", "_law_name"] ["_law_number"] (defScope s_Lnames) := ⟨rfl, rfl, rfl, by decide +kernel, rfl, by decide +kernel, by decide +kernel⟩
theorem sc_Lletters : FnScope ["_law_first"] [] (defScope s_Lletters) := ⟨rfl, rfl, rfl, by decide +kernel, rfl, by decide +kernel, by decide +kernel⟩
theorem sc_Lkind_c : FnScope ["_law_k", "_law_c"] ["_law_k", "_law_c"] (defScope s_Lkind_c) := ⟨rfl, rfl, rfl, by decide +kernel, rfl, by decide +kernel, by decide +kernel⟩
theorem sc_Lkind_r : FnScope ["_law_k", "_law_c", "_law_r"] ["_law_k", "_law_c", "_law_r"] (defScope s_Lkind_r) := ⟨rfl, rfl, rfl, by decide +kernel, rfl, by decide +kernel, by decide +kernel⟩
theorem sc_Lone : FnScope ["_law_feed_here", "_law_signs"] ["_law_feed_here", "_law_signs"] (defScope s_Lone) := ⟨rfl, rfl, rfl, by decide +kernel, rfl, by decide +kernel, by decide +kernel⟩
theorem sc_Ldrawn : FnScope ["_law_feed_here", "_law_k", "_law_c", "_law_x", "_law_base", "_law_r", "_law_homes", "_law_h", "_law_g", "_law_y", "_law_sign"] ["_law_feed_here"] (defScope s_Ldrawn) := ⟨rfl, rfl, rfl, by decide +kernel, rfl, by decide +kernel, by decide +kernel⟩
theorem sc_Lcontent_c : FnScope ["_law_s"] ["_law_s"] (defScope s_Lcontent_c) := ⟨rfl, rfl, rfl, by decide +kernel, rfl, by decide +kernel, by decide +kernel⟩
theorem sc_Lcontent_r : FnScope ["_law_s"] ["_law_s"] (defScope s_Lcontent_r) := ⟨rfl, rfl, rfl, by decide +kernel, rfl, by decide +kernel, by decide +kernel⟩
theorem sc_Lwords_let : FnScope ["_law_s", "_law_names_here", "_law_committed", "_law_closing", "_law_content", "_law_good"] ["_law_s", "_law_names_here"] (defScope s_Lwords_let) := ⟨rfl, rfl, rfl, by decide +kernel, rfl, by decide +kernel, by decide +kernel⟩
theorem sc_Llet : FnScope ["_law_s", "_law_letter", "_law_names_here", "_law_k", "_law_c", "_law_r", "_law_h", "_law_g", "_law_y", "_law_base", "_law_kind", "_law_due", "_law_held_back", "_law_let_here"] ["_law_s", "_law_letter", "_law_names_here"] (defScope s_Llet) := ⟨rfl, rfl, rfl, by decide +kernel, rfl, by decide +kernel, by decide +kernel⟩
theorem sc_Llog : FnScope ["_law_s", "_law_names_here", "_law_k", "_law_c", "_law_r", "_law_h", "_law_g", "_law_y", "_law_struck"] ["_law_s", "_law_names_here"] (defScope s_Llog) := ⟨rfl, rfl, rfl, by decide +kernel, rfl, by decide +kernel, by decide +kernel⟩
theorem sc_Lmarked : FnScope ["_law_s", "_law_names_here", "_law_k", "_law_c", "_law_r", "_law_h", "_law_g", "_law_y", "_law_home"] ["_law_s", "_law_names_here"] (defScope s_Lmarked) := ⟨rfl, rfl, rfl, by decide +kernel, rfl, by decide +kernel, by decide +kernel⟩
theorem sc_Lbehind : FnScope ["_law_s", "_law_letter", "_law_names_here", "_law_k", "_law_c", "_law_r", "_law_h", "_law_g", "_law_y", "_law_spoilt_here"] ["_law_s", "_law_letter", "_law_names_here"] (defScope s_Lbehind) := ⟨rfl, rfl, rfl, by decide +kernel, rfl, by decide +kernel, by decide +kernel⟩
theorem sc_Lsame : FnScope ["_law_actual", "_law_due", "_law_k"] ["_law_actual", "_law_due"] (defScope s_Lsame) := ⟨rfl, rfl, rfl, by decide +kernel, rfl, by decide +kernel, by decide +kernel⟩
theorem sc_Lletter_good : FnScope ["_law_s", "_law_letter", "_law_names_here", "_law_book", "_law_actual"] ["_law_s", "_law_letter", "_law_names_here", "_law_book"] (defScope s_Lletter_good) := ⟨rfl, rfl, rfl, by decide +kernel, rfl, by decide +kernel, by decide +kernel⟩
theorem sc_Lraises : FnScope ["_law_s", "_law_letter", "_law_book", "e"] ["_law_s", "_law_letter", "_law_book"] (defScope s_Lraises) := ⟨rfl, rfl, rfl, by decide +kernel, rfl, by decide +kernel, by decide +kernel⟩
theorem sc_Lspoilt : FnScope ["_law_s", "_law_k", "_law_c", "_law_r", "_law_h", "_law_g", "_law_y", "_law_rows"] ["_law_s"] (defScope s_Lspoilt) := ⟨rfl, rfl, rfl, by decide +kernel, rfl, by decide +kernel, by decide +kernel⟩
theorem sc_law : FnScope ["_law_script", "_law_feed_here", "_law_number", "_law_s", "_law_names_here", "_law_book", "_law_letter", "_law_let_here", "_law_signs"] ["_law_script"] (defScope s_law) := ⟨rfl, rfl, rfl, by decide +kernel, rfl, by decide +kernel, by decide +kernel⟩
theorem sc_RuleSet___init__ : FnScope ["self", "names", "name", "rule", "k"] ["self", "names"] (defScope s_RuleSet___init__) := ⟨rfl, rfl, rfl, by decide +kernel, rfl, by decide +kernel, by decide +kernel⟩
theorem sc_RuleSet___contains__ : FnScope ["self", "name"] ["self", "name"] (defScope s_RuleSet___contains__) := ⟨rfl, rfl, rfl, by decide +kernel, rfl, by decide +kernel, by decide +kernel⟩
theorem sc_Book_of_number : FnScope ["number"] ["number"] (defScope s_Book_of_number) := ⟨rfl, rfl, rfl, by decide +kernel, rfl, by decide +kernel, by decide +kernel⟩

structure Tx (K : PySem.W.Frag) (mg : Str → Option Value) where
  f_kind_behind : Addr
  fd_kind_behind : FuncData
  F_kind_behind : Fun K "_kind_behind" "_kind_behind" s_kind_behind f_kind_behind fd_kind_behind
  mg_kind_behind : mg "_kind_behind" = some (.ref f_kind_behind)
  f_kind_c : Addr
  fd_kind_c : FuncData
  F_kind_c : Fun K "kind_c" "kind_c" s_kind_c f_kind_c fd_kind_c
  mg_kind_c : mg "kind_c" = some (.ref f_kind_c)
  f_kind_r : Addr
  fd_kind_r : FuncData
  F_kind_r : Fun K "kind_r" "kind_r" s_kind_r f_kind_r fd_kind_r
  mg_kind_r : mg "kind_r" = some (.ref f_kind_r)
  f_content_c : Addr
  fd_content_c : FuncData
  F_content_c : Fun K "content_c" "content_c" s_content_c f_content_c fd_content_c
  mg_content_c : mg "content_c" = some (.ref f_content_c)
  f_content_r : Addr
  fd_content_r : FuncData
  F_content_r : Fun K "content_r" "content_r" s_content_r f_content_r fd_content_r
  mg_content_r : mg "content_r" = some (.ref f_content_r)
  f_is_due : Addr
  fd_is_due : FuncData
  F_is_due : Fun K "is_due" "is_due" s_is_due f_is_due fd_is_due
  mg_is_due : mg "is_due" = some (.ref f_is_due)
  f_may_follow : Addr
  fd_may_follow : FuncData
  F_may_follow : Fun K "_may_follow" "_may_follow" s_may_follow f_may_follow fd_may_follow
  mg_may_follow : mg "_may_follow" = some (.ref f_may_follow)
  f_content_fits : Addr
  fd_content_fits : FuncData
  F_content_fits : Fun K "_content_fits" "_content_fits" s_content_fits f_content_fits fd_content_fits
  mg_content_fits : mg "_content_fits" = some (.ref f_content_fits)
  f_is_standing : Addr
  fd_is_standing : FuncData
  F_is_standing : Fun K "is_standing" "is_standing" s_is_standing f_is_standing fd_is_standing
  mg_is_standing : mg "is_standing" = some (.ref f_is_standing)
  cc_is_standing : Addr
  P_is_standing : Addr
  code_is_standing : fd_is_standing.code = .ref cc_is_standing
  ch_is_standing : PySem.W.codeHdIn K cc_is_standing P_is_standing = true
  cn_is_standing : K.lookup P_is_standing = none
  f_must_wait : Addr
  fd_must_wait : FuncData
  F_must_wait : Fun K "_must_wait" "_must_wait" s_must_wait f_must_wait fd_must_wait
  mg_must_wait : mg "_must_wait" = some (.ref f_must_wait)
  f_home_gone : Addr
  fd_home_gone : FuncData
  F_home_gone : Fun K "_home_gone" "_home_gone" s_home_gone f_home_gone fd_home_gone
  mg_home_gone : mg "_home_gone" = some (.ref f_home_gone)
  f_home_behind_mark : Addr
  fd_home_behind_mark : FuncData
  F_home_behind_mark : Fun K "_home_behind_mark" "_home_behind_mark" s_home_behind_mark f_home_behind_mark fd_home_behind_mark
  mg_home_behind_mark : mg "_home_behind_mark" = some (.ref f_home_behind_mark)
  f_log_behind_mark : Addr
  fd_log_behind_mark : FuncData
  F_log_behind_mark : Fun K "_log_behind_mark" "_log_behind_mark" s_log_behind_mark f_log_behind_mark fd_log_behind_mark
  mg_log_behind_mark : mg "_log_behind_mark" = some (.ref f_log_behind_mark)
  f_running_words : Addr
  fd_running_words : FuncData
  F_running_words : Fun K "_running_words" "_running_words" s_running_words f_running_words fd_running_words
  mg_running_words : mg "_running_words" = some (.ref f_running_words)
  f_closing_words : Addr
  fd_closing_words : FuncData
  F_closing_words : Fun K "_closing_words" "_closing_words" s_closing_words f_closing_words fd_closing_words
  mg_closing_words : mg "_closing_words" = some (.ref f_closing_words)
  f_takel : Addr
  fd_takel : FuncData
  F_takel : Fun K "_takel" "_takel" s_takel f_takel fd_takel
  mg_takel : mg "_takel" = some (.ref f_takel)
  f_takep : Addr
  fd_takep : FuncData
  F_takep : Fun K "_takep" "_takep" s_takep f_takep fd_takep
  mg_takep : mg "_takep" = some (.ref f_takep)
  f_change : Addr
  fd_change : FuncData
  F_change : Fun K "_change" "_change" s_change f_change fd_change
  mg_change : mg "_change" = some (.ref f_change)
  f_free : Addr
  fd_free : FuncData
  F_free : Fun K "_free" "_free" s_free f_free fd_free
  mg_free : mg "_free" = some (.ref f_free)
  f_close : Addr
  fd_close : FuncData
  F_close : Fun K "_close" "_close" s_close f_close fd_close
  mg_close : mg "_close" = some (.ref f_close)
  f_copy : Addr
  fd_copy : FuncData
  F_copy : Fun K "_copy" "_copy" s_copy f_copy fd_copy
  mg_copy : mg "_copy" = some (.ref f_copy)
  f_mark : Addr
  fd_mark : FuncData
  F_mark : Fun K "_mark" "_mark" s_mark f_mark fd_mark
  mg_mark : mg "_mark" = some (.ref f_mark)
  f_home : Addr
  fd_home : FuncData
  F_home : Fun K "_home" "_home" s_home f_home fd_home
  mg_home : mg "_home" = some (.ref f_home)
  f_early : Addr
  fd_early : FuncData
  F_early : Fun K "_early" "_early" s_early f_early fd_early
  mg_early : mg "_early" = some (.ref f_early)
  f_words : Addr
  fd_words : FuncData
  F_words : Fun K "_words" "_words" s_words f_words fd_words
  mg_words : mg "_words" = some (.ref f_words)
  f_room : Addr
  fd_room : FuncData
  F_room : Fun K "_room" "_room" s_room f_room fd_room
  mg_room : mg "_room" = some (.ref f_room)
  f_told : Addr
  fd_told : FuncData
  F_told : Fun K "_told" "_told" s_told f_told fd_told
  mg_told : mg "_told" = some (.ref f_told)
  f_after : Addr
  fd_after : FuncData
  F_after : Fun K "after" "after" s_after f_after fd_after
  mg_after : mg "after" = some (.ref f_after)
  f_let_letters : Addr
  fd_let_letters : FuncData
  F_let_letters : Fun K "let_letters" "let_letters" s_let_letters f_let_letters fd_let_letters
  mg_let_letters : mg "let_letters" = some (.ref f_let_letters)
  f_numbered_names : Addr
  fd_numbered_names : FuncData
  F_numbered_names : Fun K "numbered_names" "numbered_names" s_numbered_names f_numbered_names fd_numbered_names
  mg_numbered_names : mg "numbered_names" = some (.ref f_numbered_names)
  f_Lfeed : Addr
  fd_Lfeed : FuncData
  F_Lfeed : Fun K "_law_feed" "_law_feed" s_Lfeed f_Lfeed fd_Lfeed
  mg_Lfeed : mg "_law_feed" = some (.ref f_Lfeed)
  f_Lpick : Addr
  fd_Lpick : FuncData
  F_Lpick : Fun K "_law_pick" "_law_pick" s_Lpick f_Lpick fd_Lpick
  mg_Lpick : mg "_law_pick" = some (.ref f_Lpick)
  f_Lrules : Addr
  fd_Lrules : FuncData
  F_Lrules : Fun K "_law_rules" "_law_rules" s_Lrules f_Lrules fd_Lrules
  mg_Lrules : mg "_law_rules" = some (.ref f_Lrules)
  f_Lnames : Addr
  fd_Lnames : FuncData
  F_Lnames : Fun K "_law_names" "_law_names" s_Lnames f_Lnames fd_Lnames
  mg_Lnames : mg "_law_names" = some (.ref f_Lnames)
  f_Lletters : Addr
  fd_Lletters : FuncData
  F_Lletters : Fun K "_law_letters" "_law_letters" s_Lletters f_Lletters fd_Lletters
  mg_Lletters : mg "_law_letters" = some (.ref f_Lletters)
  f_Lkind_c : Addr
  fd_Lkind_c : FuncData
  F_Lkind_c : Fun K "_law_kind_c" "_law_kind_c" s_Lkind_c f_Lkind_c fd_Lkind_c
  mg_Lkind_c : mg "_law_kind_c" = some (.ref f_Lkind_c)
  f_Lkind_r : Addr
  fd_Lkind_r : FuncData
  F_Lkind_r : Fun K "_law_kind_r" "_law_kind_r" s_Lkind_r f_Lkind_r fd_Lkind_r
  mg_Lkind_r : mg "_law_kind_r" = some (.ref f_Lkind_r)
  f_Lone : Addr
  fd_Lone : FuncData
  F_Lone : Fun K "_law_one" "_law_one" s_Lone f_Lone fd_Lone
  mg_Lone : mg "_law_one" = some (.ref f_Lone)
  f_Ldrawn : Addr
  fd_Ldrawn : FuncData
  F_Ldrawn : Fun K "_law_drawn" "_law_drawn" s_Ldrawn f_Ldrawn fd_Ldrawn
  mg_Ldrawn : mg "_law_drawn" = some (.ref f_Ldrawn)
  f_Lcontent_c : Addr
  fd_Lcontent_c : FuncData
  F_Lcontent_c : Fun K "_law_content_c" "_law_content_c" s_Lcontent_c f_Lcontent_c fd_Lcontent_c
  mg_Lcontent_c : mg "_law_content_c" = some (.ref f_Lcontent_c)
  f_Lcontent_r : Addr
  fd_Lcontent_r : FuncData
  F_Lcontent_r : Fun K "_law_content_r" "_law_content_r" s_Lcontent_r f_Lcontent_r fd_Lcontent_r
  mg_Lcontent_r : mg "_law_content_r" = some (.ref f_Lcontent_r)
  f_Lwords_let : Addr
  fd_Lwords_let : FuncData
  F_Lwords_let : Fun K "_law_words_let" "_law_words_let" s_Lwords_let f_Lwords_let fd_Lwords_let
  mg_Lwords_let : mg "_law_words_let" = some (.ref f_Lwords_let)
  f_Llet : Addr
  fd_Llet : FuncData
  F_Llet : Fun K "_law_let" "_law_let" s_Llet f_Llet fd_Llet
  mg_Llet : mg "_law_let" = some (.ref f_Llet)
  f_Llog : Addr
  fd_Llog : FuncData
  F_Llog : Fun K "_law_log" "_law_log" s_Llog f_Llog fd_Llog
  mg_Llog : mg "_law_log" = some (.ref f_Llog)
  f_Lmarked : Addr
  fd_Lmarked : FuncData
  F_Lmarked : Fun K "_law_marked" "_law_marked" s_Lmarked f_Lmarked fd_Lmarked
  mg_Lmarked : mg "_law_marked" = some (.ref f_Lmarked)
  f_Lbehind : Addr
  fd_Lbehind : FuncData
  F_Lbehind : Fun K "_law_behind" "_law_behind" s_Lbehind f_Lbehind fd_Lbehind
  mg_Lbehind : mg "_law_behind" = some (.ref f_Lbehind)
  f_Lsame : Addr
  fd_Lsame : FuncData
  F_Lsame : Fun K "_law_same" "_law_same" s_Lsame f_Lsame fd_Lsame
  mg_Lsame : mg "_law_same" = some (.ref f_Lsame)
  f_Lletter_good : Addr
  fd_Lletter_good : FuncData
  F_Lletter_good : Fun K "_law_letter_good" "_law_letter_good" s_Lletter_good f_Lletter_good fd_Lletter_good
  mg_Lletter_good : mg "_law_letter_good" = some (.ref f_Lletter_good)
  f_Lraises : Addr
  fd_Lraises : FuncData
  F_Lraises : Fun K "_law_raises" "_law_raises" s_Lraises f_Lraises fd_Lraises
  mg_Lraises : mg "_law_raises" = some (.ref f_Lraises)
  f_Lspoilt : Addr
  fd_Lspoilt : FuncData
  F_Lspoilt : Fun K "_law_spoilt" "_law_spoilt" s_Lspoilt f_Lspoilt fd_Lspoilt
  mg_Lspoilt : mg "_law_spoilt" = some (.ref f_Lspoilt)
  f_law : Addr
  fd_law : FuncData
  F_law : Fun K "law" "law" s_law f_law fd_law
  mg_law : mg "law" = some (.ref f_law)
  f_RuleSet___init__ : Addr
  fd_RuleSet___init__ : FuncData
  F_RuleSet___init__ : Fun K "__init__" "RuleSet.__init__" s_RuleSet___init__ f_RuleSet___init__ fd_RuleSet___init__
  f_RuleSet___contains__ : Addr
  fd_RuleSet___contains__ : FuncData
  F_RuleSet___contains__ : Fun K "__contains__" "RuleSet.__contains__" s_RuleSet___contains__ f_RuleSet___contains__ fd_RuleSet___contains__
  f_Book_of_number : Addr
  fd_Book_of_number : FuncData
  F_Book_of_number : Fun K "of_number" "Book.of_number" s_Book_of_number f_Book_of_number fd_Book_of_number
  C_Book : Addr
  mg_Book : mg "Book" = some (.ref C_Book)
  cl_Book : Cls K C_Book
  na_Book_names : NoAttr K C_Book "names"
  na_Book_number : NoAttr K C_Book "number"
  mc_Book : Value
  cr_Book : ClX.CRead K C_Book mc_Book
  tA_Book_RULES : Addr
  tt_Book_RULES : ∀ H : Hp, SqT K H tA_Book_RULES [.str "copies", .str "mark", .str "words", .str "reuse", .str "late", .str "revoke", .str "lapse", .str "shelve", .str "frozen", .str "wait", .str "room", .str "told"]
  tv_Book_RULES : ClX.CVal K C_Book mc_Book "RULES" (.ref tA_Book_RULES) (.ref tA_Book_RULES)
  tc_Book_RULES : Con K C_Book "RULES" (.ref tA_Book_RULES) (.ref tA_Book_RULES)
  sm_Book_of_number : SMet K C_Book mc_Book "of_number" f_Book_of_number
  C_StoreError : Addr
  mg_StoreError : mg "StoreError" = some (.ref C_StoreError)
  be_StoreError : PySem.W.subIn K (.ref C_StoreError) (.type "BaseException") = some true
  te_StoreError : PySem.W.typeIn K (.ref C_StoreError) = some (.type "type")
  ie_StoreError : PySem.W.isClsIn K C_StoreError = true
  C_BadText : Addr
  mg_BadText : mg "BadText" = some (.ref C_BadText)
  be_BadText : PySem.W.subIn K (.ref C_BadText) (.type "BaseException") = some true
  te_BadText : PySem.W.typeIn K (.ref C_BadText) = some (.type "type")
  ie_BadText : PySem.W.isClsIn K C_BadText = true
  C_BadValue : Addr
  mg_BadValue : mg "BadValue" = some (.ref C_BadValue)
  be_BadValue : PySem.W.subIn K (.ref C_BadValue) (.type "BaseException") = some true
  te_BadValue : PySem.W.typeIn K (.ref C_BadValue) = some (.type "type")
  ie_BadValue : PySem.W.isClsIn K C_BadValue = true
  xe_BadValue : PySem.W.excIn K C_BadValue [.type "ValueError", .type "Exception", .type "BaseException", .type "object"] "ValueError.__new__" = true
  ke_BadValue : PySem.W.keepIn K (.ref C_BadValue) = true
  ec_BadValue : ExcC K C_BadValue
  sub_BadValue_StoreError : PySem.W.subIn K (.ref C_BadValue) (.ref C_StoreError) = some true
  sub_BadValue_BadText : PySem.W.subIn K (.ref C_BadValue) (.ref C_BadText) = some false
  sub_BadValue_BadValue : PySem.W.subIn K (.ref C_BadValue) (.ref C_BadValue) = some true
  bsub_BadValue_ValueError : PySem.W.subIn K (.ref C_BadValue) (.type "ValueError") = some true
  gA_NEW : Addr
  gg_NEW : mg "NEW" = some (.ref gA_NEW)
  gt_NEW : ∀ H : Hp, SqT K H gA_NEW [.str "~", .str "L", .str "P"]
  gA_LOST : Addr
  gg_LOST : mg "LOST" = some (.ref gA_LOST)
  gt_LOST : ∀ H : Hp, SqT K H gA_LOST [.str "lost"]
  gA_LETTERS : Addr
  gg_LETTERS : mg "LETTERS" = some (.ref gA_LETTERS)
  gt_LETTERS : ∀ H : Hp, SqT K H gA_LETTERS [.str "takel", .str "takep", .str "change", .str "free", .str "close", .str "copy", .str "mark", .str "home", .str "early", .str "words", .str "room", .str "told"]
  gA_SIGNS : Addr
  gA_SIGNS_0 : Addr
  gA_SIGNS_1 : Addr
  gA_SIGNS_2 : Addr
  gA_SIGNS_3 : Addr
  gA_SIGNS_4 : Addr
  gA_SIGNS_5 : Addr
  gg_SIGNS : mg "SIGNS" = some (.ref gA_SIGNS)
  gt_SIGNS : ∀ H : Hp, SqT K H gA_SIGNS [.ref gA_SIGNS_0, .ref gA_SIGNS_1, .ref gA_SIGNS_2, .ref gA_SIGNS_3, .ref gA_SIGNS_4, .ref gA_SIGNS_5]
  gt_SIGNS_0 : ∀ H : Hp, SqT K H gA_SIGNS_0 [.str "F", .str "L", .str "P"]
  gt_SIGNS_1 : ∀ H : Hp, SqT K H gA_SIGNS_1 [.str "-", .str "=", .str "~", .str "F", .str "L", .str "P"]
  gt_SIGNS_2 : ∀ H : Hp, SqT K H gA_SIGNS_2 [.str "=", .str "~", .str "F", .str "L", .str "P"]
  gt_SIGNS_3 : ∀ H : Hp, SqT K H gA_SIGNS_3 [.str "K", .str "C", .str "R", .str "o"]
  gt_SIGNS_4 : ∀ H : Hp, SqT K H gA_SIGNS_4 [.str "-", .str "K", .str "o"]
  gt_SIGNS_5 : ∀ H : Hp, SqT K H gA_SIGNS_5 [.str "-", .str "+", .str "!"]
  gA_STEPS : Addr
  gg_STEPS : mg "STEPS" = some (.ref gA_STEPS)
  gd_STEPS_takel : PySem.W.nsIn K gA_STEPS "takel" = some (some (.ref f_takel))
  gd_STEPS_takep : PySem.W.nsIn K gA_STEPS "takep" = some (some (.ref f_takep))
  gd_STEPS_change : PySem.W.nsIn K gA_STEPS "change" = some (some (.ref f_change))
  gd_STEPS_free : PySem.W.nsIn K gA_STEPS "free" = some (some (.ref f_free))
  gd_STEPS_close : PySem.W.nsIn K gA_STEPS "close" = some (some (.ref f_close))
  gd_STEPS_copy : PySem.W.nsIn K gA_STEPS "copy" = some (some (.ref f_copy))
  gd_STEPS_mark : PySem.W.nsIn K gA_STEPS "mark" = some (some (.ref f_mark))
  gd_STEPS_home : PySem.W.nsIn K gA_STEPS "home" = some (some (.ref f_home))
  gd_STEPS_early : PySem.W.nsIn K gA_STEPS "early" = some (some (.ref f_early))
  gd_STEPS_words : PySem.W.nsIn K gA_STEPS "words" = some (some (.ref f_words))
  gd_STEPS_room : PySem.W.nsIn K gA_STEPS "room" = some (some (.ref f_room))
  gd_STEPS_told : PySem.W.nsIn K gA_STEPS "told" = some (some (.ref f_told))
  gn_STEPS_0 : PySem.W.nsIn K gA_STEPS "" = some none
  gn_STEPS_1 : PySem.W.nsIn K gA_STEPS "takes" = some none
  gn_STEPS_2 : PySem.W.nsIn K gA_STEPS "Close" = some none
  gn_STEPS_3 : PySem.W.nsIn K gA_STEPS "close " = some none
  gn_STEPS_4 : PySem.W.nsIn K gA_STEPS "lost" = some none
  gn_STEPS_5 : PySem.W.nsIn K gA_STEPS "copies" = some none
  gn_STEPS_6 : PySem.W.nsIn K gA_STEPS "take" = some none
  mk_Book : Mk K C_Book f_RuleSet___init__
  bm_contains : Meth K C_Book "__contains__" f_RuleSet___contains__
  b_abs : mg "abs" = none
  b_all : mg "all" = none
  b_enumerate : mg "enumerate" = none
  b_int : mg "int" = none
  b_isinstance : mg "isinstance" = none
  b_len : mg "len" = none
  b_list : mg "list" = none
  b_range : mg "range" = none
  b_str : mg "str" = none
  b_sum : mg "sum" = none
  b_tuple : mg "tuple" = none
  b_zip : mg "zip" = none
/-- the written dicts, in a world -/
structure Tw {K : PySem.W.Frag} {mg : Str → Option Value} (T : Tx K mg) (w : World) : Prop where
  kd_STEPS : ∃ es n, KDict K w T.gA_STEPS es n
/-- the defs that make generators: their tables -/
structure TBs {K : PySem.W.Frag} {mg : Str → Option Value} (T : Tx K mg) (base : Heap) : Prop where
  t_is_standing : LamX.TabB base mg T.cc_is_standing T.P_is_standing
def Tx.Ps {K : PySem.W.Frag} {mg : Str → Option Value} (T : Tx K mg) : List Addr := [T.P_is_standing]
theorem Tx.in_is_standing {K : PySem.W.Frag} {mg : Str → Option Value} (T : Tx K mg) : T.P_is_standing ∈ T.Ps := by simp [Tx.Ps]

section
variable {P : Program} {w : World} {K : PySem.W.Frag} {mg : Str → Option Value} {base : Heap}
theorem b_kind_behind (T : Tx K mg) : Binds K T.fd_kind_behind ["kind", "change"] [] := T.F_kind_behind.binds (ps := ["kind", "change"]) fun _ _ _ _ _ _ us hl => match us, hl with | [_, _], _ => rfl
theorem b_kind_c (T : Tx K mg) : Binds K T.fd_kind_c ["standing"] [] := T.F_kind_c.binds (ps := ["standing"]) fun _ _ _ _ _ _ us hl => match us, hl with | [_], _ => rfl
theorem b_kind_r (T : Tx K mg) : Binds K T.fd_kind_r ["standing"] [] := T.F_kind_r.binds (ps := ["standing"]) fun _ _ _ _ _ _ us hl => match us, hl with | [_], _ => rfl
theorem b_content_c (T : Tx K mg) : Binds K T.fd_content_c ["standing"] [] := T.F_content_c.binds (ps := ["standing"]) fun _ _ _ _ _ _ us hl => match us, hl with | [_], _ => rfl
theorem b_content_r (T : Tx K mg) : Binds K T.fd_content_r ["standing"] [] := T.F_content_r.binds (ps := ["standing"]) fun _ _ _ _ _ _ us hl => match us, hl with | [_], _ => rfl
theorem b_is_due (T : Tx K mg) : Binds K T.fd_is_due ["standing"] [] := T.F_is_due.binds (ps := ["standing"]) fun _ _ _ _ _ _ us hl => match us, hl with | [_], _ => rfl
theorem b_may_follow (T : Tx K mg) : Binds K T.fd_may_follow ["kind", "change"] [] := T.F_may_follow.binds (ps := ["kind", "change"]) fun _ _ _ _ _ _ us hl => match us, hl with | [_, _], _ => rfl
theorem b_content_fits (T : Tx K mg) : Binds K T.fd_content_fits ["signs"] [] := T.F_content_fits.binds (ps := ["signs"]) fun _ _ _ _ _ _ us hl => match us, hl with | [_], _ => rfl
theorem b_is_standing (T : Tx K mg) : Binds K T.fd_is_standing ["signs"] [] := T.F_is_standing.binds (ps := ["signs"]) fun _ _ _ _ _ _ us hl => match us, hl with | [_], _ => rfl
theorem b_must_wait (T : Tx K mg) : Binds K T.fd_must_wait ["standing", "book"] [] := T.F_must_wait.binds (ps := ["standing", "book"]) fun _ _ _ _ _ _ us hl => match us, hl with | [_, _], _ => rfl
theorem b_home_gone (T : Tx K mg) : Binds K T.fd_home_gone ["h"] [] := T.F_home_gone.binds (ps := ["h"]) fun _ _ _ _ _ _ us hl => match us, hl with | [_], _ => rfl
theorem b_home_behind_mark (T : Tx K mg) : Binds K T.fd_home_behind_mark ["c", "h"] [] := T.F_home_behind_mark.binds (ps := ["c", "h"]) fun _ _ _ _ _ _ us hl => match us, hl with | [_, _], _ => rfl
theorem b_log_behind_mark (T : Tx K mg) : Binds K T.fd_log_behind_mark ["standing", "book"] [] := T.F_log_behind_mark.binds (ps := ["standing", "book"]) fun _ _ _ _ _ _ us hl => match us, hl with | [_, _], _ => rfl
theorem b_running_words (T : Tx K mg) : Binds K T.fd_running_words ["standing", "book"] [] := T.F_running_words.binds (ps := ["standing", "book"]) fun _ _ _ _ _ _ us hl => match us, hl with | [_, _], _ => rfl
theorem b_closing_words (T : Tx K mg) : Binds K T.fd_closing_words ["standing", "book"] [] := T.F_closing_words.binds (ps := ["standing", "book"]) fun _ _ _ _ _ _ us hl => match us, hl with | [_, _], _ => rfl
theorem b_takel (T : Tx K mg) : Binds K T.fd_takel ["standing", "book"] [] := T.F_takel.binds (ps := ["standing", "book"]) fun _ _ _ _ _ _ us hl => match us, hl with | [_, _], _ => rfl
theorem b_takep (T : Tx K mg) : Binds K T.fd_takep ["standing", "book"] [] := T.F_takep.binds (ps := ["standing", "book"]) fun _ _ _ _ _ _ us hl => match us, hl with | [_, _], _ => rfl
theorem b_change (T : Tx K mg) : Binds K T.fd_change ["standing", "book"] [] := T.F_change.binds (ps := ["standing", "book"]) fun _ _ _ _ _ _ us hl => match us, hl with | [_, _], _ => rfl
theorem b_free (T : Tx K mg) : Binds K T.fd_free ["standing", "book"] [] := T.F_free.binds (ps := ["standing", "book"]) fun _ _ _ _ _ _ us hl => match us, hl with | [_, _], _ => rfl
theorem b_close (T : Tx K mg) : Binds K T.fd_close ["standing", "book"] [] := T.F_close.binds (ps := ["standing", "book"]) fun _ _ _ _ _ _ us hl => match us, hl with | [_, _], _ => rfl
theorem b_copy (T : Tx K mg) : Binds K T.fd_copy ["standing", "book"] [] := T.F_copy.binds (ps := ["standing", "book"]) fun _ _ _ _ _ _ us hl => match us, hl with | [_, _], _ => rfl
theorem b_mark (T : Tx K mg) : Binds K T.fd_mark ["standing", "book"] [] := T.F_mark.binds (ps := ["standing", "book"]) fun _ _ _ _ _ _ us hl => match us, hl with | [_, _], _ => rfl
theorem b_home (T : Tx K mg) : Binds K T.fd_home ["standing", "book"] [] := T.F_home.binds (ps := ["standing", "book"]) fun _ _ _ _ _ _ us hl => match us, hl with | [_, _], _ => rfl
theorem b_early (T : Tx K mg) : Binds K T.fd_early ["standing", "book"] [] := T.F_early.binds (ps := ["standing", "book"]) fun _ _ _ _ _ _ us hl => match us, hl with | [_, _], _ => rfl
theorem b_words (T : Tx K mg) : Binds K T.fd_words ["standing", "book"] [] := T.F_words.binds (ps := ["standing", "book"]) fun _ _ _ _ _ _ us hl => match us, hl with | [_, _], _ => rfl
theorem b_room (T : Tx K mg) : Binds K T.fd_room ["standing", "book"] [] := T.F_room.binds (ps := ["standing", "book"]) fun _ _ _ _ _ _ us hl => match us, hl with | [_, _], _ => rfl
theorem b_told (T : Tx K mg) : Binds K T.fd_told ["standing", "book"] [] := T.F_told.binds (ps := ["standing", "book"]) fun _ _ _ _ _ _ us hl => match us, hl with | [_, _], _ => rfl
theorem b_after (T : Tx K mg) : Binds K T.fd_after ["standing", "letter", "book"] [] := T.F_after.binds (ps := ["standing", "letter", "book"]) fun _ _ _ _ _ _ us hl => match us, hl with | [_, _, _], _ => rfl
theorem b_let_letters (T : Tx K mg) : Binds K T.fd_let_letters ["standing", "book"] [] := T.F_let_letters.binds (ps := ["standing", "book"]) fun _ _ _ _ _ _ us hl => match us, hl with | [_, _], _ => rfl
theorem b_numbered_names (T : Tx K mg) : Binds K T.fd_numbered_names ["number", "rules"] [] := T.F_numbered_names.binds (ps := ["number", "rules"]) fun _ _ _ _ _ _ us hl => match us, hl with | [_, _], _ => rfl
theorem b_Lfeed (T : Tx K mg) : Binds K T.fd_Lfeed ["_law_script"] [] := T.F_Lfeed.binds (ps := ["_law_script"]) fun _ _ _ _ _ _ us hl => match us, hl with | [_], _ => rfl
theorem b_Lpick (T : Tx K mg) : Binds K T.fd_Lpick ["_law_feed_here", "_law_limit"] [] := T.F_Lpick.binds (ps := ["_law_feed_here", "_law_limit"]) fun _ _ _ _ _ _ us hl => match us, hl with | [_, _], _ => rfl
theorem b_Lrules (T : Tx K mg) : Binds K T.fd_Lrules [] [] := T.F_Lrules.binds (ps := []) fun _ _ _ _ _ _ us hl => match us, hl with | [], _ => rfl
theorem b_Lnames (T : Tx K mg) : Binds K T.fd_Lnames ["_law_number"] [] := T.F_Lnames.binds (ps := ["_law_number"]) fun _ _ _ _ _ _ us hl => match us, hl with | [_], _ => rfl
theorem b_Lletters (T : Tx K mg) : Binds K T.fd_Lletters [] [] := T.F_Lletters.binds (ps := []) fun _ _ _ _ _ _ us hl => match us, hl with | [], _ => rfl
theorem b_Lkind_c (T : Tx K mg) : Binds K T.fd_Lkind_c ["_law_k", "_law_c"] [] := T.F_Lkind_c.binds (ps := ["_law_k", "_law_c"]) fun _ _ _ _ _ _ us hl => match us, hl with | [_, _], _ => rfl
theorem b_Lkind_r (T : Tx K mg) : Binds K T.fd_Lkind_r ["_law_k", "_law_c", "_law_r"] [] := T.F_Lkind_r.binds (ps := ["_law_k", "_law_c", "_law_r"]) fun _ _ _ _ _ _ us hl => match us, hl with | [_, _, _], _ => rfl
theorem b_Lone (T : Tx K mg) : Binds K T.fd_Lone ["_law_feed_here", "_law_signs"] [] := T.F_Lone.binds (ps := ["_law_feed_here", "_law_signs"]) fun _ _ _ _ _ _ us hl => match us, hl with | [_, _], _ => rfl
theorem b_Ldrawn (T : Tx K mg) : Binds K T.fd_Ldrawn ["_law_feed_here"] [] := T.F_Ldrawn.binds (ps := ["_law_feed_here"]) fun _ _ _ _ _ _ us hl => match us, hl with | [_], _ => rfl
theorem b_Lcontent_c (T : Tx K mg) : Binds K T.fd_Lcontent_c ["_law_s"] [] := T.F_Lcontent_c.binds (ps := ["_law_s"]) fun _ _ _ _ _ _ us hl => match us, hl with | [_], _ => rfl
theorem b_Lcontent_r (T : Tx K mg) : Binds K T.fd_Lcontent_r ["_law_s"] [] := T.F_Lcontent_r.binds (ps := ["_law_s"]) fun _ _ _ _ _ _ us hl => match us, hl with | [_], _ => rfl
theorem b_Lwords_let (T : Tx K mg) : Binds K T.fd_Lwords_let ["_law_s", "_law_names_here"] [] := T.F_Lwords_let.binds (ps := ["_law_s", "_law_names_here"]) fun _ _ _ _ _ _ us hl => match us, hl with | [_, _], _ => rfl
theorem b_Llet (T : Tx K mg) : Binds K T.fd_Llet ["_law_s", "_law_letter", "_law_names_here"] [] := T.F_Llet.binds (ps := ["_law_s", "_law_letter", "_law_names_here"]) fun _ _ _ _ _ _ us hl => match us, hl with | [_, _, _], _ => rfl
theorem b_Llog (T : Tx K mg) : Binds K T.fd_Llog ["_law_s", "_law_names_here"] [] := T.F_Llog.binds (ps := ["_law_s", "_law_names_here"]) fun _ _ _ _ _ _ us hl => match us, hl with | [_, _], _ => rfl
theorem b_Lmarked (T : Tx K mg) : Binds K T.fd_Lmarked ["_law_s", "_law_names_here"] [] := T.F_Lmarked.binds (ps := ["_law_s", "_law_names_here"]) fun _ _ _ _ _ _ us hl => match us, hl with | [_, _], _ => rfl
theorem b_Lbehind (T : Tx K mg) : Binds K T.fd_Lbehind ["_law_s", "_law_letter", "_law_names_here"] [] := T.F_Lbehind.binds (ps := ["_law_s", "_law_letter", "_law_names_here"]) fun _ _ _ _ _ _ us hl => match us, hl with | [_, _, _], _ => rfl
theorem b_Lsame (T : Tx K mg) : Binds K T.fd_Lsame ["_law_actual", "_law_due"] [] := T.F_Lsame.binds (ps := ["_law_actual", "_law_due"]) fun _ _ _ _ _ _ us hl => match us, hl with | [_, _], _ => rfl
theorem b_Lletter_good (T : Tx K mg) : Binds K T.fd_Lletter_good ["_law_s", "_law_letter", "_law_names_here", "_law_book"] [] := T.F_Lletter_good.binds (ps := ["_law_s", "_law_letter", "_law_names_here", "_law_book"]) fun _ _ _ _ _ _ us hl => match us, hl with | [_, _, _, _], _ => rfl
theorem b_Lraises (T : Tx K mg) : Binds K T.fd_Lraises ["_law_s", "_law_letter", "_law_book"] [] := T.F_Lraises.binds (ps := ["_law_s", "_law_letter", "_law_book"]) fun _ _ _ _ _ _ us hl => match us, hl with | [_, _, _], _ => rfl
theorem b_Lspoilt (T : Tx K mg) : Binds K T.fd_Lspoilt ["_law_s"] [] := T.F_Lspoilt.binds (ps := ["_law_s"]) fun _ _ _ _ _ _ us hl => match us, hl with | [_], _ => rfl
theorem b_law (T : Tx K mg) : Binds K T.fd_law ["_law_script"] [] := T.F_law.binds (ps := ["_law_script"]) fun _ _ _ _ _ _ us hl => match us, hl with | [_], _ => rfl
theorem b_RuleSet___init__ (T : Tx K mg) : Binds K T.fd_RuleSet___init__ ["self", "names"] [] := T.F_RuleSet___init__.binds (ps := ["self", "names"]) fun _ _ _ _ _ _ us hl => match us, hl with | [_, _], _ => rfl
theorem b_RuleSet___contains__ (T : Tx K mg) : Binds K T.fd_RuleSet___contains__ ["self", "name"] [] := T.F_RuleSet___contains__.binds (ps := ["self", "name"]) fun _ _ _ _ _ _ us hl => match us, hl with | [_, _], _ => rfl
theorem b_Book_of_number (T : Tx K mg) : Binds K T.fd_Book_of_number ["number"] [] := T.F_Book_of_number.binds (ps := ["number"]) fun _ _ _ _ _ _ us hl => match us, hl with | [_], _ => rfl
end
end K52
namespace K52
open PySem PySem.Spec PyProof.Rows L2 Rg
section
variable {P : Program} {w : World} {K : PySem.W.Frag} {mg : Str → Option Value} {base : Heap}
/-! ### _law_pick -/
def sp_Lpick : Sp := fun vs H Q _ => ∃ (p : Addr) (fs : List Int) (lim : Int), vs = [.ref p, .int lim] ∧ H p = some (.lst (fs.map V.int)) ∧ 0 < lim ∧
  ∀ (r : Int) (fs' : List Int), 0 ≤ r → r < lim → fs'.length ≤ fs.length → Q (.int r) (upd H p (.lst (fs'.map V.int)))
theorem ok_Lpick (T : Tx K mg) : FnOk P w K mg base CX0 1 T.f_Lpick T.fd_Lpick ["_law_feed_here", "_law_limit"] sp_Lpick := by
  refine T.F_Lpick.ok sc_Lpick (fun vs H Q E h => ?_) (fun cdv A outer s H vs Q E hr h => ?_)
  · obtain ⟨p, fs, lim, rfl, _⟩ := h
    rfl
  · obtain ⟨p, fs, lim, rfl, hp, hl, k⟩ := h
    refine ⟨_, (pss_cons (ps_if (pt_cmpR op_eq (pe_callB call_len_seq rfl T.b_len (by decide +kernel) (pa_cons (pv 0) pa_nil)) pe_int (nomark _))
        (pss_one (ps_ret pe_int))
        pss_nil)
      (pss_one (ps_ret (pe_op op_mod (pe_callTy call_int1 rfl T.b_int (by decide +kernel) (pa_cons (pe_bm PySem.F.plainAttrs_list PySem.F.slot_list_pop PySem.F.type_list_pop mt_popAt (pv 0) (pa_cons pe_int pa_nil)) pa_nil)) (pv 1))))), ?_⟩
    refine ⟨_, rfl, p, fs.map V.int, rfl, .inl (.inl (.inl hp)), rfl, _, rfl, ite2 (fun e => ?_) (fun e => ?_)⟩
    · have := k 0 fs (Int.le_refl _) hl (Nat.le_refl _)
      rw [upd_id hp] at this
      exact this
    · cases fs with
      | nil => exact absurd (decide_eq_true rfl) e
      | cons x r =>
        refine ⟨.ref p, rfl, .inl ⟨rfl, _, .inl (.inl hp)⟩, p, _, 0, 0, .int x, rfl, rfl, hp, by decide, by decide, ?_, rfl, .inl ⟨x, rfl, ?_⟩⟩
        · rw [List.length_map]; simp [seqIndex?]
        · refine ⟨.int lim, rfl, _, _, rfl, rfl, hl, ?_⟩
          exact k _ r (Int.emod_nonneg _ (by omega)) (Int.emod_lt_of_pos _ hl) (by simp)

/-! ### _law_feed -/
def sp_Lfeed (K : PySem.W.Frag) : Sp := fun vs H Q _ => ∃ (a : Addr) (ns : List Int), vs = [.ref a] ∧ SqL K H a (ns.map V.int) ∧ ns.length ≤ 63 ∧
  ∀ (H' : Hp) (p : Addr) (fs : List Int), Same H H' → H p = none → H' p = some (.lst (fs.map V.int)) → fs.length ≤ 5000 → Q (.ref p) H'
theorem ok_Lfeed (T : Tx K mg) : FnOk P w K mg base CX0 1 T.f_Lfeed T.fd_Lfeed ["_law_script"] (sp_Lfeed K) := by
  refine T.F_Lfeed.ok sc_Lfeed (fun vs H Q E h => ?_) (fun cdv A outer s H vs Q E hr h => ?_)
  · obtain ⟨_, _, rfl, _⟩ := h; rfl
  · obtain ⟨a, ns, rfl, hS, hlen, k⟩ := h
    refine ⟨_, (pss_cons (ps_set (i := 1) sc_Lfeed.nd rfl (.inl rfl) (pe_lst pa_nil))
      (pss_cons (ps_for PassesOwn.never rfl (pi_list (pv 0)) (pg_name (i := 2) sc_Lfeed.nd rfl (.inl rfl))
        (pss_cons (ps_set (i := 3) sc_Lfeed.nd rfl (.inl rfl) (pe_callB call_abs rfl T.b_abs (by decide +kernel) (pa_cons (pv 2) pa_nil)))
        (Evl.pss_cut (ps_if (pt_cmpR op_lt (pv 3) (pe_op op_pow pe_int pe_int) (nomark _))
          (pss_cons (ps_set (i := 3) sc_Lfeed.nd rfl (.inl rfl) (pe_op op_mod (pe_callTy call_int1 rfl T.b_int (by decide +kernel) (pa_cons (pe_op op_add (pe_op op_mul (pv 3) pe_int) pe_int) pa_nil)) pe_int))
          (pss_cons (ps_expr (pe_bm PySem.F.plainAttrs_list PySem.F.slot_list_append PySem.F.type_list_append mt_append (pv 1) (pa_cons (pe_op op_mod (pe_callTy call_int1 rfl T.b_int (by decide +kernel) (pa_cons (pe_op op_add (pe_op op_mul (pv 3) pe_int) pe_int) pa_nil)) pe_int) pa_nil)))
          (pss_one (ps_set (i := 3) sc_Lfeed.nd rfl (.inl rfl) pe_int))))
          pss_nil)
        (pss_one (ps_for PassesOwn.never rfl (pi_range1 rfl T.b_range (pa_cons pe_int pa_nil)) (pg_name (i := 4) sc_Lfeed.nd rfl (.inl rfl))
          (pss_one (ps_if (pt_cmpR op_gt (pv 3) pe_int (nomark _))
            (pss_cons (ps_expr (pe_bm PySem.F.plainAttrs_list PySem.F.slot_list_append PySem.F.type_list_append mt_append (pv 1) (pa_cons (pe_op op_mod (pe_callTy call_int1 rfl T.b_int (by decide +kernel) (pa_cons (pv 3) pa_nil)) pe_int) pa_nil)))
            (pss_one (ps_set (i := 3) sc_Lfeed.nd rfl (.inl rfl) (pe_op op_fdiv (pv 3) pe_int))))
            pss_nil)))))))
      (pss_one (ps_ret (pv 1))))), ?_⟩
    refine ⟨Nat.zero_le _, fun p np => ?_⟩
    have s0 : Same H (upd H p (.lst [])) := same_upd np
    have npa : ∀ H2, SqL K H2 a (ns.map V.int) → True := fun _ _ => trivial
    refine ⟨_, rfl, a, rfl, ⟨_, s0.seq hS⟩, for_list (K := K) (a := a) (xs := ns.map V.int) (fun i σ H2 => ∃ (fs : List Int) (v2 v3 v4 : Option V), σ = [some (.ref a), some (.ref p), v2, v3, v4] ∧ H2 = upd H p (.lst (fs.map V.int)) ∧ fs.length ≤ 61 * i)
      ⟨[], none, none, none, rfl, rfl, Nat.zero_le _⟩ (fun i σ H2 _ ⟨_, _, _, _, _, e, _⟩ => by rw [e]; exact (same_upd np).seq hS) ?_ ?_⟩
    · rintro i y σ H2 hi ⟨fs, v2, v3, v4, rfl, rfl, hl⟩
      have hil : i < 63 := by
        have := (List.getElem?_eq_some_iff.mp hi).1
        rw [List.length_map] at this
        omega
      obtain ⟨z, rfl⟩ : ∃ z, y = V.int z := by
        rw [List.getElem?_map] at hi
        cases e : ns[i]? with
        | none => rw [e] at hi; cases hi
        | some z => rw [e] at hi; exact ⟨z, (Option.some.inj hi).symm⟩
      refine ⟨_, rfl, z, rfl, ?_⟩
      refine ⟨fun σ' H' => ∃ (fs : List Int) (R : Int) (v4 : Option V), σ' = [some (.ref a), some (.ref p), some (.int z), some (.int R), v4] ∧ H' = upd H p (.lst (fs.map V.int)) ∧ 0 ≤ R ∧ fs.length ≤ 61 * i + 1, ?_, ?_⟩
      · have hz : 0 ≤ (if z < 0 then -z else z) := by split <;> omega
        refine ⟨_, rfl, _, _, rfl, rfl, ⟨by decide, by decide, by decide⟩, _, _, rfl, rfl, _, rfl, ite2 (fun e => ?_) (fun e => ?_)⟩
        · have e1 : (if z < 0 then -z else z) < 10 ^ 18 := of_decide_eq_true e
          refine ⟨_, rfl, _, _, rfl, rfl, .inl ⟨by omega, by omega⟩, _, _, rfl, rfl, .inl ⟨_, rfl, _, _, rfl, rfl, (by show (0 : Int) < _; decide), ?_⟩⟩
          refine ⟨.ref p, rfl, .inl ⟨rfl, _, .inl (.inl upd_same)⟩, _, rfl, _, _, rfl, rfl, .inr ⟨by decide, by decide⟩, _, _, rfl, rfl, .inl ⟨_, rfl, _, _, rfl, rfl, (by show (0 : Int) < _; decide), p, _, _, rfl, rfl, upd_same, ?_, ?_⟩⟩
          · rw [List.length_map]; exact Nat.lt_of_lt_of_le (Nat.lt_succ_of_le hl) (by unfold sizeLine; omega)
          · exact ⟨fs ++ [_], 0, v4, rfl, upd_app, Int.le_refl _, by rw [List.length_append]; simp; omega⟩
        · exact ⟨fs, _, v4, rfl, rfl, hz, by omega⟩
      · rintro σ' H' ⟨fs, R, v4, rfl, rfl, hR, hl⟩
        refine ⟨60, rfl, by decide, by decide, for_range (lo := 0) (n := 60) (fun j σ' H' => ∃ (fs : List Int) (R : Int) (v4 : Option V), σ' = [some (.ref a), some (.ref p), some (.int z), some (.int R), v4] ∧ H' = upd H p (.lst (fs.map V.int)) ∧ 0 ≤ R ∧ fs.length ≤ 61 * i + 1 + j)
          ⟨fs, R, v4, rfl, rfl, hR, hl⟩ ?_ ?_⟩
        · rintro j σ' H' hj ⟨fs, R, v4, rfl, rfl, hR, hl⟩
          refine ⟨_, rfl, _, _, rfl, rfl, _, rfl, ite2 (fun e => ?_) (fun e => ?_)⟩
          · refine ⟨.ref p, rfl, .inl ⟨rfl, _, .inl (.inl upd_same)⟩, _, rfl, .inl ⟨_, rfl, _, _, rfl, rfl, (by show (0 : Int) < _; decide), p, _, _, rfl, rfl, upd_same, ?_, ?_⟩⟩
            · rw [List.length_map]; exact Nat.lt_of_lt_of_le (Nat.lt_succ_of_le hl) (by unfold sizeLine; omega)
            · refine ⟨_, rfl, _, _, rfl, rfl, ⟨by decide, by decide⟩, fs ++ [_], _, _, rfl, upd_app, Int.ediv_nonneg hR (by decide), by rw [List.length_append]; simp; omega⟩
          · exact ⟨fs, R, _, rfl, rfl, hR, by omega⟩
        · rintro σ' H' ⟨fs, R, v4, rfl, rfl, hR, hl⟩
          exact ⟨fs, _, _, _, rfl, rfl, by omega⟩
    · rintro σ H2 ⟨fs, v2, v3, v4, rfl, rfl, hl⟩
      rw [List.length_map] at hl
      exact ⟨_, rfl, k _ p fs (same_upd np) np upd_same (by omega)⟩
end
end K52
namespace K52
open PySem PySem.Spec PyProof.Rows L2 Rg
theorem inV_str {r : Str} {B : List Str} : inV (.str r) (B.map V.str) = decide (r ∈ B) := by
  unfold inV
  rw [List.any_map, Bool.eq_iff_iff, List.any_eq_true, decide_eq_true_eq]
  constructor
  · rintro ⟨x, hx, e⟩
    have : x = r := by simpa [eqV] using e
    exact this ▸ hx
  · intro h
    exact ⟨r, h, by simp [eqV]⟩
theorem flat_str {B : List Str} : (B.map V.str).all flatV = true := by
  rw [List.all_map, List.all_eq_true]
  intro x _
  rfl
theorem str_at {l : List Str} {i : Nat} {x : V} (h : (l.map V.str)[i]? = some x) : ∃ r, x = .str r ∧ l[i]? = some r := by
  rw [List.getElem?_map] at h
  obtain ⟨r, h1, h2⟩ := Option.map_eq_some_iff.mp h
  exact ⟨r, h2.symm, h1⟩
/-- a list or a tuple of texts -/
def SqS (K : PySem.W.Frag) (H : Hp) (a : Addr) (B : List Str) : Prop := SqL K H a (B.map V.str) ∨ SqT K H a (B.map V.str)
/-- all but instances stay -/
def KI (H H' : Hp) : Prop := ∀ x o, H x = some o → (∀ C dx fs, o ≠ .ins C dx fs) → H' x = some o
theorem KI.refl {H : Hp} : KI H H := fun _ _ e _ => e
theorem KI.of {H H' : Hp} (s : Same H H') : KI H H' := fun _ _ e _ => s _ _ e
theorem KI.same {H H1 H' : Hp} (a : KI H H1) (s : Same H1 H') : KI H H' := fun x o e n => s _ _ (a x o e n)
theorem KI.fld {H H1 : Hp} {p C dx C' dx' : Addr} {fs gs : List (Str × V)} (a : KI H H1) (e : H1 p = some (.ins C dx fs)) : KI H (upd H1 p (.ins C' dx' gs)) := fun x o ex n => by
  have h1 := a x o ex n
  rw [upd_ne]
  · exact h1
  · intro z
    rw [z, e] at h1
    exact n _ _ _ (Option.some.inj h1).symm
theorem rd_ki {H H' : Hp} {a : Addr} {u : HO} (k : KI H H') (h : Rd H a u) (n : ∀ C dx fs, u ≠ .ins C dx fs) : Rd H' a u := by
  rcases h with h | ⟨o, h⟩
  · exact .inl (k _ _ h n)
  · exact .inr ⟨o, k _ _ h fun _ _ _ z => nomatch z⟩
theorem SqS.ki {K : PySem.W.Frag} {H H' : Hp} {a : Addr} {B : List Str} (k : KI H H') (h : SqS K H a B) : SqS K H' a B := by
  rcases h with (h | h) | (h | h)
  · exact .inl (.inl (rd_ki k h fun _ _ _ z => nomatch z))
  · exact .inl (.inr h)
  · exact .inr (.inl (rd_ki k h fun _ _ _ z => nomatch z))
  · exact .inr (.inr h)
theorem SqS.same {K : PySem.W.Frag} {H H' : Hp} {a : Addr} {B : List Str} (s : Same H H') (h : SqS K H a B) : SqS K H' a B := h.ki (.of s)
theorem SqL.ki {K : PySem.W.Frag} {H H' : Hp} {a : Addr} {xs : List V} (k : KI H H') (h : SqL K H a xs) : SqL K H' a xs := by
  rcases h with h | h
  · exact .inl (rd_ki k h fun _ _ _ z => nomatch z)
  · exact .inr h
theorem SqT.ki {K : PySem.W.Frag} {H H' : Hp} {a : Addr} {xs : List V} (k : KI H H') (h : SqT K H a xs) : SqT K H' a xs := by
  rcases h with h | h
  · exact .inl (rd_ki k h fun _ _ _ z => nomatch z)
  · exact .inr h
/-- a for over a list or a tuple of texts -/
def forR (g : TG) (tb : TS) (D : Ends) (σ : L2.St) (J : It) (H1 : Hp) : Prop := ∃ W : Nat → Nat → L2.St → Hp → Prop, (∃ m, W 0 m σ H1) ∧ ∀ i m σ H, W i m σ H →
  (J.stop i H ∧ D.nx σ H) ∨ (J.go i H ∧ ∃ N : L2.St → Hp → Prop, (∀ σ' H', N σ' H' → ∃ m', m' < m ∧ W (i + 1) m' σ' H') ∧ ∀ x H', J.yld i H x H' → g x σ H' fun σ2 H2 => tb { D with nx := N, ct := N, bk := D.nx } σ2 H2)
theorem for_seq {K : PySem.W.Frag} {a : Addr} {B : List Str} {g : TG} {tb : TS} {D : Ends} {σ : L2.St} {H : Hp} (hq : SqS K H a B) (Pv : Nat → L2.St → Hp → Prop) (h0 : Pv 0 σ H) (hk : ∀ i σ H', i ≤ B.length → Pv i σ H' → KI H H')
    (hs : ∀ i r σ H', B[i]? = some r → Pv i σ H' → g (.str r) σ H' fun σ2 H2 => tb { D with nx := Pv (i + 1), ct := Pv (i + 1), bk := D.nx } σ2 H2) (hd : ∀ σ H', Pv B.length σ H' → D.nx σ H') :
    ((∃ xs, SqL K H a xs) ∧ forR g tb D σ (Itl K a) H) ∨ ((∃ xs, SqT K H a xs) ∧ forR g tb D σ (Itt K a) H) := by
  rcases hq with q | q
  · refine .inl ⟨⟨_, q⟩, for_list (K := K) (a := a) (xs := B.map V.str) Pv h0 (fun i σ H' hi hp => SqL.ki (hk i σ H' (by rw [List.length_map] at hi; exact hi) hp) q) (fun i x σ H' hx hp => ?_) (fun σ H' hp => hd σ H' (by rw [List.length_map] at hp; exact hp))⟩
    obtain ⟨r, rfl, hr⟩ := str_at hx
    exact hs i r σ H' hr hp
  · refine .inr ⟨⟨_, q⟩, for_tup (K := K) (a := a) (xs := B.map V.str) Pv h0 (fun i σ H' hi hp => SqT.ki (hk i σ H' (by rw [List.length_map] at hi; exact hi) hp) q) (fun i x σ H' hx hp => ?_) (fun σ H' hp => hd σ H' (by rw [List.length_map] at hp; exact hp))⟩
    obtain ⟨r, rfl, hr⟩ := str_at hx
    exact hs i r σ H' hr hp
/-- what a comprehension with a test has made of the first i texts -/
structure PvS (H0 : Hp) (D : Addr) (l : List Str) (p : Str → Bool) (i : Nat) (H' : Hp) : Prop where
  same : Same H0 H'
  at_ : H' D = some (.lst (((l.take i).filter p).map V.str))
theorem PvS.start {H0 H1 : Hp} {D : Addr} {l : List Str} {p : Str → Bool} (s : Same H0 H1) (h : H1 D = none) : PvS H0 D l p 0 (upd H1 D (.lst [])) := ⟨s.trans (same_upd h), upd_same⟩
theorem PvS.yes {H0 H' : Hp} {D : Addr} {l : List Str} {p : Str → Bool} {i : Nat} {x : Str} (h : PvS H0 D l p i H') (n : H0 D = none) (hx : l[i]? = some x) (hp : p x = true) : PvS H0 D l p (i + 1) (upd H' D (.lst (((l.take i).filter p).map V.str ++ [.str x]))) := by
  refine ⟨fun b o e => ?_, ?_⟩
  · rw [upd_ne (ne_of_none e n)]
    exact h.same _ _ e
  · rw [upd_same, takeB hx, List.filter_append, List.map_append, List.filter_cons, if_pos hp]
    rfl
theorem PvS.no {H0 H' : Hp} {D : Addr} {l : List Str} {p : Str → Bool} {i : Nat} {x : Str} (h : PvS H0 D l p i H') (hx : l[i]? = some x) (hp : p x = false) : PvS H0 D l p (i + 1) H' := by
  refine ⟨h.same, ?_⟩
  rw [h.at_, takeB hx, List.filter_append, List.filter_cons, if_neg (by rw [hp]; exact Bool.false_ne_true), List.filter_nil, List.append_nil]
theorem PvS.grow {H0 H' H1 : Hp} {D : Addr} {l : List Str} {p : Str → Bool} {i : Nat} (h : PvS H0 D l p i H') (s : Same H' H1) : PvS H0 D l p i H1 := ⟨h.same.trans s, s _ _ h.at_⟩
theorem PvS.all {H0 H' : Hp} {D : Addr} {l : List Str} {p : Str → Bool} (h : PvS H0 D l p l.length H') : Same H0 H' ∧ H' D = some (.lst ((l.filter p).map V.str)) := by
  have := h.at_
  rw [List.take_length] at this
  exact ⟨h.same, this⟩
theorem PvS.len {l : List Str} {p : Str → Bool} {i : Nat} (h : l.length < 900) : (((l.take i).filter p).map V.str).length < sizeLine := by
  rw [List.length_map]
  have h1 := List.length_filter_le p (l.take i)
  have h2 : (l.take i).length ≤ l.length := by rw [List.length_take]; exact Nat.min_le_right _ _
  exact small1000 (by omega)
/-- a book -/
structure BookAt (C : Addr) (H : Hp) (a : Addr) (B : List Str) : Prop where
  ob : ∃ dx tn, H a = some (.ins C dx [("names", .ref tn), ("number", .int (numB B))]) ∧ H tn = some (.tup (B.map V.str))
theorem BookAt.same {C : Addr} {H H' : Hp} {a : Addr} {B : List Str} (s : Same H H') (h : BookAt C H a B) : BookAt C H' a B := by
  obtain ⟨dx, tn, h1, h2⟩ := h.ob
  exact ⟨dx, tn, s _ _ h1, s _ _ h2⟩
theorem wts_f {B : List Str} {i : Nat} : (wts B i).length < 900 + i := by
  have := wts_len (B := B) (i := i)
  omega
/-- the numbers of the first i rules that B has -/
structure PvW (H0 : Hp) (D : Addr) (B : List Str) (i : Nat) (H' : Hp) : Prop where
  same : Same H0 H'
  at_ : H' D = some (.lst ((wts B i).map V.int))
section
variable {P : Program} {w : World} {K : PySem.W.Frag} {mg : Str → Option Value} {base : Heap}
def sp_RuleSet_init (K : PySem.W.Frag) (C CV : Addr) : Sp := fun vs H Q E => ∃ (p dx q : Addr) (ns : List Str), vs = [.ref p, .ref q] ∧ H p = some (.ins C dx []) ∧ SqS K H q ns ∧ ns.length < 900 ∧ (∀ r ∈ ns, r.length ≤ 1000) ∧
  ((∀ r ∈ ns, r ∈ Rs) → ∀ H' tn, KI H H' → H' p = some (.ins C dx [("names", .ref tn), ("number", .int (numB ns))]) → H' tn = some (.tup ((ord ns).map V.str)) → (∀ x o, x ≠ p → H x = some o → H' x = some o) → Q .non H') ∧
  ((∃ r ∈ ns, r ∉ Rs) → ∀ H', Same H H' → E (.ref CV) none H')
theorem ok_RuleSet_init (T : Tx K mg) : FnOk P w K mg base (L2N.CX P w) 1 T.f_RuleSet___init__ T.fd_RuleSet___init__ ["self", "names"] (sp_RuleSet_init K T.C_Book T.C_BadValue) := by
  refine T.F_RuleSet___init__.okN sc_RuleSet___init__ (fun vs H Q E h => ?_) (fun cdv A outer s H vs Q E hr h => ?_)
  · obtain ⟨_, _, _, _, rfl, _⟩ := h; rfl
  · obtain ⟨p, dx, q, ns, rfl, hp, hq, hlen, hsz, k, kE⟩ := h
    refine ⟨_, (pss_cons (ps_for (passes_of rfl) rfl (pi_seq (pv 1)) (pg_name (i := 2) sc_RuleSet___init__.nd rfl (.inl rfl))
        (pss_one (ps_if (pt_cmpR op_notIn_seq (pv 2) (pe_con (pv 0) rfl) rfl)
          (pss_one (L2N.ps_raise rfl (L2N.takes_of rfl rfl rfl rfl) (pmk_own1N PySem.F.excBase_ValueError T.xe_BadValue T.mg_BadValue T.ke_BadValue (raises_own T.be_BadValue T.te_BadValue) rfl (pe_joined (.cons pe_str (.cons (pe_fmt (pv 2)) .nil))))))
          pss_nil)))
      (PSs.nox (pss_cons (ps_fld (pv 0) (pe_callTy call_tuple_of rfl T.b_tuple (by decide +kernel) (pa_cons (pe_lc rfl (own := [("rule", 3)]) (g := gName 3) (tt := _) sc_RuleSet___init__.nd (pi_tup (pe_con (pv 0) rfl)) (blkOk_by (N := ["self", "names", "name", "rule", "k"]) (sc := defScope s_RuleSet___init__) (by decide +kernel)) (fun _ _ _ _ _ => pg_name (i := 3) sc_RuleSet___init__.nd rfl (Or.inl rfl)) (fun _ _ _ _ _ => pts_one (pt_cmpR (op_inK (K := K)) (pv 3) (pv 1) rfl)) (fun _ _ _ _ _ => (pv 3))) pa_nil)) rfl)
      (pss_one (ps_fld (pv 0) (pe_callB (cr_sum rfl) rfl T.b_sum (by decide +kernel) (pa_cons (pe_lc rfl (own := [("k", 4), ("rule", 3)]) (g := _) (tt := _) sc_RuleSet___init__.nd (pi_enumT (by rfl) T.b_enumerate (pa_cons (pe_con (pv 0) rfl) pa_nil)) (blkOk_by (N := ["self", "names", "name", "rule", "k"]) (sc := defScope s_RuleSet___init__) (by decide +kernel)) (fun _ _ _ _ _ => (pg_tupK (K := K) (n := 2) rfl (pgs_cons (pg_name (i := 4) sc_RuleSet___init__.nd rfl (.inl rfl)) (pgs_cons (pg_name (i := 3) sc_RuleSet___init__.nd rfl (.inl rfl)) pgs_nil)))) (fun _ _ _ _ _ => pts_one (pt_cmpR (op_inK (K := K)) (pv 3) (pv 1) rfl)) (fun _ _ _ _ _ => (pe_op op_shl pe_int (pv 4)))) pa_nil)) rfl))))), ?_⟩
    have hR : ∀ H, SqT K H T.tA_Book_RULES (Rs.map V.str) := T.tt_Book_RULES
    have hfs : ∀ x : Str, x.length ≤ 1000 → (Str.empty ++ "no rule: ").length ≤ sizeLine ∧ (Str.empty ++ "no rule: " ++ x).length ≤ sizeLine := fun x hx => by
      have e : (Str.empty ++ ("no rule: " : Str)).length = 9 := by decide
      have h1 : 2000 ≤ sizeLine := by decide
      rw [strLen_append (x := Str.empty ++ "no rule: ")]
      omega
    -- the names that are none
    refine ⟨_, rfl, q, rfl, ?_⟩
    refine for_seq hq (fun i σ H' => ∃ u2 : Option V, σ = [some (.ref p), some (.ref q), u2, none, none] ∧ H' = H ∧ ∀ r ∈ ns.take i, r ∈ Rs) ⟨_, rfl, rfl, fun r h => by simp at h⟩ (fun i σ H' _ ⟨_, _, e, _⟩ => by rw [e]; exact .refl) ?_ ?_
    · rintro i r σ H' hr ⟨u2, rfl, rfl, hin⟩
      refine ⟨_, rfl, _, rfl, p, _, _, _, _, _, rfl, hp, T.cl_Book, T.tc_Book_RULES, rfl, _, _, rfl, .inr (hR _), rfl, flat_str, _, rfl, ?_⟩
      by_cases z : r ∈ Rs
      · rw [if_pos rfl, inV_str, decide_eq_true z]
        refine iteF ⟨_, rfl, rfl, fun x hx => ?_⟩
        rw [takeB hr] at hx
        rcases List.mem_append.mp hx with y | y
        · exact hin x y
        · rw [List.mem_singleton.mp y]; exact z
      · rw [if_pos rfl, inV_str, decide_eq_false z]
        have hm := List.mem_of_getElem? hr
        obtain ⟨f1, f2⟩ := hfs r (hsz r hm)
        refine iteT ⟨_, rfl, f1, _, rfl, .inl ⟨_, rfl, ?_, _, rfl, f2, ?_⟩⟩
        · have := hsz r hm
          have h1 : 2000 ≤ sizeLine := by decide
          omega
        · exact kE ⟨r, hm, z⟩ _ (Same.refl _)
    rintro σ H' ⟨u2, rfl, rfl, hin⟩
    rw [List.take_length] at hin
    -- the names
    refine ⟨_, rfl, p, _, _, _, _, _, rfl, hp, T.cl_Book, T.tc_Book_RULES, rfl, _, rfl, ⟨_, hR _⟩, fun D hD => ?_⟩
    refine lc_tup (K := K) (a := T.tA_Book_RULES) (xs := Rs.map V.str) (PvS H' D Rs fun r => decide (r ∈ ns)) (PvS.start (Same.refl _) hD) (fun _ _ _ _ => hR _) ?_ ?_
    · rintro i x H1 hx hP
      obtain ⟨r, rfl, hr⟩ := str_at hx
      refine ⟨rfl, ?_⟩
      refine ⟨_, rfl, _, rfl, q, _, rfl, hq.same hP.same, rfl, flat_str, _, rfl, ?_⟩
      rw [if_neg Bool.false_ne_true, inV_str]
      by_cases z : r ∈ ns
      · rw [decide_eq_true z]
        exact iteT ⟨_, rfl, _, hP.at_, PvS.len (by decide), hP.yes hD hr (decide_eq_true z)⟩
      · rw [decide_eq_false z]
        exact iteF (hP.no hr (decide_eq_false z))
    intro H1 hP
    obtain ⟨s1, e1⟩ := PvS.all (l := Rs) hP
    refine ⟨D, _, rfl, .inl ⟨.of e1, fun tn htn => ?_⟩⟩
    have s2 := same_upd (o := .tup ((Rs.filter fun r => decide (r ∈ ns)).map V.str)) htn
    have e2 : upd H1 tn (.tup ((Rs.filter fun r => decide (r ∈ ns)).map V.str)) tn = some (.tup ((ord ns).map V.str)) := upd_same
    generalize upd H1 tn (.tup ((Rs.filter fun r => decide (r ∈ ns)).map V.str)) = H2 at s2 e2 ⊢
    have s02 := s1.trans s2
    have hp2 := s02 _ _ hp
    refine ⟨_, rfl, p, T.C_Book, dx, _, rfl, hp2, T.cl_Book, T.na_Book_names, (by show 0 < 1000; decide), ?_⟩
    have hnt : tn ≠ p := fun z => by rw [z, hp2] at e2; cases e2
    have k3 : KI H' (upd H2 p (.ins T.C_Book dx (putF "names" (.ref tn) []))) := (KI.of s02).fld hp2
    have e3 : upd H2 p (.ins T.C_Book dx (putF "names" (.ref tn) [])) p = some (.ins T.C_Book dx [("names", .ref tn)]) := upd_same
    have f3 : upd H2 p (.ins T.C_Book dx (putF "names" (.ref tn) [])) tn = some (.tup ((ord ns).map V.str)) := by rw [upd_ne hnt]; exact e2
    have o3 : ∀ x o, x ≠ p → H' x = some o → upd H2 p (.ins T.C_Book dx (putF "names" (.ref tn) [])) x = some o := fun x o hx ex => by rw [upd_ne hx]; exact s02 _ _ ex
    generalize upd H2 p (.ins T.C_Book dx (putF "names" (.ref tn) [])) = H3 at k3 e3 f3 o3 ⊢
    -- the number
    refine ⟨_, rfl, p, _, _, _, _, _, rfl, e3, T.cl_Book, T.tc_Book_RULES, rfl, _, _, rfl, hR _, fun D2 hD2 => ?_⟩
    refine lc_it (walk_enumT (K := K) (a := T.tA_Book_RULES) (xs := Rs.map V.str)) (PvW H3 D2 ns) ⟨same_upd hD2, upd_same⟩ (fun _ _ _ _ => hR _) ?_ ?_
    · rintro i x H4 H5 hi hP2 ⟨TT, y, z, rfl, hTT, rfl, hy, hz⟩
      cases hy
      obtain ⟨r, rfl, hr⟩ := str_at hz
      have h12 : i < 12 := hi
      have s45 := same_upd (o := .tup [.int (i : Nat), .str r]) hTT
      refine ⟨TT, _, rfl, .of upd_same, rfl, ?_⟩
      refine ⟨_, _, rfl, _, _, rfl, rfl, rfl, ?_⟩
      refine ⟨_, rfl, _, rfl, q, _, rfl, (hq.ki k3).same (hP2.same.trans s45), rfl, flat_str, _, rfl, ?_⟩
      rw [if_neg Bool.false_ne_true, inV_str]
      by_cases z : r ∈ ns
      · rw [decide_eq_true z]
        refine iteT ⟨_, rfl, _, _, rfl, rfl, ⟨by omega, by omega, by decide⟩, (wts ns i).map V.int, s45 _ _ hP2.at_, ?_, ?_, ?_⟩
        · rw [List.length_map]; exact small1000 (by have := wts_len (B := ns) (i := i); omega)
        · intro b o e
          rw [upd_ne (ne_of_none e hD2)]
          exact s45 _ _ (hP2.same _ _ e)
        · rw [upd_same, wts_s hr, if_pos z, List.map_append]
          show some (HO.lst (_ ++ [V.int (1 * 2 ^ (i : Int).toNat)])) = _
          rw [Int.one_mul, Int.toNat_natCast]
          rfl
      · rw [decide_eq_false z]
        refine iteF ⟨fun b o e => s45 _ _ (hP2.same _ _ e), ?_⟩
        rw [wts_s hr, if_neg z, List.append_nil]
        exact s45 _ _ hP2.at_
    intro H4 hP2
    refine ⟨D2, _, rfl, .of hP2.at_, ?_⟩
    have e4 := hP2.same _ _ e3
    refine ⟨_, rfl, p, T.C_Book, dx, _, rfl, e4, T.cl_Book, T.na_Book_number, (by show 1 < 1000; decide), ?_⟩
    refine k hin _ tn (((k3.same hP2.same)).fld e4) upd_same ?_ fun x o hx ex => by rw [upd_ne hx]; exact hP2.same _ _ (o3 x o hx ex)
    rw [upd_ne hnt]
    exact hP2.same _ _ f3
/-! ### in, iter, text -/
def sp_contains (C : Addr) : Sp := fun vs H Q _ => ∃ (a : Addr) (B : List Str) (x : Str), vs = [.ref a, .str x] ∧ BookAt C H a B ∧ Q (.bl (decide (x ∈ B))) H
theorem ok_contains (T : Tx K mg) : FnOk P w K mg base CX0 1 T.f_RuleSet___contains__ T.fd_RuleSet___contains__ ["self", "name"] (sp_contains T.C_Book) := by
  refine T.F_RuleSet___contains__.ok sc_RuleSet___contains__ (fun vs H Q E h => ?_) (fun cdv A outer s H vs Q E hr h => ?_)
  · obtain ⟨_, _, _, rfl, _⟩ := h; rfl
  · obtain ⟨a, B, x, rfl, ⟨dx, tn, e1, e2⟩, k⟩ := h
    refine ⟨_, (pss_one (ps_ret (pe_cmpR op_in_seq (pv 1) (pe_fld (pv 0) rfl) rfl))), ?_⟩
    refine ⟨_, rfl, _, rfl, a, _, _, _, _, rfl, e1, T.cl_Book, T.na_Book_names, rfl, tn, _, rfl, .inr (.of e2), rfl, flat_str, ?_⟩
    rw [if_neg Bool.false_ne_true, inV_str]
    exact k
def sp_iter (C : Addr) : Nat → Sp := fun n vs H Q _ => ∃ (a : Addr) (B : List Str), vs = [.ref a] ∧ BookAt C H a B ∧ ∀ it tn, H it = none → n ≤ it → H tn = some (.tup (B.map V.str)) → Q (.ref it) (upd H it (ItTO tn it))
theorem join_size {B : List Str} (h : B.length ≤ 900) (hs : ∀ r ∈ B, r.length ≤ 1000) : (B.map (·.length)).sum + B.length * (" " : Str).length ≤ 16777216 := by
  have e : (" " : Str).length = 1 := by decide
  have : ∀ {B : List Str}, (∀ r ∈ B, r.length ≤ 1000) → (B.map (·.length)).sum ≤ B.length * 1000 := by
    intro B hs
    induction B with
    | nil => exact Nat.le_refl _
    | cons a t ih =>
      have h1 := hs a List.mem_cons_self
      have h2 := ih fun r hr => hs r (List.mem_cons_of_mem _ hr)
      rw [List.map_cons, List.sum_cons, List.length_cons]
      omega
  have := this hs
  rw [e]
  omega
theorem Rs_size : ∀ r ∈ Rs, r.length ≤ 10 := by decide +kernel
def sp_text (C : Addr) : Sp := fun vs H Q _ => ∃ (a : Addr) (B : List Str), vs = [.ref a] ∧ BookAt C H a B ∧ B.Sublist Rs ∧ Q (.str (txB B)) H
end
end K52
namespace K52
open PySem PySem.Spec PyProof.Rows L2 Rg
/-! ### lists of texts compared -/
def dT (l : List Str) : PyData := .list (l.map PyData.str)
theorem dpAllT {K : PySem.W.Frag} {H : Hp} : ∀ ns : List Str, DpAll K H (ns.map V.str) (ns.map PyData.str)
  | [] => .nil
  | n :: ns => .cons (.str n) (dpAllT ns)
theorem dpT {K : PySem.W.Frag} {H : Hp} {a : Addr} {ns : List Str} (h : H a = some (.lst (ns.map V.str))) : Dp K H (.ref a) (dT ns) := .lst (.of h) (dpAllT ns)
def okS (x : Str) : Bool := PyData.canLay0 (.str x)
theorem canT : ∀ ns : List Str, (∀ x ∈ ns, okS x = true) → PyData.canLayAll0 (ns.map PyData.str) = true
  | [], _ => rfl
  | n :: ns, h => by
    show (PyData.canLay0 (.str n) && PyData.canLayAll0 (ns.map PyData.str)) = true
    rw [canT ns fun x hx => h x (List.mem_cons_of_mem _ hx), show PyData.canLay0 (.str n) = true from h n List.mem_cons_self]
    rfl
theorem depT : ∀ ns : List Str, PyData.depthAll (ns.map PyData.str) = 0
  | [] => rfl
  | n :: ns => by
    show max (PyData.depth (.str n)) (PyData.depthAll (ns.map PyData.str)) = 0
    rw [depT ns]
    rfl
theorem shT (ns : List Str) (h : ∀ x ∈ ns, okS x = true) : SeqAt.shaped (dT ns) = true := by
  unfold SeqAt.shaped dT
  rw [Bool.and_eq_true]
  refine ⟨canT ns h, decide_eq_true ?_⟩
  show PyData.depthAll (ns.map PyData.str) + 1 ≤ 64
  rw [depT ns]
  decide
theorem eqvAllT : ∀ a b : List Str, PyData.eqvAll (a.map PyData.str) (b.map PyData.str) = decide (a = b)
  | [], [] => by simp [PyData.eqvAll]
  | [], _ :: _ => by simp [PyData.eqvAll]
  | _ :: _, [] => by simp [PyData.eqvAll]
  | x :: a, y :: b => by
    simp only [List.map_cons, PyData.eqvAll]
    rw [eqvAllT a b]
    by_cases h : x = y
    · subst h; simp [PyData.eqv]
    · simp [PyData.eqv, h]
theorem eqvT (a b : List Str) : PyData.eqv (dT a) (dT b) = decide (a = b) := by
  unfold dT
  simp only [PyData.eqv]
  exact eqvAllT a b
theorem Rs_ok : ∀ x ∈ Rs, okS x = true := by decide +kernel
theorem sub_ok {B : List Str} (h : B.Sublist Rs) : ∀ x ∈ B, okS x = true := fun x hx => Rs_ok x (h.subset hx)
theorem ixN_nat {n : Nat} {z : Int} {i : Nat} (e : z = i) (h : i < n) : ixN n z = some i := by
  subst e
  unfold ixN
  rw [if_pos (by omega), if_pos (by omega)]
  rfl
end K52
namespace K52
open PySem PySem.Spec PyProof.Rows L2 Rg
theorem book_made {K : PySem.W.Frag} {C CV : Addr} {H : Hp} {Q : VK} {E : XK} {q : Addr} {ns : List Str} (hq : SqS K H q ns) (hl : ns.length < 900) (hs : ∀ r ∈ ns, r.length ≤ 1000)
    (k : (∀ r ∈ ns, r ∈ Rs) → ∀ H' x, Same H H' → H x = none → BookAt C H' x (ord ns) → Q (.ref x) H') (kE : (∃ r ∈ ns, r ∉ Rs) → ∀ H', Same H H' → E (.ref CV) none H') :
    ∀ x dx, H x = none → H dx = none → dx ≠ x → sp_RuleSet_init K C CV [.ref x, .ref q] (upd (upd H dx (.own x)) x (.ins C dx [])) (fun v H2 => v = .non ∧ Q (.ref x) H2) E := fun x dx nx nd ne => by
  have s1 : Same H (upd H dx (.own x)) := same_upd nd
  have nx1 : upd H dx (.own x) x = none := by rw [upd_ne ne.symm]; exact nx
  have s2 : Same H (upd (upd H dx (.own x)) x (.ins C dx [])) := s1.trans (same_upd nx1)
  have e2 : upd (upd H dx (.own x)) x (.ins C dx []) x = some (.ins C dx []) := upd_same
  generalize upd (upd H dx (.own x)) x (.ins C dx []) = H2 at s2 e2 ⊢
  refine ⟨x, dx, q, ns, rfl, e2, hq.same s2, hl, hs, fun hin H' tn ki e1 e3 ho => ⟨rfl, k hin H' x (fun b o e => ho b o (ne_of_none e nx) (s2 _ _ e)) nx ⟨dx, tn, by rw [numB_ord]; exact e1, e3⟩⟩, fun hb H' sm => kE hb H' (s2.trans sm)⟩
theorem book_madeR {K : PySem.W.Frag} {C CV : Addr} {H : Hp} {R : Addr → Hp → Prop} {E : XK} {q : Addr} {ns : List Str} (hq : SqS K H q ns) (hl : ns.length < 900) (hs : ∀ r ∈ ns, r.length ≤ 1000)
    (k : (∀ r ∈ ns, r ∈ Rs) → ∀ H' x, Same H H' → H x = none → BookAt C H' x (ord ns) → R x H') (kE : (∃ r ∈ ns, r ∉ Rs) → ∀ H', Same H H' → E (.ref CV) none H') :
    ∀ x dx, H x = none → H dx = none → dx ≠ x → sp_RuleSet_init K C CV [.ref x, .ref q] (upd (upd H dx (.own x)) x (.ins C dx [])) (fun v H2 => v = .non ∧ R x H2) E := fun x dx nx nd ne => by
  have s1 : Same H (upd H dx (.own x)) := same_upd nd
  have nx1 : upd H dx (.own x) x = none := by rw [upd_ne ne.symm]; exact nx
  have s2 : Same H (upd (upd H dx (.own x)) x (.ins C dx [])) := s1.trans (same_upd nx1)
  have e2 : upd (upd H dx (.own x)) x (.ins C dx []) x = some (.ins C dx []) := upd_same
  generalize upd (upd H dx (.own x)) x (.ins C dx []) = H2 at s2 e2 ⊢
  refine ⟨x, dx, q, ns, rfl, e2, hq.same s2, hl, hs, fun hin H' tn ki e1 e3 ho => ⟨rfl, k hin H' x (fun b o e => ho b o (ne_of_none e nx) (s2 _ _ e)) nx ⟨dx, tn, by rw [numB_ord]; exact e1, e3⟩⟩, fun hb H' sm => kE hb H' (s2.trans sm)⟩
section
variable {P : Program} {w : World} {K : PySem.W.Frag} {mg : Str → Option Value} {base : Heap}
/-- the parts of a text -/
def partsT (t : Str) : List Str := if t = "none" then [] else Txt.split t " "
def sp_written (K : PySem.W.Frag) (CT : Addr) : Sp := fun vs H Q E => ∃ (t : Str) (q : Addr), vs = [.str t, .ref q] ∧ (∀ H, SqT K H q (Rs.map V.str)) ∧ t.length ≤ 5000 ∧ (partsT t).length < 900 ∧ (∀ x ∈ partsT t, okS x = true) ∧
  (ord (partsT t) = partsT t → ∀ H' p, Same H H' → H p = none → H' p = some (.lst ((partsT t).map V.str)) → Q (.ref p) H') ∧ (ord (partsT t) ≠ partsT t → ∀ H', Same H H' → E (.ref CT) none H')
def sp_numbered (K : PySem.W.Frag) (CV : Addr) : Sp := fun vs H Q E => ∃ (n : Int) (q : Addr), vs = [.int n, .ref q] ∧ (∀ H, SqT K H q (Rs.map V.str)) ∧
  (∀ m : Nat, n = m → m < 4096 → ∀ H' p, Same H H' → H p = none → H' p = some (.lst ((nm Rs m).map V.str)) → Q (.ref p) H') ∧ (n < 0 ∨ 4096 ≤ n → ∀ H', Same H H' → E (.ref CV) none H')
/-- the names of the first i numbers -/
structure PvN (H0 : Hp) (D : Addr) (m i : Nat) (H' : Hp) : Prop where
  same : Same H0 H'
  at_ : H' D = some (.lst ((nm (Rs.take i) m).map V.str))
theorem ok_numbered (T : Tx K mg) : FnOk P w K mg base (L2N.CX P w) 1 T.f_numbered_names T.fd_numbered_names ["number", "rules"] (sp_numbered K T.C_BadValue) := by
  refine T.F_numbered_names.okN sc_numbered_names (fun vs H Q E h => ?_) (fun cdv A outer s H vs Q E hr h => ?_)
  · obtain ⟨_, _, rfl, _⟩ := h; rfl
  · obtain ⟨n, q, rfl, hq, k, kE⟩ := h
    refine ⟨_, (pss_cons (ps_if (pt_not (pt_chain op_le op_lt pe_int (pv 0) (pe_op op_shl pe_int (pe_callB call_len_seq rfl T.b_len (by decide +kernel) (pa_cons (pv 1) pa_nil)))))
        (pss_one (L2N.ps_raise rfl (L2N.takes_of rfl rfl rfl rfl) (L2N.pmk_own PySem.F.excBase_ValueError T.xe_BadValue T.mg_BadValue T.ke_BadValue (raises_own T.be_BadValue T.te_BadValue) rfl)))
        pss_nil)
      (PSs.nox (pss_one (ps_ret (pe_lc rfl (own := [("k", 2), ("rule", 3)]) (g := _) (tt := _) sc_numbered_names.nd (pi_enumT (by rfl) T.b_enumerate (pa_cons (pv 1) pa_nil)) (blkOk_by (N := ["number", "rules", "k", "rule"]) (sc := defScope s_numbered_names) (by decide +kernel)) (fun _ _ _ _ _ => (pg_tupK (K := K) (n := 2) rfl (pgs_cons (pg_name (i := 2) sc_numbered_names.nd rfl (.inl rfl)) (pgs_cons (pg_name (i := 3) sc_numbered_names.nd rfl (.inl rfl)) pgs_nil)))) (fun _ _ _ _ _ => pts_one (pt_truthK (K := K) (pe_op op_and (pe_op op_shr (pv 0) (pv 2)) pe_int) (fun _ => rfl))) (fun _ _ _ _ _ => (pv 3))))))), ?_⟩
    refine ⟨_, rfl, _, _, rfl, rfl, _, rfl, ?_⟩
    by_cases h0 : 0 ≤ n
    rotate_left
    · rw [decide_eq_false h0]
      exact iteF ⟨_, rfl, iteT (kE (.inl (by omega)) _ (Same.refl _))⟩
    rw [decide_eq_true h0]
    refine iteT ⟨_, rfl, q, _, rfl, .inr (hq _), _, _, rfl, rfl, ⟨by rw [List.length_map, Rs_len]; decide, by rw [List.length_map, Rs_len]; decide, by decide⟩, _, _, rfl, rfl, _, rfl, ?_⟩
    rw [List.length_map, Rs_len]
    have e12 : (1 : Int) * 2 ^ ((12 : Nat) : Int).toNat = 4096 := by decide
    rw [e12]
    by_cases h1 : n < 4096
    rotate_left
    · rw [decide_eq_false h1]
      exact iteT (kE (.inr (by omega)) _ (Same.refl _))
    rw [decide_eq_true h1]
    obtain ⟨m, rfl⟩ : ∃ m : Nat, n = m := ⟨n.toNat, by omega⟩
    refine iteF ⟨_, rfl, q, _, rfl, hq _, fun D hD => ?_⟩
    refine lc_it (walk_enumT (K := K) (a := q) (xs := Rs.map V.str)) (PvN H D m) ⟨same_upd hD, upd_same⟩ (fun _ _ _ _ => hq _) ?_ ?_
    · rintro i x H4 H5 hi hP2 ⟨TT, y, z, rfl, hTT, rfl, hy, hz⟩
      cases hy
      obtain ⟨r, rfl, hr⟩ := str_at hz
      have h12 : i < 12 := hi
      have s45 := same_upd (o := .tup [.int (i : Nat), .str r]) hTT
      refine ⟨TT, _, rfl, .of upd_same, rfl, ?_⟩
      refine ⟨_, _, rfl, _, _, rfl, rfl, rfl, ?_⟩
      refine ⟨_, rfl, _, rfl, _, _, rfl, rfl, by omega, _, _, rfl, rfl, _, rfl, ?_⟩
      have eb : Builtin.bitAnd ((m : Int) / 2 ^ ((i : Int)).toNat) 1 = ((m / 2 ^ i % 2 : Nat) : Int) := by
        have h := Bits.bitAnd_mask (x := (m : Int) / 2 ^ ((i : Int)).toNat) 1 (Int.ediv_nonneg (by omega) (by rw [Int.toNat_natCast]; exact Int.le_of_lt (Int.pow_pos (by decide))))
        rw [show (2 : Int) ^ 1 - 1 = 1 from rfl, show (2 : Int) ^ 1 = 2 from rfl] at h
        rw [h, Int.toNat_natCast]
        simp
      rw [eb]
      by_cases z : m / 2 ^ i % 2 = 1
      · rw [z]
        refine iteT ⟨_, rfl, (nm (Rs.take i) m).map V.str, s45 _ _ hP2.at_, ?_, ?_, ?_⟩
        · rw [List.length_map]
          have h1 := nm_len (l := Rs.take i) (n := m)
          have h2 : (Rs.take i).length ≤ 12 := by rw [List.length_take, Rs_len]; exact Nat.min_le_right _ _
          exact small1000 (by omega)
        · intro b o e
          rw [upd_ne (ne_of_none e hD)]
          exact s45 _ _ (hP2.same _ _ e)
        · rw [upd_same, nm_take_s hr, if_pos z, List.map_append]
          rfl
      · have z0 : m / 2 ^ i % 2 = 0 := by omega
        rw [z0]
        refine iteF ⟨fun b o e => s45 _ _ (hP2.same _ _ e), ?_⟩
        rw [nm_take_s hr, if_neg z, List.append_nil]
        exact s45 _ _ hP2.at_
    intro H4 hP2
    exact k m rfl (by omega) H4 D hP2.same hD hP2.at_
def sp_read (CB CT : Addr) : Sp := fun vs H Q E => ∃ (t : Str), vs = [.str t] ∧ t.length ≤ 5000 ∧ (partsT t).length < 900 ∧ (∀ x ∈ partsT t, okS x = true) ∧
  (ord (partsT t) = partsT t → ∀ H' x, Same H H' → H x = none → BookAt CB H' x (partsT t) → Q (.ref x) H') ∧ (ord (partsT t) ≠ partsT t → ∀ H', Same H H' → E (.ref CT) none H')
def sp_of_number (CB CV : Addr) : Sp := fun vs H Q E => ∃ (n : Int), vs = [.int n] ∧ (∀ m : Nat, n = m → m < 4096 → ∀ H' x, Same H H' → H x = none → BookAt CB H' x (nm Rs m) → Q (.ref x) H') ∧ (n < 0 ∨ 4096 ≤ n → ∀ H', Same H H' → E (.ref CV) none H')
theorem ok_of_number (T : Tx K mg) : FnOk P w K mg base (L2N.CX P w) 3 T.f_Book_of_number T.fd_Book_of_number ["number"] (sp_of_number T.C_Book T.C_BadValue) := by
  refine T.F_Book_of_number.okN sc_Book_of_number (fun vs H Q E h => ?_) (fun cdv A outer s H vs Q E hr h => ?_)
  · obtain ⟨_, rfl, _⟩ := h; rfl
  · obtain ⟨n, rfl, k, kE⟩ := h
    have hr1 : Room 1 _ := hr.mono (by decide)
    refine ⟨_, (pss_one (ps_ret (pe_makeS T.mk_Book (ok_RuleSet_init T) hr rfl T.mg_Book (b_RuleSet___init__ T) (fun σ => L2N.passAt (L2N.takes_of rfl rfl rfl rfl) σ) (pa_cons (pe_callS (ok_numbered T) hr1 rfl T.mg_numbered_names T.F_numbered_names.kp (b_numbered_names T) (fun σ => L2N.passAt (L2N.takes_of rfl rfl rfl rfl) σ) (pa_cons (pv 0) (pa_cons (pe_cv T.mg_Book T.cr_Book ⟨_, T.tv_Book_RULES⟩) pa_nil))) pa_nil)))), ?_⟩
    refine ⟨_, rfl, n, T.tA_Book_RULES, rfl, T.tt_Book_RULES, fun m em hm H' p s1 np e1 => ?_, fun he H' s1 => kE he H' s1⟩
    have hs : (nm Rs m).Sublist Rs := nm_sub
    refine book_made (.inl (.of e1)) (by have := hs.length_le; rw [Rs_len] at this; omega) (fun r hr => by have := Rs_size r (hs.subset hr); omega) (fun _ H2 x s2 nx B => ?_) (fun ⟨r, hr, hn⟩ => absurd (hs.subset hr) hn)
    rw [ord_sub hs] at B
    exact k m em hm H2 x (s1.trans s2) (s1.free nx) B
def sp_full (CB : Addr) : Sp := fun vs H Q _ => vs = [] ∧ ∀ H' x, Same H H' → H x = none → BookAt CB H' x Rs → Q (.ref x) H'
theorem passL0 {X : Cx} (σ : L2.St) : PassesAt (L2N.CX X.prog X.w) X σ E0 := fun pins H s e s' I c => passLN pins σ H s e s' I c
def sp_or (CB : Addr) : Sp := fun vs H Q _ => ∃ (a b : Addr) (B D : List Str), vs = [.ref a, .ref b] ∧ BookAt CB H a B ∧ BookAt CB H b D ∧ ∀ H' x, Same H H' → H x = none → BookAt CB H' x (ord (B ++ D)) → Q (.ref x) H'
def sp_sub (CB : Addr) : Sp := fun vs H Q _ => ∃ (a b : Addr) (B D : List Str), vs = [.ref a, .ref b] ∧ BookAt CB H a B ∧ BookAt CB H b D ∧ B.Sublist Rs ∧ ∀ H' x, Same H H' → H x = none → BookAt CB H' x (B.filter fun r => decide (r ∉ D)) → Q (.ref x) H'
end
end K52
namespace Rg
open PySem PySem.Spec PyProof.Rows L2
section
variable {X : Cx} {CX : CXT} {k i : Nat} {f C : Addr} {fd : FuncData} {ps : List Str} {sp : Sp} {E : XK} {x : Str} {p pos : Pos} {e : Expr} {es : List Expr} {t : TA} {dvs : List V} {ds : List Value}
/-- a call through a slot that holds one of some defs -/
theorem pe_callFam {ι : Type} {g : ι → Addr} {gd : ι → FuncData} {gp : ι → Sp} (hv : PE X (.Name x p) (tVar i)) (F : ∀ j, FnOk X.prog X.w X.K X.mg X.base CX k (g j) (gd j) ps (gp j)) (hr : Room k X.A) (hk : ∀ j, PySem.W.keepIn X.K (.ref (g j)) = true) (hb : ∀ j, Binds X.K (gd j) ps ds) (hd : Vals dvs ds) (hx : Passes CX X E)
    (ha : PA X (e :: es) t) (he : starEach (e :: es) X.env = (false, eval e X.env) :: starEach es X.env := by rfl) (hpl : (backTo pos (starEach es X.env)).any (·.1) = false := by rfl) :
    PE X (.Call (.Name x p) (e :: es) [] pos) (fun σ H Q => ∃ j, σ[i]? = some (some (.ref (g j))) ∧ tCall (gp j) dvs E t σ H Q) := by
  refine ⟨fun pins s σ H Q I h => ?_⟩
  obtain ⟨j, hs, h⟩ := h
  refine wpAny_Call_Name_kw (thn (hv.run pins s σ H (fun v H1 => v = .ref (g j) ∧ H1 = H) I ⟨.ref (g j), hs, rfl, rfl⟩) fun u s1 ⟨v, H1, I1, r1, q1⟩ => ?_)
  obtain ⟨ev, eH⟩ := q1
  subst ev
  rw [eH] at I1
  obtain rfl : u = Value.ref (g j) := r1
  refine PySem.W.callWith_K (h₀ := X.base) I1.ok.mod.kin (hk j) (thn (ha.run pos pins s1 σ H _ I1 h) fun us s2 ⟨vs, H2, I2, r, q⟩ => ⟨I2.kIn, ?_⟩) he hpl
  exact run_fn (F j) hr (hb j) hd hx I2 r q
/-- C(..) through a slot that holds the class -/
theorem pe_makeV (hv : PE X (.Name x p) (tVar i)) (M : Mk X.K C f) (F : FnOk X.prog X.w X.K X.mg X.base CX k f fd ps sp) (hr : Room (k + 1) X.A) (hb : Binds X.K fd ps ds) (hd : Vals dvs ds) (hx : Passes CX X E)
    (ha : PA X (e :: es) t) (he : starEach (e :: es) X.env = (false, eval e X.env) :: starEach es X.env := by rfl) (hpl : (backTo pos (starEach es X.env)).any (·.1) = false := by rfl) :
    PE X (.Call (.Name x p) (e :: es) [] pos) (fun σ H Q => σ[i]? = some (some (.ref C)) ∧ tMake C sp dvs E t σ H Q) := by
  refine ⟨fun pins s σ H Q I h => ?_⟩
  obtain ⟨hs, h⟩ := h
  refine wpAny_Call_Name_kw (thn (hv.run pins s σ H (fun v H1 => v = .ref C ∧ H1 = H) I ⟨.ref C, hs, rfl, rfl⟩) fun u s1 ⟨v, H1, I1, r1, q1⟩ => ?_)
  obtain ⟨ev, eH⟩ := q1
  subst ev
  rw [eH] at I1
  obtain rfl : u = Value.ref C := r1
  refine PySem.W.callWith_K (h₀ := X.base) I1.ok.mod.kin M.kp (thn (ha.run pos pins s1 σ H _ I1 h) fun us s2 ⟨vs, H2, I2, r, q⟩ => ⟨I2.kIn, ?_⟩) he hpl
  exact run_make M F hr hb hd hx I2 r q
end
end Rg
namespace K52
open PySem PySem.Spec PyProof.Rows L2 Rg
/-- a comprehension that keeps some of l, i looked at -/
def PvG {α : Type} (f : α → V) (H0 : Hp) (D : Addr) (l : List α) (p : α → Bool) (i : Nat) (H' : Hp) : Prop := Same H0 H' ∧ H' D = some (.lst (((l.take i).filter p).map f))
theorem PvG.start {α : Type} {f : α → V} {H0 : Hp} {D : Addr} {l : List α} {p : α → Bool} (h : H0 D = none) : PvG f H0 D l p 0 (upd H0 D (.lst [])) := ⟨same_upd h, upd_same⟩
theorem take_getG {α : Type} {l : List α} {i : Nat} {x : α} (h : l[i]? = some x) : l.take (i + 1) = l.take i ++ [x] := by
  rw [List.take_add_one, h]
  rfl
theorem PvG.yes {α : Type} {f : α → V} {H0 H' H2 : Hp} {D : Addr} {l : List α} {p : α → Bool} {i : Nat} {x : α} (h : PvG f H0 D l p i H') (hD : H0 D = none) (S : Same H' H2) (hx : l[i]? = some x) (hl : l.length < 1000) (hp : p x = true) :
    ∃ acc, H2 D = some (.lst acc) ∧ acc.length < sizeLine ∧ PvG f H0 D l p (i + 1) (upd H2 D (.lst (acc ++ [f x]))) := by
  refine ⟨_, S _ _ h.2, ?_, fun a o z => ?_, ?_⟩
  · rw [List.length_map]
    have h1 := List.length_filter_le p (l.take i)
    have h2 := List.length_take_le i l
    have hi := (List.getElem?_eq_some_iff.mp hx).1
    exact lt_line (by omega)
  · rw [upd_ne (ne_of_none z hD)]
    exact S _ _ (h.1 _ _ z)
  · rw [upd_same, take_getG hx, List.filter_append, List.map_append, List.filter_cons, if_pos hp]
    rfl
theorem PvG.no {α : Type} {f : α → V} {H0 H' H2 : Hp} {D : Addr} {l : List α} {p : α → Bool} {i : Nat} {x : α} (h : PvG f H0 D l p i H') (S : Same H' H2) (hx : l[i]? = some x) (hp : p x = false) : PvG f H0 D l p (i + 1) H2 := by
  refine ⟨h.1.trans S, ?_⟩
  rw [take_getG hx, List.filter_append, List.filter_cons, if_neg (by rw [hp]; decide), List.filter_nil, List.append_nil]
  exact S _ _ h.2
theorem PvG.all {α : Type} {f : α → V} {H0 H' : Hp} {D : Addr} {l : List α} {p : α → Bool} {n : Nat} (h : PvG f H0 D l p n H') (e : n = l.length) : Same H0 H' ∧ H' D = some (.lst ((l.filter p).map f)) := by
  subst e
  have := h.2
  rw [List.take_length] at this
  exact ⟨h.1, this⟩
end K52
namespace K52
open PySem PySem.Spec PyProof.Rows L2 Rg
/-! ### signs as numbers -/
def sgl : List Str := ["F", "L", "P", "-", "=", "~", "K", "C", "R", "o", "+", "!", "lost", "x", "X"]
def sg (n : Nat) : Str := sgl.getD n "z"
abbrev sv (n : Nat) : V := .str (sg n)
theorem sg_big {n : Nat} (h : 15 ≤ n) : sg n = "z" := by
  unfold sg
  rw [List.getD_eq_getElem?_getD, List.getElem?_eq_none (by show 15 ≤ n; exact h)]
  rfl
theorem sg_tab : ∀ n < 15, ∀ m < 15, sg n = sg m → n = m := by decide +kernel
theorem sg_z : ∀ m < 15, ("z" : Str) ≠ sg m := by decide +kernel
theorem sg_eq {n m : Nat} (h : m < 15) : sg n = sg m ↔ n = m := by
  refine ⟨fun e => ?_, fun e => by rw [e]⟩
  by_cases hn : n < 15
  · exact sg_tab n hn m h e
  · rw [sg_big (by omega)] at e
    exact absurd e (sg_z m h)
theorem sv_eq {n m : Nat} (h : m < 15) : V.str (sg n) = V.str (sg m) ↔ n = m := ⟨fun e => (sg_eq h).mp (by injection e), fun e => by rw [e]⟩
theorem dSg {n m : Nat} (h : m < 15) : decide (V.str (sg n) = V.str (sg m)) = decide (n = m) := decide_eq_decide.mpr (sv_eq h)
theorem nSg {n m : Nat} (h : m < 15) : (!decide (V.str (sg n) = V.str (sg m))) = decide (¬ n = m) := by
  rw [dSg h]
  by_cases e : n = m <;> simp [e]
theorem dS0 (n : Nat) : decide (V.str (sg n) = V.str "F") = decide (n = 0) := dSg (m := 0) (by decide)
theorem dS1 (n : Nat) : decide (V.str (sg n) = V.str "L") = decide (n = 1) := dSg (m := 1) (by decide)
theorem dS2 (n : Nat) : decide (V.str (sg n) = V.str "P") = decide (n = 2) := dSg (m := 2) (by decide)
theorem dS3 (n : Nat) : decide (V.str (sg n) = V.str "-") = decide (n = 3) := dSg (m := 3) (by decide)
theorem dS4 (n : Nat) : decide (V.str (sg n) = V.str "=") = decide (n = 4) := dSg (m := 4) (by decide)
theorem dS5 (n : Nat) : decide (V.str (sg n) = V.str "~") = decide (n = 5) := dSg (m := 5) (by decide)
theorem dS6 (n : Nat) : decide (V.str (sg n) = V.str "K") = decide (n = 6) := dSg (m := 6) (by decide)
theorem dS7 (n : Nat) : decide (V.str (sg n) = V.str "C") = decide (n = 7) := dSg (m := 7) (by decide)
theorem dS8 (n : Nat) : decide (V.str (sg n) = V.str "R") = decide (n = 8) := dSg (m := 8) (by decide)
theorem dS9 (n : Nat) : decide (V.str (sg n) = V.str "o") = decide (n = 9) := dSg (m := 9) (by decide)
theorem dS10 (n : Nat) : decide (V.str (sg n) = V.str "+") = decide (n = 10) := dSg (m := 10) (by decide)
theorem dS11 (n : Nat) : decide (V.str (sg n) = V.str "!") = decide (n = 11) := dSg (m := 11) (by decide)
theorem nS0 (n : Nat) : (!decide (V.str (sg n) = V.str "F")) = decide (¬ n = 0) := nSg (m := 0) (by decide)
theorem nS1 (n : Nat) : (!decide (V.str (sg n) = V.str "L")) = decide (¬ n = 1) := nSg (m := 1) (by decide)
theorem nS2 (n : Nat) : (!decide (V.str (sg n) = V.str "P")) = decide (¬ n = 2) := nSg (m := 2) (by decide)
theorem nS3 (n : Nat) : (!decide (V.str (sg n) = V.str "-")) = decide (¬ n = 3) := nSg (m := 3) (by decide)
theorem nS4 (n : Nat) : (!decide (V.str (sg n) = V.str "=")) = decide (¬ n = 4) := nSg (m := 4) (by decide)
theorem nS5 (n : Nat) : (!decide (V.str (sg n) = V.str "~")) = decide (¬ n = 5) := nSg (m := 5) (by decide)
theorem nS6 (n : Nat) : (!decide (V.str (sg n) = V.str "K")) = decide (¬ n = 6) := nSg (m := 6) (by decide)
theorem nS7 (n : Nat) : (!decide (V.str (sg n) = V.str "C")) = decide (¬ n = 7) := nSg (m := 7) (by decide)
theorem nSS (n m : Nat) (h : m < 15) : (!decide (V.str (sg n) = V.str (sg m))) = decide (¬ n = m) := nSg h
/-- membership in a row of signs -/
theorem inSg (n : Nat) : ∀ l : List Nat, (∀ m ∈ l, m < 15) → inV (sv n) (l.map sv) = decide (n ∈ l) := fun l h => by
  have e : l.map sv = (l.map sg).map V.str := by rw [List.map_map]; rfl
  rw [e, inV_str]
  refine decide_eq_decide.mpr ⟨fun q => ?_, fun q => List.mem_map.mpr ⟨n, q, rfl⟩⟩
  obtain ⟨m, hm, e⟩ := List.mem_map.mp q
  rw [(sg_eq (h m hm)).mp e.symm]
  exact hm
theorem in34 (n : Nat) : inV (V.str (sg n)) [V.str "-", V.str "="] = decide (n ∈ [3, 4]) := inSg n [3, 4] (by decide)
theorem in012 (n : Nat) : inV (V.str (sg n)) [V.str "F", V.str "L", V.str "P"] = decide (n ∈ [0, 1, 2]) := inSg n [0, 1, 2] (by decide)
theorem in51 (n : Nat) : inV (V.str (sg n)) [V.str "~", V.str "L"] = decide (n ∈ [5, 1]) := inSg n [5, 1] (by decide)
theorem in512 (n : Nat) : inV (V.str (sg n)) [V.str "~", V.str "L", V.str "P"] = decide (n ∈ [5, 1, 2]) := inSg n [5, 1, 2] (by decide)
theorem iteS {b : Bool} {p : Prop} [Decidable p] {A B : Prop} (e : b = decide p) (h1 : p → A) (h2 : ¬ p → B) : if b = true then A else B := by
  subst e
  by_cases h : p
  · rw [if_pos (decide_eq_true h)]; exact h1 h
  · rw [if_neg (by simpa using h)]; exact h2 h
theorem casQ {Q : VK} {v v' : V} {H : Hp} (k : Q v H) (e : v = v') : Q v' H := e ▸ k
/-! ### the steps between standings -/
def kb (k ch : Nat) : Nat := if ch ∈ [3, 4] then k else if ch = 5 then 1 else ch
def kc (k c : Nat) : Nat := kb k c
def kr (k c r : Nat) : Nat := kb (kc k c) r
def cc (k c : Nat) : Nat := if kc k c = 0 then 3 else if c ∈ [5, 1, 2] then 7 else 6
def cr (k c r : Nat) : Nat := if kr k c r = 0 then 3 else if r ∈ [5, 1, 2] then 8 else cc k c
def due (c : Nat) : Bool := decide (c ∈ [5, 1])
def StAt (K : PySem.W.Frag) (H : Hp) (a : Addr) (s : List Nat) : Prop := SqT K H a (s.map sv)
theorem StAt.same {K : PySem.W.Frag} {H H' : Hp} {a : Addr} {s : List Nat} (e : Same H H') (h : StAt K H a s) : StAt K H' a s := sameT e h
theorem StAt.at_ {K : PySem.W.Frag} {H : Hp} {a : Addr} {s : List Nat} (h : StAt K H a s) : SqT K H a (s.map sv) := h
end K52
namespace K52
open PySem PySem.Spec PyProof.Rows L2 Rg
theorem inBook {C : Addr} {H : Hp} {b : Addr} {B : List Str} {z : Str} {f : Bool → Bool} {Q : VK} (h : BookAt C H b B) (k : Q (.bl (f (decide (z ∈ B)))) H) : rInOwn C (sp_contains C) f (.str z) (.ref b) H Q := by
  obtain ⟨dx, tn, e, _⟩ := h.ob
  exact ⟨b, dx, _, rfl, e, b, B, z, rfl, h, _, rfl, k⟩
/-- a standing, or None -/
def RO (K : PySem.W.Frag) (H : Hp) (Q : VK) : Option (List Nat) → Prop
  | none => ∀ H', Same H H' → Q .non H'
  | some l => ∀ H' x, Same H H' → StAt K H' x l → Q (.ref x) H'
theorem RO.no {K : PySem.W.Frag} {H H' : Hp} {Q : VK} {o : Option (List Nat)} (k : RO K H Q o) (e : o = none) (s : Same H H') : Q .non H' := by subst e; exact k H' s
theorem RO.yes {K : PySem.W.Frag} {H H' : Hp} {Q : VK} {o : Option (List Nat)} {l : List Nat} {x : Addr} (k : RO K H Q o) (e : o = some l) (s : Same H H') (h : SqT K H' x (l.map sv)) : Q (.ref x) H' := by subst e; exact k H' x s h
theorem dNot (p : Prop) [Decidable p] : (!decide p) = decide (¬ p) := by by_cases h : p <;> simp [h]
theorem sz6 : (6 : Nat) ≤ sizeLine := by decide
def mw (B : List Str) (c y : Nat) : Bool := decide (("wait" : Str) ∈ B) && (due c && decide (y = 3))
def hgo (h : Nat) : Nat := if h = 8 then 9 else h
def takelM (k c r h g y : Nat) : Option (List Nat) := if kr k c r = 0 then some [k, c, 1, h, g, y] else none
def takepM (B : List Str) (k c r h g y : Nat) : Option (List Nat) := if ¬ kr k c r = 0 then none else if ("reuse" : Str) ∈ B ∧ (¬ k = 0 ∨ ¬ kc k c = 0) then none else if ("shelve" : Str) ∈ B ∧ ¬ g = 3 then none else some [k, c, 2, h, g, y]
def changeM (B : List Str) (k c r h g y : Nat) : Option (List Nat) := if ¬ kr k c r = 1 ∨ mw B c y = true then none else some [k, c, if r = 4 then 5 else r, hgo h, g, y]
def freeM (B : List Str) (k c r h g y : Nat) : Option (List Nat) := if kr k c r = 0 ∨ mw B c y = true then none else some [k, c, if kc k c = 0 then 4 else 0, hgo h, g, y]
def closeM (k c r h g y : Nat) : Option (List Nat) := if c = 3 then some [k, r, 4, if h = 8 then 7 else h, g, y] else none
section
variable {P : Program} {w : World} {K : PySem.W.Frag} {mg : Str → Option Value} {base : Heap}
def sp_kb : Sp := fun vs H Q _ => ∃ k c : Nat, vs = [sv k, sv c] ∧ ∀ H', Same H H' → Q (sv (kb k c)) H'
/-- of a standing alone -/
def sp_st (K : PySem.W.Frag) (f : Nat → Nat → Nat → Nat → Nat → Nat → V) : Sp := fun vs H Q _ => ∃ (k c r h g y : Nat) (a : Addr), vs = [.ref a] ∧ StAt K H a [k, c, r, h, g, y] ∧ ∀ H', Same H H' → Q (f k c r h g y) H'
/-- of a standing and a book -/
def sp_sb (K : PySem.W.Frag) (C : Addr) (f : List Str → Nat → Nat → Nat → Nat → Nat → Nat → V) : Sp := fun vs H Q _ => ∃ (B : List Str) (k c r h g y : Nat) (a b : Addr), vs = [.ref a, .ref b] ∧ StAt K H a [k, c, r, h, g, y] ∧ BookAt C H b B ∧ ∀ H', Same H H' → Q (f B k c r h g y) H'
/-- a step -/
def sp_step (K : PySem.W.Frag) (C : Addr) (f : List Str → Nat → Nat → Nat → Nat → Nat → Nat → Option (List Nat)) : Sp := fun vs H Q _ => ∃ (B : List Str) (k c r h g y : Nat) (a b : Addr), vs = [.ref a, .ref b] ∧ StAt K H a [k, c, r, h, g, y] ∧ BookAt C H b B ∧ RO K H Q (f B k c r h g y)
theorem ok_kind_behind (T : Tx K mg) : FnOk P w K mg base CX0 1 T.f_kind_behind T.fd_kind_behind ["kind", "change"] sp_kb := by
  refine T.F_kind_behind.ok sc_kind_behind (fun vs H Q E h => ?_) (fun cdv A0 outer s H vs Q E hr h => ?_)
  · obtain ⟨_, _, rfl, _⟩ := h; rfl
  · obtain ⟨a, c, rfl, k⟩ := h
    try dsimp only at k
    refine ⟨_, (pss_cons (ps_if (pt_cmpR op_in_seq (pv 1) (pe_tup (pa_cons pe_str (pa_cons pe_str pa_nil))) rfl)
        (pss_one (ps_ret (pv 0)))
        pss_nil)
      (pss_one (ps_ret (pe_ifExp (pt_cmpR op_eq (pv 1) pe_str (nomark _)) pe_str (pv 1))))), ?_⟩
    refine ⟨_, rfl, by show 2 ≤ sizeLine; decide, ?_⟩
    (intro t n_t; generalize he_t : upd _ t _ = H1; obtain ⟨e_t, s_t, f_t⟩ := new_f he_t n_t; clear he_t)
    refine ⟨t, _, rfl, .inr (.of e_t), rfl, rfl, _, rfl, ?_⟩
    (refine iteS (by first | exact dS0 _ | exact dS1 _ | exact dS2 _ | exact dS3 _ | exact dS4 _ | exact dS5 _ | exact dS6 _ | exact dS7 _ | exact dS8 _ | exact dS9 _ | exact dS10 _ | exact dS11 _ | exact nS0 _ | exact nS1 _ | exact nS2 _ | exact nS3 _ | exact nS4 _ | exact nS5 _ | exact nS6 _ | exact nS7 _ | exact in34 _ | exact in012 _ | exact in51 _ | exact in512 _) (fun h => ?_) fun h => ?_)
    · exact ⟨_, rfl, casQ (k H1 s_t) (by unfold kb; rw [if_pos h])⟩
    refine ⟨_, rfl, rfl, _, rfl, ?_⟩
    (refine iteS (by first | exact dS0 _ | exact dS1 _ | exact dS2 _ | exact dS3 _ | exact dS4 _ | exact dS5 _ | exact dS6 _ | exact dS7 _ | exact dS8 _ | exact dS9 _ | exact dS10 _ | exact dS11 _ | exact nS0 _ | exact nS1 _ | exact nS2 _ | exact nS3 _ | exact nS4 _ | exact nS5 _ | exact nS6 _ | exact nS7 _ | exact in34 _ | exact in012 _ | exact in51 _ | exact in512 _) (fun h2 => ?_) fun h2 => ?_)
    · exact casQ (k H1 s_t) (by unfold kb; rw [if_neg h, if_pos h2]; rfl)
    · exact ⟨_, rfl, casQ (k H1 s_t) (by unfold kb; rw [if_neg h, if_neg h2])⟩
theorem ok_kind_c (T : Tx K mg) : FnOk P w K mg base CX0 2 T.f_kind_c T.fd_kind_c ["standing"] (sp_st K fun k c _ _ _ _ => sv (kc k c)) := by
  refine T.F_kind_c.ok sc_kind_c (fun vs H Q E h => ?_) (fun cdv A0 outer s H vs Q E hr h => ?_)
  · obtain ⟨_, _, _, _, _, _, _, rfl, _⟩ := h; rfl
  · obtain ⟨kk, c, r, h, g, y, a, rfl, ht, k⟩ := h
    try dsimp only at k
    refine ⟨_, (pss_one (ps_ret (pe_call (ok_kind_behind T) (hr.mono (by decide)) rfl T.mg_kind_behind T.F_kind_behind.kp (b_kind_behind T) .nil pass0 (pa_cons (pe_ix ix_tup (pv 0) pe_int (fun _ _ => rfl)) (pa_cons (pe_ix ix_tup (pv 0) pe_int (fun _ _ => rfl)) pa_nil))))), ?_⟩
    exact ⟨_, rfl, a, _, 0, sv kk, rfl, rfl, ht, atI_nat (j := 0) rfl, _, rfl, a, _, 1, sv c, rfl, rfl, ht, atI_nat (j := 1) rfl, kk, c, rfl, k⟩
theorem ok_kind_r (T : Tx K mg) : FnOk P w K mg base CX0 3 T.f_kind_r T.fd_kind_r ["standing"] (sp_st K fun k c r _ _ _ => sv (kr k c r)) := by
  refine T.F_kind_r.ok sc_kind_r (fun vs H Q E h => ?_) (fun cdv A0 outer s H vs Q E hr h => ?_)
  · obtain ⟨_, _, _, _, _, _, _, rfl, _⟩ := h; rfl
  · obtain ⟨kk, c, r, h, g, y, a, rfl, ht, k⟩ := h
    try dsimp only at k
    refine ⟨_, (pss_one (ps_ret (pe_call (ok_kind_behind T) (hr.mono (by decide)) rfl T.mg_kind_behind T.F_kind_behind.kp (b_kind_behind T) .nil pass0 (pa_cons (pe_call (ok_kind_c T) (hr.mono (by decide)) rfl T.mg_kind_c T.F_kind_c.kp (b_kind_c T) .nil pass0 (pa_cons (pv 0) pa_nil)) (pa_cons (pe_ix ix_tup (pv 0) pe_int (fun _ _ => rfl)) pa_nil))))), ?_⟩
    exact ⟨_, rfl, kk, c, r, h, g, y, a, rfl, ht, fun H1 s1 => ⟨_, rfl, a, _, 2, sv r, rfl, rfl, (ht.same s1), atI_nat (j := 2) rfl, kc kk c, r, rfl, fun H2 s2 => k H2 (s1.trans s2)⟩⟩
theorem ok_content_c (T : Tx K mg) : FnOk P w K mg base CX0 3 T.f_content_c T.fd_content_c ["standing"] (sp_st K fun k c _ _ _ _ => sv (cc k c)) := by
  refine T.F_content_c.ok sc_content_c (fun vs H Q E h => ?_) (fun cdv A0 outer s H vs Q E hr h => ?_)
  · obtain ⟨_, _, _, _, _, _, _, rfl, _⟩ := h; rfl
  · obtain ⟨kk, c, r, h, g, y, a, rfl, ht, k⟩ := h
    try dsimp only at k
    refine ⟨_, (pss_cons (ps_if (pt_cmpR op_eq (pe_call (ok_kind_c T) (hr.mono (by decide)) rfl T.mg_kind_c T.F_kind_c.kp (b_kind_c T) .nil pass0 (pa_cons (pv 0) pa_nil)) pe_str (nomark _))
        (pss_one (ps_ret pe_str))
        pss_nil)
      (pss_one (ps_ret (pe_ifExp (pt_cmpR op_in_seq (pe_ix ix_tup (pv 0) pe_int (fun _ _ => rfl)) (pe_glob (v := .ref T.gA_NEW) rfl T.gg_NEW rfl) rfl) pe_str pe_str)))), ?_⟩
    refine ⟨_, rfl, kk, c, r, h, g, y, a, rfl, ht, fun H1 s1 => ⟨rfl, _, rfl, ?_⟩⟩
    (refine iteS (by first | exact dS0 _ | exact dS1 _ | exact dS2 _ | exact dS3 _ | exact dS4 _ | exact dS5 _ | exact dS6 _ | exact dS7 _ | exact dS8 _ | exact dS9 _ | exact dS10 _ | exact dS11 _ | exact nS0 _ | exact nS1 _ | exact nS2 _ | exact nS3 _ | exact nS4 _ | exact nS5 _ | exact nS6 _ | exact nS7 _ | exact in34 _ | exact in012 _ | exact in51 _ | exact in512 _) (fun h1 => ?_) fun h1 => ?_)
    · exact casQ (k H1 s1) (by unfold cc; rw [if_pos h1]; rfl)
    refine ⟨_, rfl, a, _, 1, sv c, rfl, rfl, (ht.same s1), atI_nat (j := 1) rfl, T.gA_NEW, _, rfl, .inr (T.gt_NEW _), rfl, rfl, _, rfl, ?_⟩
    (refine iteS (by first | exact dS0 _ | exact dS1 _ | exact dS2 _ | exact dS3 _ | exact dS4 _ | exact dS5 _ | exact dS6 _ | exact dS7 _ | exact dS8 _ | exact dS9 _ | exact dS10 _ | exact dS11 _ | exact nS0 _ | exact nS1 _ | exact nS2 _ | exact nS3 _ | exact nS4 _ | exact nS5 _ | exact nS6 _ | exact nS7 _ | exact in34 _ | exact in012 _ | exact in51 _ | exact in512 _) (fun h2 => ?_) fun h2 => ?_)
    · exact casQ (k H1 s1) (by unfold cc; rw [if_neg h1, if_pos h2]; rfl)
    · exact casQ (k H1 s1) (by unfold cc; rw [if_neg h1, if_neg h2]; rfl)
theorem ok_content_r (T : Tx K mg) : FnOk P w K mg base CX0 4 T.f_content_r T.fd_content_r ["standing"] (sp_st K fun k c r _ _ _ => sv (cr k c r)) := by
  refine T.F_content_r.ok sc_content_r (fun vs H Q E h => ?_) (fun cdv A0 outer s H vs Q E hr h => ?_)
  · obtain ⟨_, _, _, _, _, _, _, rfl, _⟩ := h; rfl
  · obtain ⟨kk, c, r, h, g, y, a, rfl, ht, k⟩ := h
    try dsimp only at k
    refine ⟨_, (pss_cons (ps_if (pt_cmpR op_eq (pe_call (ok_kind_r T) (hr.mono (by decide)) rfl T.mg_kind_r T.F_kind_r.kp (b_kind_r T) .nil pass0 (pa_cons (pv 0) pa_nil)) pe_str (nomark _))
        (pss_one (ps_ret pe_str))
        pss_nil)
      (pss_one (ps_ret (pe_ifExp (pt_cmpR op_in_seq (pe_ix ix_tup (pv 0) pe_int (fun _ _ => rfl)) (pe_glob (v := .ref T.gA_NEW) rfl T.gg_NEW rfl) rfl) pe_str (pe_call (ok_content_c T) (hr.mono (by decide)) rfl T.mg_content_c T.F_content_c.kp (b_content_c T) .nil pass0 (pa_cons (pv 0) pa_nil)))))), ?_⟩
    refine ⟨_, rfl, kk, c, r, h, g, y, a, rfl, ht, fun H1 s1 => ⟨rfl, _, rfl, ?_⟩⟩
    (refine iteS (by first | exact dS0 _ | exact dS1 _ | exact dS2 _ | exact dS3 _ | exact dS4 _ | exact dS5 _ | exact dS6 _ | exact dS7 _ | exact dS8 _ | exact dS9 _ | exact dS10 _ | exact dS11 _ | exact nS0 _ | exact nS1 _ | exact nS2 _ | exact nS3 _ | exact nS4 _ | exact nS5 _ | exact nS6 _ | exact nS7 _ | exact in34 _ | exact in012 _ | exact in51 _ | exact in512 _) (fun h1 => ?_) fun h1 => ?_)
    · exact casQ (k H1 s1) (by unfold cr; rw [if_pos h1]; rfl)
    refine ⟨_, rfl, a, _, 2, sv r, rfl, rfl, (ht.same s1), atI_nat (j := 2) rfl, T.gA_NEW, _, rfl, .inr (T.gt_NEW _), rfl, rfl, _, rfl, ?_⟩
    (refine iteS (by first | exact dS0 _ | exact dS1 _ | exact dS2 _ | exact dS3 _ | exact dS4 _ | exact dS5 _ | exact dS6 _ | exact dS7 _ | exact dS8 _ | exact dS9 _ | exact dS10 _ | exact dS11 _ | exact nS0 _ | exact nS1 _ | exact nS2 _ | exact nS3 _ | exact nS4 _ | exact nS5 _ | exact nS6 _ | exact nS7 _ | exact in34 _ | exact in012 _ | exact in51 _ | exact in512 _) (fun h2 => ?_) fun h2 => ?_)
    · exact casQ (k H1 s1) (by unfold cr; rw [if_neg h1, if_pos h2]; rfl)
    · exact ⟨_, rfl, kk, c, r, h, g, y, a, rfl, ht.same s1, fun H2 s2 => casQ (k H2 (s1.trans s2)) (by unfold cr; rw [if_neg h1, if_neg h2])⟩
theorem ok_is_due (T : Tx K mg) : FnOk P w K mg base CX0 1 T.f_is_due T.fd_is_due ["standing"] (sp_st K fun _ c _ _ _ _ => .bl (due c)) := by
  refine T.F_is_due.ok sc_is_due (fun vs H Q E h => ?_) (fun cdv A0 outer s H vs Q E hr h => ?_)
  · obtain ⟨_, _, _, _, _, _, _, rfl, _⟩ := h; rfl
  · obtain ⟨kk, c, r, h, g, y, a, rfl, ht, k⟩ := h
    try dsimp only at k
    refine ⟨_, (pss_one (ps_ret (pe_cmpR op_in_seq (pe_ix ix_tup (pv 0) pe_int (fun _ _ => rfl)) (pe_tup (pa_cons pe_str (pa_cons pe_str pa_nil))) rfl))), ?_⟩
    refine ⟨_, rfl, a, _, 1, sv c, rfl, rfl, ht, atI_nat (j := 1) rfl, by show 2 ≤ sizeLine; decide, ?_⟩
    (intro t n_t; generalize he_t : upd _ t _ = H1; obtain ⟨e_t, s_t, f_t⟩ := new_f he_t n_t; clear he_t)
    refine ⟨t, _, rfl, .inr (.of e_t), rfl, rfl, ?_⟩
    exact casQ (k H1 s_t) (by rw [if_neg (by decide), in51]; rfl)
theorem ok_must_wait (T : Tx K mg) : FnOk P w K mg base CX0 2 T.f_must_wait T.fd_must_wait ["standing", "book"] (sp_sb K T.C_Book fun B _ c _ _ _ y => .bl (mw B c y)) := by
  refine T.F_must_wait.ok sc_must_wait (fun vs H Q E h => ?_) (fun cdv A0 outer s H vs Q E hr h => ?_)
  · obtain ⟨_, _, _, _, _, _, _, _, _, rfl, _⟩ := h; rfl
  · obtain ⟨B, kk, c, r, h, g, y, a, b, rfl, ht, hb, k⟩ := h
    try dsimp only at k
    refine ⟨_, (pss_one (ps_ret (pe_and (pe_cmpR (op_inOwn T.bm_contains (ok_contains T) (hr.mono (by decide)) (b_RuleSet___contains__ T)) pe_str (pv 1) rfl) (pe_and (pe_call (ok_is_due T) (hr.mono (by decide)) rfl T.mg_is_due T.F_is_due.kp (b_is_due T) .nil pass0 (pa_cons (pv 0) pa_nil)) (pe_one (pe_cmpR op_eq (pe_ix ix_tup (pv 0) pe_int (fun _ _ => rfl)) pe_str (nomark _))))))), ?_⟩
    refine ⟨_, rfl, inBook hb ⟨_, rfl, ?_⟩⟩
    cases e1 : decide (("wait" : Str) ∈ B) with
    | false => exact iteF (casQ (k H (Same.refl _)) (by unfold mw; rw [e1]; rfl))
    | true =>
      refine iteT ⟨_, rfl, kk, c, r, h, g, y, a, rfl, ht, fun H1 s1 => ⟨_, rfl, ?_⟩⟩
      cases e2 : due c with
      | false => exact iteF (casQ (k H1 s1) (by unfold mw; rw [e1, e2]; rfl))
      | true =>
        refine iteT ⟨_, rfl, a, _, 5, sv y, rfl, rfl, (ht.same s1), atI_nat (j := 5) rfl, rfl, casQ (k H1 s1) ?_⟩
        unfold mw
        rw [e1, e2, dS3]
        rfl
theorem ok_home_gone (T : Tx K mg) : FnOk P w K mg base CX0 1 T.f_home_gone T.fd_home_gone ["h"] (fun vs H Q _ => ∃ h : Nat, vs = [sv h] ∧ Q (sv (hgo h)) H) := by
  refine T.F_home_gone.ok sc_home_gone (fun vs H Q E h => ?_) (fun cdv A0 outer s H vs Q E hr h => ?_)
  · obtain ⟨_, rfl, _⟩ := h; rfl
  · obtain ⟨h, rfl, k⟩ := h
    try dsimp only at k
    refine ⟨_, (pss_one (ps_ret (pe_ifExp (pt_cmpR op_eq (pv 0) pe_str (nomark _)) pe_str (pv 0)))), ?_⟩
    refine ⟨_, rfl, rfl, _, rfl, ?_⟩
    (refine iteS (by first | exact dS0 _ | exact dS1 _ | exact dS2 _ | exact dS3 _ | exact dS4 _ | exact dS5 _ | exact dS6 _ | exact dS7 _ | exact dS8 _ | exact dS9 _ | exact dS10 _ | exact dS11 _ | exact nS0 _ | exact nS1 _ | exact nS2 _ | exact nS3 _ | exact nS4 _ | exact nS5 _ | exact nS6 _ | exact nS7 _ | exact in34 _ | exact in012 _ | exact in51 _ | exact in512 _) (fun h1 => ?_) fun h1 => ?_)
    · exact casQ k (by unfold hgo; rw [if_pos h1]; rfl)
    · exact ⟨_, rfl, casQ k (by unfold hgo; rw [if_neg h1])⟩
theorem ok_takel (T : Tx K mg) : FnOk P w K mg base CX0 4 T.f_takel T.fd_takel ["standing", "book"] (sp_step K T.C_Book fun _ => takelM) := by
  refine T.F_takel.ok sc_takel (fun vs H Q E h => ?_) (fun cdv A0 outer s H vs Q E hr h => ?_)
  · obtain ⟨_, _, _, _, _, _, _, _, _, rfl, _⟩ := h; rfl
  · obtain ⟨B, kk, c, r, h, g, y, a, b, rfl, ht, hb, k⟩ := h
    try dsimp only at k
    refine ⟨_, (pss_cons (ps_asg (pv 0) (pg_tup rfl (pgs_cons (pg_name (i := 2) sc_takel.nd rfl (.inl rfl)) (pgs_cons (pg_name (i := 3) sc_takel.nd rfl (.inl rfl)) (pgs_cons (pg_name (i := 4) sc_takel.nd rfl (.inl rfl)) (pgs_cons (pg_name (i := 5) sc_takel.nd rfl (.inl rfl)) (pgs_cons (pg_name (i := 6) sc_takel.nd rfl (.inl rfl)) (pgs_cons (pg_name (i := 7) sc_takel.nd rfl (.inl rfl)) pgs_nil))))))))
      (pss_one (ps_ret (pe_ifExp (pt_cmpR op_eq (pe_call (ok_kind_r T) (hr.mono (by decide)) rfl T.mg_kind_r T.F_kind_r.kp (b_kind_r T) .nil pass0 (pa_cons (pv 0) pa_nil)) pe_str (nomark _)) (pe_tup (pa_cons (pv 2) (pa_cons (pv 3) (pa_cons pe_str (pa_cons (pv 5) (pa_cons (pv 6) (pa_cons (pv 7) pa_nil))))))) pe_non)))), ?_⟩
    refine ⟨_, rfl, a, _, rfl, ht, rfl, _, _, rfl, _, _, rfl, _, _, rfl, _, _, rfl, _, _, rfl, _, _, rfl, rfl, ?_⟩
    refine ⟨_, rfl, kk, c, r, h, g, y, a, rfl, ht, fun H1 s1 => ⟨rfl, _, rfl, ?_⟩⟩
    (refine iteS (by first | exact dS0 _ | exact dS1 _ | exact dS2 _ | exact dS3 _ | exact dS4 _ | exact dS5 _ | exact dS6 _ | exact dS7 _ | exact dS8 _ | exact dS9 _ | exact dS10 _ | exact dS11 _ | exact nS0 _ | exact nS1 _ | exact nS2 _ | exact nS3 _ | exact nS4 _ | exact nS5 _ | exact nS6 _ | exact nS7 _ | exact in34 _ | exact in012 _ | exact in51 _ | exact in512 _) (fun h1 => ?_) fun h1 => ?_)
    · refine ⟨_, rfl, _, rfl, _, rfl, _, rfl, _, rfl, sz6, ?_⟩
      (intro t n_t; generalize he_t : upd _ t _ = H2; obtain ⟨e_t, s_t, f_t⟩ := new_f he_t n_t; clear he_t)
      exact k.yes (l := [kk, c, 1, h, g, y]) (by unfold takelM; rw [if_pos h1]) (s1.trans s_t) (.of e_t)
    · exact k.no (by unfold takelM; rw [if_neg h1]) s1
theorem ok_takep (T : Tx K mg) : FnOk P w K mg base CX0 4 T.f_takep T.fd_takep ["standing", "book"] (sp_step K T.C_Book takepM) := by
  refine T.F_takep.ok sc_takep (fun vs H Q E h => ?_) (fun cdv A0 outer s H vs Q E hr h => ?_)
  · obtain ⟨_, _, _, _, _, _, _, _, _, rfl, _⟩ := h; rfl
  · obtain ⟨B, kk, c, r, h, g, y, a, b, rfl, ht, hb, k⟩ := h
    try dsimp only at k
    refine ⟨_, (pss_cons (ps_asg (pv 0) (pg_tup rfl (pgs_cons (pg_name (i := 2) sc_takep.nd rfl (.inl rfl)) (pgs_cons (pg_name (i := 3) sc_takep.nd rfl (.inl rfl)) (pgs_cons (pg_name (i := 4) sc_takep.nd rfl (.inl rfl)) (pgs_cons (pg_name (i := 5) sc_takep.nd rfl (.inl rfl)) (pgs_cons (pg_name (i := 6) sc_takep.nd rfl (.inl rfl)) (pgs_cons (pg_name (i := 7) sc_takep.nd rfl (.inl rfl)) pgs_nil))))))))
      (pss_cons (ps_if (pt_cmpR op_ne (pe_call (ok_kind_r T) (hr.mono (by decide)) rfl T.mg_kind_r T.F_kind_r.kp (b_kind_r T) .nil pass0 (pa_cons (pv 0) pa_nil)) pe_str (nomark _))
        (pss_one (ps_ret pe_non))
        pss_nil)
      (pss_cons (ps_if (PW.pt (pw_and (pt_cmpR (op_inOwn T.bm_contains (ok_contains T) (hr.mono (by decide)) (b_RuleSet___contains__ T)) pe_str (pv 1) rfl) (pw_and1 (PW.pt (pw_or (pt_cmpR op_ne (pv 2) pe_str (nomark _)) (pw_or1 (pt_cmpR op_ne (pe_call (ok_kind_c T) (hr.mono (by decide)) rfl T.mg_kind_c T.F_kind_c.kp (b_kind_c T) .nil pass0 (pa_cons (pv 0) pa_nil)) pe_str (nomark _))))))))
        (pss_one (ps_ret pe_non))
        pss_nil)
      (pss_cons (ps_if (PW.pt (pw_and (pt_cmpR (op_inOwn T.bm_contains (ok_contains T) (hr.mono (by decide)) (b_RuleSet___contains__ T)) pe_str (pv 1) rfl) (pw_and1 (pt_cmpR op_ne (pv 6) pe_str (nomark _)))))
        (pss_one (ps_ret pe_non))
        pss_nil)
      (pss_one (ps_ret (pe_tup (pa_cons (pv 2) (pa_cons (pv 3) (pa_cons pe_str (pa_cons (pv 5) (pa_cons (pv 6) (pa_cons (pv 7) pa_nil))))))))))))), ?_⟩
    refine ⟨_, rfl, a, _, rfl, ht, rfl, _, _, rfl, _, _, rfl, _, _, rfl, _, _, rfl, _, _, rfl, _, _, rfl, rfl, ?_⟩
    refine ⟨_, rfl, kk, c, r, h, g, y, a, rfl, ht, fun H1 s1 => ⟨rfl, _, rfl, ?_⟩⟩
    (refine iteS (by first | exact dS0 _ | exact dS1 _ | exact dS2 _ | exact dS3 _ | exact dS4 _ | exact dS5 _ | exact dS6 _ | exact dS7 _ | exact dS8 _ | exact dS9 _ | exact dS10 _ | exact dS11 _ | exact nS0 _ | exact nS1 _ | exact nS2 _ | exact nS3 _ | exact nS4 _ | exact nS5 _ | exact nS6 _ | exact nS7 _ | exact in34 _ | exact in012 _ | exact in51 _ | exact in512 _) (fun h1 => ?_) fun h1 => ?_)
    · exact k.no (by unfold takepM; rw [if_pos h1]) s1
    refine ⟨_, rfl, inBook (hb.same s1) ⟨_, rfl, ?_⟩⟩
    (refine iteS (p := ("reuse" : Str) ∈ B) rfl (fun h2 => ?_) fun h2 => ?_)
    · refine ⟨_, rfl, rfl, _, rfl, ?_⟩
      (refine iteS (by first | exact dS0 _ | exact dS1 _ | exact dS2 _ | exact dS3 _ | exact dS4 _ | exact dS5 _ | exact dS6 _ | exact dS7 _ | exact dS8 _ | exact dS9 _ | exact dS10 _ | exact dS11 _ | exact nS0 _ | exact nS1 _ | exact nS2 _ | exact nS3 _ | exact nS4 _ | exact nS5 _ | exact nS6 _ | exact nS7 _ | exact in34 _ | exact in012 _ | exact in51 _ | exact in512 _) (fun h3 => ?_) fun h3 => ?_)
      · exact iteT (k.no (by unfold takepM; rw [if_neg h1, if_pos ⟨h2, .inl h3⟩]) s1)
      refine ⟨_, rfl, kk, c, r, h, g, y, a, rfl, ht.same s1, fun H2 s2 => ⟨rfl, _, rfl, ?_⟩⟩
      (refine iteS (by first | exact dS0 _ | exact dS1 _ | exact dS2 _ | exact dS3 _ | exact dS4 _ | exact dS5 _ | exact dS6 _ | exact dS7 _ | exact dS8 _ | exact dS9 _ | exact dS10 _ | exact dS11 _ | exact nS0 _ | exact nS1 _ | exact nS2 _ | exact nS3 _ | exact nS4 _ | exact nS5 _ | exact nS6 _ | exact nS7 _ | exact in34 _ | exact in012 _ | exact in51 _ | exact in512 _) (fun h4 => ?_) fun h4 => ?_)
      · exact k.no (by unfold takepM; rw [if_neg h1, if_pos ⟨h2, .inr h4⟩]) (s1.trans s2)
      refine ⟨_, rfl, inBook (hb.same (s1.trans s2)) ⟨_, rfl, ?_⟩⟩
      (refine iteS (p := ("shelve" : Str) ∈ B) rfl (fun h5 => ?_) fun h5 => ?_)
      · refine ⟨_, rfl, rfl, _, rfl, ?_⟩
        (refine iteS (by first | exact dS0 _ | exact dS1 _ | exact dS2 _ | exact dS3 _ | exact dS4 _ | exact dS5 _ | exact dS6 _ | exact dS7 _ | exact dS8 _ | exact dS9 _ | exact dS10 _ | exact dS11 _ | exact nS0 _ | exact nS1 _ | exact nS2 _ | exact nS3 _ | exact nS4 _ | exact nS5 _ | exact nS6 _ | exact nS7 _ | exact in34 _ | exact in012 _ | exact in51 _ | exact in512 _) (fun h6 => ?_) fun h6 => ?_)
        · exact k.no (by unfold takepM; rw [if_neg h1, if_neg (fun z => z.2.elim h3 h4), if_pos ⟨h5, h6⟩]) (s1.trans s2)
        refine ⟨_, rfl, _, rfl, _, rfl, _, rfl, _, rfl, sz6, ?_⟩
        (intro t n_t; generalize he_t : upd _ t _ = H3; obtain ⟨e_t, s_t, f_t⟩ := new_f he_t n_t; clear he_t)
        exact k.yes (l := [kk, c, 2, h, g, y]) (by unfold takepM; rw [if_neg h1, if_neg (fun z => z.2.elim h3 h4), if_neg (fun z => h6 z.2)]) ((s1.trans s2).trans s_t) (.of e_t)
      refine iteF ⟨_, rfl, _, rfl, _, rfl, _, rfl, _, rfl, sz6, ?_⟩
      (intro t n_t; generalize he_t : upd _ t _ = H3; obtain ⟨e_t, s_t, f_t⟩ := new_f he_t n_t; clear he_t)
      exact k.yes (l := [kk, c, 2, h, g, y]) (by unfold takepM; rw [if_neg h1, if_neg (fun z => z.2.elim h3 h4), if_neg (fun z => h5 z.1)]) ((s1.trans s2).trans s_t) (.of e_t)
    refine iteF ⟨_, rfl, inBook (hb.same s1) ⟨_, rfl, ?_⟩⟩
    (refine iteS (p := ("shelve" : Str) ∈ B) rfl (fun h5 => ?_) fun h5 => ?_)
    · refine ⟨_, rfl, rfl, _, rfl, ?_⟩
      (refine iteS (by first | exact dS0 _ | exact dS1 _ | exact dS2 _ | exact dS3 _ | exact dS4 _ | exact dS5 _ | exact dS6 _ | exact dS7 _ | exact dS8 _ | exact dS9 _ | exact dS10 _ | exact dS11 _ | exact nS0 _ | exact nS1 _ | exact nS2 _ | exact nS3 _ | exact nS4 _ | exact nS5 _ | exact nS6 _ | exact nS7 _ | exact in34 _ | exact in012 _ | exact in51 _ | exact in512 _) (fun h6 => ?_) fun h6 => ?_)
      · exact k.no (by unfold takepM; rw [if_neg h1, if_neg (fun z => h2 z.1), if_pos ⟨h5, h6⟩]) s1
      refine ⟨_, rfl, _, rfl, _, rfl, _, rfl, _, rfl, sz6, ?_⟩
      (intro t n_t; generalize he_t : upd _ t _ = H3; obtain ⟨e_t, s_t, f_t⟩ := new_f he_t n_t; clear he_t)
      exact k.yes (l := [kk, c, 2, h, g, y]) (by unfold takepM; rw [if_neg h1, if_neg (fun z => h2 z.1), if_neg (fun z => h6 z.2)]) (s1.trans s_t) (.of e_t)
    refine iteF ⟨_, rfl, _, rfl, _, rfl, _, rfl, _, rfl, sz6, ?_⟩
    (intro t n_t; generalize he_t : upd _ t _ = H3; obtain ⟨e_t, s_t, f_t⟩ := new_f he_t n_t; clear he_t)
    exact k.yes (l := [kk, c, 2, h, g, y]) (by unfold takepM; rw [if_neg h1, if_neg (fun z => h2 z.1), if_neg (fun z => h5 z.1)]) (s1.trans s_t) (.of e_t)
theorem ok_change (T : Tx K mg) : FnOk P w K mg base CX0 4 T.f_change T.fd_change ["standing", "book"] (sp_step K T.C_Book changeM) := by
  refine T.F_change.ok sc_change (fun vs H Q E h => ?_) (fun cdv A0 outer s H vs Q E hr h => ?_)
  · obtain ⟨_, _, _, _, _, _, _, _, _, rfl, _⟩ := h; rfl
  · obtain ⟨B, kk, c, r, h, g, y, a, b, rfl, ht, hb, k⟩ := h
    try dsimp only at k
    refine ⟨_, (pss_cons (ps_asg (pv 0) (pg_tup rfl (pgs_cons (pg_name (i := 2) sc_change.nd rfl (.inl rfl)) (pgs_cons (pg_name (i := 3) sc_change.nd rfl (.inl rfl)) (pgs_cons (pg_name (i := 4) sc_change.nd rfl (.inl rfl)) (pgs_cons (pg_name (i := 5) sc_change.nd rfl (.inl rfl)) (pgs_cons (pg_name (i := 6) sc_change.nd rfl (.inl rfl)) (pgs_cons (pg_name (i := 7) sc_change.nd rfl (.inl rfl)) pgs_nil))))))))
      (pss_cons (ps_if (PW.pt (pw_or (pt_cmpR op_ne (pe_call (ok_kind_r T) (hr.mono (by decide)) rfl T.mg_kind_r T.F_kind_r.kp (b_kind_r T) .nil pass0 (pa_cons (pv 0) pa_nil)) pe_str (nomark _)) (pw_or1 (pt_val (pe_call (ok_must_wait T) (hr.mono (by decide)) rfl T.mg_must_wait T.F_must_wait.kp (b_must_wait T) .nil pass0 (pa_cons (pv 0) (pa_cons (pv 1) pa_nil)))))))
        (pss_one (ps_ret pe_non))
        pss_nil)
      (pss_one (ps_ret (pe_tup (pa_cons (pv 2) (pa_cons (pv 3) (pa_cons (pe_ifExp (pt_cmpR op_eq (pv 4) pe_str (nomark _)) pe_str (pv 4)) (pa_cons (pe_call (ok_home_gone T) (hr.mono (by decide)) rfl T.mg_home_gone T.F_home_gone.kp (b_home_gone T) .nil pass0 (pa_cons (pv 5) pa_nil)) (pa_cons (pv 6) (pa_cons (pv 7) pa_nil))))))))))), ?_⟩
    refine ⟨_, rfl, a, _, rfl, ht, rfl, _, _, rfl, _, _, rfl, _, _, rfl, _, _, rfl, _, _, rfl, _, _, rfl, rfl, ?_⟩
    refine ⟨_, rfl, kk, c, r, h, g, y, a, rfl, ht, fun H1 s1 => ⟨rfl, _, rfl, ?_⟩⟩
    (refine iteS (by first | exact dS0 _ | exact dS1 _ | exact dS2 _ | exact dS3 _ | exact dS4 _ | exact dS5 _ | exact dS6 _ | exact dS7 _ | exact dS8 _ | exact dS9 _ | exact dS10 _ | exact dS11 _ | exact nS0 _ | exact nS1 _ | exact nS2 _ | exact nS3 _ | exact nS4 _ | exact nS5 _ | exact nS6 _ | exact nS7 _ | exact in34 _ | exact in012 _ | exact in51 _ | exact in512 _) (fun h1 => ?_) fun h1 => ?_)
    · exact iteT (k.no (by unfold changeM; rw [if_pos (.inl h1)]) s1)
    refine ⟨_, rfl, _, rfl, B, kk, c, r, h, g, y, a, b, rfl, ht.same s1, hb.same s1, fun H2 s2 => ⟨_, rfl, ?_⟩⟩
    refine iteS (p := mw B c y = true) (by simp) (fun h2 => ?_) fun h2 => ?_
    · exact k.no (by unfold changeM; rw [if_pos (.inr h2)]) (s1.trans s2)
    refine ⟨_, rfl, _, rfl, _, rfl, rfl, _, rfl, ?_⟩
    have e0 : changeM B kk c r h g y = some [kk, c, if r = 4 then 5 else r, hgo h, g, y] := by unfold changeM; rw [if_neg (fun z => z.elim h1 h2)]
    (refine iteS (by first | exact dS0 _ | exact dS1 _ | exact dS2 _ | exact dS3 _ | exact dS4 _ | exact dS5 _ | exact dS6 _ | exact dS7 _ | exact dS8 _ | exact dS9 _ | exact dS10 _ | exact dS11 _ | exact nS0 _ | exact nS1 _ | exact nS2 _ | exact nS3 _ | exact nS4 _ | exact nS5 _ | exact nS6 _ | exact nS7 _ | exact in34 _ | exact in012 _ | exact in51 _ | exact in512 _) (fun h3 => ?_) fun h3 => ?_)
    · rw [if_pos h3] at e0
      refine ⟨_, rfl, h, rfl, _, rfl, _, rfl, sz6, ?_⟩
      (intro t n_t; generalize he_t : upd _ t _ = H3; obtain ⟨e_t, s_t, f_t⟩ := new_f he_t n_t; clear he_t)
      exact k.yes e0 ((s1.trans s2).trans s_t) (.of e_t)
    · rw [if_neg h3] at e0
      refine ⟨_, rfl, _, rfl, h, rfl, _, rfl, _, rfl, sz6, ?_⟩
      (intro t n_t; generalize he_t : upd _ t _ = H3; obtain ⟨e_t, s_t, f_t⟩ := new_f he_t n_t; clear he_t)
      exact k.yes e0 ((s1.trans s2).trans s_t) (.of e_t)
theorem ok_free (T : Tx K mg) : FnOk P w K mg base CX0 4 T.f_free T.fd_free ["standing", "book"] (sp_step K T.C_Book freeM) := by
  refine T.F_free.ok sc_free (fun vs H Q E h => ?_) (fun cdv A0 outer s H vs Q E hr h => ?_)
  · obtain ⟨_, _, _, _, _, _, _, _, _, rfl, _⟩ := h; rfl
  · obtain ⟨B, kk, c, r, h, g, y, a, b, rfl, ht, hb, k⟩ := h
    try dsimp only at k
    refine ⟨_, (pss_cons (ps_asg (pv 0) (pg_tup rfl (pgs_cons (pg_name (i := 2) sc_free.nd rfl (.inl rfl)) (pgs_cons (pg_name (i := 3) sc_free.nd rfl (.inl rfl)) (pgs_cons (pg_name (i := 4) sc_free.nd rfl (.inl rfl)) (pgs_cons (pg_name (i := 5) sc_free.nd rfl (.inl rfl)) (pgs_cons (pg_name (i := 6) sc_free.nd rfl (.inl rfl)) (pgs_cons (pg_name (i := 7) sc_free.nd rfl (.inl rfl)) pgs_nil))))))))
      (pss_cons (ps_if (PW.pt (pw_or (pt_cmpR op_eq (pe_call (ok_kind_r T) (hr.mono (by decide)) rfl T.mg_kind_r T.F_kind_r.kp (b_kind_r T) .nil pass0 (pa_cons (pv 0) pa_nil)) pe_str (nomark _)) (pw_or1 (pt_val (pe_call (ok_must_wait T) (hr.mono (by decide)) rfl T.mg_must_wait T.F_must_wait.kp (b_must_wait T) .nil pass0 (pa_cons (pv 0) (pa_cons (pv 1) pa_nil)))))))
        (pss_one (ps_ret pe_non))
        pss_nil)
      (pss_one (ps_ret (pe_tup (pa_cons (pv 2) (pa_cons (pv 3) (pa_cons (pe_ifExp (pt_cmpR op_eq (pe_call (ok_kind_c T) (hr.mono (by decide)) rfl T.mg_kind_c T.F_kind_c.kp (b_kind_c T) .nil pass0 (pa_cons (pv 0) pa_nil)) pe_str (nomark _)) pe_str pe_str) (pa_cons (pe_call (ok_home_gone T) (hr.mono (by decide)) rfl T.mg_home_gone T.F_home_gone.kp (b_home_gone T) .nil pass0 (pa_cons (pv 5) pa_nil)) (pa_cons (pv 6) (pa_cons (pv 7) pa_nil))))))))))), ?_⟩
    refine ⟨_, rfl, a, _, rfl, ht, rfl, _, _, rfl, _, _, rfl, _, _, rfl, _, _, rfl, _, _, rfl, _, _, rfl, rfl, ?_⟩
    refine ⟨_, rfl, kk, c, r, h, g, y, a, rfl, ht, fun H1 s1 => ⟨rfl, _, rfl, ?_⟩⟩
    (refine iteS (by first | exact dS0 _ | exact dS1 _ | exact dS2 _ | exact dS3 _ | exact dS4 _ | exact dS5 _ | exact dS6 _ | exact dS7 _ | exact dS8 _ | exact dS9 _ | exact dS10 _ | exact dS11 _ | exact nS0 _ | exact nS1 _ | exact nS2 _ | exact nS3 _ | exact nS4 _ | exact nS5 _ | exact nS6 _ | exact nS7 _ | exact in34 _ | exact in012 _ | exact in51 _ | exact in512 _) (fun h1 => ?_) fun h1 => ?_)
    · exact iteT (k.no (by unfold freeM; rw [if_pos (.inl h1)]) s1)
    refine ⟨_, rfl, _, rfl, B, kk, c, r, h, g, y, a, b, rfl, ht.same s1, hb.same s1, fun H2 s2 => ⟨_, rfl, ?_⟩⟩
    refine iteS (p := mw B c y = true) (by simp) (fun h2 => ?_) fun h2 => ?_
    · exact k.no (by unfold freeM; rw [if_pos (.inr h2)]) (s1.trans s2)
    refine ⟨_, rfl, _, rfl, _, rfl, kk, c, r, h, g, y, a, rfl, ht.same (s1.trans s2), fun H3 s3 => ⟨rfl, _, rfl, ?_⟩⟩
    have e0 : freeM B kk c r h g y = some [kk, c, if kc kk c = 0 then 4 else 0, hgo h, g, y] := by unfold freeM; rw [if_neg (fun z => z.elim h1 h2)]
    have S3 := (s1.trans s2).trans s3
    (refine iteS (by first | exact dS0 _ | exact dS1 _ | exact dS2 _ | exact dS3 _ | exact dS4 _ | exact dS5 _ | exact dS6 _ | exact dS7 _ | exact dS8 _ | exact dS9 _ | exact dS10 _ | exact dS11 _ | exact nS0 _ | exact nS1 _ | exact nS2 _ | exact nS3 _ | exact nS4 _ | exact nS5 _ | exact nS6 _ | exact nS7 _ | exact in34 _ | exact in012 _ | exact in51 _ | exact in512 _) (fun h3 => ?_) fun h3 => ?_)
    · rw [if_pos h3] at e0
      refine ⟨_, rfl, h, rfl, _, rfl, _, rfl, sz6, ?_⟩
      (intro t n_t; generalize he_t : upd _ t _ = H4; obtain ⟨e_t, s_t, f_t⟩ := new_f he_t n_t; clear he_t)
      exact k.yes e0 (S3.trans s_t) (.of e_t)
    · rw [if_neg h3] at e0
      refine ⟨_, rfl, h, rfl, _, rfl, _, rfl, sz6, ?_⟩
      (intro t n_t; generalize he_t : upd _ t _ = H4; obtain ⟨e_t, s_t, f_t⟩ := new_f he_t n_t; clear he_t)
      exact k.yes e0 (S3.trans s_t) (.of e_t)
theorem ok_close (T : Tx K mg) : FnOk P w K mg base CX0 4 T.f_close T.fd_close ["standing", "book"] (sp_step K T.C_Book fun _ => closeM) := by
  refine T.F_close.ok sc_close (fun vs H Q E h => ?_) (fun cdv A0 outer s H vs Q E hr h => ?_)
  · obtain ⟨_, _, _, _, _, _, _, _, _, rfl, _⟩ := h; rfl
  · obtain ⟨B, kk, c, r, h, g, y, a, b, rfl, ht, hb, k⟩ := h
    try dsimp only at k
    refine ⟨_, (pss_cons (ps_asg (pv 0) (pg_tup rfl (pgs_cons (pg_name (i := 2) sc_close.nd rfl (.inl rfl)) (pgs_cons (pg_name (i := 3) sc_close.nd rfl (.inl rfl)) (pgs_cons (pg_name (i := 4) sc_close.nd rfl (.inl rfl)) (pgs_cons (pg_name (i := 5) sc_close.nd rfl (.inl rfl)) (pgs_cons (pg_name (i := 6) sc_close.nd rfl (.inl rfl)) (pgs_cons (pg_name (i := 7) sc_close.nd rfl (.inl rfl)) pgs_nil))))))))
      (pss_one (ps_ret (pe_ifExp (pt_cmpR op_eq (pv 3) pe_str (nomark _)) (pe_tup (pa_cons (pv 2) (pa_cons (pv 4) (pa_cons pe_str (pa_cons (pe_ifExp (pt_cmpR op_eq (pv 5) pe_str (nomark _)) pe_str (pv 5)) (pa_cons (pv 6) (pa_cons (pv 7) pa_nil))))))) pe_non)))), ?_⟩
    refine ⟨_, rfl, a, _, rfl, ht, rfl, _, _, rfl, _, _, rfl, _, _, rfl, _, _, rfl, _, _, rfl, _, _, rfl, rfl, ?_⟩
    refine ⟨_, rfl, rfl, _, rfl, ?_⟩
    have e0 : c = 3 → closeM kk c r h g y = some [kk, r, 4, if h = 8 then 7 else h, g, y] := fun h1 => by unfold closeM; rw [if_pos h1]
    (refine iteS (by first | exact dS0 _ | exact dS1 _ | exact dS2 _ | exact dS3 _ | exact dS4 _ | exact dS5 _ | exact dS6 _ | exact dS7 _ | exact dS8 _ | exact dS9 _ | exact dS10 _ | exact dS11 _ | exact nS0 _ | exact nS1 _ | exact nS2 _ | exact nS3 _ | exact nS4 _ | exact nS5 _ | exact nS6 _ | exact nS7 _ | exact in34 _ | exact in012 _ | exact in51 _ | exact in512 _) (fun h1 => ?_) fun h1 => ?_)
    · have e0 := e0 h1
      refine ⟨_, rfl, _, rfl, _, rfl, rfl, _, rfl, ?_⟩
      (refine iteS (by first | exact dS0 _ | exact dS1 _ | exact dS2 _ | exact dS3 _ | exact dS4 _ | exact dS5 _ | exact dS6 _ | exact dS7 _ | exact dS8 _ | exact dS9 _ | exact dS10 _ | exact dS11 _ | exact nS0 _ | exact nS1 _ | exact nS2 _ | exact nS3 _ | exact nS4 _ | exact nS5 _ | exact nS6 _ | exact nS7 _ | exact in34 _ | exact in012 _ | exact in51 _ | exact in512 _) (fun h2 => ?_) fun h2 => ?_)
      · rw [if_pos h2] at e0
        refine ⟨_, rfl, _, rfl, sz6, ?_⟩
        (intro t n_t; generalize he_t : upd _ t _ = H4; obtain ⟨e_t, s_t, f_t⟩ := new_f he_t n_t; clear he_t)
        exact k.yes e0 s_t (.of e_t)
      · rw [if_neg h2] at e0
        refine ⟨_, rfl, _, rfl, _, rfl, sz6, ?_⟩
        (intro t n_t; generalize he_t : upd _ t _ = H4; obtain ⟨e_t, s_t, f_t⟩ := new_f he_t n_t; clear he_t)
        exact k.yes e0 s_t (.of e_t)
    · exact k.no (by unfold closeM; rw [if_neg h1]) (Same.refl _)
end
end K52
namespace K52
open PySem PySem.Spec PyProof.Rows L2 Rg
def copyM (B : List Str) (k c r h g y : Nat) : Option (List Nat) := if due c = false ∨ ¬ y = 3 then none else some [k, c, r, h, g, if ("frozen" : Str) ∈ B ∨ r = 4 then 10 else 11]
def hbm (c h : Nat) : Nat := if h = 7 then 6 else if h = 6 ∧ ¬ c = 4 then 9 else h
def struckM (B : List Str) (k c : Nat) : Bool := decide (k = 1) && (decide (c ∈ [0, 1, 2]) && decide (("revoke" : Str) ∈ B))
def lbm (B : List Str) (k c g y : Nat) : Nat := if c = 4 then g else if due c = true then (if struckM B k c = true ∧ ¬ ("lapse" : Str) ∈ B then 3 else if y = 10 then 6 else 9) else if struckM B k c = true then 3 else if g = 6 then 9 else g
def markM (B : List Str) (k c r h g y : Nat) : Option (List Nat) := if c = 3 ∨ (("copies" : Str) ∈ B ∧ due c = true ∧ y = 3) then none else if ("words" : Str) ∈ B ∧ c = 2 ∧ ¬ h = 7 then none else some [kc k c, 3, r, hbm c h, lbm B k c g y, 3]
def homeM (k c r h g y : Nat) : Option (List Nat) := if k = 1 then some [k, c, r, 6, g, y] else none
def earlyM (B : List Str) (k c r h g y : Nat) : Option (List Nat) := if ¬ kr k c r = 1 ∨ cr k c r = 6 ∨ ("mark" : Str) ∈ B then none else some [k, c, r, cr k c r, g, y]
def knownM (k c r : Nat) : Bool := decide (k = 0) || decide (cr k c r = 6)
def sameM (k c r : Nat) : Bool := decide (kc k c = 0) || decide (cr k c r = cc k c)
def rwM (B : List Str) (k c r : Nat) : Option Nat := if ¬ ("late" : Str) ∈ B ∨ (knownM k c r = true ∧ sameM k c r = true) then some (cr k c r) else none
def cwM (B : List Str) (k c : Nat) : Option Nat := if c = 3 ∨ ¬ kc k c = 2 then none else if ¬ ("late" : Str) ∈ B ∨ k = 0 ∨ c = 4 then some (cc k c) else none
def wordsM (B : List Str) (k c r h g y : Nat) : Option (List Nat) := ((if kr k c r = 2 then rwM B k c r else cwM B k c) : Option Nat).map fun x => [k, c, r, x, g, y]
def roomM (B : List Str) (k c r h g y : Nat) : Option (List Nat) := if g = 3 ∨ (("room" : Str) ∈ B ∧ g = 6 ∧ ¬ h = 6) then none else some [k, c, r, h, 3, y]
def toldM (B : List Str) (k c r h g y : Nat) : Option (List Nat) := if c = 3 ∧ r = 4 then some [k, c, r, h, g, y] else if ("told" : Str) ∈ B then none else some [12]
def ov : Option Nat → V
  | none => .non
  | some n => sv n
theorem cr_lt (k c r : Nat) : cr k c r < 15 := by
  unfold cr cc
  split
  · decide
  · split
    · decide
    · split
      · decide
      · split <;> decide
theorem cc_lt (k c : Nat) : cc k c < 15 := by
  unfold cc
  split
  · decide
  · split <;> decide
section
variable {P : Program} {w : World} {K : PySem.W.Frag} {mg : Str → Option Value} {base : Heap}
theorem ok_copy (T : Tx K mg) : FnOk P w K mg base CX0 4 T.f_copy T.fd_copy ["standing", "book"] (sp_step K T.C_Book copyM) := by
  refine T.F_copy.ok sc_copy (fun vs H Q E h => ?_) (fun cdv A0 outer s H vs Q E hr h => ?_)
  · obtain ⟨_, _, _, _, _, _, _, _, _, rfl, _⟩ := h; rfl
  · obtain ⟨B, kk, c, r, h, g, y, a, b, rfl, ht, hb, k⟩ := h
    try dsimp only at k
    refine ⟨_, (pss_cons (ps_asg (pv 0) (pg_tup rfl (pgs_cons (pg_name (i := 2) sc_copy.nd rfl (.inl rfl)) (pgs_cons (pg_name (i := 3) sc_copy.nd rfl (.inl rfl)) (pgs_cons (pg_name (i := 4) sc_copy.nd rfl (.inl rfl)) (pgs_cons (pg_name (i := 5) sc_copy.nd rfl (.inl rfl)) (pgs_cons (pg_name (i := 6) sc_copy.nd rfl (.inl rfl)) (pgs_cons (pg_name (i := 7) sc_copy.nd rfl (.inl rfl)) pgs_nil))))))))
      (pss_cons (ps_if (PW.pt (pw_or (pt_not (pt_val (pe_call (ok_is_due T) (hr.mono (by decide)) rfl T.mg_is_due T.F_is_due.kp (b_is_due T) .nil pass0 (pa_cons (pv 0) pa_nil)))) (pw_or1 (pt_cmpR op_ne (pv 7) pe_str (nomark _)))))
        (pss_one (ps_ret pe_non))
        pss_nil)
      (pss_one (ps_ret (pe_tup (pa_cons (pv 2) (pa_cons (pv 3) (pa_cons (pv 4) (pa_cons (pv 5) (pa_cons (pv 6) (pa_cons (pe_ifExp (PW.pt (pw_or (pt_cmpR (op_inOwn T.bm_contains (ok_contains T) (hr.mono (by decide)) (b_RuleSet___contains__ T)) pe_str (pv 1) rfl) (pw_or1 (pt_cmpR op_eq (pv 4) pe_str (nomark _))))) pe_str pe_str) pa_nil))))))))))), ?_⟩
    refine ⟨_, rfl, a, _, rfl, ht, rfl, _, _, rfl, _, _, rfl, _, _, rfl, _, _, rfl, _, _, rfl, _, _, rfl, rfl, ?_⟩
    refine ⟨_, rfl, kk, c, r, h, g, y, a, rfl, ht, fun H1 s1 => ⟨_, rfl, ?_⟩⟩
    refine iteS (p := due c = false) (by cases due c <;> rfl) (fun h1 => ?_) fun h1 => ?_
    · exact iteT (k.no (by unfold copyM; rw [if_pos (.inl h1)]) s1)
    refine ⟨_, rfl, rfl, _, rfl, ?_⟩
    (refine iteS (by first | exact dS0 _ | exact dS1 _ | exact dS2 _ | exact dS3 _ | exact dS4 _ | exact dS5 _ | exact dS6 _ | exact dS7 _ | exact dS8 _ | exact dS9 _ | exact dS10 _ | exact dS11 _ | exact nS0 _ | exact nS1 _ | exact nS2 _ | exact nS3 _ | exact nS4 _ | exact nS5 _ | exact nS6 _ | exact nS7 _ | exact in34 _ | exact in012 _ | exact in51 _ | exact in512 _) (fun h2 => ?_) fun h2 => ?_)
    · exact k.no (by unfold copyM; rw [if_pos (.inr h2)]) s1
    have e0 : copyM B kk c r h g y = some [kk, c, r, h, g, if ("frozen" : Str) ∈ B ∨ r = 4 then 10 else 11] := by unfold copyM; rw [if_neg (fun z => z.elim h1 h2)]
    refine ⟨_, rfl, _, rfl, _, rfl, _, rfl, _, rfl, ?_⟩
    refine ⟨_, rfl, inBook (hb.same s1) ⟨_, rfl, ?_⟩⟩
    (refine iteS (p := ("frozen" : Str) ∈ B) rfl (fun h3 => ?_) fun h3 => ?_)
    · rw [if_pos (.inl h3)] at e0
      refine iteT ⟨sz6, ?_⟩
      (intro t n_t; generalize he_t : upd _ t _ = H4; obtain ⟨e_t, s_t, f_t⟩ := new_f he_t n_t; clear he_t)
      exact k.yes e0 (s1.trans s_t) (.of e_t)
    refine ⟨_, rfl, rfl, _, rfl, ?_⟩
    (refine iteS (by first | exact dS0 _ | exact dS1 _ | exact dS2 _ | exact dS3 _ | exact dS4 _ | exact dS5 _ | exact dS6 _ | exact dS7 _ | exact dS8 _ | exact dS9 _ | exact dS10 _ | exact dS11 _ | exact nS0 _ | exact nS1 _ | exact nS2 _ | exact nS3 _ | exact nS4 _ | exact nS5 _ | exact nS6 _ | exact nS7 _ | exact in34 _ | exact in012 _ | exact in51 _ | exact in512 _) (fun h4 => ?_) fun h4 => ?_)
    · rw [if_pos (.inr h4)] at e0
      refine ⟨sz6, ?_⟩
      (intro t n_t; generalize he_t : upd _ t _ = H4; obtain ⟨e_t, s_t, f_t⟩ := new_f he_t n_t; clear he_t)
      exact k.yes e0 (s1.trans s_t) (.of e_t)
    · rw [if_neg (fun z => z.elim h3 h4)] at e0
      refine ⟨sz6, ?_⟩
      (intro t n_t; generalize he_t : upd _ t _ = H4; obtain ⟨e_t, s_t, f_t⟩ := new_f he_t n_t; clear he_t)
      exact k.yes e0 (s1.trans s_t) (.of e_t)
theorem ok_home_behind_mark (T : Tx K mg) : FnOk P w K mg base CX0 1 T.f_home_behind_mark T.fd_home_behind_mark ["c", "h"] (fun vs H Q _ => ∃ c h : Nat, vs = [sv c, sv h] ∧ Q (sv (hbm c h)) H) := by
  refine T.F_home_behind_mark.ok sc_home_behind_mark (fun vs H Q E h => ?_) (fun cdv A0 outer s H vs Q E hr h => ?_)
  · obtain ⟨_, _, rfl, _⟩ := h; rfl
  · obtain ⟨c, h, rfl, k⟩ := h
    try dsimp only at k
    refine ⟨_, (pss_cons (ps_if (pt_cmpR op_eq (pv 1) pe_str (nomark _))
        (pss_one (ps_ret pe_str))
        pss_nil)
      (pss_one (ps_ret (pe_ifExp (PW.pt (pw_and (pt_cmpR op_eq (pv 1) pe_str (nomark _)) (pw_and1 (pt_cmpR op_ne (pv 0) pe_str (nomark _))))) pe_str (pv 1))))), ?_⟩
    refine ⟨_, rfl, rfl, _, rfl, ?_⟩
    (refine iteS (by first | exact dS0 _ | exact dS1 _ | exact dS2 _ | exact dS3 _ | exact dS4 _ | exact dS5 _ | exact dS6 _ | exact dS7 _ | exact dS8 _ | exact dS9 _ | exact dS10 _ | exact dS11 _ | exact nS0 _ | exact nS1 _ | exact nS2 _ | exact nS3 _ | exact nS4 _ | exact nS5 _ | exact nS6 _ | exact nS7 _ | exact in34 _ | exact in012 _ | exact in51 _ | exact in512 _) (fun h1 => ?_) fun h1 => ?_)
    · exact casQ k (by unfold hbm; rw [if_pos h1]; rfl)
    refine ⟨_, rfl, rfl, _, rfl, ?_⟩
    (refine iteS (by first | exact dS0 _ | exact dS1 _ | exact dS2 _ | exact dS3 _ | exact dS4 _ | exact dS5 _ | exact dS6 _ | exact dS7 _ | exact dS8 _ | exact dS9 _ | exact dS10 _ | exact dS11 _ | exact nS0 _ | exact nS1 _ | exact nS2 _ | exact nS3 _ | exact nS4 _ | exact nS5 _ | exact nS6 _ | exact nS7 _ | exact in34 _ | exact in012 _ | exact in51 _ | exact in512 _) (fun h2 => ?_) fun h2 => ?_)
    · refine ⟨_, rfl, rfl, _, rfl, ?_⟩
      (refine iteS (by first | exact dS0 _ | exact dS1 _ | exact dS2 _ | exact dS3 _ | exact dS4 _ | exact dS5 _ | exact dS6 _ | exact dS7 _ | exact dS8 _ | exact dS9 _ | exact dS10 _ | exact dS11 _ | exact nS0 _ | exact nS1 _ | exact nS2 _ | exact nS3 _ | exact nS4 _ | exact nS5 _ | exact nS6 _ | exact nS7 _ | exact in34 _ | exact in012 _ | exact in51 _ | exact in512 _) (fun h3 => ?_) fun h3 => ?_)
      · exact casQ k (by unfold hbm; rw [if_neg h1, if_pos ⟨h2, h3⟩]; rfl)
      · exact ⟨_, rfl, casQ k (by unfold hbm; rw [if_neg h1, if_neg (fun z => h3 z.2)])⟩
    · exact iteF ⟨_, rfl, casQ k (by unfold hbm; rw [if_neg h1, if_neg (fun z => h2 z.1)])⟩
theorem ok_log_behind_mark (T : Tx K mg) : FnOk P w K mg base CX0 2 T.f_log_behind_mark T.fd_log_behind_mark ["standing", "book"] (sp_sb K T.C_Book fun B k c _ _ g y => sv (lbm B k c g y)) := by
  refine T.F_log_behind_mark.ok sc_log_behind_mark (fun vs H Q E h => ?_) (fun cdv A0 outer s H vs Q E hr h => ?_)
  · obtain ⟨_, _, _, _, _, _, _, _, _, rfl, _⟩ := h; rfl
  · obtain ⟨B, kk, c, r, h, g, y, a, b, rfl, ht, hb, k⟩ := h
    try dsimp only at k
    refine ⟨_, (pss_cons (ps_asg (pv 0) (pg_tup rfl (pgs_cons (pg_name (i := 2) sc_log_behind_mark.nd rfl (.inl rfl)) (pgs_cons (pg_name (i := 3) sc_log_behind_mark.nd rfl (.inl rfl)) (pgs_cons (pg_name (i := 4) sc_log_behind_mark.nd rfl (.inl rfl)) (pgs_cons (pg_name (i := 4) sc_log_behind_mark.nd rfl (.inl rfl)) (pgs_cons (pg_name (i := 5) sc_log_behind_mark.nd rfl (.inl rfl)) (pgs_cons (pg_name (i := 6) sc_log_behind_mark.nd rfl (.inl rfl)) pgs_nil))))))))
      (Evl.pss_cut (ps_set (i := 7) sc_log_behind_mark.nd rfl (.inl rfl) (pe_and (pe_cmpR op_eq (pv 2) pe_str (nomark _)) (pe_and (pe_cmpR op_in_seq (pv 3) (pe_tup (pa_cons pe_str (pa_cons pe_str (pa_cons pe_str pa_nil)))) rfl) (pe_one (pe_cmpR (op_inOwn T.bm_contains (ok_contains T) (hr.mono (by decide)) (b_RuleSet___contains__ T)) pe_str (pv 1) rfl)))))
      (pss_cons (ps_if (pt_cmpR op_eq (pv 3) pe_str (nomark _))
        (pss_one (ps_ret (pv 5)))
        pss_nil)
      (pss_cons (ps_if (pt_val (pe_call (ok_is_due T) (hr.mono (by decide)) rfl T.mg_is_due T.F_is_due.kp (b_is_due T) .nil pass0 (pa_cons (pv 0) pa_nil)))
        (pss_cons (ps_if (PW.pt (pw_and (pt_val (pv 7)) (pw_and1 (pt_cmpR (op_notInOwn T.bm_contains (ok_contains T) (hr.mono (by decide)) (b_RuleSet___contains__ T)) pe_str (pv 1) rfl))))
          (pss_one (ps_ret pe_str))
          pss_nil)
        (pss_one (ps_ret (pe_ifExp (pt_cmpR op_eq (pv 6) pe_str (nomark _)) pe_str pe_str))))
        pss_nil)
      (pss_cons (ps_if (pt_val (pv 7))
        (pss_one (ps_ret pe_str))
        pss_nil)
      (pss_one (ps_ret (pe_ifExp (pt_cmpR op_eq (pv 5) pe_str (nomark _)) pe_str (pv 5))))))))), ?_⟩
    refine ⟨_, rfl, a, _, rfl, ht, rfl, _, _, rfl, _, _, rfl, _, _, rfl, _, _, rfl, _, _, rfl, _, _, rfl, rfl, ?_⟩
    refine ⟨fun σ Hm => σ = [some (.ref a), some (.ref b), some (sv kk), some (sv c), some (sv h), some (sv g), some (sv y), some (.bl (struckM B kk c))] ∧ Same H Hm, ?_, ?_⟩
    · refine ⟨_, rfl, rfl, ?_⟩
      rw [dS1]
      refine ⟨_, rfl, ?_⟩
      cases e1 : decide (kk = 1) with
      | false => exact iteF ⟨by unfold struckM; rw [e1]; rfl, Same.refl _⟩
      | true =>
        refine iteT ⟨_, rfl, by show 3 ≤ sizeLine; decide, ?_⟩
        (intro t n_t; generalize he_t : upd _ t _ = H1; obtain ⟨e_t, s_t, f_t⟩ := new_f he_t n_t; clear he_t)
        refine ⟨t, _, rfl, .inr (.of e_t), rfl, rfl, ?_⟩
        rw [if_neg (by decide), in012]
        refine ⟨_, rfl, ?_⟩
        cases e2 : decide (c ∈ [0, 1, 2]) with
        | false => exact iteF ⟨by unfold struckM; rw [e1, e2]; rfl, s_t⟩
        | true => exact iteT ⟨_, rfl, inBook (hb.same s_t) ⟨by unfold struckM; rw [e1, e2]; rfl, s_t⟩⟩
    rintro σ Hm ⟨rfl, sm⟩
    have k := k
    refine ⟨_, rfl, rfl, _, rfl, ?_⟩
    (refine iteS (by first | exact dS0 _ | exact dS1 _ | exact dS2 _ | exact dS3 _ | exact dS4 _ | exact dS5 _ | exact dS6 _ | exact dS7 _ | exact dS8 _ | exact dS9 _ | exact dS10 _ | exact dS11 _ | exact nS0 _ | exact nS1 _ | exact nS2 _ | exact nS3 _ | exact nS4 _ | exact nS5 _ | exact nS6 _ | exact nS7 _ | exact in34 _ | exact in012 _ | exact in51 _ | exact in512 _) (fun h1 => ?_) fun h1 => ?_)
    · exact ⟨_, rfl, casQ (k Hm sm) (by unfold lbm; rw [if_pos h1])⟩
    refine ⟨_, rfl, kk, c, r, h, g, y, a, rfl, ht.same sm, fun H1 s1 => ⟨_, rfl, ?_⟩⟩
    have S1 := sm.trans s1
    refine iteS (p := due c = true) (by cases due c <;> rfl) (fun h2 => ?_) fun h2 => ?_
    · have last : ∀ z : lbm B kk c g y = (if y = 10 then 6 else 9), (tIf (tTest (tOp rEq (tVar 6) (tC (V.str "+")))) (tC (V.str "K")) (tC (V.str "o")) : TE) [some (.ref a), some (.ref b), some (sv kk), some (sv c), some (sv h), some (sv g), some (sv y), some (.bl (struckM B kk c))] H1 Q := fun z => by
        refine ⟨_, rfl, rfl, _, rfl, ?_⟩
        (refine iteS (by first | exact dS0 _ | exact dS1 _ | exact dS2 _ | exact dS3 _ | exact dS4 _ | exact dS5 _ | exact dS6 _ | exact dS7 _ | exact dS8 _ | exact dS9 _ | exact dS10 _ | exact dS11 _ | exact nS0 _ | exact nS1 _ | exact nS2 _ | exact nS3 _ | exact nS4 _ | exact nS5 _ | exact nS6 _ | exact nS7 _ | exact in34 _ | exact in012 _ | exact in51 _ | exact in512 _) (fun h4 => ?_) fun h4 => ?_)
        · exact casQ (k H1 S1) (by rw [z, if_pos h4]; rfl)
        · exact casQ (k H1 S1) (by rw [z, if_neg h4]; rfl)
      refine ⟨_, rfl, _, rfl, ?_⟩
      refine iteS (p := struckM B kk c = true) (by cases struckM B kk c <;> rfl) (fun h3 => ?_) fun h3 => ?_
      · refine ⟨_, rfl, inBook (hb.same S1) ⟨_, rfl, ?_⟩⟩
        (refine iteS (p := ¬ ("lapse" : Str) ∈ B) (dNot _) (fun h5 => ?_) fun h5 => ?_)
        · exact casQ (k H1 S1) (by unfold lbm; rw [if_neg h1, if_pos h2, if_pos ⟨h3, h5⟩]; rfl)
        · exact last (by unfold lbm; rw [if_neg h1, if_pos h2, if_neg (fun z => h5 z.2)])
      · exact iteF (last (by unfold lbm; rw [if_neg h1, if_pos h2, if_neg (fun z => h3 z.1)]))
    refine ⟨_, rfl, _, rfl, ?_⟩
    refine iteS (p := struckM B kk c = true) (by cases struckM B kk c <;> rfl) (fun h3 => ?_) fun h3 => ?_
    · exact casQ (k H1 S1) (by unfold lbm; rw [if_neg h1, if_neg h2, if_pos h3]; rfl)
    refine ⟨_, rfl, rfl, _, rfl, ?_⟩
    (refine iteS (by first | exact dS0 _ | exact dS1 _ | exact dS2 _ | exact dS3 _ | exact dS4 _ | exact dS5 _ | exact dS6 _ | exact dS7 _ | exact dS8 _ | exact dS9 _ | exact dS10 _ | exact dS11 _ | exact nS0 _ | exact nS1 _ | exact nS2 _ | exact nS3 _ | exact nS4 _ | exact nS5 _ | exact nS6 _ | exact nS7 _ | exact in34 _ | exact in012 _ | exact in51 _ | exact in512 _) (fun h6 => ?_) fun h6 => ?_)
    · exact casQ (k H1 S1) (by unfold lbm; rw [if_neg h1, if_neg h2, if_neg h3, if_pos h6]; rfl)
    · exact ⟨_, rfl, casQ (k H1 S1) (by unfold lbm; rw [if_neg h1, if_neg h2, if_neg h3, if_neg h6])⟩
theorem ok_mark (T : Tx K mg) : FnOk P w K mg base CX0 4 T.f_mark T.fd_mark ["standing", "book"] (sp_step K T.C_Book markM) := by
  refine T.F_mark.ok sc_mark (fun vs H Q E h => ?_) (fun cdv A0 outer s H vs Q E hr h => ?_)
  · obtain ⟨_, _, _, _, _, _, _, _, _, rfl, _⟩ := h; rfl
  · obtain ⟨B, kk, c, r, h, g, y, a, b, rfl, ht, hb, k⟩ := h
    try dsimp only at k
    refine ⟨_, (pss_cons (ps_asg (pv 0) (pg_tup rfl (pgs_cons (pg_name (i := 2) sc_mark.nd rfl (.inl rfl)) (pgs_cons (pg_name (i := 3) sc_mark.nd rfl (.inl rfl)) (pgs_cons (pg_name (i := 4) sc_mark.nd rfl (.inl rfl)) (pgs_cons (pg_name (i := 5) sc_mark.nd rfl (.inl rfl)) (pgs_cons (pg_name (i := 2) sc_mark.nd rfl (.inl rfl)) (pgs_cons (pg_name (i := 6) sc_mark.nd rfl (.inl rfl)) pgs_nil))))))))
      (Evl.pss_cut (ps_if (PW.pt (pw_or (pt_cmpR op_eq (pv 3) pe_str (nomark _)) (pw_or1 (PW.pt (pw_and (pt_cmpR (op_inOwn T.bm_contains (ok_contains T) (hr.mono (by decide)) (b_RuleSet___contains__ T)) pe_str (pv 1) rfl) (pw_and (pt_val (pe_call (ok_is_due T) (hr.mono (by decide)) rfl T.mg_is_due T.F_is_due.kp (b_is_due T) .nil pass0 (pa_cons (pv 0) pa_nil))) (pw_and1 (pt_cmpR op_eq (pv 6) pe_str (nomark _)))))))))
        (pss_one (ps_ret pe_non))
        pss_nil)
      (Evl.pss_cut (ps_if (PW.pt (pw_and (pt_cmpR (op_inOwn T.bm_contains (ok_contains T) (hr.mono (by decide)) (b_RuleSet___contains__ T)) pe_str (pv 1) rfl) (pw_and (pt_cmpR op_eq (pv 3) pe_str (nomark _)) (pw_and1 (pt_cmpR op_ne (pv 5) pe_str (nomark _))))))
        (pss_one (ps_ret pe_non))
        pss_nil)
      (pss_one (ps_ret (pe_tup (pa_cons (pe_call (ok_kind_c T) (hr.mono (by decide)) rfl T.mg_kind_c T.F_kind_c.kp (b_kind_c T) .nil pass0 (pa_cons (pv 0) pa_nil)) (pa_cons pe_str (pa_cons (pv 4) (pa_cons (pe_call (ok_home_behind_mark T) (hr.mono (by decide)) rfl T.mg_home_behind_mark T.F_home_behind_mark.kp (b_home_behind_mark T) .nil pass0 (pa_cons (pv 3) (pa_cons (pv 5) pa_nil))) (pa_cons (pe_call (ok_log_behind_mark T) (hr.mono (by decide)) rfl T.mg_log_behind_mark T.F_log_behind_mark.kp (b_log_behind_mark T) .nil pass0 (pa_cons (pv 0) (pa_cons (pv 1) pa_nil))) (pa_cons pe_str pa_nil)))))))))))), ?_⟩
    refine ⟨_, rfl, a, _, rfl, ht, rfl, _, _, rfl, _, _, rfl, _, _, rfl, _, _, rfl, _, _, rfl, _, _, rfl, rfl, ?_⟩
    refine ⟨fun σ Hm => σ = [some (.ref a), some (.ref b), some (sv g), some (sv c), some (sv r), some (sv h), some (sv y)] ∧ Same H Hm ∧ ¬ (c = 3 ∨ (("copies" : Str) ∈ B ∧ due c = true ∧ y = 3)), ?_, ?_⟩
    · refine ⟨_, rfl, rfl, _, rfl, ?_⟩
      (refine iteS (by first | exact dS0 _ | exact dS1 _ | exact dS2 _ | exact dS3 _ | exact dS4 _ | exact dS5 _ | exact dS6 _ | exact dS7 _ | exact dS8 _ | exact dS9 _ | exact dS10 _ | exact dS11 _ | exact nS0 _ | exact nS1 _ | exact nS2 _ | exact nS3 _ | exact nS4 _ | exact nS5 _ | exact nS6 _ | exact nS7 _ | exact in34 _ | exact in012 _ | exact in51 _ | exact in512 _) (fun h1 => ?_) fun h1 => ?_)
      · exact iteT (k.no (by unfold markM; rw [if_pos (.inl h1)]) (Same.refl _))
      refine ⟨_, rfl, inBook hb ⟨_, rfl, ?_⟩⟩
      (refine iteS (p := ("copies" : Str) ∈ B) rfl (fun h2 => ?_) fun h2 => ?_)
      · refine ⟨_, rfl, kk, c, r, h, g, y, a, rfl, ht, fun H1 s1 => ⟨_, rfl, ?_⟩⟩
        refine iteS (p := due c = true) (by cases due c <;> rfl) (fun h3 => ?_) fun h3 => ?_
        · refine ⟨_, rfl, rfl, _, rfl, ?_⟩
          (refine iteS (by first | exact dS0 _ | exact dS1 _ | exact dS2 _ | exact dS3 _ | exact dS4 _ | exact dS5 _ | exact dS6 _ | exact dS7 _ | exact dS8 _ | exact dS9 _ | exact dS10 _ | exact dS11 _ | exact nS0 _ | exact nS1 _ | exact nS2 _ | exact nS3 _ | exact nS4 _ | exact nS5 _ | exact nS6 _ | exact nS7 _ | exact in34 _ | exact in012 _ | exact in51 _ | exact in512 _) (fun h4 => ?_) fun h4 => ?_)
          · exact k.no (by unfold markM; rw [if_pos (.inr ⟨h2, h3, h4⟩)]) s1
          · exact ⟨rfl, s1, fun z => z.elim h1 fun z => h4 z.2.2⟩
        · exact iteF ⟨rfl, s1, fun z => z.elim h1 fun z => h3 z.2.1⟩
      · exact iteF ⟨rfl, Same.refl _, fun z => z.elim h1 fun z => h2 z.1⟩
    rintro σ H1 ⟨rfl, s1, hn⟩
    refine ⟨fun σ Hm => σ = [some (.ref a), some (.ref b), some (sv g), some (sv c), some (sv r), some (sv h), some (sv y)] ∧ Same H Hm ∧ ¬ (("words" : Str) ∈ B ∧ c = 2 ∧ ¬ h = 7), ?_, ?_⟩
    · refine ⟨_, rfl, inBook (hb.same s1) ⟨_, rfl, ?_⟩⟩
      (refine iteS (p := ("words" : Str) ∈ B) rfl (fun h2 => ?_) fun h2 => ?_)
      · refine ⟨_, rfl, rfl, _, rfl, ?_⟩
        (refine iteS (by first | exact dS0 _ | exact dS1 _ | exact dS2 _ | exact dS3 _ | exact dS4 _ | exact dS5 _ | exact dS6 _ | exact dS7 _ | exact dS8 _ | exact dS9 _ | exact dS10 _ | exact dS11 _ | exact nS0 _ | exact nS1 _ | exact nS2 _ | exact nS3 _ | exact nS4 _ | exact nS5 _ | exact nS6 _ | exact nS7 _ | exact in34 _ | exact in012 _ | exact in51 _ | exact in512 _) (fun h3 => ?_) fun h3 => ?_)
        · refine ⟨_, rfl, rfl, _, rfl, ?_⟩
          (refine iteS (by first | exact dS0 _ | exact dS1 _ | exact dS2 _ | exact dS3 _ | exact dS4 _ | exact dS5 _ | exact dS6 _ | exact dS7 _ | exact dS8 _ | exact dS9 _ | exact dS10 _ | exact dS11 _ | exact nS0 _ | exact nS1 _ | exact nS2 _ | exact nS3 _ | exact nS4 _ | exact nS5 _ | exact nS6 _ | exact nS7 _ | exact in34 _ | exact in012 _ | exact in51 _ | exact in512 _) (fun h4 => ?_) fun h4 => ?_)
          · exact k.no (by unfold markM; rw [if_neg hn, if_pos ⟨h2, h3, h4⟩]) s1
          · exact ⟨rfl, s1, fun z => h4 z.2.2⟩
        · exact iteF ⟨rfl, s1, fun z => h3 z.2.1⟩
      · exact iteF ⟨rfl, s1, fun z => h2 z.1⟩
    rintro σ H2 ⟨rfl, s2, hn2⟩
    refine ⟨_, rfl, kk, c, r, h, g, y, a, rfl, ht.same s2, fun H3 s3 => ⟨_, rfl, _, rfl, _, rfl, c, h, rfl, _, rfl, _, rfl, B, kk, c, r, h, g, y, a, b, rfl, ht.same (s2.trans s3), hb.same (s2.trans s3), fun H4 s4 => ⟨sz6, ?_⟩⟩⟩
    (intro t n_t; generalize he_t : upd _ t _ = H5; obtain ⟨e_t, s_t, f_t⟩ := new_f he_t n_t; clear he_t)
    exact k.yes (l := [kc kk c, 3, r, hbm c h, lbm B kk c g y, 3]) (by unfold markM; rw [if_neg hn, if_neg hn2]) (((s2.trans s3).trans s4).trans s_t) (.of e_t)
theorem ok_home (T : Tx K mg) : FnOk P w K mg base CX0 4 T.f_home T.fd_home ["standing", "book"] (sp_step K T.C_Book fun _ => homeM) := by
  refine T.F_home.ok sc_home (fun vs H Q E h => ?_) (fun cdv A0 outer s H vs Q E hr h => ?_)
  · obtain ⟨_, _, _, _, _, _, _, _, _, rfl, _⟩ := h; rfl
  · obtain ⟨B, kk, c, r, h, g, y, a, b, rfl, ht, hb, k⟩ := h
    try dsimp only at k
    refine ⟨_, (pss_cons (ps_asg (pv 0) (pg_tup rfl (pgs_cons (pg_name (i := 2) sc_home.nd rfl (.inl rfl)) (pgs_cons (pg_name (i := 3) sc_home.nd rfl (.inl rfl)) (pgs_cons (pg_name (i := 4) sc_home.nd rfl (.inl rfl)) (pgs_cons (pg_name (i := 5) sc_home.nd rfl (.inl rfl)) (pgs_cons (pg_name (i := 6) sc_home.nd rfl (.inl rfl)) (pgs_cons (pg_name (i := 7) sc_home.nd rfl (.inl rfl)) pgs_nil))))))))
      (pss_one (ps_ret (pe_ifExp (pt_cmpR op_eq (pv 2) pe_str (nomark _)) (pe_tup (pa_cons (pv 2) (pa_cons (pv 3) (pa_cons (pv 4) (pa_cons pe_str (pa_cons (pv 6) (pa_cons (pv 7) pa_nil))))))) pe_non)))), ?_⟩
    refine ⟨_, rfl, a, _, rfl, ht, rfl, _, _, rfl, _, _, rfl, _, _, rfl, _, _, rfl, _, _, rfl, _, _, rfl, rfl, ?_⟩
    refine ⟨_, rfl, rfl, _, rfl, ?_⟩
    (refine iteS (by first | exact dS0 _ | exact dS1 _ | exact dS2 _ | exact dS3 _ | exact dS4 _ | exact dS5 _ | exact dS6 _ | exact dS7 _ | exact dS8 _ | exact dS9 _ | exact dS10 _ | exact dS11 _ | exact nS0 _ | exact nS1 _ | exact nS2 _ | exact nS3 _ | exact nS4 _ | exact nS5 _ | exact nS6 _ | exact nS7 _ | exact in34 _ | exact in012 _ | exact in51 _ | exact in512 _) (fun h1 => ?_) fun h1 => ?_)
    · refine ⟨_, rfl, _, rfl, _, rfl, _, rfl, _, rfl, sz6, ?_⟩
      (intro t n_t; generalize he_t : upd _ t _ = H4; obtain ⟨e_t, s_t, f_t⟩ := new_f he_t n_t; clear he_t)
      exact k.yes (l := [kk, c, r, 6, g, y]) (by unfold homeM; rw [if_pos h1]) s_t (.of e_t)
    · exact k.no (by unfold homeM; rw [if_neg h1]) (Same.refl _)
theorem ok_early (T : Tx K mg) : FnOk P w K mg base CX0 5 T.f_early T.fd_early ["standing", "book"] (sp_step K T.C_Book earlyM) := by
  refine T.F_early.ok sc_early (fun vs H Q E h => ?_) (fun cdv A0 outer s H vs Q E hr h => ?_)
  · obtain ⟨_, _, _, _, _, _, _, _, _, rfl, _⟩ := h; rfl
  · obtain ⟨B, kk, c, r, h, g, y, a, b, rfl, ht, hb, k⟩ := h
    try dsimp only at k
    refine ⟨_, (pss_cons (ps_asg (pv 0) (pg_tup rfl (pgs_cons (pg_name (i := 2) sc_early.nd rfl (.inl rfl)) (pgs_cons (pg_name (i := 3) sc_early.nd rfl (.inl rfl)) (pgs_cons (pg_name (i := 4) sc_early.nd rfl (.inl rfl)) (pgs_cons (pg_name (i := 5) sc_early.nd rfl (.inl rfl)) (pgs_cons (pg_name (i := 6) sc_early.nd rfl (.inl rfl)) (pgs_cons (pg_name (i := 7) sc_early.nd rfl (.inl rfl)) pgs_nil))))))))
      (pss_cons (ps_set (i := 8) sc_early.nd rfl (.inl rfl) (pe_call (ok_content_r T) (hr.mono (by decide)) rfl T.mg_content_r T.F_content_r.kp (b_content_r T) .nil pass0 (pa_cons (pv 0) pa_nil)))
      (pss_cons (ps_if (PW.pt (pw_or (pt_cmpR op_ne (pe_call (ok_kind_r T) (hr.mono (by decide)) rfl T.mg_kind_r T.F_kind_r.kp (b_kind_r T) .nil pass0 (pa_cons (pv 0) pa_nil)) pe_str (nomark _)) (pw_or (pt_cmpR op_eq (pv 8) pe_str (nomark _)) (pw_or1 (pt_cmpR (op_inOwn T.bm_contains (ok_contains T) (hr.mono (by decide)) (b_RuleSet___contains__ T)) pe_str (pv 1) rfl)))))
        (pss_one (ps_ret pe_non))
        pss_nil)
      (pss_one (ps_ret (pe_tup (pa_cons (pv 2) (pa_cons (pv 3) (pa_cons (pv 4) (pa_cons (pv 8) (pa_cons (pv 6) (pa_cons (pv 7) pa_nil)))))))))))), ?_⟩
    refine ⟨_, rfl, a, _, rfl, ht, rfl, _, _, rfl, _, _, rfl, _, _, rfl, _, _, rfl, _, _, rfl, _, _, rfl, rfl, ?_⟩
    refine ⟨_, rfl, kk, c, r, h, g, y, a, rfl, ht, fun H1 s1 => ?_⟩
    have ht1 := ht.same s1
    have hb1 := hb.same s1
    refine ⟨_, rfl, kk, c, r, h, g, y, a, rfl, ht1, fun H2 s2 => ⟨rfl, _, rfl, ?_⟩⟩
    have S2 := s1.trans s2
    (refine iteS (by first | exact dS0 _ | exact dS1 _ | exact dS2 _ | exact dS3 _ | exact dS4 _ | exact dS5 _ | exact dS6 _ | exact dS7 _ | exact dS8 _ | exact dS9 _ | exact dS10 _ | exact dS11 _ | exact nS0 _ | exact nS1 _ | exact nS2 _ | exact nS3 _ | exact nS4 _ | exact nS5 _ | exact nS6 _ | exact nS7 _ | exact in34 _ | exact in012 _ | exact in51 _ | exact in512 _) (fun h1 => ?_) fun h1 => ?_)
    · exact iteT (k.no (by unfold earlyM; rw [if_pos (.inl h1)]) S2)
    refine ⟨_, rfl, rfl, _, rfl, ?_⟩
    (refine iteS (by first | exact dS0 _ | exact dS1 _ | exact dS2 _ | exact dS3 _ | exact dS4 _ | exact dS5 _ | exact dS6 _ | exact dS7 _ | exact dS8 _ | exact dS9 _ | exact dS10 _ | exact dS11 _ | exact nS0 _ | exact nS1 _ | exact nS2 _ | exact nS3 _ | exact nS4 _ | exact nS5 _ | exact nS6 _ | exact nS7 _ | exact in34 _ | exact in012 _ | exact in51 _ | exact in512 _) (fun h2 => ?_) fun h2 => ?_)
    · exact iteT (k.no (by unfold earlyM; rw [if_pos (.inr (.inl h2))]) S2)
    refine ⟨_, rfl, inBook (hb.same S2) ⟨_, rfl, ?_⟩⟩
    (refine iteS (p := ("mark" : Str) ∈ B) rfl (fun h3 => ?_) fun h3 => ?_)
    · exact k.no (by unfold earlyM; rw [if_pos (.inr (.inr h3))]) S2
    refine ⟨_, rfl, _, rfl, _, rfl, _, rfl, _, rfl, _, rfl, sz6, ?_⟩
    (intro t n_t; generalize he_t : upd _ t _ = H4; obtain ⟨e_t, s_t, f_t⟩ := new_f he_t n_t; clear he_t)
    exact k.yes (l := [kk, c, r, cr kk c r, g, y]) (by unfold earlyM; rw [if_neg (fun z => z.elim h1 fun z => z.elim h2 h3)]) (S2.trans s_t) (.of e_t)
theorem ok_running_words (T : Tx K mg) : FnOk P w K mg base CX0 5 T.f_running_words T.fd_running_words ["standing", "book"] (sp_sb K T.C_Book fun B k c r _ _ _ => ov (rwM B k c r)) := by
  refine T.F_running_words.ok sc_running_words (fun vs H Q E h => ?_) (fun cdv A0 outer s H vs Q E hr h => ?_)
  · obtain ⟨_, _, _, _, _, _, _, _, _, rfl, _⟩ := h; rfl
  · obtain ⟨B, kk, c, r, h, g, y, a, b, rfl, ht, hb, k⟩ := h
    try dsimp only at k
    refine ⟨_, (pss_cons (ps_set (i := 2) sc_running_words.nd rfl (.inl rfl) (pe_call (ok_content_r T) (hr.mono (by decide)) rfl T.mg_content_r T.F_content_r.kp (b_content_r T) .nil pass0 (pa_cons (pv 0) pa_nil)))
      (Evl.pss_cut (ps_set (i := 3) sc_running_words.nd rfl (.inl rfl) (pe_or (pe_cmpR op_eq (pe_ix ix_tup (pv 0) pe_int (fun _ _ => rfl)) pe_str (nomark _)) (pe_one (pe_cmpR op_eq (pv 2) pe_str (nomark _)))))
      (Evl.pss_cut (ps_set (i := 4) sc_running_words.nd rfl (.inl rfl) (pe_or (pe_cmpR op_eq (pe_call (ok_kind_c T) (hr.mono (by decide)) rfl T.mg_kind_c T.F_kind_c.kp (b_kind_c T) .nil pass0 (pa_cons (pv 0) pa_nil)) pe_str (nomark _)) (pe_one (pe_cmpR op_eq (pv 2) (pe_call (ok_content_c T) (hr.mono (by decide)) rfl T.mg_content_c T.F_content_c.kp (b_content_c T) .nil pass0 (pa_cons (pv 0) pa_nil)) (nomark _)))))
      (pss_one (ps_ret (pe_ifExp (PW.pt (pw_or (pt_cmpR (op_notInOwn T.bm_contains (ok_contains T) (hr.mono (by decide)) (b_RuleSet___contains__ T)) pe_str (pv 1) rfl) (pw_or1 (PW.pt (pw_and (pt_val (pv 3)) (pw_and1 (pt_val (pv 4)))))))) (pv 2) pe_non)))))), ?_⟩
    refine ⟨_, rfl, kk, c, r, h, g, y, a, rfl, ht, fun H1 s1 => ?_⟩
    refine ⟨fun σ Hm => σ = [some (.ref a), some (.ref b), some (sv (cr kk c r)), some (.bl (knownM kk c r)), none] ∧ Same H Hm, ?_, ?_⟩
    · refine ⟨_, rfl, a, _, 0, sv kk, rfl, rfl, ht.same s1, atI_nat (j := 0) rfl, rfl, ?_⟩
      rw [dS0]
      refine ⟨_, rfl, ?_⟩
      cases e1 : decide (kk = 0) with
      | true => exact iteT ⟨by unfold knownM; rw [e1]; rfl, s1⟩
      | false => exact iteF ⟨_, rfl, rfl, by rw [dS6]; unfold knownM; rw [e1]; rfl, s1⟩
    rintro σ Hm ⟨rfl, sm⟩
    refine ⟨fun σ Hm => σ = [some (.ref a), some (.ref b), some (sv (cr kk c r)), some (.bl (knownM kk c r)), some (.bl (sameM kk c r))] ∧ Same H Hm, ?_, ?_⟩
    · refine ⟨_, rfl, kk, c, r, h, g, y, a, rfl, ht.same sm, fun H2 s2 => ⟨rfl, ?_⟩⟩
      rw [dS0]
      refine ⟨_, rfl, ?_⟩
      cases e1 : decide (kc kk c = 0) with
      | true => exact iteT ⟨by unfold sameM; rw [e1]; rfl, sm.trans s2⟩
      | false => exact iteF ⟨_, rfl, _, rfl, kk, c, r, h, g, y, a, rfl, ht.same (sm.trans s2), fun H3 s3 => ⟨rfl, by rw [dSg (cc_lt kk c)]; unfold sameM; rw [e1]; rfl, (sm.trans s2).trans s3⟩⟩
    rintro σ H2 ⟨rfl, s2⟩
    refine ⟨_, rfl, inBook (hb.same s2) ⟨_, rfl, ?_⟩⟩
    (refine iteS (p := ¬ ("late" : Str) ∈ B) (dNot _) (fun h1 => ?_) fun h1 => ?_)
    · exact iteT ⟨_, rfl, casQ (k H2 s2) (by unfold rwM; rw [if_pos (.inl h1)]; rfl)⟩
    refine ⟨_, rfl, _, rfl, ?_⟩
    refine iteS (p := knownM kk c r = true) (by cases knownM kk c r <;> rfl) (fun h2 => ?_) fun h2 => ?_
    · refine ⟨_, rfl, _, rfl, ?_⟩
      refine iteS (p := sameM kk c r = true) (by cases sameM kk c r <;> rfl) (fun h3 => ?_) fun h3 => ?_
      · exact ⟨_, rfl, casQ (k H2 s2) (by unfold rwM; rw [if_pos (.inr ⟨h2, h3⟩)]; rfl)⟩
      · exact casQ (k H2 s2) (by unfold rwM; rw [if_neg (fun z => z.elim h1 fun z => h3 z.2)]; rfl)
    · exact iteF (casQ (k H2 s2) (by unfold rwM; rw [if_neg (fun z => z.elim h1 fun z => h2 z.1)]; rfl))
end
end K52
namespace K52
open PySem PySem.Spec PyProof.Rows L2 Rg
def mayM (k ch : Nat) : Bool := if ch = 5 then decide (k = 1) else decide (¬ ch = 0 ∨ ¬ k = 0)
def fitsM (k c r h g : Nat) : Bool := if (h = 6 ∧ k = 0) ∨ (g = 6 ∧ ¬ k = 1) then false else decide (¬ h = 7 ∨ c ∈ [5, 1, 2]) && decide (¬ h = 8 ∨ r ∈ [5, 1, 2])
section
variable {P : Program} {w : World} {K : PySem.W.Frag} {mg : Str → Option Value} {base : Heap}
theorem ok_closing_words (T : Tx K mg) : FnOk P w K mg base CX0 4 T.f_closing_words T.fd_closing_words ["standing", "book"] (sp_sb K T.C_Book fun B k c _ _ _ _ => ov (cwM B k c)) := by
  refine T.F_closing_words.ok sc_closing_words (fun vs H Q E h => ?_) (fun cdv A0 outer s H vs Q E hr h => ?_)
  · obtain ⟨_, _, _, _, _, _, _, _, _, rfl, _⟩ := h; rfl
  · obtain ⟨B, kk, c, r, h, g, y, a, b, rfl, ht, hb, k⟩ := h
    try dsimp only at k
    refine ⟨_, (pss_cons (ps_asg (pe_slice sl_tup (pv 0) po_none (po_some pe_int)) (pg_tup rfl (pgs_cons (pg_name (i := 2) sc_closing_words.nd rfl (.inl rfl)) (pgs_cons (pg_name (i := 3) sc_closing_words.nd rfl (.inl rfl)) pgs_nil))))
      (pss_cons (ps_if (PW.pt (pw_or (pt_cmpR op_eq (pv 3) pe_str (nomark _)) (pw_or1 (pt_cmpR op_ne (pe_call (ok_kind_c T) (hr.mono (by decide)) rfl T.mg_kind_c T.F_kind_c.kp (b_kind_c T) .nil pass0 (pa_cons (pv 0) pa_nil)) pe_str (nomark _)))))
        (pss_one (ps_ret pe_non))
        pss_nil)
      (pss_one (ps_ret (pe_ifExp (PW.pt (pw_or (pt_cmpR (op_notInOwn T.bm_contains (ok_contains T) (hr.mono (by decide)) (b_RuleSet___contains__ T)) pe_str (pv 1) rfl) (pw_or (pt_cmpR op_eq (pv 2) pe_str (nomark _)) (pw_or1 (pt_cmpR op_eq (pv 3) pe_str (nomark _)))))) (pe_call (ok_content_c T) (hr.mono (by decide)) rfl T.mg_content_c T.F_content_c.kp (b_content_c T) .nil pass0 (pa_cons (pv 0) pa_nil)) pe_non))))), ?_⟩
    refine ⟨_, rfl, _, rfl, a, _, rfl, ht, (fun z => absurd z.2 (by show ¬ HT.sIx 6 6 (some 2) = 6; decide)), fun p np => ?_⟩
    have st := same_upd (o := .tup (cutV ([kk, c, r, h, g, y].map sv) none (some 2))) np
    have e0 : upd H p (.tup (cutV ([kk, c, r, h, g, y].map sv) none (some 2))) p = some (.tup [sv kk, sv c]) := upd_same
    generalize upd H p (.tup (cutV ([kk, c, r, h, g, y].map sv) none (some 2))) = H1 at st e0 ⊢
    refine ⟨p, _, rfl, .of e0, rfl, _, _, rfl, _, _, rfl, rfl, ?_⟩
    refine ⟨_, rfl, rfl, _, rfl, ?_⟩
    (refine iteS (by first | exact dS0 _ | exact dS1 _ | exact dS2 _ | exact dS3 _ | exact dS4 _ | exact dS5 _ | exact dS6 _ | exact dS7 _ | exact dS8 _ | exact dS9 _ | exact dS10 _ | exact dS11 _ | exact nS0 _ | exact nS1 _ | exact nS2 _ | exact nS3 _ | exact nS4 _ | exact nS5 _ | exact nS6 _ | exact nS7 _ | exact in34 _ | exact in012 _ | exact in51 _ | exact in512 _) (fun h1 => ?_) fun h1 => ?_)
    · exact iteT (casQ (k H1 st) (by unfold cwM; rw [if_pos (.inl h1)]; rfl))
    refine ⟨_, rfl, kk, c, r, h, g, y, a, rfl, ht.same st, fun H2 s2 => ⟨rfl, _, rfl, ?_⟩⟩
    have S2 := st.trans s2
    (refine iteS (by first | exact dS0 _ | exact dS1 _ | exact dS2 _ | exact dS3 _ | exact dS4 _ | exact dS5 _ | exact dS6 _ | exact dS7 _ | exact dS8 _ | exact dS9 _ | exact dS10 _ | exact dS11 _ | exact nS0 _ | exact nS1 _ | exact nS2 _ | exact nS3 _ | exact nS4 _ | exact nS5 _ | exact nS6 _ | exact nS7 _ | exact in34 _ | exact in012 _ | exact in51 _ | exact in512 _) (fun h2 => ?_) fun h2 => ?_)
    · exact casQ (k H2 S2) (by unfold cwM; rw [if_pos (.inr h2)]; rfl)
    have hn : ¬ (c = 3 ∨ ¬ kc kk c = 2) := fun z => z.elim h1 h2
    have last : ∀ z : ¬ ("late" : Str) ∈ B ∨ kk = 0 ∨ c = 4, sp_st K (fun k c _ _ _ _ => sv (cc k c)) [.ref a] H2 Q E0 := fun z =>
      ⟨kk, c, r, h, g, y, a, rfl, ht.same S2, fun H3 s3 => casQ (k H3 (S2.trans s3)) (by unfold cwM; rw [if_neg hn, if_pos z]; rfl)⟩
    refine ⟨_, rfl, inBook (hb.same S2) ⟨_, rfl, ?_⟩⟩
    (refine iteS (p := ¬ ("late" : Str) ∈ B) (dNot _) (fun h3 => ?_) fun h3 => ?_)
    · exact iteT ⟨_, rfl, last (.inl h3)⟩
    refine ⟨_, rfl, rfl, _, rfl, ?_⟩
    (refine iteS (by first | exact dS0 _ | exact dS1 _ | exact dS2 _ | exact dS3 _ | exact dS4 _ | exact dS5 _ | exact dS6 _ | exact dS7 _ | exact dS8 _ | exact dS9 _ | exact dS10 _ | exact dS11 _ | exact nS0 _ | exact nS1 _ | exact nS2 _ | exact nS3 _ | exact nS4 _ | exact nS5 _ | exact nS6 _ | exact nS7 _ | exact in34 _ | exact in012 _ | exact in51 _ | exact in512 _) (fun h4 => ?_) fun h4 => ?_)
    · exact iteT ⟨_, rfl, last (.inr (.inl h4))⟩
    refine ⟨_, rfl, rfl, _, rfl, ?_⟩
    (refine iteS (by first | exact dS0 _ | exact dS1 _ | exact dS2 _ | exact dS3 _ | exact dS4 _ | exact dS5 _ | exact dS6 _ | exact dS7 _ | exact dS8 _ | exact dS9 _ | exact dS10 _ | exact dS11 _ | exact nS0 _ | exact nS1 _ | exact nS2 _ | exact nS3 _ | exact nS4 _ | exact nS5 _ | exact nS6 _ | exact nS7 _ | exact in34 _ | exact in012 _ | exact in51 _ | exact in512 _) (fun h5 => ?_) fun h5 => ?_)
    · exact ⟨_, rfl, last (.inr (.inr h5))⟩
    · exact casQ (k H2 S2) (by unfold cwM; rw [if_neg hn, if_neg (fun z => z.elim h3 fun z => z.elim h4 h5)]; rfl)
theorem ok_words (T : Tx K mg) : FnOk P w K mg base CX0 6 T.f_words T.fd_words ["standing", "book"] (sp_step K T.C_Book wordsM) := by
  refine T.F_words.ok sc_words (fun vs H Q E h => ?_) (fun cdv A0 outer s H vs Q E hr h => ?_)
  · obtain ⟨_, _, _, _, _, _, _, _, _, rfl, _⟩ := h; rfl
  · obtain ⟨B, kk, c, r, h, g, y, a, b, rfl, ht, hb, k⟩ := h
    try dsimp only at k
    refine ⟨_, (pss_cons (ps_asg (pv 0) (pg_tup rfl (pgs_cons (pg_name (i := 2) sc_words.nd rfl (.inl rfl)) (pgs_cons (pg_name (i := 3) sc_words.nd rfl (.inl rfl)) (pgs_cons (pg_name (i := 4) sc_words.nd rfl (.inl rfl)) (pgs_cons (pg_name (i := 5) sc_words.nd rfl (.inl rfl)) (pgs_cons (pg_name (i := 6) sc_words.nd rfl (.inl rfl)) (pgs_cons (pg_name (i := 7) sc_words.nd rfl (.inl rfl)) pgs_nil))))))))
      (pss_cons (ps_set (i := 8) sc_words.nd rfl (.inl rfl) (pe_cmpR op_eq (pe_call (ok_kind_r T) (hr.mono (by decide)) rfl T.mg_kind_r T.F_kind_r.kp (b_kind_r T) .nil pass0 (pa_cons (pv 0) pa_nil)) pe_str (nomark _)))
      (Evl.pss_cut (ps_set (i := 9) sc_words.nd rfl (.inl rfl) (pe_ifExp (pt_val (pv 8)) (pe_call (ok_running_words T) (hr.mono (by decide)) rfl T.mg_running_words T.F_running_words.kp (b_running_words T) .nil pass0 (pa_cons (pv 0) (pa_cons (pv 1) pa_nil))) (pe_call (ok_closing_words T) (hr.mono (by decide)) rfl T.mg_closing_words T.F_closing_words.kp (b_closing_words T) .nil pass0 (pa_cons (pv 0) (pa_cons (pv 1) pa_nil)))))
      (pss_one (ps_ret (pe_ifExp (pt_cmpR op_isN (pv 9) pe_non (nomark _)) pe_non (pe_tup (pa_cons (pv 2) (pa_cons (pv 3) (pa_cons (pv 4) (pa_cons (pv 9) (pa_cons (pv 6) (pa_cons (pv 7) pa_nil))))))))))))), ?_⟩
    refine ⟨_, rfl, a, _, rfl, ht, rfl, _, _, rfl, _, _, rfl, _, _, rfl, _, _, rfl, _, _, rfl, _, _, rfl, rfl, ?_⟩
    refine ⟨_, rfl, kk, c, r, h, g, y, a, rfl, ht, fun H1 s1 => ⟨rfl, ?_⟩⟩
    rw [dS2]
    refine ⟨fun σ Hm => ∃ o : Option Nat, σ = [some (.ref a), some (.ref b), some (sv kk), some (sv c), some (sv r), some (sv h), some (sv g), some (sv y), some (.bl (decide (kr kk c r = 2))), some (ov o)] ∧ Same H Hm ∧ wordsM B kk c r h g y = o.map fun x => [kk, c, r, x, g, y], ?_, ?_⟩
    · refine ⟨_, rfl, _, rfl, ?_⟩
      refine iteS (p := kr kk c r = 2) rfl (fun h1 => ?_) fun h1 => ?_
      · exact ⟨_, rfl, _, rfl, B, kk, c, r, h, g, y, a, b, rfl, ht.same s1, hb.same s1, fun H2 s2 => ⟨_, rfl, s1.trans s2, by unfold wordsM; rw [if_pos h1]⟩⟩
      · exact ⟨_, rfl, _, rfl, B, kk, c, r, h, g, y, a, b, rfl, ht.same s1, hb.same s1, fun H2 s2 => ⟨_, rfl, s1.trans s2, by unfold wordsM; rw [if_neg h1]⟩⟩
    rintro σ H2 ⟨o, rfl, s2, eo⟩
    cases o with
    | none =>
      refine ⟨_, rfl, rfl, _, rfl, iteT ?_⟩
      exact k.no eo s2
    | some x =>
      refine ⟨_, rfl, rfl, _, rfl, iteF ?_⟩
      refine ⟨_, rfl, _, rfl, _, rfl, _, rfl, _, rfl, _, rfl, sz6, ?_⟩
      (intro t n_t; generalize he_t : upd _ t _ = H3; obtain ⟨e_t, s_t, f_t⟩ := new_f he_t n_t; clear he_t)
      exact k.yes (l := [kk, c, r, x, g, y]) eo (s2.trans s_t) (.of e_t)
theorem ok_room (T : Tx K mg) : FnOk P w K mg base CX0 4 T.f_room T.fd_room ["standing", "book"] (sp_step K T.C_Book roomM) := by
  refine T.F_room.ok sc_room (fun vs H Q E h => ?_) (fun cdv A0 outer s H vs Q E hr h => ?_)
  · obtain ⟨_, _, _, _, _, _, _, _, _, rfl, _⟩ := h; rfl
  · obtain ⟨B, kk, c, r, h, g, y, a, b, rfl, ht, hb, k⟩ := h
    try dsimp only at k
    refine ⟨_, (pss_cons (ps_asg (pv 0) (pg_tup rfl (pgs_cons (pg_name (i := 2) sc_room.nd rfl (.inl rfl)) (pgs_cons (pg_name (i := 3) sc_room.nd rfl (.inl rfl)) (pgs_cons (pg_name (i := 4) sc_room.nd rfl (.inl rfl)) (pgs_cons (pg_name (i := 5) sc_room.nd rfl (.inl rfl)) (pgs_cons (pg_name (i := 6) sc_room.nd rfl (.inl rfl)) (pgs_cons (pg_name (i := 7) sc_room.nd rfl (.inl rfl)) pgs_nil))))))))
      (Evl.pss_cut (ps_if (PW.pt (pw_or (pt_cmpR op_eq (pv 6) pe_str (nomark _)) (pw_or1 (PW.pt (pw_and (pt_cmpR (op_inOwn T.bm_contains (ok_contains T) (hr.mono (by decide)) (b_RuleSet___contains__ T)) pe_str (pv 1) rfl) (pw_and (pt_cmpR op_eq (pv 6) pe_str (nomark _)) (pw_and1 (pt_cmpR op_ne (pv 5) pe_str (nomark _)))))))))
        (pss_one (ps_ret pe_non))
        pss_nil)
      (pss_one (ps_ret (pe_tup (pa_cons (pv 2) (pa_cons (pv 3) (pa_cons (pv 4) (pa_cons (pv 5) (pa_cons pe_str (pa_cons (pv 7) pa_nil))))))))))), ?_⟩
    refine ⟨_, rfl, a, _, rfl, ht, rfl, _, _, rfl, _, _, rfl, _, _, rfl, _, _, rfl, _, _, rfl, _, _, rfl, rfl, ?_⟩
    refine ⟨fun σ Hm => σ = [some (.ref a), some (.ref b), some (sv kk), some (sv c), some (sv r), some (sv h), some (sv g), some (sv y)] ∧ Hm = H ∧ ¬ (g = 3 ∨ (("room" : Str) ∈ B ∧ g = 6 ∧ ¬ h = 6)), ?_, ?_⟩
    · refine ⟨_, rfl, rfl, _, rfl, ?_⟩
      (refine iteS (by first | exact dS0 _ | exact dS1 _ | exact dS2 _ | exact dS3 _ | exact dS4 _ | exact dS5 _ | exact dS6 _ | exact dS7 _ | exact dS8 _ | exact dS9 _ | exact dS10 _ | exact dS11 _ | exact nS0 _ | exact nS1 _ | exact nS2 _ | exact nS3 _ | exact nS4 _ | exact nS5 _ | exact nS6 _ | exact nS7 _ | exact in34 _ | exact in012 _ | exact in51 _ | exact in512 _) (fun h1 => ?_) fun h1 => ?_)
      · exact iteT (k.no (by unfold roomM; rw [if_pos (.inl h1)]) (Same.refl _))
      refine ⟨_, rfl, inBook hb ⟨_, rfl, ?_⟩⟩
      (refine iteS (p := ("room" : Str) ∈ B) rfl (fun h2 => ?_) fun h2 => ?_)
      · refine ⟨_, rfl, rfl, _, rfl, ?_⟩
        (refine iteS (by first | exact dS0 _ | exact dS1 _ | exact dS2 _ | exact dS3 _ | exact dS4 _ | exact dS5 _ | exact dS6 _ | exact dS7 _ | exact dS8 _ | exact dS9 _ | exact dS10 _ | exact dS11 _ | exact nS0 _ | exact nS1 _ | exact nS2 _ | exact nS3 _ | exact nS4 _ | exact nS5 _ | exact nS6 _ | exact nS7 _ | exact in34 _ | exact in012 _ | exact in51 _ | exact in512 _) (fun h3 => ?_) fun h3 => ?_)
        · refine ⟨_, rfl, rfl, _, rfl, ?_⟩
          (refine iteS (by first | exact dS0 _ | exact dS1 _ | exact dS2 _ | exact dS3 _ | exact dS4 _ | exact dS5 _ | exact dS6 _ | exact dS7 _ | exact dS8 _ | exact dS9 _ | exact dS10 _ | exact dS11 _ | exact nS0 _ | exact nS1 _ | exact nS2 _ | exact nS3 _ | exact nS4 _ | exact nS5 _ | exact nS6 _ | exact nS7 _ | exact in34 _ | exact in012 _ | exact in51 _ | exact in512 _) (fun h4 => ?_) fun h4 => ?_)
          · exact k.no (by unfold roomM; rw [if_pos (.inr ⟨h2, h3, h4⟩)]) (Same.refl _)
          · exact ⟨rfl, rfl, fun z => z.elim h1 fun z => h4 z.2.2⟩
        · exact iteF ⟨rfl, rfl, fun z => z.elim h1 fun z => h3 z.2.1⟩
      · exact iteF ⟨rfl, rfl, fun z => z.elim h1 fun z => h2 z.1⟩
    rintro σ H1 ⟨rfl, rfl, hn⟩
    refine ⟨_, rfl, _, rfl, _, rfl, _, rfl, _, rfl, sz6, ?_⟩
    (intro t n_t; generalize he_t : upd _ t _ = H4; obtain ⟨e_t, s_t, f_t⟩ := new_f he_t n_t; clear he_t)
    exact k.yes (l := [kk, c, r, h, 3, y]) (by unfold roomM; rw [if_neg hn]) s_t (.of e_t)
theorem ok_told (T : Tx K mg) : FnOk P w K mg base CX0 4 T.f_told T.fd_told ["standing", "book"] (sp_step K T.C_Book toldM) := by
  refine T.F_told.ok sc_told (fun vs H Q E h => ?_) (fun cdv A0 outer s H vs Q E hr h => ?_)
  · obtain ⟨_, _, _, _, _, _, _, _, _, rfl, _⟩ := h; rfl
  · obtain ⟨B, kk, c, r, h, g, y, a, b, rfl, ht, hb, k⟩ := h
    try dsimp only at k
    refine ⟨_, (Evl.pss_cut (ps_if (PW.pt (pw_and (pt_cmpR op_eq (pe_ix ix_tup (pv 0) pe_int (fun _ _ => rfl)) pe_str (nomark _)) (pw_and1 (pt_cmpR op_eq (pe_ix ix_tup (pv 0) pe_int (fun _ _ => rfl)) pe_str (nomark _)))))
        (pss_one (ps_ret (pv 0)))
        pss_nil)
      (pss_one (ps_ret (pe_ifExp (pt_cmpR (op_inOwn T.bm_contains (ok_contains T) (hr.mono (by decide)) (b_RuleSet___contains__ T)) pe_str (pv 1) rfl) pe_non (pe_glob (v := .ref T.gA_LOST) rfl T.gg_LOST rfl))))), ?_⟩
    refine ⟨fun σ Hm => σ = [some (.ref a), some (.ref b)] ∧ Hm = H ∧ ¬ (c = 3 ∧ r = 4), ?_, ?_⟩
    · refine ⟨_, rfl, a, _, 1, sv c, rfl, rfl, ht, atI_nat (j := 1) rfl, rfl, _, rfl, ?_⟩
      (refine iteS (by first | exact dS0 _ | exact dS1 _ | exact dS2 _ | exact dS3 _ | exact dS4 _ | exact dS5 _ | exact dS6 _ | exact dS7 _ | exact dS8 _ | exact dS9 _ | exact dS10 _ | exact dS11 _ | exact nS0 _ | exact nS1 _ | exact nS2 _ | exact nS3 _ | exact nS4 _ | exact nS5 _ | exact nS6 _ | exact nS7 _ | exact in34 _ | exact in012 _ | exact in51 _ | exact in512 _) (fun h1 => ?_) fun h1 => ?_)
      · refine ⟨_, rfl, a, _, 2, sv r, rfl, rfl, ht, atI_nat (j := 2) rfl, rfl, _, rfl, ?_⟩
        (refine iteS (by first | exact dS0 _ | exact dS1 _ | exact dS2 _ | exact dS3 _ | exact dS4 _ | exact dS5 _ | exact dS6 _ | exact dS7 _ | exact dS8 _ | exact dS9 _ | exact dS10 _ | exact dS11 _ | exact nS0 _ | exact nS1 _ | exact nS2 _ | exact nS3 _ | exact nS4 _ | exact nS5 _ | exact nS6 _ | exact nS7 _ | exact in34 _ | exact in012 _ | exact in51 _ | exact in512 _) (fun h2 => ?_) fun h2 => ?_)
        · exact ⟨_, rfl, k.yes (l := [kk, c, r, h, g, y]) (by unfold toldM; rw [if_pos ⟨h1, h2⟩]) (Same.refl _) ht⟩
        · exact ⟨rfl, rfl, fun z => h2 z.2⟩
      · exact iteF ⟨rfl, rfl, fun z => h1 z.1⟩
    rintro σ H1 ⟨rfl, rfl, hn⟩
    refine ⟨_, rfl, inBook hb ⟨_, rfl, ?_⟩⟩
    (refine iteS (p := ("told" : Str) ∈ B) rfl (fun h2 => ?_) fun h2 => ?_)
    · exact k.no (by unfold toldM; rw [if_neg hn, if_pos h2]) (Same.refl _)
    · exact k.yes (l := [12]) (by unfold toldM; rw [if_neg hn, if_neg h2]) (Same.refl _) (T.gt_LOST _)
theorem ok_may_follow (T : Tx K mg) : FnOk P w K mg base CX0 1 T.f_may_follow T.fd_may_follow ["kind", "change"] (fun vs H Q _ => ∃ k c : Nat, vs = [sv k, sv c] ∧ Q (.bl (mayM k c)) H) := by
  refine T.F_may_follow.ok sc_may_follow (fun vs H Q E h => ?_) (fun cdv A0 outer s H vs Q E hr h => ?_)
  · obtain ⟨_, _, rfl, _⟩ := h; rfl
  · obtain ⟨kk, c, rfl, k⟩ := h
    try dsimp only at k
    refine ⟨_, (pss_cons (ps_if (pt_cmpR op_eq (pv 1) pe_str (nomark _))
        (pss_one (ps_ret (pe_cmpR op_eq (pv 0) pe_str (nomark _))))
        pss_nil)
      (pss_one (ps_ret (pe_or (pe_cmpR op_ne (pv 1) pe_str (nomark _)) (pe_one (pe_cmpR op_ne (pv 0) pe_str (nomark _))))))), ?_⟩
    refine ⟨_, rfl, rfl, _, rfl, ?_⟩
    (refine iteS (by first | exact dS0 _ | exact dS1 _ | exact dS2 _ | exact dS3 _ | exact dS4 _ | exact dS5 _ | exact dS6 _ | exact dS7 _ | exact dS8 _ | exact dS9 _ | exact dS10 _ | exact dS11 _ | exact nS0 _ | exact nS1 _ | exact nS2 _ | exact nS3 _ | exact nS4 _ | exact nS5 _ | exact nS6 _ | exact nS7 _ | exact in34 _ | exact in012 _ | exact in51 _ | exact in512 _) (fun h1 => ?_) fun h1 => ?_)
    · exact ⟨_, rfl, rfl, casQ k (by unfold mayM; rw [if_pos h1, dS1])⟩
    refine ⟨_, rfl, rfl, _, rfl, ?_⟩
    (refine iteS (by first | exact dS0 _ | exact dS1 _ | exact dS2 _ | exact dS3 _ | exact dS4 _ | exact dS5 _ | exact dS6 _ | exact dS7 _ | exact dS8 _ | exact dS9 _ | exact dS10 _ | exact dS11 _ | exact nS0 _ | exact nS1 _ | exact nS2 _ | exact nS3 _ | exact nS4 _ | exact nS5 _ | exact nS6 _ | exact nS7 _ | exact in34 _ | exact in012 _ | exact in51 _ | exact in512 _) (fun h2 => ?_) fun h2 => ?_)
    · exact casQ k (by unfold mayM; rw [if_neg h1, decide_eq_true (.inl h2)])
    · refine ⟨_, rfl, rfl, casQ k ?_⟩
      unfold mayM
      rw [if_neg h1, nS0]
      exact congrArg _ (decide_eq_decide.mpr ⟨fun z => z.elim (fun q => absurd q h2) id, .inr⟩)
theorem ok_content_fits (T : Tx K mg) : FnOk P w K mg base CX0 1 T.f_content_fits T.fd_content_fits ["signs"] (sp_st K fun k c r h g _ => .bl (fitsM k c r h g)) := by
  refine T.F_content_fits.ok sc_content_fits (fun vs H Q E h => ?_) (fun cdv A0 outer s H vs Q E hr h => ?_)
  · obtain ⟨_, _, _, _, _, _, _, rfl, _⟩ := h; rfl
  · obtain ⟨kk, c, r, h, g, y, a, rfl, ht, k⟩ := h
    try dsimp only at k
    refine ⟨_, (pss_cons (ps_asg (pe_slice sl_tup (pv 0) po_none (po_some pe_int)) (pg_tup rfl (pgs_cons (pg_name (i := 1) sc_content_fits.nd rfl (.inl rfl)) (pgs_cons (pg_name (i := 2) sc_content_fits.nd rfl (.inl rfl)) (pgs_cons (pg_name (i := 3) sc_content_fits.nd rfl (.inl rfl)) (pgs_cons (pg_name (i := 4) sc_content_fits.nd rfl (.inl rfl)) (pgs_cons (pg_name (i := 5) sc_content_fits.nd rfl (.inl rfl)) pgs_nil)))))))
      (Evl.pss_cut (ps_if (PW.pt (pw_or (PW.pt (pw_and (pt_cmpR op_eq (pv 4) pe_str (nomark _)) (pw_and1 (pt_cmpR op_eq (pv 1) pe_str (nomark _))))) (pw_or1 (PW.pt (pw_and (pt_cmpR op_eq (pv 5) pe_str (nomark _)) (pw_and1 (pt_cmpR op_ne (pv 1) pe_str (nomark _))))))))
        (pss_one (ps_ret pe_bl))
        pss_nil)
      (pss_one (ps_ret (pe_and (pe_or (pe_cmpR op_ne (pv 4) pe_str (nomark _)) (pe_one (pe_cmpR op_in_seq (pv 2) (pe_glob (v := .ref T.gA_NEW) rfl T.gg_NEW rfl) rfl))) (pe_one (pe_or (pe_cmpR op_ne (pv 4) pe_str (nomark _)) (pe_one (pe_cmpR op_in_seq (pv 3) (pe_glob (v := .ref T.gA_NEW) rfl T.gg_NEW rfl) rfl))))))))), ?_⟩
    refine ⟨_, rfl, _, rfl, a, _, rfl, ht, (fun z => absurd z.2 (by show ¬ HT.sIx 6 6 (some 5) = 6; decide)), fun p np => ?_⟩
    have st := same_upd (o := .tup (cutV ([kk, c, r, h, g, y].map sv) none (some 5))) np
    have e0 : upd H p (.tup (cutV ([kk, c, r, h, g, y].map sv) none (some 5))) p = some (.tup [sv kk, sv c, sv r, sv h, sv g]) := upd_same
    generalize upd H p (.tup (cutV ([kk, c, r, h, g, y].map sv) none (some 5))) = H1 at st e0 ⊢
    refine ⟨p, _, rfl, .of e0, rfl, _, _, rfl, _, _, rfl, _, _, rfl, _, _, rfl, _, _, rfl, rfl, ?_⟩
    have k := k H1 st
    refine ⟨fun σ Hm => σ = [some (.ref a), some (sv kk), some (sv c), some (sv r), some (sv h), some (sv g)] ∧ Hm = H1 ∧ ¬ ((h = 6 ∧ kk = 0) ∨ (g = 6 ∧ ¬ kk = 1)), ?_, ?_⟩
    · have bad : (h = 6 ∧ kk = 0) ∨ (g = 6 ∧ ¬ kk = 1) → Q (.bl false) H1 := fun z => casQ k (by unfold fitsM; rw [if_pos z])
      refine ⟨_, rfl, rfl, _, rfl, ?_⟩
      (refine iteS (by first | exact dS0 _ | exact dS1 _ | exact dS2 _ | exact dS3 _ | exact dS4 _ | exact dS5 _ | exact dS6 _ | exact dS7 _ | exact dS8 _ | exact dS9 _ | exact dS10 _ | exact dS11 _ | exact nS0 _ | exact nS1 _ | exact nS2 _ | exact nS3 _ | exact nS4 _ | exact nS5 _ | exact nS6 _ | exact nS7 _ | exact in34 _ | exact in012 _ | exact in51 _ | exact in512 _) (fun h1 => ?_) fun h1 => ?_)
      · refine ⟨_, rfl, rfl, _, rfl, ?_⟩
        (refine iteS (by first | exact dS0 _ | exact dS1 _ | exact dS2 _ | exact dS3 _ | exact dS4 _ | exact dS5 _ | exact dS6 _ | exact dS7 _ | exact dS8 _ | exact dS9 _ | exact dS10 _ | exact dS11 _ | exact nS0 _ | exact nS1 _ | exact nS2 _ | exact nS3 _ | exact nS4 _ | exact nS5 _ | exact nS6 _ | exact nS7 _ | exact in34 _ | exact in012 _ | exact in51 _ | exact in512 _) (fun h2 => ?_) fun h2 => ?_)
        · exact iteT (bad (.inl ⟨h1, h2⟩))
        · refine ⟨_, rfl, rfl, _, rfl, ?_⟩
          (refine iteS (by first | exact dS0 _ | exact dS1 _ | exact dS2 _ | exact dS3 _ | exact dS4 _ | exact dS5 _ | exact dS6 _ | exact dS7 _ | exact dS8 _ | exact dS9 _ | exact dS10 _ | exact dS11 _ | exact nS0 _ | exact nS1 _ | exact nS2 _ | exact nS3 _ | exact nS4 _ | exact nS5 _ | exact nS6 _ | exact nS7 _ | exact in34 _ | exact in012 _ | exact in51 _ | exact in512 _) (fun h3 => ?_) fun h3 => ?_)
          · refine ⟨_, rfl, rfl, _, rfl, ?_⟩
            (refine iteS (by first | exact dS0 _ | exact dS1 _ | exact dS2 _ | exact dS3 _ | exact dS4 _ | exact dS5 _ | exact dS6 _ | exact dS7 _ | exact dS8 _ | exact dS9 _ | exact dS10 _ | exact dS11 _ | exact nS0 _ | exact nS1 _ | exact nS2 _ | exact nS3 _ | exact nS4 _ | exact nS5 _ | exact nS6 _ | exact nS7 _ | exact in34 _ | exact in012 _ | exact in51 _ | exact in512 _) (fun h4 => ?_) fun h4 => ?_)
            · exact bad (.inr ⟨h3, h4⟩)
            · exact ⟨rfl, rfl, fun z => z.elim (fun z => h2 z.2) fun z => h4 z.2⟩
          · exact iteF ⟨rfl, rfl, fun z => z.elim (fun z => h2 z.2) fun z => h3 z.1⟩
      · refine iteF ⟨_, rfl, rfl, _, rfl, ?_⟩
        (refine iteS (by first | exact dS0 _ | exact dS1 _ | exact dS2 _ | exact dS3 _ | exact dS4 _ | exact dS5 _ | exact dS6 _ | exact dS7 _ | exact dS8 _ | exact dS9 _ | exact dS10 _ | exact dS11 _ | exact nS0 _ | exact nS1 _ | exact nS2 _ | exact nS3 _ | exact nS4 _ | exact nS5 _ | exact nS6 _ | exact nS7 _ | exact in34 _ | exact in012 _ | exact in51 _ | exact in512 _) (fun h3 => ?_) fun h3 => ?_)
        · refine ⟨_, rfl, rfl, _, rfl, ?_⟩
          (refine iteS (by first | exact dS0 _ | exact dS1 _ | exact dS2 _ | exact dS3 _ | exact dS4 _ | exact dS5 _ | exact dS6 _ | exact dS7 _ | exact dS8 _ | exact dS9 _ | exact dS10 _ | exact dS11 _ | exact nS0 _ | exact nS1 _ | exact nS2 _ | exact nS3 _ | exact nS4 _ | exact nS5 _ | exact nS6 _ | exact nS7 _ | exact in34 _ | exact in012 _ | exact in51 _ | exact in512 _) (fun h4 => ?_) fun h4 => ?_)
          · exact bad (.inr ⟨h3, h4⟩)
          · exact ⟨rfl, rfl, fun z => z.elim (fun z => h1 z.1) fun z => h4 z.2⟩
        · exact iteF ⟨rfl, rfl, fun z => z.elim (fun z => h1 z.1) fun z => h3 z.1⟩
    rintro σ H2 ⟨rfl, rfl, hn⟩
    have ef : decide (¬ h = 7 ∨ c ∈ [5, 1, 2]) = true → fitsM kk c r h g = decide (¬ h = 8 ∨ r ∈ [5, 1, 2]) := fun z => by unfold fitsM; rw [if_neg hn, z]; rfl
    have sec : decide (¬ h = 7 ∨ c ∈ [5, 1, 2]) = true → (tOrV (tOp rNe (tVar 4) (tC (V.str "R"))) (tOp (rIn K false) (tVar 3) (tC (V.ref T.gA_NEW))) : TE) [some (.ref a), some (sv kk), some (sv c), some (sv r), some (sv h), some (sv g)] H2 Q := fun z => by
      have ef := ef z
      refine ⟨_, rfl, rfl, ?_⟩
      have n8 : (!decide (V.str (sg h) = V.str "R")) = decide (¬ h = 8) := nSg (m := 8) (by decide)
      rw [n8]
      refine ⟨_, rfl, ?_⟩
      refine iteS (p := ¬ h = 8) rfl (fun h5 => ?_) fun h5 => ?_
      · exact casQ k (by rw [ef, decide_eq_true (show ¬ h = 8 ∨ r ∈ [5, 1, 2] from .inl h5)])
      · refine ⟨_, rfl, T.gA_NEW, _, rfl, .inr (T.gt_NEW _), rfl, rfl, ?_⟩
        rw [if_neg (by decide), in512]
        exact casQ k (by rw [ef]; exact congrArg _ (decide_eq_decide.mpr ⟨fun q => q.elim (fun z => absurd z h5) id, .inr⟩))
    refine ⟨_, rfl, rfl, ?_⟩
    rw [nS7]
    refine ⟨_, rfl, ?_⟩
    refine iteS (p := ¬ h = 7) rfl (fun h5 => ?_) fun h5 => ?_
    · exact ⟨_, rfl, iteT (sec (decide_eq_true (.inl h5)))⟩
    · refine ⟨_, rfl, T.gA_NEW, _, rfl, .inr (T.gt_NEW _), rfl, rfl, ?_⟩
      rw [if_neg (by decide), in512]
      refine ⟨_, rfl, ?_⟩
      refine iteS (p := c ∈ [5, 1, 2]) rfl (fun h6 => ?_) fun h6 => ?_
      · exact sec (decide_eq_true (.inr h6))
      · exact casQ k (by unfold fitsM; rw [if_neg hn, decide_eq_false (fun z => z.elim h5 h6)]; rfl)
end
end K52
namespace K52
open PySem PySem.Spec PyProof.Rows L2 Rg
section
variable {K : PySem.W.Frag}
theorem op_inK {X : Cx} (hK : X.K = K := by rfl) : OpR X (compareOp .In) (rIn K false) := by
  subst hK
  exact op_in_seq
theorem op_eqDK {X : Cx} (hu : X.A.units + 64 < cLine) (hK : X.K = K := by rfl) : OpR X (compareOp .Eq) (rEqD K) := by
  subst hK
  exact op_eqD hu
end
/-! ### standings as data -/
def dS (s : List Nat) : PyData := .tuple ((s.map sg).map PyData.str)
theorem sS_map (s : List Nat) : s.map sv = (s.map sg).map V.str := by rw [List.map_map]; rfl
theorem dpS {K : PySem.W.Frag} {H : Hp} {a : Addr} {s : List Nat} (h : StAt K H a s) : Dp K H (.ref a) (dS s) := .tup (show SqT K H a ((s.map sg).map V.str) by rw [← sS_map]; exact h) (dpAllT _)
theorem okS_sg (n : Nat) : okS (sg n) = true := by
  by_cases h : n < 15
  · exact (show ∀ n < 15, okS (sg n) = true by decide +kernel) n h
  · rw [sg_big (by omega)]; decide +kernel
theorem shS (s : List Nat) : SeqAt.shaped (dS s) = true := by
  have h := shT (s.map sg) fun x hx => by obtain ⟨n, _, rfl⟩ := List.mem_map.mp hx; exact okS_sg n
  exact h
theorem eqS (s t : List Nat) : PyData.eqv (dS s) (dS t) = decide (s.map sg = t.map sg) := eqvAllT _ _
theorem eqL (s : List Nat) : PyData.eqv (dS s) (dS [12]) = decide (s = [12]) := by
  rw [eqS]
  refine decide_eq_decide.mpr ⟨fun e => ?_, fun e => by rw [e]⟩
  match s with
  | [] => cases e
  | [n] =>
    have e : [sg n] = [sg 12] := e
    injection e with e1
    rw [(sg_eq (by decide)).mp e1]
  | n :: m :: s => simp at e
def rowL : List (List Nat) := [[0, 1, 2], [3, 4, 5, 0, 1, 2], [4, 5, 0, 1, 2], [6, 7, 8, 9], [3, 6, 9], [3, 10, 11]]
theorem rowL_lt : ∀ r ∈ rowL, ∀ m ∈ r, m < 15 := by decide
def rowsM (k c r h g y : Nat) : Bool := decide (k ∈ [0, 1, 2] ∧ c ∈ [3, 4, 5, 0, 1, 2] ∧ r ∈ [4, 5, 0, 1, 2] ∧ h ∈ [6, 7, 8, 9] ∧ g ∈ [3, 6, 9] ∧ y ∈ [3, 10, 11])
def isM (s : List Nat) : Bool := match s with
  | [k, c, r, h, g, y] => rowsM k c r h g y && (mayM k c && (mayM (kc k c) r && (fitsM k c r h g && decide (y = 3 ∨ due c = true))))
  | [n] => decide (n = 12)
  | _ => false
theorem isM_len {s : List Nat} (h : s ≠ [12]) (hl : s.length ≠ 6) : isM s = false := by
  match s, h, hl with
  | [], _, _ => rfl
  | [n], h, _ => exact decide_eq_false fun e => h (by rw [e])
  | [_, _], _, _ => rfl
  | [_, _, _], _, _ => rfl
  | [_, _, _, _], _, _ => rfl
  | [_, _, _, _, _], _, _ => rfl
  | [_, _, _, _, _, _], _, hl => exact absurd rfl hl
  | _ :: _ :: _ :: _ :: _ :: _ :: _ :: _, _, _ => rfl
theorem six {s : List Nat} (hl : s.length = 6) : ∃ k c r h g y, s = [k, c, r, h, g, y] := by
  match s, hl with
  | [k, c, r, h, g, y], _ => exact ⟨k, c, r, h, g, y, rfl⟩
theorem rows_of {k c r h g y : Nat} (q : ∀ (j x : Nat) (l : List Nat), j < 6 → [k, c, r, h, g, y][j]? = some x → rowL[j]? = some l → x ∈ l) : rowsM k c r h g y = true :=
  decide_eq_true ⟨q 0 k _ (by decide) rfl rfl, q 1 c _ (by decide) rfl rfl, q 2 r _ (by decide) rfl rfl, q 3 h _ (by decide) rfl rfl, q 4 g _ (by decide) rfl rfl, q 5 y _ (by decide) rfl rfl⟩
theorem rows_no {k c r h g y j x : Nat} {l : List Nat} (e1 : [k, c, r, h, g, y][j]? = some x) (e2 : rowL[j]? = some l) (n : ¬ x ∈ l) : rowsM k c r h g y = false := by
  refine decide_eq_false fun z => ?_
  match j, e1, e2 with
  | 0, e1, e2 => cases e1; cases e2; exact n z.1
  | 1, e1, e2 => cases e1; cases e2; exact n z.2.1
  | 2, e1, e2 => cases e1; cases e2; exact n z.2.2.1
  | 3, e1, e2 => cases e1; cases e2; exact n z.2.2.2.1
  | 4, e1, e2 => cases e1; cases e2; exact n z.2.2.2.2.1
  | 5, e1, e2 => cases e1; cases e2; exact n z.2.2.2.2.2
  | j + 6, e1, e2 => simp at e1
section
variable {P : Program} {w : World} {K : PySem.W.Frag} {mg : Str → Option Value} {base : Heap}
theorem sig_row (T : Tx K mg) {i : Nat} {y : V} (h : ([.ref T.gA_SIGNS_0, .ref T.gA_SIGNS_1, .ref T.gA_SIGNS_2, .ref T.gA_SIGNS_3, .ref T.gA_SIGNS_4, .ref T.gA_SIGNS_5] : List V)[i]? = some y) : ∃ p l, y = .ref p ∧ rowL[i]? = some l ∧ ∀ H, SqT K H p (l.map sv) := by
  match i, h with
  | 0, h => cases h; exact ⟨_, _, rfl, rfl, T.gt_SIGNS_0⟩
  | 1, h => cases h; exact ⟨_, _, rfl, rfl, T.gt_SIGNS_1⟩
  | 2, h => cases h; exact ⟨_, _, rfl, rfl, T.gt_SIGNS_2⟩
  | 3, h => cases h; exact ⟨_, _, rfl, rfl, T.gt_SIGNS_3⟩
  | 4, h => cases h; exact ⟨_, _, rfl, rfl, T.gt_SIGNS_4⟩
  | 5, h => cases h; exact ⟨_, _, rfl, rfl, T.gt_SIGNS_5⟩
  | i + 6, h => simp at h
def sp_is_standing (K : PySem.W.Frag) (Ps : List Addr) : Sp := fun vs H Q _ => ∃ (a : Addr) (s : List Nat), vs = [.ref a] ∧ StAt K H a s ∧ s.length < 900 ∧ Tab Ps H ∧ ∀ H', Tk Ps H H' → Q (.bl (isM s)) H'
theorem ok_is_standing (T : Tx K mg) (B : TBs T base) : FnOk P w K mg base CX0 6 T.f_is_standing T.fd_is_standing ["signs"] (sp_is_standing K T.Ps) := by
  refine fun_okC T.F_is_standing T.code_is_standing sc_is_standing (fun vs H Q E h => ?_) (fun A outer s H vs Q E hr h => ?_)
  · obtain ⟨_, _, rfl, _⟩ := h; rfl
  · obtain ⟨a, s, rfl, ht, hl, tb, k⟩ := h
    refine ⟨_, (pss_cons (ps_if (pt_cmpR (op_eqDK (K := K) hr.units) (pv 0) (pe_glob (v := .ref T.gA_LOST) rfl T.gg_LOST rfl) (nomark _))
        (pss_one (ps_ret pe_bl))
        pss_nil)
      (pss_cons (ps_if (PW.pt (pw_or (pt_cmpR op_ne (pe_callB call_len_seq rfl T.b_len (by decide +kernel) (pa_cons (pv 0) pa_nil)) (pe_callB call_len_seq rfl T.b_len (by decide +kernel) (pa_cons (pe_glob (v := .ref T.gA_SIGNS) rfl T.gg_SIGNS rfl) pa_nil)) (nomark _)) (pw_or1 (pt_not (pt_val (GxL.pe_allG (k := 0) (own := [("sign", 1), ("row", 2)]) (g := _) (tt := tYes) (hr.mono (by decide)) rfl T.b_all B.t_is_standing rfl (GxL.gsc_by (by decide +kernel)) (blkOk_by (N := ["signs", "sign", "row"]) (sc := defScope s_is_standing) (by decide +kernel)) sc_is_standing.nd (RZ.pi_zipA rfl T.b_zip (pa_cons (pv 0) (pa_cons (pe_glob (v := .ref T.gA_SIGNS) rfl T.gg_SIGNS rfl) pa_nil)))
      (fun _ _ _ _ _ => pg_tupK (K := K) (n := 2) rfl (pgs_cons (pg_name (i := 1) sc_is_standing.nd rfl (.inl rfl)) (pgs_cons (pg_name (i := 2) sc_is_standing.nd rfl (.inl rfl)) pgs_nil))) (fun _ _ _ _ _ _ => pts_nil) (fun _ _ _ _ _ _ => pe_cmpR (op_inK (K := K)) (pv 1) (pv 2) rfl)))))))
        (pss_one (ps_ret pe_bl))
        pss_nil)
      (pss_cons (ps_if (PW.pt (pw_or (pt_not (pt_val (pe_call (ok_may_follow T) (hr.mono (by decide)) rfl T.mg_may_follow T.F_may_follow.kp (b_may_follow T) .nil pass0 (pa_cons (pe_ix ix_tup (pv 0) pe_int (fun _ _ => rfl)) (pa_cons (pe_ix ix_tup (pv 0) pe_int (fun _ _ => rfl)) pa_nil))))) (pw_or1 (pt_not (pt_val (pe_call (ok_may_follow T) (hr.mono (by decide)) rfl T.mg_may_follow T.F_may_follow.kp (b_may_follow T) .nil pass0 (pa_cons (pe_call (ok_kind_c T) (hr.mono (by decide)) rfl T.mg_kind_c T.F_kind_c.kp (b_kind_c T) .nil pass0 (pa_cons (pv 0) pa_nil)) (pa_cons (pe_ix ix_tup (pv 0) pe_int (fun _ _ => rfl)) pa_nil))))))))
        (pss_one (ps_ret pe_bl))
        pss_nil)
      (pss_one (ps_ret (pe_and (pe_call (ok_content_fits T) (hr.mono (by decide)) rfl T.mg_content_fits T.F_content_fits.kp (b_content_fits T) .nil pass0 (pa_cons (pv 0) pa_nil)) (pe_one (pe_or (pe_cmpR op_eq (pe_ix ix_tup (pv 0) pe_int (fun _ _ => rfl)) pe_str (nomark _)) (pe_one (pe_call (ok_is_due T) (hr.mono (by decide)) rfl T.mg_is_due T.F_is_due.kp (b_is_due T) .nil pass0 (pa_cons (pv 0) pa_nil))))))))))), ?_⟩
    refine ⟨_, rfl, _, _, dpS ht, dpS (s := [12]) (T.gt_LOST _), shS _, shS _, _, rfl, ?_⟩
    rw [eqL]
    refine iteS (p := s = [12]) rfl (fun h1 => ?_) fun h1 => ?_
    · exact casQ (k H (.refl tb)) (by rw [h1]; rfl)
    refine ⟨_, rfl, a, _, rfl, .inr ht, T.gA_SIGNS, _, rfl, .inr (T.gt_SIGNS _), rfl, _, rfl, ?_⟩
    refine iteS (p := ¬ s.length = 6) (by rw [dec_iv, List.length_map, dNot]; exact decide_eq_decide.mpr ⟨fun z e => z (by rw [e]; rfl), fun z e => z (by have e : (s.length : Int) = 6 := e; omega)⟩) (fun h2 => ?_) fun h2 => ?_
    · exact iteT (casQ (k H (.refl tb)) (by rw [isM_len h1 h2]))
    obtain ⟨kk, c, r, h, g, y, rfl⟩ := six (Classical.not_not.mp h2)
    refine ⟨_, rfl, a, T.gA_SIGNS, _, _, rfl, .inr ⟨ht, T.gt_SIGNS _, tb _ T.in_is_standing, fun H2 hT => gx_zipT (K := K) (a := a) (b := T.gA_SIGNS) (xs := [kk, c, r, h, g, y].map sv) (ys := [.ref T.gA_SIGNS_0, .ref T.gA_SIGNS_1, .ref T.gA_SIGNS_2, .ref T.gA_SIGNS_3, .ref T.gA_SIGNS_4, .ref T.gA_SIGNS_5]) (by simp only [List.length_map, List.length_cons, List.length_nil]; decide) (fun i H3 => Tk T.Ps H H3 ∧ ∀ (j x : Nat) (l : List Nat), j < i → [kk, c, r, h, g, y][j]? = some x → rowL[j]? = some l → x ∈ l) ⟨Tk.tabbed tb T.in_is_standing hT, fun j x l hj => absurd hj (Nat.not_lt_zero _)⟩ (fun i H3 p => ⟨p.1.seqT tb ht, T.gt_SIGNS _⟩) (fun i x y' q H3 hx hy p hq => ?_) fun H3 p => ?_⟩⟩
    · rw [List.getElem?_map] at hx
      obtain ⟨n, hn, rfl⟩ := Option.map_eq_some_iff.mp hx
      obtain ⟨rw_, l, rfl, el, hrow⟩ := sig_row T hy
      have k2 := p.1.new (o := .tup [sv n, .ref rw_]) hq
      refine ⟨q, _, rfl, .of upd_same, rfl, _, _, rfl, _, _, rfl, rfl, rfl, yes_ ⟨_, rfl, _, rfl, rw_, _, rfl, .inr (hrow _), rfl, by rw [sS_map]; exact flat_str, ?_⟩⟩
      rw [if_neg (by decide), inSg n l (rowL_lt l (List.mem_of_getElem? el))]
      refine ⟨_, rfl, ?_⟩
      by_cases hm : n ∈ l
      · rw [decide_eq_true hm, if_pos rfl]
        refine ⟨k2, fun j x l' hj e1 e2 => ?_⟩
        by_cases e : j = i
        · subst e
          rw [hn] at e1
          rw [el] at e2
          cases e1
          cases e2
          exact hm
        · exact p.2 j x l' (by omega) e1 e2
      · rw [decide_eq_false hm, if_neg (by decide)]
        refine ⟨_, rfl, iteT ?_⟩
        exact casQ (k _ k2) (by show V.bl (rowsM kk c r h g y && _) = _; rw [rows_no hn el hm]; rfl)
    · have hrows := rows_of (fun j x l hj => p.2 j x l hj)
      have S := p.1
      have ht3 := S.seqT tb ht
      refine ⟨_, rfl, iteF ?_⟩
      have eM : isM [kk, c, r, h, g, y] = (mayM kk c && (mayM (kc kk c) r && (fitsM kk c r h g && decide (y = 3 ∨ due c = true)))) := by show (rowsM kk c r h g y && _) = _; rw [hrows]; rfl
      rw [eM] at k
      have ht3 : StAt K H3 a [kk, c, r, h, g, y] := ht3
      have k3 : ∀ H4, Same H3 H4 → Q (.bl (mayM kk c && (mayM (kc kk c) r && (fitsM kk c r h g && decide (y = 3 ∨ due c = true))))) H4 := fun H4 s4 => k H4 (S.trans (.of S.tab s4))
      refine ⟨_, rfl, a, _, 0, sv kk, rfl, rfl, ht3, atI_nat (j := 0) rfl, _, rfl, a, _, 1, sv c, rfl, rfl, ht3, atI_nat (j := 1) rfl, kk, c, rfl, _, rfl, ?_⟩
      refine iteS (p := mayM kk c = false) (by cases mayM kk c <;> rfl) (fun h3 => ?_) fun h3 => ?_
      · exact iteT (casQ (k3 H3 (Same.refl _)) (by rw [h3]; rfl))
      have h3 : mayM kk c = true := by simpa using h3
      rw [h3] at k3
      refine ⟨_, rfl, kk, c, r, h, g, y, a, rfl, ht3, fun H4 s4 => ⟨_, rfl, a, _, 2, sv r, rfl, rfl, ht3.same s4, atI_nat (j := 2) rfl, kc kk c, r, rfl, _, rfl, ?_⟩⟩
      refine iteS (p := mayM (kc kk c) r = false) (by cases mayM (kc kk c) r <;> rfl) (fun h4 => ?_) fun h4 => ?_
      · exact casQ (k3 H4 s4) (by rw [h4]; rfl)
      have h4 : mayM (kc kk c) r = true := by simpa using h4
      rw [h4] at k3
      refine ⟨_, rfl, kk, c, r, h, g, y, a, rfl, ht3.same s4, fun H5 s5 => ⟨_, rfl, ?_⟩⟩
      have S5 := s4.trans s5
      refine iteS (p := fitsM kk c r h g = true) (by cases fitsM kk c r h g <;> rfl) (fun h5 => ?_) fun h5 => ?_
      · rw [h5] at k3
        refine ⟨_, rfl, a, _, 5, sv y, rfl, rfl, ht3.same S5, atI_nat (j := 5) rfl, rfl, ?_⟩
        rw [dS3]
        refine ⟨_, rfl, ?_⟩
        refine iteS (p := y = 3) rfl (fun h6 => ?_) fun h6 => ?_
        · exact casQ (k3 H5 S5) (by rw [decide_eq_true (.inl h6)]; rfl)
        · refine ⟨_, rfl, kk, c, r, h, g, y, a, rfl, ht3.same S5, fun H6 s6 => casQ (k3 H6 (S5.trans s6)) ?_⟩
          have : decide (y = 3 ∨ due c = true) = due c := by cases hd : due c <;> simp [h6]
          rw [this]
          rfl
      · have h5 : fitsM kk c r h g = false := by simpa using h5
        exact casQ (k3 H5 S5) (by rw [h5]; rfl)
end
end K52
namespace K52
open PySem PySem.Spec PyProof.Rows L2 Rg
def letL : List Str := ["takel", "takep", "change", "free", "close", "copy", "mark", "home", "early", "words", "room", "told"]
def lt (i : Fin 12) : Str := letL.getD i.val ""
def badL : List Str := ["", "takes", "Close", "close ", "lost", "copies", "take"]
/-- the standing behind a letter -/
def aftM (i : Fin 12) (B : List Str) (k c r h g y : Nat) : Option (List Nat) := match i with
  | 0 => takelM k c r h g y
  | 1 => takepM B k c r h g y
  | 2 => changeM B k c r h g y
  | 3 => freeM B k c r h g y
  | 4 => closeM k c r h g y
  | 5 => copyM B k c r h g y
  | 6 => markM B k c r h g y
  | 7 => homeM k c r h g y
  | 8 => earlyM B k c r h g y
  | 9 => wordsM B k c r h g y
  | 10 => roomM B k c r h g y
  | 11 => toldM B k c r h g y
section
variable {P : Program} {w : World} {K : PySem.W.Frag} {mg : Str → Option Value} {base : Heap}
def sG (T : Tx K mg) : Fin 12 → Addr
  | 0 => T.f_takel
  | 1 => T.f_takep
  | 2 => T.f_change
  | 3 => T.f_free
  | 4 => T.f_close
  | 5 => T.f_copy
  | 6 => T.f_mark
  | 7 => T.f_home
  | 8 => T.f_early
  | 9 => T.f_words
  | 10 => T.f_room
  | 11 => T.f_told
def sGd (T : Tx K mg) : Fin 12 → FuncData
  | 0 => T.fd_takel
  | 1 => T.fd_takep
  | 2 => T.fd_change
  | 3 => T.fd_free
  | 4 => T.fd_close
  | 5 => T.fd_copy
  | 6 => T.fd_mark
  | 7 => T.fd_home
  | 8 => T.fd_early
  | 9 => T.fd_words
  | 10 => T.fd_room
  | 11 => T.fd_told
theorem sF (T : Tx K mg) : ∀ j : Fin 12, FnOk P w K mg base CX0 6 (sG T j) (sGd T j) ["standing", "book"] (sp_step K T.C_Book (aftM j))
  | 0 => (ok_takel T).mono (by decide)
  | 1 => (ok_takep T).mono (by decide)
  | 2 => (ok_change T).mono (by decide)
  | 3 => (ok_free T).mono (by decide)
  | 4 => (ok_close T).mono (by decide)
  | 5 => (ok_copy T).mono (by decide)
  | 6 => (ok_mark T).mono (by decide)
  | 7 => (ok_home T).mono (by decide)
  | 8 => (ok_early T).mono (by decide)
  | 9 => (ok_words T).mono (by decide)
  | 10 => (ok_room T).mono (by decide)
  | 11 => (ok_told T).mono (by decide)
theorem sK (T : Tx K mg) : ∀ j : Fin 12, PySem.W.keepIn K (.ref (sG T j)) = true
  | 0 => T.F_takel.kp
  | 1 => T.F_takep.kp
  | 2 => T.F_change.kp
  | 3 => T.F_free.kp
  | 4 => T.F_close.kp
  | 5 => T.F_copy.kp
  | 6 => T.F_mark.kp
  | 7 => T.F_home.kp
  | 8 => T.F_early.kp
  | 9 => T.F_words.kp
  | 10 => T.F_room.kp
  | 11 => T.F_told.kp
theorem sB (T : Tx K mg) : ∀ j : Fin 12, Binds K (sGd T j) ["standing", "book"] []
  | 0 => b_takel T
  | 1 => b_takep T
  | 2 => b_change T
  | 3 => b_free T
  | 4 => b_close T
  | 5 => b_copy T
  | 6 => b_mark T
  | 7 => b_home T
  | 8 => b_early T
  | 9 => b_words T
  | 10 => b_room T
  | 11 => b_told T
theorem sN (T : Tx K mg) : ∀ j : Fin 12, PySem.W.nsIn K T.gA_STEPS (lt j) = some (some (.ref (sG T j)))
  | 0 => T.gd_STEPS_takel
  | 1 => T.gd_STEPS_takep
  | 2 => T.gd_STEPS_change
  | 3 => T.gd_STEPS_free
  | 4 => T.gd_STEPS_close
  | 5 => T.gd_STEPS_copy
  | 6 => T.gd_STEPS_mark
  | 7 => T.gd_STEPS_home
  | 8 => T.gd_STEPS_early
  | 9 => T.gd_STEPS_words
  | 10 => T.gd_STEPS_room
  | 11 => T.gd_STEPS_told
theorem bN (T : Tx K mg) : ∀ z ∈ badL, PySem.W.nsIn K T.gA_STEPS z = some none := fun z hz => by
  simp only [badL, List.mem_cons, List.not_mem_nil, or_false] at hz
  rcases hz with e | e | e | e | e | e | e <;> rw [e]
  · exact T.gn_STEPS_0
  · exact T.gn_STEPS_1
  · exact T.gn_STEPS_2
  · exact T.gn_STEPS_3
  · exact T.gn_STEPS_4
  · exact T.gn_STEPS_5
  · exact T.gn_STEPS_6
theorem RO.mk {K : PySem.W.Frag} {H : Hp} {Q : VK} {o : Option (List Nat)} (h1 : o = none → ∀ H', Same H H' → Q .non H') (h2 : ∀ l, o = some l → ∀ H' x, Same H H' → StAt K H' x l → Q (.ref x) H') : RO K H Q o := by
  cases o with
  | none => exact h1 rfl
  | some l => exact h2 l rfl
def f12 : List (Fin 12) := [0, 1, 2, 3, 4, 5, 6, 7, 8, 9, 10, 11]
theorem f12_let : f12.map lt = letL := by decide +kernel
def letsM (B : List Str) (k c r h g y : Nat) : List Str := (f12.filter fun i => (aftM i B k c r h g y).isSome).map lt
def sp_lets (K : PySem.W.Frag) (C : Addr) : Sp := fun vs H Q _ => ∃ (B : List Str) (k c r h g y : Nat) (a b : Addr), vs = [.ref a, .ref b] ∧ StAt K H a [k, c, r, h, g, y] ∧ BookAt C H b B ∧ ∀ H' p, Same H H' → H p = none → H' p = some (.lst ((letsM B k c r h g y).map V.str)) → Q (.ref p) H'
def sp_after (K : PySem.W.Frag) (C : Addr) : Sp := fun vs H Q _ => ∃ (i : Fin 12) (B : List Str) (k c r h g y : Nat) (a b : Addr), vs = [.ref a, .str (lt i), .ref b] ∧ StAt K H a [k, c, r, h, g, y] ∧ BookAt C H b B ∧ RO K H Q (aftM i B k c r h g y)
def sp_afterL (K : PySem.W.Frag) : Sp := fun vs H Q _ => ∃ (i : Fin 12) (a b : Addr), vs = [.ref a, .str (lt i), .ref b] ∧ StAt K H a [12] ∧ ∀ H', Same H H' → Q .non H'
def sp_afterX (CV : Addr) : Sp := fun vs H _ E => ∃ (z : Str) (a b : Addr), vs = [.ref a, .str z, .ref b] ∧ z ∈ badL ∧ ∀ H', Same H H' → E (.ref CV) none H'
theorem ok_after (T : Tx K mg) (W : Tw T w) : FnOk P w K mg base CX0 7 T.f_after T.fd_after ["standing", "letter", "book"] (sp_after K T.C_Book) := by
  refine T.F_after.ok sc_after (fun vs H Q E h => ?_) (fun cdv A0 outer s H vs Q E hr h => ?_)
  · obtain ⟨_, _, _, _, _, _, _, _, _, _, rfl, _⟩ := h; rfl
  · obtain ⟨i, B, kk, c, r, h, g, y, a, b, rfl, ht, hb, k⟩ := h
    obtain ⟨es, n, D⟩ := W.kd_STEPS
    try dsimp only at k
    refine ⟨_, (pss_cons (ps_if (pt_cmpR (op_notIn_kd D) (pv 1) (pe_glob (v := .ref T.gA_STEPS) rfl T.gg_STEPS rfl) rfl)
        (pss_one ps_never)
        pss_nil)
      (pss_cons (ps_if (pt_cmpR (op_eqDK (K := K) hr.units) (pv 0) (pe_glob (v := .ref T.gA_LOST) rfl T.gg_LOST rfl) (nomark _))
        (pss_one (ps_ret pe_non))
        pss_nil)
      (pss_cons (ps_set (i := 3) sc_after.nd rfl (.inl rfl) (pe_ix ix_kdict (pe_glob (v := .ref T.gA_STEPS) rfl T.gg_STEPS rfl) (pv 1) (fun _ _ => rfl)))
      (pss_one (ps_ret (pe_callFam (i := 3) (ι := Fin 12) (g := sG T) (gd := sGd T) (gp := fun j => sp_step K T.C_Book (aftM j)) (pv 3) (sF T) (hr.mono (by decide)) (sK T) (sB T) .nil pass0 (pa_cons (pv 0) (pa_cons (pv 2) pa_nil)))))))), ?_⟩
    refine ⟨_, rfl, lt i, _, rfl, rfl, sN T i, _, rfl, iteF ?_⟩
    refine ⟨_, rfl, _, _, dpS ht, dpS (s := [12]) (T.gt_LOST _), shS _, shS _, _, rfl, ?_⟩
    rw [eqL]
    refine iteS (p := ([kk, c, r, h, g, y] : List Nat) = [12]) rfl (fun h1 => by simp at h1) fun h1 => ?_
    refine ⟨_, rfl, T.gA_STEPS, lt i, .ref (sG T i), rfl, rfl, ⟨es, n, _, D.at_, D.lit, sN T i, rfl⟩, ?_⟩
    exact ⟨i, rfl, _, rfl, _, rfl, B, kk, c, r, h, g, y, a, b, rfl, ht, hb, k⟩
theorem ok_afterL (T : Tx K mg) (W : Tw T w) : FnOk P w K mg base CX0 7 T.f_after T.fd_after ["standing", "letter", "book"] (sp_afterL K) := by
  refine T.F_after.ok sc_after (fun vs H Q E h => ?_) (fun cdv A0 outer s H vs Q E hr h => ?_)
  · obtain ⟨_, _, _, rfl, _⟩ := h; rfl
  · obtain ⟨i, a, b, rfl, ht, k⟩ := h
    obtain ⟨es, n, D⟩ := W.kd_STEPS
    try dsimp only at k
    refine ⟨_, (pss_cons (ps_if (pt_cmpR (op_notIn_kd D) (pv 1) (pe_glob (v := .ref T.gA_STEPS) rfl T.gg_STEPS rfl) rfl)
        (pss_one ps_never)
        pss_nil)
      (pss_cons (ps_if (pt_cmpR (op_eqDK (K := K) hr.units) (pv 0) (pe_glob (v := .ref T.gA_LOST) rfl T.gg_LOST rfl) (nomark _))
        (pss_one (ps_ret pe_non))
        pss_nil)
      (pss_cons (ps_set (i := 3) sc_after.nd rfl (.inl rfl) (pe_ix ix_kdict (pe_glob (v := .ref T.gA_STEPS) rfl T.gg_STEPS rfl) (pv 1) (fun _ _ => rfl)))
      (pss_one (ps_ret (pe_callFam (i := 3) (ι := Fin 12) (g := sG T) (gd := sGd T) (gp := fun j => sp_step K T.C_Book (aftM j)) (pv 3) (sF T) (hr.mono (by decide)) (sK T) (sB T) .nil pass0 (pa_cons (pv 0) (pa_cons (pv 2) pa_nil)))))))), ?_⟩
    refine ⟨_, rfl, lt i, _, rfl, rfl, sN T i, _, rfl, iteF ?_⟩
    refine ⟨_, rfl, _, _, dpS ht, dpS (s := [12]) (T.gt_LOST _), shS _, shS _, _, rfl, ?_⟩
    rw [eqL]
    exact iteT (k H (Same.refl _))
theorem ok_afterX (T : Tx K mg) (W : Tw T w) : FnOk P w K mg base (L2N.CX P w) 7 T.f_after T.fd_after ["standing", "letter", "book"] (sp_afterX T.C_BadValue) := by
  refine T.F_after.okN sc_after (fun vs H Q E h => ?_) (fun cdv A0 outer s H vs Q E hr h => ?_)
  · obtain ⟨_, _, _, rfl, _⟩ := h; rfl
  · obtain ⟨z, a, b, rfl, hz, k⟩ := h
    obtain ⟨es, n, D⟩ := W.kd_STEPS
    try dsimp only at k
    refine ⟨_, (pss_cons (ps_if (pt_cmpR (op_notIn_kd D) (pv 1) (pe_glob (v := .ref T.gA_STEPS) rfl T.gg_STEPS rfl) rfl)
        (pss_one (L2N.ps_raise rfl (L2N.takes_of rfl rfl rfl rfl) (pmk_own1N PySem.F.excBase_ValueError T.xe_BadValue T.mg_BadValue T.ke_BadValue (raises_own T.be_BadValue T.te_BadValue) rfl (pe_joined (.cons pe_str (.cons (pe_fmt (pv 1)) .nil))))))
        pss_nil)
      (pss_cons (ps_if (pt_cmpR (op_eqDK (K := K) hr.units) (pv 0) (pe_glob (v := .ref T.gA_LOST) rfl T.gg_LOST rfl) (nomark _))
        (pss_one (ps_ret pe_non))
        pss_nil)
      (pss_cons (ps_set (i := 3) sc_after.nd rfl (.inl rfl) (pe_ix ix_kdict (pe_glob (v := .ref T.gA_STEPS) rfl T.gg_STEPS rfl) (pv 1) (fun _ _ => rfl)))
      (pss_one (ps_ret (pe_callFam (i := 3) (ι := Fin 12) (g := sG T) (gd := sGd T) (gp := fun j => sp_step K T.C_Book (aftM j)) (pv 3) (sF T) (hr.mono (by decide)) (sK T) (sB T) .nil pass0 (pa_cons (pv 0) (pa_cons (pv 2) pa_nil)))))))), ?_⟩
    refine ⟨_, rfl, z, _, rfl, rfl, bN T z hz, _, rfl, iteT ?_⟩
    simp only [badL, List.mem_cons, List.not_mem_nil, or_false] at hz
    rcases hz with rfl | rfl | rfl | rfl | rfl | rfl | rfl
    all_goals exact ⟨_, rfl, by decide +kernel, _, rfl, .inl ⟨_, rfl, by decide +kernel, _, rfl, by decide +kernel, k H (Same.refl _)⟩⟩
theorem ok_let_letters (T : Tx K mg) (W : Tw T w) : FnOk P w K mg base CX0 8 T.f_let_letters T.fd_let_letters ["standing", "book"] (sp_lets K T.C_Book) := by
  refine T.F_let_letters.ok sc_let_letters (fun vs H Q E h => ?_) (fun cdv A0 outer s H vs Q E hr h => ?_)
  · obtain ⟨_, _, _, _, _, _, _, _, _, rfl, _⟩ := h; rfl
  · obtain ⟨B, kk, c, r, h, g, y, a, b, rfl, ht, hb, k⟩ := h
    try dsimp only at k
    refine ⟨_, (pss_one (ps_ret (pe_lc rfl (own := [("letter", 2)]) (g := gName 2) (tt := _) sc_let_letters.nd (pi_tup (pe_glob (v := .ref T.gA_LETTERS) rfl T.gg_LETTERS rfl)) (blkOk_by (N := ["standing", "book", "letter"]) (sc := defScope s_let_letters) (by decide +kernel)) (fun _ _ _ _ _ => pg_name (i := 2) sc_let_letters.nd rfl (Or.inl rfl)) (fun _ _ _ _ _ => pts_one (pt_cmpR op_notN (pe_call (ok_after T W) (hr.mono (by decide)) rfl T.mg_after T.F_after.kp (b_after T) .nil pass0 (pa_cons (pv 0) (pa_cons (pv 2) (pa_cons (pv 1) pa_nil)))) pe_non (nomark _))) (fun _ _ _ _ _ => (pv 2))))), ?_⟩
    refine ⟨_, rfl, ⟨_, T.gt_LETTERS H⟩, fun Dd hD => ?_⟩
    refine lc_tup (K := K) (a := T.gA_LETTERS) (xs := f12.map fun i => V.str (lt i)) (PvG (fun i : Fin 12 => V.str (lt i)) H Dd f12 (fun i => (aftM i B kk c r h g y).isSome)) (PvG.start hD) (fun _ _ _ _ => T.gt_LETTERS _) ?_ ?_
    · rintro j z H' hj Pv
      rw [List.getElem?_map] at hj
      obtain ⟨i, hi, rfl⟩ := Option.map_eq_some_iff.mp hj
      refine ⟨rfl, ?_⟩
      refine ⟨_, rfl, _, rfl, _, rfl, i, B, kk, c, r, h, g, y, a, b, rfl, ht.same Pv.1, hb.same Pv.1, RO.mk (fun e H2 s2 => ?_) fun l e H2 x s2 _ => ?_⟩
      · refine ⟨rfl, _, rfl, iteF ?_⟩
        exact Pv.no s2 hi (by rw [e]; rfl)
      · refine ⟨rfl, _, rfl, iteT ?_⟩
        exact ⟨_, rfl, Pv.yes hD s2 hi (by decide) (by rw [e]; rfl)⟩
    intro H1 Pv
    obtain ⟨S1, e1⟩ := Pv.all (by rw [List.length_map])
    refine k H1 Dd S1 hD ?_
    rw [e1]
    unfold letsM
    rw [List.map_map]
    rfl
end
end K52
namespace K52
open PySem PySem.Spec PyProof.Rows L2 Rg
theorem pow_nat (i : Nat) : ((2 : Int) ^ i) = ((2 ^ i : Nat) : Int) := by simp
theorem div_pow (n i : Nat) : ((n / 2 ^ i : Nat) : Int) / 2 = ((n / 2 ^ (i + 1) : Nat) : Int) := by
  rw [show ((n / 2 ^ i : Nat) : Int) / 2 = ((n / 2 ^ i / 2 : Nat) : Int) from rfl, Nat.div_div_eq_div_mul, Nat.pow_succ]
theorem bl_dec (b c : Bool) : decide (V.bl b = V.bl c) = (b == c) := by cases b <;> cases c <;> decide
section
variable {P : Program} {w : World} {K : PySem.W.Frag} {mg : Str → Option Value} {base : Heap}
def sp_Lrules : Sp := fun vs H Q _ => vs = [] ∧ ∀ H' p, Same H H' → H p = none → H' p = some (.lst (Rs.map V.str)) → Q (.ref p) H'
theorem ok_Lrules (T : Tx K mg) : FnOk P w K mg base CX0 1 T.f_Lrules T.fd_Lrules [] sp_Lrules := by
  refine T.F_Lrules.ok sc_Lrules (fun vs H Q E h => ?_) (fun cdv A outer s H vs Q E hr h => ?_)
  · obtain ⟨rfl, _⟩ := h; rfl
  · obtain ⟨rfl, k⟩ := h
    refine ⟨_, (pss_cons (ps_set (i := 0) sc_Lrules.nd rfl (.inl rfl) (pe_lst (pa_cons pe_str (pa_cons pe_str (pa_cons pe_str (pa_cons pe_str (pa_cons pe_str (pa_cons pe_str (pa_cons pe_str (pa_cons pe_str (pa_cons pe_str (pa_cons pe_str (pa_cons pe_str (pa_cons pe_str pa_nil))))))))))))))
      (pss_one (ps_ret (pv 0)))), ?_⟩
    refine ⟨(by show 12 ≤ sizeLine; decide), fun p np => ⟨_, rfl, k _ p (same_upd np) np upd_same⟩⟩
def sp_Lnames : Sp := fun vs H Q _ => ∃ n : Nat, vs = [.int n] ∧ ∀ H' p, Same H H' → H p = none → H' p = some (.lst ((nm Rs n).map V.str)) → Q (.ref p) H'
theorem ok_Lnames (T : Tx K mg) : FnOk P w K mg base CX0 2 T.f_Lnames T.fd_Lnames ["_law_number"] sp_Lnames := by
  refine T.F_Lnames.ok sc_Lnames (fun vs H Q E h => ?_) (fun cdv A outer s H vs Q E hr h => ?_)
  · obtain ⟨_, rfl, _⟩ := h; rfl
  · obtain ⟨n, rfl, k⟩ := h
    refine ⟨_, (pss_cons (ps_set (i := 1) sc_Lnames.nd rfl (.inl rfl) (pe_lst pa_nil))
      (pss_cons (ps_set (i := 2) sc_Lnames.nd rfl (.inl rfl) (pv 0))
      (pss_cons (ps_for PassesOwn.never rfl (pi_list (pe_call0 (ok_Lrules T) hr rfl T.mg_Lrules T.F_Lrules.kp (b_Lrules T) .nil pass0)) (pg_name (i := 3) sc_Lnames.nd rfl (.inl rfl))
        (pss_cons (ps_if (pt_cmpR op_eq (pe_op op_mod (pe_callTy call_int1 rfl T.b_int (by decide +kernel) (pa_cons (pv 2) pa_nil)) pe_int) pe_int (nomark _))
          (pss_one (ps_expr (pe_bm PySem.F.plainAttrs_list PySem.F.slot_list_append PySem.F.type_list_append mt_append (pv 1) (pa_cons (pv 3) pa_nil))))
          pss_nil)
        (pss_one (ps_set (i := 2) sc_Lnames.nd rfl (.inl rfl) (pe_op op_fdiv (pv 2) pe_int)))))
      (pss_one (ps_ret (pv 1)))))), ?_⟩
    refine ⟨Nat.zero_le _, fun p np => ?_⟩
    have s0 := same_upd (o := .lst []) np
    have e0 : upd H p (.lst []) p = some (.lst []) := upd_same
    generalize upd H p (.lst []) = H0 at s0 e0 ⊢
    refine ⟨_, rfl, rfl, fun H1 q s1 nq eq => ⟨q, rfl, ⟨_, .of eq⟩, ?_⟩⟩
    have hpq : q ≠ p := fun z => by rw [z, e0] at nq; cases nq
    refine for_list (K := K) (a := q) (xs := Rs.map V.str) (fun i σ H' => ∃ u3 : Option V, σ = [some (.int n), some (.ref p), some (.int ((n / 2 ^ i : Nat) : Int)), u3] ∧ Same H H' ∧ H' p = some (.lst ((nm (Rs.take i) n).map V.str)) ∧ H' q = some (.lst (Rs.map V.str)))
      ⟨none, by rw [Nat.pow_zero, Nat.div_one]; rfl, s0.trans s1, s1 _ _ e0, eq⟩ (fun _ _ _ _ ⟨_, _, _, _, e⟩ => .of e) ?_ ?_
    · rintro i x σ H2 hx ⟨u3, rfl, s2, ep, eq2⟩
      obtain ⟨r, rfl, hr⟩ := str_at hx
      refine ⟨_, rfl, .inl ⟨_, rfl, _, _, rfl, rfl, (by show (0 : Int) < 2; decide), rfl, _, rfl, ?_⟩⟩
      rw [dec_iv]
      have em : ((n / 2 ^ i : Nat) : Int) % 2 = ((n / 2 ^ i % 2 : Nat) : Int) := rfl
      by_cases z : n / 2 ^ i % 2 = 1
      · rw [decide_eq_true (show ((n / 2 ^ i : Nat) : Int) % 2 = 1 by rw [em, z]; rfl)]
        refine iteT ⟨_, rfl, .inl ⟨rfl, _, .inl (.inl ep)⟩, _, rfl, p, _, _, rfl, rfl, ep, ?_, ?_⟩
        · rw [List.length_map]
          have h1 := nm_len (l := Rs.take i) (n := n)
          have h2 : (Rs.take i).length ≤ 12 := by rw [List.length_take, Rs_len]; exact Nat.min_le_right _ _
          exact small1000 (by omega)
        refine ⟨_, rfl, _, _, rfl, rfl, ⟨by decide, by decide⟩, _, by rw [← div_pow]; rfl, ?_, ?_, ?_⟩
        · intro b o e
          rw [upd_ne (ne_of_none e np)]
          exact s2 _ _ e
        · rw [upd_same, nm_take_s hr, if_pos z, List.map_append]
          rfl
        · rw [upd_ne hpq]; exact eq2
      · rw [decide_eq_false (show ¬ ((n / 2 ^ i : Nat) : Int) % 2 = 1 by rw [em]; omega)]
        refine iteF ⟨_, rfl, _, _, rfl, rfl, ⟨by decide, by decide⟩, _, by rw [← div_pow]; rfl, s2, ?_, eq2⟩
        rw [nm_take_s hr, if_neg z, List.append_nil]
        exact ep
    rintro σ H2 ⟨u3, rfl, s2, ep, _⟩
    exact ⟨_, rfl, k H2 p s2 np ep⟩
def sp_Lnumber : Sp := fun vs H Q _ => ∃ (q : Addr) (B : List Str), vs = [.ref q] ∧ H q = some (.lst (B.map V.str)) ∧ ∀ H', Same H H' → Q (.int (numB B)) H'
end
end K52
namespace Rg
open PySem PySem.Spec PyProof.Rows L2 CwR
/-! ### bodies where a token is out: str.replace of written texts -/
theorem fun_okT {x qual : Str} {st : Stmt} {f : Addr} {fd : FuncData} {N ps : List Str} {k : Nat} {sp : Sp} {P : Program} {w : World} {K : PySem.W.Frag} {mg : Str → Option Value} {base : Heap} (F : Fun K x qual st f fd) (S : FnScope N ps (defScope st)) (hnc : ∀ y ∈ (defScope st).names, y.2 ≠ .cell) (hps : 1 ≤ ps.length) (len : ∀ vs H Q E, sp vs H Q E → vs.length = ps.length)
    (hbody : ∀ (cdv : Value) (A : Around) (outer : List Env) (s : Shared) (H : Hp) (vs : List V) (Q : VK) (E : XK), Room k (A.deeper (envOfC qual (defScope st) s.heap.objs.size f cdv)) → sp vs H Q E →
      ∃ t, PSsT (cxOf CX0 P w K mg base N qual (defScope st) f cdv A outer s H E) (defBody st) t ∧ t { nx := fun _ H' => Q .non H', rt := Q } (start N vs) H) : FnOk P w K mg base CX0 (k + 1) f fd ps sp := by
  obtain ⟨oc, od, kV, doc, pm, an, cdv, ct, osl, e, lk, hcd⟩ := F.ex
  subst e
  exact fn_ofT lk hcd S hnc hps len fun A outer s H vs Q E hr hsp => hbody cdv A outer s H vs Q E hr hsp
section
variable {X : Cx}
theorem pst_set {i : Nat} {x : Str} {e : Expr} {te : TE} {pos pos' : Pos} (hN : X.N.Nodup) (hi : X.N[i]? = some x) (hx : Loc X.env.scope x) (he : PET X e te) (hs : swapsWith e (some (.Name x pos')) pos.line X.env = pure false := by rfl) (hf : X.fn x = true ∨ X.env.scope.names.lookup x = some .local := by first | exact .inl rfl | exact .inr rfl | assumption) :
    PST X (.Assign [.Name x pos'] e pos) (tAsg te (gName i)) := by
  intro pins s σ H D h0 I h
  refine wpAny_Assign_Name (thn (he pins s σ H _ h0 I h) fun v s1 ⟨y, H1, I1, r1, q1⟩ => ?_) hs
  exact store_ok I1 hN hi hx r1 (fun s2 I2 => ⟨_, H1, I2, q1⟩) hf
theorem pet_tup {es : List Expr} {t : TA} {pos : Pos} {x1 : Nat} (h : PAT X es t) : PET X (.Tuple es x1 pos) (tTup t) := by
  intro pins s σ H Q h0 I hq
  refine wpAny_Tuple_spliced (thn (h pos pins s σ H _ h0 I hq) fun us s1 ⟨xs, H1, I1, r, z, q⟩ => ⟨by rw [← r.length]; exact z, ?_⟩)
  have hf : H1 s1.heap.objs.size = none := I1.hok.fresh (Nat.le_refl _)
  refine ⟨.ref s1.heap.objs.size, upd H1 s1.heap.objs.size (.tup xs), I1.laid (t' := s1.toks) (fun b u e => Heap.get?_push_of_some _ e) (Nat.le_refl _) ?_, rfl, q _ hf⟩
  exact ⟨z, us, r, ⟨_, Heap.get?_push_size _ rfl, rfl, _, rfl⟩⟩
theorem psst_cut {st : Stmt} {rest : List Stmt} {t u : TS} (h1 : PST X st t) (h2 : PSsT X rest u) : PSsT X (st :: rest) (Evl.tCut t u) := by
  intro pins s σ H D h0 I h
  obtain ⟨Mid, hm, hu⟩ := h
  refine wpAny_execs_cons (wpAny_mono (PySem.wpAny_toks (h1 pins s σ H { D with nx := Mid } h0 I hm)) (fun f s1 q => ?_) fun _ _ x => x.2)
  obtain ⟨hk, q⟩ := q
  cases f with
  | next =>
    obtain ⟨σ', H', I', q⟩ := q
    exact h2 pins s1 σ' H' D (Nat.le_trans h0 hk) I' (hu σ' H' q)
  | ret v => exact q
  | brk => exact q
  | cont => exact q
end
end Rg
namespace K52
open PySem PySem.Spec PyProof.Rows L2 Rg CwR
theorem sg_len (n : Nat) : (sg n).length ≤ 4 := by
  by_cases h : n < 15
  · exact (show ∀ n < 15, (sg n).length ≤ 4 by decide +kernel) n h
  · rw [sg_big (by omega)]; decide
theorem rep_ok (n : Nat) {z : Str} (h : z.length ≤ 10) : (sg n).length + ((sg n).length + 1) * z.length ≤ 16777216 := by
  have h1 := sg_len n
  have h2 : ((sg n).length + 1) * z.length ≤ 5 * 10 := Nat.mul_le_mul (by omega) h
  omega
theorem tabF {α : Type} {f : Str → α} {g : Nat → α} (h1 : ∀ n < 15, f (sg n) = g n) (h2 : ∀ n, 15 ≤ n → f "z" = g n) (n : Nat) : f (sg n) = g n := by
  by_cases h : n < 15
  · exact h1 n h
  · rw [sg_big (by omega)]; exact h2 n (by omega)
theorem rep_tl (n : Nat) : Txt.replace (sg n) "~" "L" = sg (if n = 5 then 1 else n) :=
  tabF (f := fun s => Txt.replace s "~" "L") (g := fun n => sg (if n = 5 then 1 else n)) (by decide +kernel) (fun n h => by rw [if_neg (by omega), sg_big h]; decide +kernel) n
theorem rep_ko (n : Nat) : Txt.replace (sg n) "K" "o" = sg (if n = 6 then 9 else n) :=
  tabF (f := fun s => Txt.replace s "K" "o") (g := fun n => sg (if n = 6 then 9 else n)) (by decide +kernel) (fun n h => by rw [if_neg (by omega), sg_big h]; decide +kernel) n
theorem rep_ro (n : Nat) : Txt.replace (sg n) "R" "o" = sg (if n = 8 then 9 else n) :=
  tabF (f := fun s => Txt.replace s "R" "o") (g := fun n => sg (if n = 8 then 9 else n)) (by decide +kernel) (fun n h => by rw [if_neg (by omega), sg_big h]; decide +kernel) n
theorem rep_rc (n : Nat) : Txt.replace (sg n) "R" "C" = sg (if n = 8 then 7 else n) :=
  tabF (f := fun s => Txt.replace s "R" "C") (g := fun n => sg (if n = 8 then 7 else n)) (by decide +kernel) (fun n h => by rw [if_neg (by omega), sg_big h]; decide +kernel) n
theorem rep_et (n : Nat) : Txt.replace (sg n) "=" "~" = sg (if n = 4 then 5 else n) :=
  tabF (f := fun s => Txt.replace s "=" "~") (g := fun n => sg (if n = 4 then 5 else n)) (by decide +kernel) (fun n h => by rw [if_neg (by omega), sg_big h]; decide +kernel) n
abbrev occ (j i : Str) : Bool := !(Builtin.Str.occurrences j i 0 j.length 1).isEmpty
theorem occ_tlp (n : Nat) : occ "~LP" (sg n) = decide (n ∈ [5, 1, 2]) :=
  tabF (f := fun s => occ "~LP" s) (g := fun n => decide (n ∈ [5, 1, 2])) (by decide +kernel) (fun n h => by rw [decide_eq_false (by simp only [List.mem_cons, List.not_mem_nil, or_false]; omega)]; decide +kernel) n
theorem occ_flp (n : Nat) : occ "FLP" (sg n) = decide (n ∈ [0, 1, 2]) :=
  tabF (f := fun s => occ "FLP" s) (g := fun n => decide (n ∈ [0, 1, 2])) (by decide +kernel) (fun n h => by rw [decide_eq_false (by simp only [List.mem_cons, List.not_mem_nil, or_false]; omega)]; decide +kernel) n
def lkr (k c r : Nat) : Nat := if r = 4 then kb k c else if r = 5 then 1 else r
def lcr (k c r : Nat) : Nat := if lkr k c r = 0 then 3 else if r ∈ [5, 1, 2] then 8 else cc k c
/-- a list of names -/
abbrev NmAt (K : PySem.W.Frag) (H : Hp) (q : Addr) (B : List Str) : Prop := SqL K H q (B.map V.str)
theorem nmIn {z : Str} {B : List Str} : (if true = true then !inV (.str z) (B.map V.str) else inV (.str z) (B.map V.str)) = decide (¬ z ∈ B) := by
  rw [if_pos rfl, inV_str, dNot]
theorem nmI {z : Str} {B : List Str} : (if false = true then !inV (.str z) (B.map V.str) else inV (.str z) (B.map V.str)) = decide (z ∈ B) := by
  rw [if_neg (by decide), inV_str]
def lgood (k c r : Nat) : Bool := decide (k = 0 ∨ lcr k c r = 6) && decide (kb k c = 0 ∨ lcr k c r = cc k c)
def lwl (B : List Str) (k c r : Nat) : Bool := if lkr k c r = 2 then lgood k c r || decide (¬ ("late" : Str) ∈ B) else if c = 3 ∨ ¬ kb k c = 2 then false else decide (k = 0 ∨ c = 4 ∨ ¬ ("late" : Str) ∈ B)
theorem lcr_lt (k c r : Nat) : lcr k c r < 15 := by
  unfold lcr
  split
  · decide
  · split
    · decide
    · exact cc_lt k c
section
variable {P : Program} {w : World} {K : PySem.W.Frag} {mg : Str → Option Value} {base : Heap}
theorem ok_Lkind_c (T : Tx K mg) : FnOk P w K mg base CX0 1 T.f_Lkind_c T.fd_Lkind_c ["_law_k", "_law_c"] (fun vs H Q _ => ∃ k c : Nat, vs = [sv k, sv c] ∧ Q (sv (kb k c)) H) := by
  refine fun_okT T.F_Lkind_c sc_Lkind_c (by decide +kernel) (by decide) (fun vs H Q E h => ?_) (fun cdv A0 outer s H vs Q E hr h => ?_)
  · obtain ⟨_, _, rfl, _⟩ := h; rfl
  · obtain ⟨kk, c, rfl, k⟩ := h
    try dsimp only at k
    refine ⟨_, (psst_cons (PST.of (ps_if (PW.pt (pw_or (pt_cmpR op_eq (pv 1) pe_str (nomark _)) (pw_or1 (pt_cmpR op_eq (pv 1) pe_str (nomark _)))))
        (pss_one (ps_ret (pv 0)))
        pss_nil))
      (psst_one (pst_ret (pet_replC (pv 1))))), ?_⟩
    refine ⟨_, rfl, rfl, _, rfl, ?_⟩
    (refine iteS (by first | exact dS0 _ | exact dS1 _ | exact dS2 _ | exact dS3 _ | exact dS4 _ | exact dS5 _ | exact dS6 _ | exact dS7 _ | exact dS8 _ | exact dS9 _ | exact dS10 _ | exact dS11 _ | exact nS0 _ | exact nS1 _ | exact nS2 _ | exact nS3 _ | exact nS4 _ | exact nS5 _ | exact nS6 _ | exact nS7 _ | exact in34 _ | exact in012 _ | exact in51 _ | exact in512 _) (fun h1 => ?_) fun h1 => ?_)
    · exact iteT ⟨_, rfl, casQ k (by unfold kb; rw [if_pos (by rw [h1]; decide)])⟩
    refine ⟨_, rfl, rfl, _, rfl, ?_⟩
    (refine iteS (by first | exact dS0 _ | exact dS1 _ | exact dS2 _ | exact dS3 _ | exact dS4 _ | exact dS5 _ | exact dS6 _ | exact dS7 _ | exact dS8 _ | exact dS9 _ | exact dS10 _ | exact dS11 _ | exact nS0 _ | exact nS1 _ | exact nS2 _ | exact nS3 _ | exact nS4 _ | exact nS5 _ | exact nS6 _ | exact nS7 _ | exact in34 _ | exact in012 _ | exact in51 _ | exact in512 _) (fun h2 => ?_) fun h2 => ?_)
    · exact ⟨_, rfl, casQ k (by unfold kb; rw [if_pos (by rw [h2]; decide)])⟩
    refine ⟨_, rfl, sg c, rfl, rep_ok c (by decide), ?_⟩
    rw [rep_tl]
    exact casQ k (by unfold kb; rw [if_neg (by simp only [List.mem_cons, List.not_mem_nil, or_false]; omega)])
theorem ok_Lkind_r (T : Tx K mg) : FnOk P w K mg base CX0 2 T.f_Lkind_r T.fd_Lkind_r ["_law_k", "_law_c", "_law_r"] (fun vs H Q _ => ∃ k c r : Nat, vs = [sv k, sv c, sv r] ∧ Q (sv (lkr k c r)) H) := by
  refine fun_okT T.F_Lkind_r sc_Lkind_r (by decide +kernel) (by decide) (fun vs H Q E h => ?_) (fun cdv A0 outer s H vs Q E hr h => ?_)
  · obtain ⟨_, _, _, rfl, _⟩ := h; rfl
  · obtain ⟨kk, c, r, rfl, k⟩ := h
    try dsimp only at k
    refine ⟨_, (psst_cons (PST.of (ps_if (pt_cmpR op_eq (pv 2) pe_str (nomark _))
        (pss_one (ps_ret (pe_call (ok_Lkind_c T) (hr.mono (by decide)) rfl T.mg_Lkind_c T.F_Lkind_c.kp (b_Lkind_c T) .nil pass0 (pa_cons (pv 0) (pa_cons (pv 1) pa_nil)))))
        pss_nil))
      (psst_one (pst_ret (pet_replC (pv 2))))), ?_⟩
    refine ⟨_, rfl, rfl, _, rfl, ?_⟩
    (refine iteS (by first | exact dS0 _ | exact dS1 _ | exact dS2 _ | exact dS3 _ | exact dS4 _ | exact dS5 _ | exact dS6 _ | exact dS7 _ | exact dS8 _ | exact dS9 _ | exact dS10 _ | exact dS11 _ | exact nS0 _ | exact nS1 _ | exact nS2 _ | exact nS3 _ | exact nS4 _ | exact nS5 _ | exact nS6 _ | exact nS7 _ | exact in34 _ | exact in012 _ | exact in51 _ | exact in512 _) (fun h1 => ?_) fun h1 => ?_)
    · exact ⟨_, rfl, _, rfl, kk, c, rfl, casQ k (by unfold lkr; rw [if_pos h1])⟩
    refine ⟨_, rfl, sg r, rfl, rep_ok r (by decide), ?_⟩
    rw [rep_tl]
    exact casQ k (by unfold lkr; rw [if_neg h1])
theorem ok_Lletters (T : Tx K mg) : FnOk P w K mg base CX0 1 T.f_Lletters T.fd_Lletters [] (fun vs H Q _ => vs = [] ∧ ∀ H' p, Same H H' → H p = none → H' p = some (.lst (letL.map V.str)) → Q (.ref p) H') := by
  refine T.F_Lletters.ok sc_Lletters (fun vs H Q E h => ?_) (fun cdv A0 outer s H vs Q E hr h => ?_)
  · obtain ⟨rfl, _⟩ := h; rfl
  · obtain ⟨rfl, k⟩ := h
    try dsimp only at k
    refine ⟨_, (pss_cons (ps_set (i := 0) sc_Lletters.nd rfl (.inl rfl) (pe_lst (pa_cons pe_str (pa_cons pe_str (pa_cons pe_str (pa_cons pe_str (pa_cons pe_str (pa_cons pe_str pa_nil))))))))
      (pss_one (ps_ret (pe_op op_cat (pv 0) (pe_lst (pa_cons pe_str (pa_cons pe_str (pa_cons pe_str (pa_cons pe_str (pa_cons pe_str (pa_cons pe_str pa_nil))))))))))), ?_⟩
    refine ⟨by show 6 ≤ sizeLine; decide, ?_⟩
    (intro p1 n_p1; generalize he_p1 : upd _ p1 _ = H1; obtain ⟨e_p1, s_p1, f_p1⟩ := new_f he_p1 n_p1; clear he_p1)
    ((try dsimp only); (first | (refine Rg.sg (σ' := [some (.ref p1)]) ?_ ?_; focus exact rfl) | (refine Rg.sgG (σ' := [some (.ref p1)]) ?_ ?_; focus exact rfl)))
    refine ⟨_, rfl, by show 6 ≤ sizeLine; decide, ?_⟩
    (intro p2 n_p2; generalize he_p2 : upd _ p2 _ = H2; obtain ⟨e_p2, s_p2, f_p2⟩ := new_f he_p2 n_p2; clear he_p2)
    refine ⟨p1, p2, _, _, rfl, rfl, s_p2 _ _ e_p1, e_p2, by show 12 ≤ sizeLine; decide, ?_⟩
    (intro p3 n_p3; generalize he_p3 : upd _ p3 _ = H3; obtain ⟨e_p3, s_p3, f_p3⟩ := new_f he_p3 n_p3; clear he_p3)
    exact k H3 p3 ((s_p1.trans s_p2).trans s_p3) (s_p1.free (s_p2.free n_p3)) e_p3
theorem ok_Lone (T : Tx K mg) : FnOk P w K mg base CX0 2 T.f_Lone T.fd_Lone ["_law_feed_here", "_law_signs"] (fun vs H Q _ => ∃ (p q : Addr) (fs : List Int) (l : List Nat), vs = [.ref p, .ref q] ∧ H p = some (.lst (fs.map V.int)) ∧ H q = some (.lst (l.map sv)) ∧ p ≠ q ∧ l ≠ [] ∧ l.length < 900 ∧ ∀ (n : Nat) (fs' : List Int), n ∈ l → Q (sv n) (upd H p (.lst (fs'.map V.int)))) := by
  refine T.F_Lone.ok sc_Lone (fun vs H Q E h => ?_) (fun cdv A0 outer s H vs Q E hr h => ?_)
  · obtain ⟨_, _, _, _, rfl, _⟩ := h; rfl
  · obtain ⟨p, q, fs, l, rfl, ep, eq, npq, hl, hl9, k⟩ := h
    try dsimp only at k
    refine ⟨_, (pss_one (ps_ret (pe_ix ix_list (pv 1) (pe_call (ok_Lpick T) (hr.mono (by decide)) rfl T.mg_Lpick T.F_Lpick.kp (b_Lpick T) .nil pass0 (pa_cons (pv 0) (pa_cons (pe_callB call_len_seq rfl T.b_len (by decide +kernel) (pa_cons (pv 1) pa_nil)) pa_nil))) (fun _ _ => rfl)))), ?_⟩
    have h0 : 0 < l.length := List.length_pos_iff.mpr hl
    refine ⟨_, rfl, _, rfl, _, rfl, q, _, rfl, .inl (.of eq), p, fs, _, rfl, ep, by rw [List.length_map]; omega, fun x f1 x0 x1 _ => ?_⟩
    rw [List.length_map] at x1
    have hx : x.toNat < l.length := by omega
    refine ⟨q, _, x, sv l[x.toNat], rfl, rfl, .of ((upd_ne (Ne.symm npq)).trans eq), at_of (j := x.toNat) (by omega) (by rw [List.getElem?_map, List.getElem?_eq_getElem hx]; rfl), ?_⟩
    exact k _ f1 (List.getElem_mem hx)
theorem ok_Lcontent_c (T : Tx K mg) : FnOk P w K mg base CX0 2 T.f_Lcontent_c T.fd_Lcontent_c ["_law_s"] (fun vs H Q _ => ∃ (k c r h g y : Nat) (a : Addr), vs = [.ref a] ∧ StAt K H a [k, c, r, h, g, y] ∧ Q (sv (cc k c)) H) := by
  refine T.F_Lcontent_c.ok sc_Lcontent_c (fun vs H Q E h => ?_) (fun cdv A0 outer s H vs Q E hr h => ?_)
  · obtain ⟨_, _, _, _, _, _, _, rfl, _⟩ := h; rfl
  · obtain ⟨kk, c, r, h, g, y, a, rfl, ht, k⟩ := h
    try dsimp only at k
    refine ⟨_, (pss_cons (ps_if (pt_cmpR op_eq (pe_call (ok_Lkind_c T) (hr.mono (by decide)) rfl T.mg_Lkind_c T.F_Lkind_c.kp (b_Lkind_c T) .nil pass0 (pa_cons (pe_ix ix_tup (pv 0) pe_int (fun _ _ => rfl)) (pa_cons (pe_ix ix_tup (pv 0) pe_int (fun _ _ => rfl)) pa_nil))) pe_str (nomark _))
        (pss_one (ps_ret pe_str))
        pss_nil)
      (pss_cons (ps_if (pt_cmpR op_in_str (pe_ix ix_tup (pv 0) pe_int (fun _ _ => rfl)) pe_str rfl)
        (pss_one (ps_ret pe_str))
        pss_nil)
      (pss_one (ps_ret pe_str)))), ?_⟩
    refine ⟨_, rfl, a, _, 0, sv kk, rfl, rfl, ht, atI_nat (j := 0) rfl, _, rfl, a, _, 1, sv c, rfl, rfl, ht, atI_nat (j := 1) rfl, kk, c, rfl, rfl, _, rfl, ?_⟩
    (refine iteS (by first | exact dS0 _ | exact dS1 _ | exact dS2 _ | exact dS3 _ | exact dS4 _ | exact dS5 _ | exact dS6 _ | exact dS7 _ | exact dS8 _ | exact dS9 _ | exact dS10 _ | exact dS11 _ | exact nS0 _ | exact nS1 _ | exact nS2 _ | exact nS3 _ | exact nS4 _ | exact nS5 _ | exact nS6 _ | exact nS7 _ | exact in34 _ | exact in012 _ | exact in51 _ | exact in512 _) (fun h1 => ?_) fun h1 => ?_)
    · exact casQ k (by unfold cc kc; rw [if_pos h1]; rfl)
    refine ⟨_, rfl, a, _, 1, sv c, rfl, rfl, ht, atI_nat (j := 1) rfl, sg c, "~LP", rfl, rfl, _, rfl, ?_⟩
    refine iteS (p := c ∈ [5, 1, 2]) (occ_tlp c) (fun h2 => ?_) fun h2 => ?_
    · exact casQ k (by unfold cc kc; rw [if_neg h1, if_pos h2]; rfl)
    · exact casQ k (by unfold cc kc; rw [if_neg h1, if_neg h2]; rfl)
theorem ok_Lcontent_r (T : Tx K mg) : FnOk P w K mg base CX0 3 T.f_Lcontent_r T.fd_Lcontent_r ["_law_s"] (fun vs H Q _ => ∃ (k c r h g y : Nat) (a : Addr), vs = [.ref a] ∧ StAt K H a [k, c, r, h, g, y] ∧ Q (sv (lcr k c r)) H) := by
  refine T.F_Lcontent_r.ok sc_Lcontent_r (fun vs H Q E h => ?_) (fun cdv A0 outer s H vs Q E hr h => ?_)
  · obtain ⟨_, _, _, _, _, _, _, rfl, _⟩ := h; rfl
  · obtain ⟨kk, c, r, h, g, y, a, rfl, ht, k⟩ := h
    try dsimp only at k
    refine ⟨_, (pss_cons (ps_if (pt_cmpR op_eq (pe_call (ok_Lkind_r T) (hr.mono (by decide)) rfl T.mg_Lkind_r T.F_Lkind_r.kp (b_Lkind_r T) .nil pass0 (pa_cons (pe_ix ix_tup (pv 0) pe_int (fun _ _ => rfl)) (pa_cons (pe_ix ix_tup (pv 0) pe_int (fun _ _ => rfl)) (pa_cons (pe_ix ix_tup (pv 0) pe_int (fun _ _ => rfl)) pa_nil)))) pe_str (nomark _))
        (pss_one (ps_ret pe_str))
        pss_nil)
      (pss_cons (ps_if (pt_cmpR op_in_str (pe_ix ix_tup (pv 0) pe_int (fun _ _ => rfl)) pe_str rfl)
        (pss_one (ps_ret pe_str))
        pss_nil)
      (pss_one (ps_ret (pe_call (ok_Lcontent_c T) (hr.mono (by decide)) rfl T.mg_Lcontent_c T.F_Lcontent_c.kp (b_Lcontent_c T) .nil pass0 (pa_cons (pv 0) pa_nil)))))), ?_⟩
    refine ⟨_, rfl, a, _, 0, sv kk, rfl, rfl, ht, atI_nat (j := 0) rfl, _, rfl, a, _, 1, sv c, rfl, rfl, ht, atI_nat (j := 1) rfl, _, rfl, a, _, 2, sv r, rfl, rfl, ht, atI_nat (j := 2) rfl, kk, c, r, rfl, rfl, _, rfl, ?_⟩
    (refine iteS (by first | exact dS0 _ | exact dS1 _ | exact dS2 _ | exact dS3 _ | exact dS4 _ | exact dS5 _ | exact dS6 _ | exact dS7 _ | exact dS8 _ | exact dS9 _ | exact dS10 _ | exact dS11 _ | exact nS0 _ | exact nS1 _ | exact nS2 _ | exact nS3 _ | exact nS4 _ | exact nS5 _ | exact nS6 _ | exact nS7 _ | exact in34 _ | exact in012 _ | exact in51 _ | exact in512 _) (fun h1 => ?_) fun h1 => ?_)
    · exact casQ k (by unfold lcr; rw [if_pos h1]; rfl)
    refine ⟨_, rfl, a, _, 2, sv r, rfl, rfl, ht, atI_nat (j := 2) rfl, sg r, "~LP", rfl, rfl, _, rfl, ?_⟩
    refine iteS (p := r ∈ [5, 1, 2]) (occ_tlp r) (fun h2 => ?_) fun h2 => ?_
    · exact casQ k (by unfold lcr; rw [if_neg h1, if_pos h2]; rfl)
    · exact ⟨_, rfl, kk, c, r, h, g, y, a, rfl, ht, casQ k (by unfold lcr; rw [if_neg h1, if_neg h2])⟩
theorem ok_Lwords_let (T : Tx K mg) : FnOk P w K mg base CX0 4 T.f_Lwords_let T.fd_Lwords_let ["_law_s", "_law_names_here"] (fun vs H Q _ => ∃ (B : List Str) (k c r h g y : Nat) (a q : Addr), vs = [.ref a, .ref q] ∧ StAt K H a [k, c, r, h, g, y] ∧ NmAt K H q B ∧ Q (.bl (lwl B k c r)) H) := by
  refine T.F_Lwords_let.ok sc_Lwords_let (fun vs H Q E h => ?_) (fun cdv A0 outer s H vs Q E hr h => ?_)
  · obtain ⟨_, _, _, _, _, _, _, _, _, rfl, _⟩ := h; rfl
  · obtain ⟨B, kk, c, r, h, g, y, a, q, rfl, ht, hB, k⟩ := h
    try dsimp only at k
    refine ⟨_, (pss_cons (ps_set (i := 2) sc_Lwords_let.nd rfl (.inl rfl) (pe_ix ix_tup (pv 0) pe_int (fun _ _ => rfl)))
      (pss_cons (ps_set (i := 3) sc_Lwords_let.nd rfl (.inl rfl) (pe_call (ok_Lkind_c T) (hr.mono (by decide)) rfl T.mg_Lkind_c T.F_Lkind_c.kp (b_Lkind_c T) .nil pass0 (pa_cons (pe_ix ix_tup (pv 0) pe_int (fun _ _ => rfl)) (pa_cons (pe_ix ix_tup (pv 0) pe_int (fun _ _ => rfl)) pa_nil))))
      (pss_cons (ps_if (pt_cmpR op_eq (pe_call (ok_Lkind_r T) (hr.mono (by decide)) rfl T.mg_Lkind_r T.F_Lkind_r.kp (b_Lkind_r T) .nil pass0 (pa_cons (pe_ix ix_tup (pv 0) pe_int (fun _ _ => rfl)) (pa_cons (pe_ix ix_tup (pv 0) pe_int (fun _ _ => rfl)) (pa_cons (pe_ix ix_tup (pv 0) pe_int (fun _ _ => rfl)) pa_nil)))) pe_str (nomark _))
        (pss_cons (ps_set (i := 4) sc_Lwords_let.nd rfl (.inl rfl) (pe_call (ok_Lcontent_r T) (hr.mono (by decide)) rfl T.mg_Lcontent_r T.F_Lcontent_r.kp (b_Lcontent_r T) .nil pass0 (pa_cons (pv 0) pa_nil)))
        (Evl.pss_cut (ps_set (i := 5) sc_Lwords_let.nd rfl (.inl rfl) (pe_and (pe_or (pe_cmpR op_eq (pv 2) pe_str (nomark _)) (pe_one (pe_cmpR op_eq (pv 4) pe_str (nomark _)))) (pe_one (pe_or (pe_cmpR op_eq (pv 3) pe_str (nomark _)) (pe_one (pe_cmpR op_eq (pv 4) (pe_call (ok_Lcontent_c T) (hr.mono (by decide)) rfl T.mg_Lcontent_c T.F_Lcontent_c.kp (b_Lcontent_c T) .nil pass0 (pa_cons (pv 0) pa_nil)) (nomark _)))))))
        (pss_one (ps_ret (pe_or (pv 5) (pe_one (pe_cmpR op_notIn_seq pe_str (pv 1) rfl)))))))
        pss_nil)
      (pss_cons (ps_if (PW.pt (pw_or (pt_cmpR op_eq (pe_ix ix_tup (pv 0) pe_int (fun _ _ => rfl)) pe_str (nomark _)) (pw_or1 (pt_cmpR op_ne (pv 3) pe_str (nomark _)))))
        (pss_one (ps_ret pe_bl))
        pss_nil)
      (pss_one (ps_ret (pe_or (pe_cmpR op_eq (pv 2) pe_str (nomark _)) (pe_or (pe_cmpR op_eq (pe_ix ix_tup (pv 0) pe_int (fun _ _ => rfl)) pe_str (nomark _)) (pe_one (pe_cmpR op_notIn_seq pe_str (pv 1) rfl)))))))))), ?_⟩
    refine ⟨_, rfl, a, _, 0, sv kk, rfl, rfl, ht, atI_nat (j := 0) rfl, ?_⟩
    ((try dsimp only); (first | (refine Rg.sg (σ' := [some (.ref a), some (.ref q), some (sv kk), none, none, none]) ?_ ?_; focus exact rfl) | (refine Rg.sgG (σ' := [some (.ref a), some (.ref q), some (sv kk), none, none, none]) ?_ ?_; focus exact rfl)))
    refine ⟨_, rfl, a, _, 0, sv kk, rfl, rfl, ht, atI_nat (j := 0) rfl, _, rfl, a, _, 1, sv c, rfl, rfl, ht, atI_nat (j := 1) rfl, kk, c, rfl, ?_⟩
    ((try dsimp only); (first | (refine Rg.sg (σ' := [some (.ref a), some (.ref q), some (sv kk), some (sv (kb kk c)), none, none]) ?_ ?_; focus exact rfl) | (refine Rg.sgG (σ' := [some (.ref a), some (.ref q), some (sv kk), some (sv (kb kk c)), none, none]) ?_ ?_; focus exact rfl)))
    refine ⟨_, rfl, a, _, 0, sv kk, rfl, rfl, ht, atI_nat (j := 0) rfl, _, rfl, a, _, 1, sv c, rfl, rfl, ht, atI_nat (j := 1) rfl, _, rfl, a, _, 2, sv r, rfl, rfl, ht, atI_nat (j := 2) rfl, kk, c, r, rfl, rfl, _, rfl, ?_⟩
    (refine iteS (by first | exact dS0 _ | exact dS1 _ | exact dS2 _ | exact dS3 _ | exact dS4 _ | exact dS5 _ | exact dS6 _ | exact dS7 _ | exact dS8 _ | exact dS9 _ | exact dS10 _ | exact dS11 _ | exact nS0 _ | exact nS1 _ | exact nS2 _ | exact nS3 _ | exact nS4 _ | exact nS5 _ | exact nS6 _ | exact nS7 _ | exact in34 _ | exact in012 _ | exact in51 _ | exact in512 _) (fun h1 => ?_) fun h1 => ?_)
    · refine ⟨_, rfl, kk, c, r, h, g, y, a, rfl, ht, ?_⟩
      ((try dsimp only); (first | (refine Rg.sg (σ' := [some (.ref a), some (.ref q), some (sv kk), some (sv (kb kk c)), some (sv (lcr kk c r)), none]) ?_ ?_; focus exact rfl) | (refine Rg.sgG (σ' := [some (.ref a), some (.ref q), some (sv kk), some (sv (kb kk c)), some (sv (lcr kk c r)), none]) ?_ ?_; focus exact rfl)))
      refine ⟨fun σ Hm => σ = [some (.ref a), some (.ref q), some (sv kk), some (sv (kb kk c)), some (sv (lcr kk c r)), some (.bl (lgood kk c r))] ∧ Hm = H, ?_, ?_⟩
      · refine ⟨_, rfl, rfl, ?_⟩
        rw [dS0]
        refine ⟨_, rfl, ?_⟩
        have eg : (kk = 0 ∨ lcr kk c r = 6) → lgood kk c r = decide (kb kk c = 0 ∨ lcr kk c r = cc kk c) := fun z => by unfold lgood; rw [decide_eq_true z]; rfl
        have sec : (kk = 0 ∨ lcr kk c r = 6) → (tOrV (tOp rEq (tVar 3) (tC (V.str "F"))) (tOp rEq (tVar 4) (tCall (fun vs H Q x => ∃ k c r h g y a, vs = [V.ref a] ∧ StAt K H a [k, c, r, h, g, y] ∧ Q (sv (cc k c)) H) [] E0 (tCons (tVar 0) tNil))) : TE) [some (.ref a), some (.ref q), some (sv kk), some (sv (kb kk c)), some (sv (lcr kk c r)), none] H fun v H' => gName 5 v [some (.ref a), some (.ref q), some (sv kk), some (sv (kb kk c)), some (sv (lcr kk c r)), none] H' fun σ Hm => σ = [some (.ref a), some (.ref q), some (sv kk), some (sv (kb kk c)), some (sv (lcr kk c r)), some (.bl (lgood kk c r))] ∧ Hm = H := fun z => by
          refine ⟨_, rfl, rfl, ?_⟩
          rw [dS0]
          refine ⟨_, rfl, ?_⟩
          refine iteS (p := kb kk c = 0) rfl (fun h5 => ?_) fun h5 => ?_
          · exact ⟨by rw [eg z, decide_eq_true (show kb kk c = 0 ∨ lcr kk c r = cc kk c from .inl h5)]; rfl, rfl⟩
          · refine ⟨_, rfl, _, rfl, kk, c, r, h, g, y, a, rfl, ht, rfl, ?_⟩
            rw [dSg (cc_lt kk c)]
            have e5 : decide (kb kk c = 0 ∨ lcr kk c r = cc kk c) = decide (lcr kk c r = cc kk c) := decide_eq_decide.mpr ⟨fun q => q.elim (fun z => absurd z h5) id, .inr⟩
            exact ⟨by rw [eg z, e5]; rfl, rfl⟩
        refine iteS (p := kk = 0) rfl (fun h3 => ?_) fun h3 => ?_
        · exact ⟨_, rfl, iteT (sec (.inl h3))⟩
        refine ⟨_, rfl, rfl, ?_⟩
        rw [dS6]
        refine ⟨_, rfl, ?_⟩
        refine iteS (p := lcr kk c r = 6) rfl (fun h4 => ?_) fun h4 => ?_
        · exact sec (.inr h4)
        · exact ⟨by unfold lgood; rw [decide_eq_false (fun z : kk = 0 ∨ lcr kk c r = 6 => z.elim h3 h4)]; rfl, rfl⟩
      rintro σ Hm ⟨rfl, rfl⟩
      refine ⟨_, rfl, _, rfl, ?_⟩
      refine iteS (p := lgood kk c r = true) (by cases lgood kk c r <;> rfl) (fun h5 => ?_) fun h5 => ?_
      · exact casQ k (by unfold lwl; rw [if_pos h1, h5]; rfl)
      · refine ⟨_, rfl, q, _, rfl, .inl hB, rfl, flat_str, ?_⟩
        rw [nmIn]
        have h5 : lgood kk c r = false := by simpa using h5
        exact casQ k (by unfold lwl; rw [if_pos h1, h5]; rfl)
    refine ⟨_, rfl, a, _, 1, sv c, rfl, rfl, ht, atI_nat (j := 1) rfl, rfl, _, rfl, ?_⟩
    (refine iteS (by first | exact dS0 _ | exact dS1 _ | exact dS2 _ | exact dS3 _ | exact dS4 _ | exact dS5 _ | exact dS6 _ | exact dS7 _ | exact dS8 _ | exact dS9 _ | exact dS10 _ | exact dS11 _ | exact nS0 _ | exact nS1 _ | exact nS2 _ | exact nS3 _ | exact nS4 _ | exact nS5 _ | exact nS6 _ | exact nS7 _ | exact in34 _ | exact in012 _ | exact in51 _ | exact in512 _) (fun h2 => ?_) fun h2 => ?_)
    · exact iteT (casQ k (by unfold lwl; rw [if_neg h1, if_pos (.inl h2)]))
    refine ⟨_, rfl, rfl, _, rfl, ?_⟩
    (refine iteS (by first | exact dS0 _ | exact dS1 _ | exact dS2 _ | exact dS3 _ | exact dS4 _ | exact dS5 _ | exact dS6 _ | exact dS7 _ | exact dS8 _ | exact dS9 _ | exact dS10 _ | exact dS11 _ | exact nS0 _ | exact nS1 _ | exact nS2 _ | exact nS3 _ | exact nS4 _ | exact nS5 _ | exact nS6 _ | exact nS7 _ | exact in34 _ | exact in012 _ | exact in51 _ | exact in512 _) (fun h3 => ?_) fun h3 => ?_)
    · exact casQ k (by unfold lwl; rw [if_neg h1, if_pos (.inr h3)])
    have e0 : lwl B kk c r = decide (kk = 0 ∨ c = 4 ∨ ¬ ("late" : Str) ∈ B) := by unfold lwl; rw [if_neg h1, if_neg (fun z => z.elim h2 h3)]
    refine ⟨_, rfl, rfl, ?_⟩
    rw [dS0]
    refine ⟨_, rfl, ?_⟩
    refine iteS (p := kk = 0) rfl (fun h4 => ?_) fun h4 => ?_
    · exact casQ k (by rw [e0, decide_eq_true (.inl h4)])
    refine ⟨_, rfl, a, _, 1, sv c, rfl, rfl, ht, atI_nat (j := 1) rfl, rfl, ?_⟩
    rw [dS4]
    refine ⟨_, rfl, ?_⟩
    refine iteS (p := c = 4) rfl (fun h5 => ?_) fun h5 => ?_
    · exact casQ k (by rw [e0, decide_eq_true (.inr (.inl h5))])
    refine ⟨_, rfl, q, _, rfl, .inl hB, rfl, flat_str, ?_⟩
    rw [nmIn]
    exact casQ k (by rw [e0]; exact congrArg _ (decide_eq_decide.mpr ⟨fun z => z.elim (fun q => absurd q h4) fun z => z.elim (fun q => absurd q h5) id, fun z => .inr (.inr z)⟩))
end
end K52
namespace K52
open PySem PySem.Spec PyProof.Rows L2 Rg CwR
def llog (B : List Str) (k c g y : Nat) : Nat := if c = 4 then g else if c = 5 ∨ c = 1 then (if struckM B k c = true ∧ ¬ ("lapse" : Str) ∈ B then 3 else if y = 10 then 6 else 9) else if struckM B k c = true then 3 else if g = 6 then 9 else g
def lhome (c h : Nat) : Nat := if h = 6 ∧ ¬ c = 4 then 9 else if h = 7 then 6 else h
def lmark (B : List Str) (k c r h g y : Nat) : List Nat := [kb k c, 3, r, lhome c h, llog B k c g y, 3]
def sp6 (n : Nat) : Nat := if n = 8 then 9 else n
/-- a new standing -/
def NS (K : PySem.W.Frag) (H : Hp) (Q : VK) (l : List Nat) : Prop := ∀ H' x, Same H H' → StAt K H' x l → Q (.ref x) H'
theorem NS.yes {K : PySem.W.Frag} {H H' : Hp} {Q : VK} {l l' : List Nat} {x : Addr} (k : NS K H Q l) (e : l = l') (s : Same H H') (h : SqT K H' x (l'.map sv)) : Q (.ref x) H' := by subst e; exact k H' x s h
def lbeh (i : Fin 12) (B : List Str) (k c r h g y : Nat) : List Nat := match i with
  | 0 => [k, c, 1, h, g, y]
  | 1 => [k, c, 2, h, g, y]
  | 2 => [k, c, if r = 4 then 5 else r, sp6 h, g, y]
  | 3 => if kb k c = 0 then [k, c, 4, sp6 h, g, y] else [k, c, 0, sp6 h, g, y]
  | 4 => [k, r, 4, if h = 8 then 7 else h, g, 3]
  | 5 => if ("frozen" : Str) ∈ B ∨ r = 4 then [k, c, r, h, g, 10] else [k, c, r, h, g, 11]
  | 6 => lmark B k c r h g y
  | 7 => [k, c, r, 6, g, y]
  | 8 => [k, c, r, lcr k c r, g, y]
  | 9 => if lkr k c r = 2 then [k, c, r, lcr k c r, g, y] else [k, c, r, cc k c, g, y]
  | 10 => [k, c, r, h, 3, y]
  | 11 => if c = 3 ∧ r = 4 then [k, c, r, h, g, y] else [12]
theorem dL0 (j : Fin 12) : decide (V.str (lt j) = V.str "takel") = decide (j = 0) := by revert j; decide +kernel
theorem dL1 (j : Fin 12) : decide (V.str (lt j) = V.str "takep") = decide (j = 1) := by revert j; decide +kernel
theorem dL2 (j : Fin 12) : decide (V.str (lt j) = V.str "change") = decide (j = 2) := by revert j; decide +kernel
theorem dL3 (j : Fin 12) : decide (V.str (lt j) = V.str "free") = decide (j = 3) := by revert j; decide +kernel
theorem dL4 (j : Fin 12) : decide (V.str (lt j) = V.str "close") = decide (j = 4) := by revert j; decide +kernel
theorem dL5 (j : Fin 12) : decide (V.str (lt j) = V.str "copy") = decide (j = 5) := by revert j; decide +kernel
theorem dL6 (j : Fin 12) : decide (V.str (lt j) = V.str "mark") = decide (j = 6) := by revert j; decide +kernel
theorem dL7 (j : Fin 12) : decide (V.str (lt j) = V.str "home") = decide (j = 7) := by revert j; decide +kernel
theorem dL8 (j : Fin 12) : decide (V.str (lt j) = V.str "early") = decide (j = 8) := by revert j; decide +kernel
theorem dL9 (j : Fin 12) : decide (V.str (lt j) = V.str "words") = decide (j = 9) := by revert j; decide +kernel
theorem dL10 (j : Fin 12) : decide (V.str (lt j) = V.str "room") = decide (j = 10) := by revert j; decide +kernel
section
variable {P : Program} {w : World} {K : PySem.W.Frag} {mg : Str → Option Value} {base : Heap}
theorem ok_Llog (T : Tx K mg) : FnOk P w K mg base CX0 1 T.f_Llog T.fd_Llog ["_law_s", "_law_names_here"] (fun vs H Q _ => ∃ (B : List Str) (k c r h g y : Nat) (a q : Addr), vs = [.ref a, .ref q] ∧ StAt K H a [k, c, r, h, g, y] ∧ NmAt K H q B ∧ Q (sv (llog B k c g y)) H) := by
  refine fun_okT T.F_Llog sc_Llog (by decide +kernel) (by decide) (fun vs H Q E h => ?_) (fun cdv A0 outer s H vs Q E hr h => ?_)
  · obtain ⟨_, _, _, _, _, _, _, _, _, rfl, _⟩ := h; rfl
  · obtain ⟨B, kk, c, r, h, g, y, a, q, rfl, ht, hB, k⟩ := h
    try dsimp only at k
    refine ⟨_, (psst_cons (PST.of (ps_asg (pv 0) (pg_tup rfl (pgs_cons (pg_name (i := 2) sc_Llog.nd rfl (.inl rfl)) (pgs_cons (pg_name (i := 3) sc_Llog.nd rfl (.inl rfl)) (pgs_cons (pg_name (i := 4) sc_Llog.nd rfl (.inl rfl)) (pgs_cons (pg_name (i := 5) sc_Llog.nd rfl (.inl rfl)) (pgs_cons (pg_name (i := 6) sc_Llog.nd rfl (.inl rfl)) (pgs_cons (pg_name (i := 7) sc_Llog.nd rfl (.inl rfl)) pgs_nil)))))))))
      (psst_cut (PST.of (ps_set (i := 8) sc_Llog.nd rfl (.inl rfl) (pe_and (pe_cmpR op_eq (pv 2) pe_str (nomark _)) (pe_and (pe_cmpR op_in_str (pv 3) pe_str rfl) (pe_one (pe_cmpR op_in_seq pe_str (pv 1) rfl))))))
      (psst_cons (PST.of (ps_if (pt_cmpR op_eq (pv 3) pe_str (nomark _))
        (pss_one (ps_ret (pv 6)))
        pss_nil))
      (psst_cut (PST.of (ps_if (PW.pt (pw_or (pt_cmpR op_eq (pv 3) pe_str (nomark _)) (pw_or1 (pt_cmpR op_eq (pv 3) pe_str (nomark _)))))
        (pss_cons (ps_if (PW.pt (pw_and (pt_val (pv 8)) (pw_and1 (pt_cmpR op_notIn_seq pe_str (pv 1) rfl))))
          (pss_one (ps_ret pe_str))
          pss_nil)
        (pss_cons (ps_if (pt_cmpR op_eq (pv 7) pe_str (nomark _))
          (pss_one (ps_ret pe_str))
          pss_nil)
        (pss_one (ps_ret pe_str))))
        pss_nil))
      (psst_cons (PST.of (ps_if (pt_val (pv 8))
        (pss_one (ps_ret pe_str))
        pss_nil))
      (psst_one (pst_ret (pet_replC (pv 6))))))))), ?_⟩
    refine ⟨_, rfl, a, _, rfl, ht, rfl, _, _, rfl, _, _, rfl, _, _, rfl, _, _, rfl, _, _, rfl, _, _, rfl, rfl, ?_⟩
    refine ⟨fun σ Hm => σ = [some (.ref a), some (.ref q), some (sv kk), some (sv c), some (sv r), some (sv h), some (sv g), some (sv y), some (.bl (struckM B kk c))] ∧ Hm = H, ?_, ?_⟩
    · refine ⟨_, rfl, rfl, ?_⟩
      rw [dS1]
      refine ⟨_, rfl, ?_⟩
      cases e1 : decide (kk = 1) with
      | false => exact iteF ⟨by unfold struckM; rw [e1]; rfl, rfl⟩
      | true =>
        refine iteT ⟨_, rfl, sg c, "FLP", rfl, rfl, ?_⟩
        rw [show (!(Builtin.Str.occurrences ("FLP" : Str) (sg c) 0 ("FLP" : Str).length 1).isEmpty) = decide (c ∈ [0, 1, 2]) from occ_flp c]
        refine ⟨_, rfl, ?_⟩
        cases e2 : decide (c ∈ [0, 1, 2]) with
        | false => exact iteF ⟨by unfold struckM; rw [e1, e2]; rfl, rfl⟩
        | true => exact iteT ⟨_, rfl, q, _, rfl, .inl hB, rfl, flat_str, by rw [nmI]; unfold struckM; rw [e1, e2]; rfl, rfl⟩
    rintro σ H2 ⟨rfl, rfl⟩
    refine ⟨_, rfl, rfl, _, rfl, ?_⟩
    (refine iteS (by first | exact dS0 _ | exact dS1 _ | exact dS2 _ | exact dS3 _ | exact dS4 _ | exact dS5 _ | exact dS6 _ | exact dS7 _ | exact dS8 _ | exact dS9 _ | exact dS10 _ | exact dS11 _ | exact nS0 _ | exact nS1 _ | exact nS2 _ | exact nS3 _ | exact nS4 _ | exact nS5 _ | exact nS6 _ | exact nS7 _ | exact in34 _ | exact in012 _ | exact in51 _ | exact in512 _) (fun h1 => ?_) fun h1 => ?_)
    · exact ⟨_, rfl, casQ k (by unfold llog; rw [if_pos h1])⟩
    have e0 : (c = 5 ∨ c = 1) → llog B kk c g y = (if struckM B kk c = true ∧ ¬ ("lapse" : Str) ∈ B then 3 else if y = 10 then 6 else 9) := by
      intro z
      unfold llog
      rw [if_neg h1, if_pos z]
    refine ⟨fun σ Hm => σ = [some (.ref a), some (.ref q), some (sv kk), some (sv c), some (sv r), some (sv h), some (sv g), some (sv y), some (.bl (struckM B kk c))] ∧ Hm = H2 ∧ ¬ (c = 5 ∨ c = 1), ?_, ?_⟩
    · refine ⟨_, rfl, rfl, _, rfl, ?_⟩
      (refine iteS (by first | exact dS0 _ | exact dS1 _ | exact dS2 _ | exact dS3 _ | exact dS4 _ | exact dS5 _ | exact dS6 _ | exact dS7 _ | exact dS8 _ | exact dS9 _ | exact dS10 _ | exact dS11 _ | exact nS0 _ | exact nS1 _ | exact nS2 _ | exact nS3 _ | exact nS4 _ | exact nS5 _ | exact nS6 _ | exact nS7 _ | exact in34 _ | exact in012 _ | exact in51 _ | exact in512 _) (fun h2 => ?_) fun h2 => ?_)
      · have z : c = 5 ∨ c = 1 := .inl h2
        refine iteT ?_
        refine ⟨_, rfl, _, rfl, ?_⟩
        refine iteS (p := struckM B kk c = true) (by cases struckM B kk c <;> rfl) (fun h5 => ?_) fun h5 => ?_
        · refine ⟨_, rfl, q, _, rfl, .inl hB, rfl, flat_str, ?_⟩
          rw [nmIn]
          refine ⟨_, rfl, ?_⟩
          refine iteS (p := ¬ ("lapse" : Str) ∈ B) rfl (fun h6 => ?_) fun h6 => ?_
          · exact casQ k (by rw [e0 z, if_pos ⟨h5, h6⟩]; rfl)
          · refine ⟨_, rfl, rfl, _, rfl, ?_⟩
            (refine iteS (by first | exact dS0 _ | exact dS1 _ | exact dS2 _ | exact dS3 _ | exact dS4 _ | exact dS5 _ | exact dS6 _ | exact dS7 _ | exact dS8 _ | exact dS9 _ | exact dS10 _ | exact dS11 _ | exact nS0 _ | exact nS1 _ | exact nS2 _ | exact nS3 _ | exact nS4 _ | exact nS5 _ | exact nS6 _ | exact nS7 _ | exact in34 _ | exact in012 _ | exact in51 _ | exact in512 _) (fun h7 => ?_) fun h7 => ?_)
            · exact casQ k (by rw [e0 z, if_neg (fun z => h6 z.2), if_pos h7]; rfl)
            · exact casQ k (by rw [e0 z, if_neg (fun z => h6 z.2), if_neg h7]; rfl)
        · refine iteF ⟨_, rfl, rfl, _, rfl, ?_⟩
          (refine iteS (by first | exact dS0 _ | exact dS1 _ | exact dS2 _ | exact dS3 _ | exact dS4 _ | exact dS5 _ | exact dS6 _ | exact dS7 _ | exact dS8 _ | exact dS9 _ | exact dS10 _ | exact dS11 _ | exact nS0 _ | exact nS1 _ | exact nS2 _ | exact nS3 _ | exact nS4 _ | exact nS5 _ | exact nS6 _ | exact nS7 _ | exact in34 _ | exact in012 _ | exact in51 _ | exact in512 _) (fun h7 => ?_) fun h7 => ?_)
          · exact casQ k (by rw [e0 z, if_neg (fun z => h5 z.1), if_pos h7]; rfl)
          · exact casQ k (by rw [e0 z, if_neg (fun z => h5 z.1), if_neg h7]; rfl)
      refine ⟨_, rfl, rfl, _, rfl, ?_⟩
      (refine iteS (by first | exact dS0 _ | exact dS1 _ | exact dS2 _ | exact dS3 _ | exact dS4 _ | exact dS5 _ | exact dS6 _ | exact dS7 _ | exact dS8 _ | exact dS9 _ | exact dS10 _ | exact dS11 _ | exact nS0 _ | exact nS1 _ | exact nS2 _ | exact nS3 _ | exact nS4 _ | exact nS5 _ | exact nS6 _ | exact nS7 _ | exact in34 _ | exact in012 _ | exact in51 _ | exact in512 _) (fun h3 => ?_) fun h3 => ?_)
      · have z : c = 5 ∨ c = 1 := .inr h3
        refine ⟨_, rfl, _, rfl, ?_⟩
        refine iteS (p := struckM B kk c = true) (by cases struckM B kk c <;> rfl) (fun h5 => ?_) fun h5 => ?_
        · refine ⟨_, rfl, q, _, rfl, .inl hB, rfl, flat_str, ?_⟩
          rw [nmIn]
          refine ⟨_, rfl, ?_⟩
          refine iteS (p := ¬ ("lapse" : Str) ∈ B) rfl (fun h6 => ?_) fun h6 => ?_
          · exact casQ k (by rw [e0 z, if_pos ⟨h5, h6⟩]; rfl)
          · refine ⟨_, rfl, rfl, _, rfl, ?_⟩
            (refine iteS (by first | exact dS0 _ | exact dS1 _ | exact dS2 _ | exact dS3 _ | exact dS4 _ | exact dS5 _ | exact dS6 _ | exact dS7 _ | exact dS8 _ | exact dS9 _ | exact dS10 _ | exact dS11 _ | exact nS0 _ | exact nS1 _ | exact nS2 _ | exact nS3 _ | exact nS4 _ | exact nS5 _ | exact nS6 _ | exact nS7 _ | exact in34 _ | exact in012 _ | exact in51 _ | exact in512 _) (fun h7 => ?_) fun h7 => ?_)
            · exact casQ k (by rw [e0 z, if_neg (fun z => h6 z.2), if_pos h7]; rfl)
            · exact casQ k (by rw [e0 z, if_neg (fun z => h6 z.2), if_neg h7]; rfl)
        · refine iteF ⟨_, rfl, rfl, _, rfl, ?_⟩
          (refine iteS (by first | exact dS0 _ | exact dS1 _ | exact dS2 _ | exact dS3 _ | exact dS4 _ | exact dS5 _ | exact dS6 _ | exact dS7 _ | exact dS8 _ | exact dS9 _ | exact dS10 _ | exact dS11 _ | exact nS0 _ | exact nS1 _ | exact nS2 _ | exact nS3 _ | exact nS4 _ | exact nS5 _ | exact nS6 _ | exact nS7 _ | exact in34 _ | exact in012 _ | exact in51 _ | exact in512 _) (fun h7 => ?_) fun h7 => ?_)
          · exact casQ k (by rw [e0 z, if_neg (fun z => h5 z.1), if_pos h7]; rfl)
          · exact casQ k (by rw [e0 z, if_neg (fun z => h5 z.1), if_neg h7]; rfl)
      · exact ⟨rfl, rfl, fun z => z.elim h2 h3⟩
    rintro σ Hm ⟨rfl, rfl, hn⟩
    refine ⟨_, rfl, _, rfl, ?_⟩
    refine iteS (p := struckM B kk c = true) (by cases struckM B kk c <;> rfl) (fun h5 => ?_) fun h5 => ?_
    · exact casQ k (by unfold llog; rw [if_neg h1, if_neg hn, if_pos h5]; rfl)
    refine ⟨_, rfl, sg g, rfl, rep_ok g (by decide), ?_⟩
    rw [rep_ko]
    exact casQ k (by unfold llog; rw [if_neg h1, if_neg hn, if_neg h5])
theorem ok_Lmarked (T : Tx K mg) : FnOk P w K mg base CX0 2 T.f_Lmarked T.fd_Lmarked ["_law_s", "_law_names_here"] (fun vs H Q _ => ∃ (B : List Str) (k c r h g y : Nat) (a q : Addr), vs = [.ref a, .ref q] ∧ StAt K H a [k, c, r, h, g, y] ∧ NmAt K H q B ∧ NS K H Q (lmark B k c r h g y)) := by
  refine T.F_Lmarked.ok sc_Lmarked (fun vs H Q E h => ?_) (fun cdv A0 outer s H vs Q E hr h => ?_)
  · obtain ⟨_, _, _, _, _, _, _, _, _, rfl, _⟩ := h; rfl
  · obtain ⟨B, kk, c, r, h, g, y, a, q, rfl, ht, hB, k⟩ := h
    try dsimp only at k
    refine ⟨_, (pss_cons (ps_asg (pv 0) (pg_tup rfl (pgs_cons (pg_name (i := 2) sc_Lmarked.nd rfl (.inl rfl)) (pgs_cons (pg_name (i := 3) sc_Lmarked.nd rfl (.inl rfl)) (pgs_cons (pg_name (i := 4) sc_Lmarked.nd rfl (.inl rfl)) (pgs_cons (pg_name (i := 5) sc_Lmarked.nd rfl (.inl rfl)) (pgs_cons (pg_name (i := 6) sc_Lmarked.nd rfl (.inl rfl)) (pgs_cons (pg_name (i := 7) sc_Lmarked.nd rfl (.inl rfl)) pgs_nil))))))))
      (pss_cons (ps_set (i := 8) sc_Lmarked.nd rfl (.inl rfl) (pv 5))
      (Evl.pss_cut (ps_if (pt_cmpR op_eq (pv 5) pe_str (nomark _))
        (pss_one (ps_set (i := 8) sc_Lmarked.nd rfl (.inl rfl) pe_str))
        pss_nil)
      (Evl.pss_cut (ps_if (PW.pt (pw_and (pt_cmpR op_eq (pv 5) pe_str (nomark _)) (pw_and1 (pt_cmpR op_ne (pv 3) pe_str (nomark _)))))
        (pss_one (ps_set (i := 8) sc_Lmarked.nd rfl (.inl rfl) pe_str))
        pss_nil)
      (pss_one (ps_ret (pe_tup (pa_cons (pe_call (ok_Lkind_c T) (hr.mono (by decide)) rfl T.mg_Lkind_c T.F_Lkind_c.kp (b_Lkind_c T) .nil pass0 (pa_cons (pv 2) (pa_cons (pv 3) pa_nil))) (pa_cons pe_str (pa_cons (pv 4) (pa_cons (pv 8) (pa_cons (pe_call (ok_Llog T) (hr.mono (by decide)) rfl T.mg_Llog T.F_Llog.kp (b_Llog T) .nil pass0 (pa_cons (pv 0) (pa_cons (pv 1) pa_nil))) (pa_cons pe_str pa_nil))))))))))))), ?_⟩
    refine ⟨_, rfl, a, _, rfl, ht, rfl, _, _, rfl, _, _, rfl, _, _, rfl, _, _, rfl, _, _, rfl, _, _, rfl, rfl, ?_⟩
    refine ⟨_, rfl, ?_⟩
    obtain ⟨h0, e0⟩ : ∃ h0, h0 = if h = 7 then 6 else h := ⟨_, rfl⟩
    refine ⟨fun σ Hm => σ = [some (.ref a), some (.ref q), some (sv kk), some (sv c), some (sv r), some (sv h), some (sv g), some (sv y), some (sv (h0))] ∧ Hm = H, ?_, ?_⟩
    · refine ⟨_, rfl, rfl, _, rfl, ?_⟩
      (refine iteS (by first | exact dS0 _ | exact dS1 _ | exact dS2 _ | exact dS3 _ | exact dS4 _ | exact dS5 _ | exact dS6 _ | exact dS7 _ | exact dS8 _ | exact dS9 _ | exact dS10 _ | exact dS11 _ | exact nS0 _ | exact nS1 _ | exact nS2 _ | exact nS3 _ | exact nS4 _ | exact nS5 _ | exact nS6 _ | exact nS7 _ | exact in34 _ | exact in012 _ | exact in51 _ | exact in512 _) (fun h1 => ?_) fun h1 => ?_)
      · exact ⟨by rw [e0, if_pos h1]; rfl, rfl⟩
      · exact ⟨by rw [e0, if_neg h1]; rfl, rfl⟩
    have eh : lhome c h = if h = 6 ∧ ¬ c = 4 then 9 else h0 := by unfold lhome; rw [e0]
    rintro σ H2 ⟨rfl, rfl⟩
    refine ⟨fun σ Hm => σ = [some (.ref a), some (.ref q), some (sv kk), some (sv c), some (sv r), some (sv h), some (sv g), some (sv y), some (sv (lhome c h))] ∧ Hm = H2, ?_, ?_⟩
    · refine ⟨_, rfl, rfl, _, rfl, ?_⟩
      (refine iteS (by first | exact dS0 _ | exact dS1 _ | exact dS2 _ | exact dS3 _ | exact dS4 _ | exact dS5 _ | exact dS6 _ | exact dS7 _ | exact dS8 _ | exact dS9 _ | exact dS10 _ | exact dS11 _ | exact nS0 _ | exact nS1 _ | exact nS2 _ | exact nS3 _ | exact nS4 _ | exact nS5 _ | exact nS6 _ | exact nS7 _ | exact in34 _ | exact in012 _ | exact in51 _ | exact in512 _) (fun h1 => ?_) fun h1 => ?_)
      · refine ⟨_, rfl, rfl, _, rfl, ?_⟩
        (refine iteS (by first | exact dS0 _ | exact dS1 _ | exact dS2 _ | exact dS3 _ | exact dS4 _ | exact dS5 _ | exact dS6 _ | exact dS7 _ | exact dS8 _ | exact dS9 _ | exact dS10 _ | exact dS11 _ | exact nS0 _ | exact nS1 _ | exact nS2 _ | exact nS3 _ | exact nS4 _ | exact nS5 _ | exact nS6 _ | exact nS7 _ | exact in34 _ | exact in012 _ | exact in51 _ | exact in512 _) (fun h2 => ?_) fun h2 => ?_)
        · exact ⟨by rw [eh, if_pos ⟨h1, h2⟩]; rfl, rfl⟩
        · exact ⟨by rw [eh, if_neg (fun z => h2 z.2)], rfl⟩
      · exact iteF ⟨by rw [eh, if_neg (fun z => h1 z.1)], rfl⟩
    rintro σ H3 ⟨rfl, rfl⟩
    refine ⟨_, rfl, _, rfl, kk, c, rfl, _, rfl, _, rfl, _, rfl, _, rfl, B, kk, c, r, h, g, y, a, q, rfl, ht, hB, sz6, ?_⟩
    (intro t n_t; generalize he_t : upd _ t _ = H4; obtain ⟨e_t, s_t, f_t⟩ := new_f he_t n_t; clear he_t)
    exact k.yes rfl s_t (.of e_t)
end
end K52
namespace Rg
open PySem PySem.Spec PyProof.Rows L2
/-! ### a value that is a truth, the heap untouched -/
def PB (te : TE) (σ : L2.St) (H : Hp) (b : Bool) : Prop := ∀ Q : VK, Q (.bl b) H → te σ H Q
section
variable {ta tb : TE} {σ : L2.St} {H : Hp} {a b : Bool}
theorem PB.run {Q : VK} (h : PB ta σ H a) (k : Q (.bl a) H) : ta σ H Q := h Q k
theorem PB.and (h1 : PB ta σ H a) (h2 : a = true → PB tb σ H b) : PB (tAndV ta tb) σ H (a && b) := fun Q k => h1 _ (by
  refine ⟨_, rfl, ?_⟩
  cases a with
  | true => exact iteT (h2 rfl Q k)
  | false => exact iteF k)
theorem PB.or (h1 : PB ta σ H a) (h2 : a = false → PB tb σ H b) : PB (tOrV ta tb) σ H (a || b) := fun Q k => h1 _ (by
  refine ⟨_, rfl, ?_⟩
  cases a with
  | true => exact iteT k
  | false => exact iteF (h2 rfl Q k))
theorem PB.not (h : PB ta σ H a) : PB (tNotV ta) σ H (!a) := fun _ k => h _ ⟨_, rfl, k⟩
theorem PB.var {i : Nat} (h : σ[i]? = some (some (.bl a))) : PB (tVar i) σ H a := fun _ k => ⟨_, h, k⟩
theorem PB.eqC {i : Nat} {x y : Str} {p : Prop} [Decidable p] (h : σ[i]? = some (some (.str x))) (e : decide (V.str x = V.str y) = decide p) : PB (tOp rEq (tVar i) (tC (.str y))) σ H (decide p) := fun _ k => ⟨_, h, rfl, by rw [e]; exact k⟩
theorem PB.neC {i : Nat} {x y : Str} {p : Prop} [Decidable p] (h : σ[i]? = some (some (.str x))) (e : (!decide (V.str x = V.str y)) = decide p) : PB (tOp rNe (tVar i) (tC (.str y))) σ H (decide p) := fun _ k => ⟨_, h, rfl, by rw [e]; exact k⟩
theorem PB.eqS {te : TE} {x y : Str} {p : Prop} [Decidable p] (h : ∀ Q : VK, Q (.str x) H → te σ H Q) (e : decide (V.str x = V.str y) = decide p) : PB (tOp rEq te (tC (.str y))) σ H (decide p) := fun _ k => h _ ⟨rfl, by rw [e]; exact k⟩
theorem PB.neS {te : TE} {x y : Str} {p : Prop} [Decidable p] (h : ∀ Q : VK, Q (.str x) H → te σ H Q) (e : (!decide (V.str x = V.str y)) = decide p) : PB (tOp rNe te (tC (.str y))) σ H (decide p) := fun _ k => h _ ⟨rfl, by rw [e]; exact k⟩
theorem PB.of (h : PB ta σ H a) (e : a = b) : PB ta σ H b := e ▸ h
end
end Rg
namespace K52
open PySem PySem.Spec PyProof.Rows L2 Rg CwR
theorem last11 (i : Fin 12) (h0 : ¬ i = 0) (h1 : ¬ i = 1) (h2 : ¬ i = 2) (h3 : ¬ i = 3) (h4 : ¬ i = 4) (h5 : ¬ i = 5) (h6 : ¬ i = 6) (h7 : ¬ i = 7) (h8 : ¬ i = 8) (h9 : ¬ i = 9) (h10 : ¬ i = 10) : i = 11 := by
  have a0 : i.val ≠ 0 := fun e => h0 (Fin.ext e)
  have a1 : i.val ≠ 1 := fun e => h1 (Fin.ext e)
  have a2 : i.val ≠ 2 := fun e => h2 (Fin.ext e)
  have a3 : i.val ≠ 3 := fun e => h3 (Fin.ext e)
  have a4 : i.val ≠ 4 := fun e => h4 (Fin.ext e)
  have a5 : i.val ≠ 5 := fun e => h5 (Fin.ext e)
  have a6 : i.val ≠ 6 := fun e => h6 (Fin.ext e)
  have a7 : i.val ≠ 7 := fun e => h7 (Fin.ext e)
  have a8 : i.val ≠ 8 := fun e => h8 (Fin.ext e)
  have a9 : i.val ≠ 9 := fun e => h9 (Fin.ext e)
  have a10 : i.val ≠ 10 := fun e => h10 (Fin.ext e)
  have := i.isLt
  exact Fin.ext (show i.val = 11 by omega)
def ldue (c : Nat) : Bool := decide (c = 5) || decide (c = 1)
def lheld (B : List Str) (c y : Nat) : Bool := decide (("wait" : Str) ∈ B) && (ldue c && decide (y = 3))
def llet (i : Fin 12) (B : List Str) (k c r h g y : Nat) : Bool := match i with
  | 0 => decide (lkr k c r = 0)
  | 1 => decide (lkr k c r = 0) && ((decide (¬ ("reuse" : Str) ∈ B) || (decide (k = 0) && decide (kb k c = 0))) && (decide (¬ ("shelve" : Str) ∈ B) || decide (g = 3)))
  | 2 => decide (lkr k c r = 1) && !lheld B c y
  | 3 => decide (¬ lkr k c r = 0) && !lheld B c y
  | 4 => decide (c = 3)
  | 5 => ldue c && decide (y = 3)
  | 6 => decide (¬ c = 3) && ((decide (¬ ("copies" : Str) ∈ B) || (!ldue c || decide (¬ y = 3))) && (decide (¬ ("words" : Str) ∈ B) || (decide (¬ c = 2) || decide (h = 7))))
  | 7 => decide (k = 1)
  | 8 => decide (lkr k c r = 1) && (decide (¬ lcr k c r = 6) && decide (¬ ("mark" : Str) ∈ B))
  | 9 => lwl B k c r
  | 10 => decide (¬ g = 3) && (decide (¬ ("room" : Str) ∈ B) || (decide (¬ g = 6) || decide (h = 6)))
  | 11 => decide (¬ ("told" : Str) ∈ B) || (decide (c = 3) && decide (r = 4))
theorem PB.nm {K : PySem.W.Frag} {H : Hp} {q : Addr} {B : List Str} {z : Str} {σ : L2.St} {j : Nat} (hB : NmAt K H q B) (h : σ[j]? = some (some (.ref q))) : PB (tOp (rIn K true) (tC (.str z)) (tVar j)) σ H (decide (¬ z ∈ B)) := fun _ k => ⟨_, h, q, _, rfl, .inl hB, rfl, flat_str, by rw [nmIn]; exact k⟩
theorem PB.nmI {K : PySem.W.Frag} {H : Hp} {q : Addr} {B : List Str} {z : Str} {σ : L2.St} {j : Nat} (hB : NmAt K H q B) (h : σ[j]? = some (some (.ref q))) : PB (tOp (rIn K false) (tC (.str z)) (tVar j)) σ H (decide (z ∈ B)) := fun _ k => ⟨_, h, q, _, rfl, .inl hB, rfl, flat_str, by rw [K52.nmI]; exact k⟩
section
variable {P : Program} {w : World} {K : PySem.W.Frag} {mg : Str → Option Value} {base : Heap}
theorem ok_Llet (T : Tx K mg) : FnOk P w K mg base CX0 5 T.f_Llet T.fd_Llet ["_law_s", "_law_letter", "_law_names_here"] (fun vs H Q _ => ∃ (i : Fin 12) (B : List Str) (k c r h g y : Nat) (a q : Addr), vs = [.ref a, .str (lt i), .ref q] ∧ StAt K H a [k, c, r, h, g, y] ∧ NmAt K H q B ∧ Q (.bl (llet i B k c r h g y)) H) := by
  refine T.F_Llet.ok sc_Llet (fun vs H Q E h => ?_) (fun cdv A0 outer s H vs Q E hr h => ?_)
  · obtain ⟨_, _, _, _, _, _, _, _, _, _, rfl, _⟩ := h; rfl
  · obtain ⟨i, B, kk, c, r, h, g, y, a, q, rfl, ht, hB, k⟩ := h
    try dsimp only at k
    refine ⟨_, (pss_cons (ps_asg (pv 0) (pg_tup rfl (pgs_cons (pg_name (i := 3) sc_Llet.nd rfl (.inl rfl)) (pgs_cons (pg_name (i := 4) sc_Llet.nd rfl (.inl rfl)) (pgs_cons (pg_name (i := 5) sc_Llet.nd rfl (.inl rfl)) (pgs_cons (pg_name (i := 6) sc_Llet.nd rfl (.inl rfl)) (pgs_cons (pg_name (i := 7) sc_Llet.nd rfl (.inl rfl)) (pgs_cons (pg_name (i := 8) sc_Llet.nd rfl (.inl rfl)) pgs_nil))))))))
      (pss_cons (ps_set (i := 9) sc_Llet.nd rfl (.inl rfl) (pe_call (ok_Lkind_c T) (hr.mono (by decide)) rfl T.mg_Lkind_c T.F_Lkind_c.kp (b_Lkind_c T) .nil pass0 (pa_cons (pv 3) (pa_cons (pv 4) pa_nil))))
      (pss_cons (ps_set (i := 10) sc_Llet.nd rfl (.inl rfl) (pe_call (ok_Lkind_r T) (hr.mono (by decide)) rfl T.mg_Lkind_r T.F_Lkind_r.kp (b_Lkind_r T) .nil pass0 (pa_cons (pv 3) (pa_cons (pv 4) (pa_cons (pv 5) pa_nil)))))
      (pss_cons (ps_set (i := 11) sc_Llet.nd rfl (.inl rfl) (pe_or (pe_cmpR op_eq (pv 4) pe_str (nomark _)) (pe_one (pe_cmpR op_eq (pv 4) pe_str (nomark _)))))
      (pss_cons (ps_set (i := 12) sc_Llet.nd rfl (.inl rfl) (pe_and (pe_cmpR op_in_seq pe_str (pv 2) rfl) (pe_and (pv 11) (pe_one (pe_cmpR op_eq (pv 8) pe_str (nomark _))))))
      (pss_cons (ps_if (pt_cmpR op_eq (pv 1) pe_str (nomark _))
        (pss_one (ps_ret (pe_cmpR op_eq (pv 10) pe_str (nomark _))))
        pss_nil)
      (pss_cons (ps_if (pt_cmpR op_eq (pv 1) pe_str (nomark _))
        (pss_cons (ps_set (i := 13) sc_Llet.nd rfl (.inl rfl) (pe_or (pe_cmpR op_notIn_seq pe_str (pv 2) rfl) (pe_one (pe_and (pe_cmpR op_eq (pv 3) pe_str (nomark _)) (pe_one (pe_cmpR op_eq (pv 9) pe_str (nomark _)))))))
        (pss_one (ps_ret (pe_and (pe_cmpR op_eq (pv 10) pe_str (nomark _)) (pe_and (pv 13) (pe_one (pe_or (pe_cmpR op_notIn_seq pe_str (pv 2) rfl) (pe_one (pe_cmpR op_eq (pv 7) pe_str (nomark _))))))))))
        pss_nil)
      (pss_cons (ps_if (pt_cmpR op_eq (pv 1) pe_str (nomark _))
        (pss_one (ps_ret (pe_and (pe_cmpR op_eq (pv 10) pe_str (nomark _)) (pe_one (pe_not (pv 12))))))
        pss_nil)
      (pss_cons (ps_if (pt_cmpR op_eq (pv 1) pe_str (nomark _))
        (pss_one (ps_ret (pe_and (pe_cmpR op_ne (pv 10) pe_str (nomark _)) (pe_one (pe_not (pv 12))))))
        pss_nil)
      (pss_cons (ps_if (pt_cmpR op_eq (pv 1) pe_str (nomark _))
        (pss_one (ps_ret (pe_cmpR op_eq (pv 4) pe_str (nomark _))))
        pss_nil)
      (pss_cons (ps_if (pt_cmpR op_eq (pv 1) pe_str (nomark _))
        (pss_one (ps_ret (pe_and (pv 11) (pe_one (pe_cmpR op_eq (pv 8) pe_str (nomark _))))))
        pss_nil)
      (pss_cons (ps_if (pt_cmpR op_eq (pv 1) pe_str (nomark _))
        (pss_cons (ps_set (i := 13) sc_Llet.nd rfl (.inl rfl) (pe_and (pe_or (pe_cmpR op_notIn_seq pe_str (pv 2) rfl) (pe_or (pe_not (pv 11)) (pe_one (pe_cmpR op_ne (pv 8) pe_str (nomark _))))) (pe_one (pe_or (pe_cmpR op_notIn_seq pe_str (pv 2) rfl) (pe_or (pe_cmpR op_ne (pv 4) pe_str (nomark _)) (pe_one (pe_cmpR op_eq (pv 6) pe_str (nomark _))))))))
        (pss_one (ps_ret (pe_and (pe_cmpR op_ne (pv 4) pe_str (nomark _)) (pe_one (pv 13))))))
        pss_nil)
      (pss_cons (ps_if (pt_cmpR op_eq (pv 1) pe_str (nomark _))
        (pss_one (ps_ret (pe_cmpR op_eq (pv 3) pe_str (nomark _))))
        pss_nil)
      (pss_cons (ps_if (pt_cmpR op_eq (pv 1) pe_str (nomark _))
        (pss_one (ps_ret (pe_and (pe_cmpR op_eq (pv 10) pe_str (nomark _)) (pe_and (pe_cmpR op_ne (pe_call (ok_Lcontent_r T) (hr.mono (by decide)) rfl T.mg_Lcontent_r T.F_Lcontent_r.kp (b_Lcontent_r T) .nil pass0 (pa_cons (pv 0) pa_nil)) pe_str (nomark _)) (pe_one (pe_cmpR op_notIn_seq pe_str (pv 2) rfl))))))
        pss_nil)
      (pss_cons (ps_if (pt_cmpR op_eq (pv 1) pe_str (nomark _))
        (pss_one (ps_ret (pe_call (ok_Lwords_let T) (hr.mono (by decide)) rfl T.mg_Lwords_let T.F_Lwords_let.kp (b_Lwords_let T) .nil pass0 (pa_cons (pv 0) (pa_cons (pv 2) pa_nil)))))
        pss_nil)
      (pss_cons (ps_if (pt_cmpR op_eq (pv 1) pe_str (nomark _))
        (pss_one (ps_ret (pe_and (pe_cmpR op_ne (pv 7) pe_str (nomark _)) (pe_one (pe_or (pe_cmpR op_notIn_seq pe_str (pv 2) rfl) (pe_or (pe_cmpR op_ne (pv 7) pe_str (nomark _)) (pe_one (pe_cmpR op_eq (pv 6) pe_str (nomark _)))))))))
        pss_nil)
      (pss_one (ps_ret (pe_or (pe_cmpR op_notIn_seq pe_str (pv 2) rfl) (pe_one (pe_and (pe_cmpR op_eq (pv 4) pe_str (nomark _)) (pe_one (pe_cmpR op_eq (pv 5) pe_str (nomark _)))))))))))))))))))))))), ?_⟩
    refine ⟨_, rfl, a, _, rfl, ht, rfl, _, _, rfl, _, _, rfl, _, _, rfl, _, _, rfl, _, _, rfl, _, _, rfl, rfl, ?_⟩
    refine ⟨_, rfl, _, rfl, kk, c, rfl, ?_⟩
    refine ⟨_, rfl, _, rfl, _, rfl, kk, c, r, rfl, ?_⟩
    refine PB.run (PB.or (PB.eqC rfl (dS5 _)) fun _ => (PB.eqC rfl (dS1 _))) ?_
    refine PB.run (PB.and (PB.nmI hB rfl) fun _ => PB.and (PB.var rfl) fun _ => (PB.eqC rfl (dS3 _))) ?_
    refine (fun (z : _) => z) ?_
    ((try dsimp only); (first | (refine Rg.sg (σ' := [some (.ref a), some (.str (lt i)), some (.ref q), some (sv kk), some (sv c), some (sv r), some (sv h), some (sv g), some (sv y), some (sv (kb kk c)), some (sv (lkr kk c r)), some (.bl (ldue c)), some (.bl (lheld B c y)), none]) ?_ ?_; focus exact rfl) | (refine Rg.sgG (σ' := [some (.ref a), some (.str (lt i)), some (.ref q), some (sv kk), some (sv c), some (sv r), some (sv h), some (sv g), some (sv y), some (sv (kb kk c)), some (sv (lkr kk c r)), some (.bl (ldue c)), some (.bl (lheld B c y)), none]) ?_ ?_; focus exact rfl)))
    refine ⟨_, rfl, rfl, _, rfl, ?_⟩
    refine iteS (dL0 i) (fun h0 => ?_) fun h0 => ?_
    · subst h0
      exact PB.run (PB.eqC rfl (dS0 _)) k
    refine ⟨_, rfl, rfl, _, rfl, ?_⟩
    refine iteS (dL1 i) (fun h1 => ?_) fun h1 => ?_
    · subst h1
      refine PB.run (PB.or (PB.nm hB rfl) fun _ => PB.and (PB.eqC rfl (dS0 _)) fun _ => (PB.eqC rfl (dS0 _))) ?_
      exact PB.run (PB.and (PB.eqC rfl (dS0 _)) fun _ => PB.and (PB.var rfl) fun _ => PB.or (PB.nm hB rfl) fun _ => (PB.eqC rfl (dS3 _))) k
    refine ⟨_, rfl, rfl, _, rfl, ?_⟩
    refine iteS (dL2 i) (fun h2 => ?_) fun h2 => ?_
    · subst h2
      exact PB.run (PB.and (PB.eqC rfl (dS1 _)) fun _ => PB.not (PB.var rfl)) k
    refine ⟨_, rfl, rfl, _, rfl, ?_⟩
    refine iteS (dL3 i) (fun h3 => ?_) fun h3 => ?_
    · subst h3
      exact PB.run (PB.and (PB.neC rfl (nS0 _)) fun _ => PB.not (PB.var rfl)) k
    refine ⟨_, rfl, rfl, _, rfl, ?_⟩
    refine iteS (dL4 i) (fun h4 => ?_) fun h4 => ?_
    · subst h4
      exact PB.run (PB.eqC rfl (dS3 _)) k
    refine ⟨_, rfl, rfl, _, rfl, ?_⟩
    refine iteS (dL5 i) (fun h5 => ?_) fun h5 => ?_
    · subst h5
      exact PB.run (PB.and (PB.var rfl) fun _ => (PB.eqC rfl (dS3 _))) k
    refine ⟨_, rfl, rfl, _, rfl, ?_⟩
    refine iteS (dL6 i) (fun h6 => ?_) fun h6 => ?_
    · subst h6
      refine PB.run (PB.and (PB.or (PB.nm hB rfl) fun _ => PB.or (PB.not (PB.var rfl)) fun _ => (PB.neC rfl (nS3 _))) fun _ => PB.or (PB.nm hB rfl) fun _ => PB.or (PB.neC rfl (nS2 _)) fun _ => (PB.eqC rfl (dS7 _))) ?_
      exact PB.run (PB.and (PB.neC rfl (nS3 _)) fun _ => PB.var rfl) k
    refine ⟨_, rfl, rfl, _, rfl, ?_⟩
    refine iteS (dL7 i) (fun h7 => ?_) fun h7 => ?_
    · subst h7
      exact PB.run (PB.eqC rfl (dS1 _)) k
    refine ⟨_, rfl, rfl, _, rfl, ?_⟩
    refine iteS (dL8 i) (fun h8 => ?_) fun h8 => ?_
    · subst h8
      exact PB.run (PB.and (PB.eqC rfl (dS1 _)) fun _ => PB.and (PB.neS (fun Q k => ⟨_, rfl, kk, c, r, h, g, y, a, rfl, ht, k⟩) (nS6 _)) fun _ => PB.nm hB rfl) k
    refine ⟨_, rfl, rfl, _, rfl, ?_⟩
    refine iteS (dL9 i) (fun h9 => ?_) fun h9 => ?_
    · subst h9
      exact ⟨_, rfl, _, rfl, B, kk, c, r, h, g, y, a, q, rfl, ht, hB, k⟩
    refine ⟨_, rfl, rfl, _, rfl, ?_⟩
    refine iteS (dL10 i) (fun h10 => ?_) fun h10 => ?_
    · subst h10
      exact PB.run (PB.and (PB.neC rfl (nS3 _)) fun _ => PB.or (PB.nm hB rfl) fun _ => PB.or (PB.neC rfl (nS6 _)) fun _ => (PB.eqC rfl (dS6 _))) k
    obtain rfl := last11 i h0 h1 h2 h3 h4 h5 h6 h7 h8 h9 h10
    exact PB.run (PB.or (PB.nm hB rfl) fun _ => PB.and (PB.eqC rfl (dS3 _)) fun _ => (PB.eqC rfl (dS4 _))) k
theorem ok_Lbehind (T : Tx K mg) : FnOk P w K mg base CX0 4 T.f_Lbehind T.fd_Lbehind ["_law_s", "_law_letter", "_law_names_here"] (fun vs H Q _ => ∃ (i : Fin 12) (B : List Str) (k c r h g y : Nat) (a q : Addr), vs = [.ref a, .str (lt i), .ref q] ∧ StAt K H a [k, c, r, h, g, y] ∧ NmAt K H q B ∧ NS K H Q (lbeh i B k c r h g y)) := by
  refine fun_okT T.F_Lbehind sc_Lbehind (by decide +kernel) (by decide) (fun vs H Q E h => ?_) (fun cdv A0 outer s H vs Q E hr h => ?_)
  · obtain ⟨_, _, _, _, _, _, _, _, _, _, rfl, _⟩ := h; rfl
  · obtain ⟨i, B, kk, c, r, h, g, y, a, q, rfl, ht, hB, k⟩ := h
    try dsimp only at k
    refine ⟨_, (psst_cons (PST.of (ps_asg (pv 0) (pg_tup rfl (pgs_cons (pg_name (i := 3) sc_Lbehind.nd rfl (.inl rfl)) (pgs_cons (pg_name (i := 4) sc_Lbehind.nd rfl (.inl rfl)) (pgs_cons (pg_name (i := 5) sc_Lbehind.nd rfl (.inl rfl)) (pgs_cons (pg_name (i := 6) sc_Lbehind.nd rfl (.inl rfl)) (pgs_cons (pg_name (i := 7) sc_Lbehind.nd rfl (.inl rfl)) (pgs_cons (pg_name (i := 8) sc_Lbehind.nd rfl (.inl rfl)) pgs_nil)))))))))
      (psst_cons (pst_set (i := 9) sc_Lbehind.nd rfl (.inl rfl) (pet_replC (pv 6)))
      (psst_cons (PST.of (ps_if (pt_cmpR op_eq (pv 1) pe_str (nomark _))
        (pss_one (ps_ret (pe_tup (pa_cons (pv 3) (pa_cons (pv 4) (pa_cons pe_str (pa_cons (pv 6) (pa_cons (pv 7) (pa_cons (pv 8) pa_nil)))))))))
        pss_nil))
      (psst_cons (PST.of (ps_if (pt_cmpR op_eq (pv 1) pe_str (nomark _))
        (pss_one (ps_ret (pe_tup (pa_cons (pv 3) (pa_cons (pv 4) (pa_cons pe_str (pa_cons (pv 6) (pa_cons (pv 7) (pa_cons (pv 8) pa_nil)))))))))
        pss_nil))
      (psst_cons (pst_if (pt_cmpR op_eq (pv 1) pe_str (nomark _)) (psst_one (pst_ret (pet_tup (pat_cons (PET.of (pv 3)) (pat_cons (PET.of (pv 4)) (pat_cons (pet_replC (pv 5)) (pat_cons (PET.of (pv 9)) (pat_cons (PET.of (pv 7)) (pat_cons (PET.of (pv 8)) (pat_nil)))))))))) (psst_nil))
      (psst_cut (PST.of (ps_if (PW.pt (pw_and (pt_cmpR op_eq (pv 1) pe_str (nomark _)) (pw_and1 (pt_cmpR op_eq (pe_call (ok_Lkind_c T) (hr.mono (by decide)) rfl T.mg_Lkind_c T.F_Lkind_c.kp (b_Lkind_c T) .nil pass0 (pa_cons (pv 3) (pa_cons (pv 4) pa_nil))) pe_str (nomark _)))))
        (pss_one (ps_ret (pe_tup (pa_cons (pv 3) (pa_cons (pv 4) (pa_cons pe_str (pa_cons (pv 9) (pa_cons (pv 7) (pa_cons (pv 8) pa_nil)))))))))
        pss_nil))
      (psst_cons (PST.of (ps_if (pt_cmpR op_eq (pv 1) pe_str (nomark _))
        (pss_one (ps_ret (pe_tup (pa_cons (pv 3) (pa_cons (pv 4) (pa_cons pe_str (pa_cons (pv 9) (pa_cons (pv 7) (pa_cons (pv 8) pa_nil)))))))))
        pss_nil))
      (psst_cons (pst_if (pt_cmpR op_eq (pv 1) pe_str (nomark _)) (psst_one (pst_ret (pet_tup (pat_cons (PET.of (pv 3)) (pat_cons (PET.of (pv 5)) (pat_cons (PET.of (pe_str)) (pat_cons (pet_replC (pv 6)) (pat_cons (PET.of (pv 7)) (pat_cons (PET.of (pe_str)) (pat_nil)))))))))) (psst_nil))
      (psst_cut (PST.of (ps_if (PW.pt (pw_and (pt_cmpR op_eq (pv 1) pe_str (nomark _)) (pw_and1 (PW.pt (pw_or (pt_cmpR op_in_seq pe_str (pv 2) rfl) (pw_or1 (pt_cmpR op_eq (pv 5) pe_str (nomark _))))))))
        (pss_one (ps_ret (pe_tup (pa_cons (pv 3) (pa_cons (pv 4) (pa_cons (pv 5) (pa_cons (pv 6) (pa_cons (pv 7) (pa_cons pe_str pa_nil)))))))))
        pss_nil))
      (psst_cons (PST.of (ps_if (pt_cmpR op_eq (pv 1) pe_str (nomark _))
        (pss_one (ps_ret (pe_tup (pa_cons (pv 3) (pa_cons (pv 4) (pa_cons (pv 5) (pa_cons (pv 6) (pa_cons (pv 7) (pa_cons pe_str pa_nil)))))))))
        pss_nil))
      (psst_cons (PST.of (ps_if (pt_cmpR op_eq (pv 1) pe_str (nomark _))
        (pss_one (ps_ret (pe_call (ok_Lmarked T) (hr.mono (by decide)) rfl T.mg_Lmarked T.F_Lmarked.kp (b_Lmarked T) .nil pass0 (pa_cons (pv 0) (pa_cons (pv 2) pa_nil)))))
        pss_nil))
      (psst_cons (PST.of (ps_if (pt_cmpR op_eq (pv 1) pe_str (nomark _))
        (pss_one (ps_ret (pe_tup (pa_cons (pv 3) (pa_cons (pv 4) (pa_cons (pv 5) (pa_cons pe_str (pa_cons (pv 7) (pa_cons (pv 8) pa_nil)))))))))
        pss_nil))
      (psst_cut (PST.of (ps_if (PW.pt (pw_or (pt_cmpR op_eq (pv 1) pe_str (nomark _)) (pw_or1 (PW.pt (pw_and (pt_cmpR op_eq (pv 1) pe_str (nomark _)) (pw_and1 (pt_cmpR op_eq (pe_call (ok_Lkind_r T) (hr.mono (by decide)) rfl T.mg_Lkind_r T.F_Lkind_r.kp (b_Lkind_r T) .nil pass0 (pa_cons (pv 3) (pa_cons (pv 4) (pa_cons (pv 5) pa_nil)))) pe_str (nomark _))))))))
        (pss_one (ps_ret (pe_tup (pa_cons (pv 3) (pa_cons (pv 4) (pa_cons (pv 5) (pa_cons (pe_call (ok_Lcontent_r T) (hr.mono (by decide)) rfl T.mg_Lcontent_r T.F_Lcontent_r.kp (b_Lcontent_r T) .nil pass0 (pa_cons (pv 0) pa_nil)) (pa_cons (pv 7) (pa_cons (pv 8) pa_nil)))))))))
        pss_nil))
      (psst_cons (PST.of (ps_if (pt_cmpR op_eq (pv 1) pe_str (nomark _))
        (pss_one (ps_ret (pe_tup (pa_cons (pv 3) (pa_cons (pv 4) (pa_cons (pv 5) (pa_cons (pe_call (ok_Lcontent_c T) (hr.mono (by decide)) rfl T.mg_Lcontent_c T.F_Lcontent_c.kp (b_Lcontent_c T) .nil pass0 (pa_cons (pv 0) pa_nil)) (pa_cons (pv 7) (pa_cons (pv 8) pa_nil)))))))))
        pss_nil))
      (psst_cons (PST.of (ps_if (pt_cmpR op_eq (pv 1) pe_str (nomark _))
        (pss_one (ps_ret (pe_tup (pa_cons (pv 3) (pa_cons (pv 4) (pa_cons (pv 5) (pa_cons (pv 6) (pa_cons pe_str (pa_cons (pv 8) pa_nil)))))))))
        pss_nil))
      (psst_cut (PST.of (ps_if (PW.pt (pw_and (pt_cmpR op_eq (pv 4) pe_str (nomark _)) (pw_and1 (pt_cmpR op_eq (pv 5) pe_str (nomark _)))))
        (pss_one (ps_ret (pv 0)))
        pss_nil))
      (psst_one (PST.of (ps_ret (pe_tup (pa_cons pe_str pa_nil))))))))))))))))))))), ?_⟩
    refine ⟨_, rfl, a, _, rfl, ht, rfl, _, _, rfl, _, _, rfl, _, _, rfl, _, _, rfl, _, _, rfl, _, _, rfl, rfl, ?_⟩
    refine ⟨_, rfl, sg h, rfl, rep_ok h (by decide), ?_⟩
    rw [rep_ro]
    ((try dsimp only); (first | (refine Rg.sg (σ' := [some (.ref a), some (.str (lt i)), some (.ref q), some (sv kk), some (sv c), some (sv r), some (sv h), some (sv g), some (sv y), some (sv (sp6 h))]) ?_ ?_; focus exact rfl) | (refine Rg.sgG (σ' := [some (.ref a), some (.str (lt i)), some (.ref q), some (sv kk), some (sv c), some (sv r), some (sv h), some (sv g), some (sv y), some (sv (sp6 h))]) ?_ ?_; focus exact rfl)))
    refine ⟨_, rfl, rfl, _, rfl, ?_⟩
    refine iteS (dL0 i) (fun h0 => ?_) fun h0 => ?_
    · subst h0
      refine ⟨_, rfl, _, rfl, _, rfl, _, rfl, _, rfl, sz6, ?_⟩
      (intro t n_t; generalize he_t : upd _ t _ = H4; obtain ⟨e_t, s_t, f_t⟩ := new_f he_t n_t; clear he_t)
      exact k.yes rfl s_t (.of e_t)
    refine ⟨_, rfl, rfl, _, rfl, ?_⟩
    refine iteS (dL1 i) (fun h1 => ?_) fun h1 => ?_
    · subst h1
      refine ⟨_, rfl, _, rfl, _, rfl, _, rfl, _, rfl, sz6, ?_⟩
      (intro t n_t; generalize he_t : upd _ t _ = H4; obtain ⟨e_t, s_t, f_t⟩ := new_f he_t n_t; clear he_t)
      exact k.yes rfl s_t (.of e_t)
    refine ⟨_, rfl, rfl, _, rfl, ?_⟩
    refine iteS (dL2 i) (fun h2 => ?_) fun h2 => ?_
    · subst h2
      refine ⟨_, rfl, _, rfl, _, rfl, sg r, rfl, rep_ok r (by decide), _, rfl, _, rfl, _, rfl, sz6, ?_⟩
      rw [rep_et]
      (intro t n_t; generalize he_t : upd _ t _ = H4; obtain ⟨e_t, s_t, f_t⟩ := new_f he_t n_t; clear he_t)
      exact k.yes rfl s_t (.of e_t)
    refine ⟨fun σ Hm => σ = [some (.ref a), some (.str (lt i)), some (.ref q), some (sv kk), some (sv c), some (sv r), some (sv h), some (sv g), some (sv y), some (sv (sp6 h))] ∧ Hm = H ∧ ¬ (i = 3 ∧ kb kk c = 0), ?_, ?_⟩
    · refine ⟨_, rfl, rfl, _, rfl, ?_⟩
      refine iteS (dL3 i) (fun h3 => ?_) fun h3 => ?_
      · refine ⟨_, rfl, _, rfl, kk, c, rfl, rfl, _, rfl, ?_⟩
        (refine iteS (by first | exact dS0 _ | exact dS1 _ | exact dS2 _ | exact dS3 _ | exact dS4 _ | exact dS5 _ | exact dS6 _ | exact dS7 _ | exact dS8 _ | exact dS9 _ | exact dS10 _ | exact dS11 _ | exact nS0 _ | exact nS1 _ | exact nS2 _ | exact nS3 _ | exact nS4 _ | exact nS5 _ | exact nS6 _ | exact nS7 _ | exact in34 _ | exact in012 _ | exact in51 _ | exact in512 _) (fun h4 => ?_) fun h4 => ?_)
        · subst h3
          refine ⟨_, rfl, _, rfl, _, rfl, _, rfl, _, rfl, sz6, ?_⟩
          (intro t n_t; generalize he_t : upd _ t _ = H4; obtain ⟨e_t, s_t, f_t⟩ := new_f he_t n_t; clear he_t)
          exact k.yes (l' := [kk, c, 4, sp6 h, g, y]) (by show (if kb kk c = 0 then _ else _) = _; rw [if_pos h4]) s_t (.of e_t)
        · exact ⟨rfl, rfl, fun z => h4 z.2⟩
      · exact iteF ⟨rfl, rfl, fun z => h3 z.1⟩
    rintro σ H1 ⟨rfl, rfl, hn3⟩
    refine ⟨_, rfl, rfl, _, rfl, ?_⟩
    refine iteS (dL3 i) (fun h3 => ?_) fun h3 => ?_
    · have hk : ¬ kb kk c = 0 := fun z => hn3 ⟨h3, z⟩
      subst h3
      refine ⟨_, rfl, _, rfl, _, rfl, _, rfl, _, rfl, sz6, ?_⟩
      (intro t n_t; generalize he_t : upd _ t _ = H4; obtain ⟨e_t, s_t, f_t⟩ := new_f he_t n_t; clear he_t)
      exact k.yes (l' := [kk, c, 0, sp6 h, g, y]) (by show (if kb kk c = 0 then _ else _) = _; rw [if_neg hk]) s_t (.of e_t)
    refine ⟨_, rfl, rfl, _, rfl, ?_⟩
    refine iteS (dL4 i) (fun h4 => ?_) fun h4 => ?_
    · subst h4
      refine ⟨_, rfl, _, rfl, _, rfl, sg h, rfl, rep_ok h (by decide), _, rfl, sz6, ?_⟩
      rw [rep_rc]
      (intro t n_t; generalize he_t : upd _ t _ = H4; obtain ⟨e_t, s_t, f_t⟩ := new_f he_t n_t; clear he_t)
      exact k.yes rfl s_t (.of e_t)
    refine ⟨fun σ Hm => σ = [some (.ref a), some (.str (lt i)), some (.ref q), some (sv kk), some (sv c), some (sv r), some (sv h), some (sv g), some (sv y), some (sv (sp6 h))] ∧ Hm = H1 ∧ ¬ (i = 5 ∧ (("frozen" : Str) ∈ B ∨ r = 4)), ?_, ?_⟩
    · refine ⟨_, rfl, rfl, _, rfl, ?_⟩
      refine iteS (dL5 i) (fun h5 => ?_) fun h5 => ?_
      · refine ⟨_, rfl, q, _, rfl, .inl hB, rfl, flat_str, ?_⟩
        rw [nmI]
        refine ⟨_, rfl, ?_⟩
        (refine iteS (p := ("frozen" : Str) ∈ B) rfl (fun h6 => ?_) fun h6 => ?_)
        · refine iteT ?_
          subst h5
          refine ⟨_, rfl, _, rfl, _, rfl, _, rfl, _, rfl, sz6, ?_⟩
          (intro t n_t; generalize he_t : upd _ t _ = H4; obtain ⟨e_t, s_t, f_t⟩ := new_f he_t n_t; clear he_t)
          exact k.yes (l' := [kk, c, r, h, g, 10]) (by show (if ("frozen" : Str) ∈ B ∨ r = 4 then _ else _) = _; rw [if_pos (.inl h6)]) s_t (.of e_t)
        refine ⟨_, rfl, rfl, _, rfl, ?_⟩
        (refine iteS (by first | exact dS0 _ | exact dS1 _ | exact dS2 _ | exact dS3 _ | exact dS4 _ | exact dS5 _ | exact dS6 _ | exact dS7 _ | exact dS8 _ | exact dS9 _ | exact dS10 _ | exact dS11 _ | exact nS0 _ | exact nS1 _ | exact nS2 _ | exact nS3 _ | exact nS4 _ | exact nS5 _ | exact nS6 _ | exact nS7 _ | exact in34 _ | exact in012 _ | exact in51 _ | exact in512 _) (fun h7 => ?_) fun h7 => ?_)
        · subst h5
          refine ⟨_, rfl, _, rfl, _, rfl, _, rfl, _, rfl, sz6, ?_⟩
          (intro t n_t; generalize he_t : upd _ t _ = H4; obtain ⟨e_t, s_t, f_t⟩ := new_f he_t n_t; clear he_t)
          exact k.yes (l' := [kk, c, r, h, g, 10]) (by show (if ("frozen" : Str) ∈ B ∨ r = 4 then _ else _) = _; rw [if_pos (.inr h7)]) s_t (.of e_t)
        · exact ⟨rfl, rfl, fun z => z.2.elim h6 h7⟩
      · exact iteF ⟨rfl, rfl, fun z => h5 z.1⟩
    rintro σ H2 ⟨rfl, rfl, hn5⟩
    refine ⟨_, rfl, rfl, _, rfl, ?_⟩
    refine iteS (dL5 i) (fun h5 => ?_) fun h5 => ?_
    · have hk : ¬ (("frozen" : Str) ∈ B ∨ r = 4) := fun z => hn5 ⟨h5, z⟩
      subst h5
      refine ⟨_, rfl, _, rfl, _, rfl, _, rfl, _, rfl, sz6, ?_⟩
      (intro t n_t; generalize he_t : upd _ t _ = H4; obtain ⟨e_t, s_t, f_t⟩ := new_f he_t n_t; clear he_t)
      exact k.yes (l' := [kk, c, r, h, g, 11]) (by show (if ("frozen" : Str) ∈ B ∨ r = 4 then _ else _) = _; rw [if_neg hk]) s_t (.of e_t)
    refine ⟨_, rfl, rfl, _, rfl, ?_⟩
    refine iteS (dL6 i) (fun h6 => ?_) fun h6 => ?_
    · subst h6
      exact ⟨_, rfl, _, rfl, B, kk, c, r, h, g, y, a, q, rfl, ht, hB, k⟩
    refine ⟨_, rfl, rfl, _, rfl, ?_⟩
    refine iteS (dL7 i) (fun h7 => ?_) fun h7 => ?_
    · subst h7
      refine ⟨_, rfl, _, rfl, _, rfl, _, rfl, _, rfl, sz6, ?_⟩
      (intro t n_t; generalize he_t : upd _ t _ = H4; obtain ⟨e_t, s_t, f_t⟩ := new_f he_t n_t; clear he_t)
      exact k.yes rfl s_t (.of e_t)
    refine ⟨fun σ Hm => σ = [some (.ref a), some (.str (lt i)), some (.ref q), some (sv kk), some (sv c), some (sv r), some (sv h), some (sv g), some (sv y), some (sv (sp6 h))] ∧ Hm = H2 ∧ ¬ i = 8 ∧ ¬ (i = 9 ∧ lkr kk c r = 2), ?_, ?_⟩
    · refine ⟨_, rfl, rfl, _, rfl, ?_⟩
      refine iteS (dL8 i) (fun h8 => ?_) fun h8 => ?_
      · subst h8
        refine iteT ⟨_, rfl, _, rfl, _, rfl, _, rfl, kk, c, r, h, g, y, a, rfl, ht, _, rfl, _, rfl, sz6, ?_⟩
        (intro t n_t; generalize he_t : upd _ t _ = H4; obtain ⟨e_t, s_t, f_t⟩ := new_f he_t n_t; clear he_t)
        exact k.yes rfl s_t (.of e_t)
      refine ⟨_, rfl, rfl, _, rfl, ?_⟩
      refine iteS (dL9 i) (fun h9 => ?_) fun h9 => ?_
      · refine ⟨_, rfl, _, rfl, _, rfl, kk, c, r, rfl, rfl, _, rfl, ?_⟩
        (refine iteS (by first | exact dS0 _ | exact dS1 _ | exact dS2 _ | exact dS3 _ | exact dS4 _ | exact dS5 _ | exact dS6 _ | exact dS7 _ | exact dS8 _ | exact dS9 _ | exact dS10 _ | exact dS11 _ | exact nS0 _ | exact nS1 _ | exact nS2 _ | exact nS3 _ | exact nS4 _ | exact nS5 _ | exact nS6 _ | exact nS7 _ | exact in34 _ | exact in012 _ | exact in51 _ | exact in512 _) (fun hr2 => ?_) fun hr2 => ?_)
        · subst h9
          refine ⟨_, rfl, _, rfl, _, rfl, _, rfl, kk, c, r, h, g, y, a, rfl, ht, _, rfl, _, rfl, sz6, ?_⟩
          (intro t n_t; generalize he_t : upd _ t _ = H4; obtain ⟨e_t, s_t, f_t⟩ := new_f he_t n_t; clear he_t)
          exact k.yes (l' := [kk, c, r, lcr kk c r, g, y]) (by show (if lkr kk c r = 2 then _ else _) = _; rw [if_pos hr2]) s_t (.of e_t)
        · exact ⟨rfl, rfl, h8, fun z => hr2 z.2⟩
      · exact iteF ⟨rfl, rfl, h8, fun z => h9 z.1⟩
    rintro σ H3 ⟨rfl, rfl, h8, hn9⟩
    refine ⟨_, rfl, rfl, _, rfl, ?_⟩
    refine iteS (dL9 i) (fun h9 => ?_) fun h9 => ?_
    · have hk : ¬ lkr kk c r = 2 := fun z => hn9 ⟨h9, z⟩
      subst h9
      refine ⟨_, rfl, _, rfl, _, rfl, _, rfl, kk, c, r, h, g, y, a, rfl, ht, _, rfl, _, rfl, sz6, ?_⟩
      (intro t n_t; generalize he_t : upd _ t _ = H4; obtain ⟨e_t, s_t, f_t⟩ := new_f he_t n_t; clear he_t)
      exact k.yes (l' := [kk, c, r, cc kk c, g, y]) (by show (if lkr kk c r = 2 then _ else _) = _; rw [if_neg hk]) s_t (.of e_t)
    refine ⟨_, rfl, rfl, _, rfl, ?_⟩
    refine iteS (dL10 i) (fun h10 => ?_) fun h10 => ?_
    · subst h10
      refine ⟨_, rfl, _, rfl, _, rfl, _, rfl, _, rfl, sz6, ?_⟩
      (intro t n_t; generalize he_t : upd _ t _ = H4; obtain ⟨e_t, s_t, f_t⟩ := new_f he_t n_t; clear he_t)
      exact k.yes rfl s_t (.of e_t)
    obtain rfl := last11 i h0 h1 h2 h3 h4 h5 h6 h7 h8 h9 h10
    refine ⟨fun σ Hm => σ = [some (.ref a), some (.str (lt 11)), some (.ref q), some (sv kk), some (sv c), some (sv r), some (sv h), some (sv g), some (sv y), some (sv (sp6 h))] ∧ Hm = H3 ∧ ¬ (c = 3 ∧ r = 4), ?_, ?_⟩
    · refine ⟨_, rfl, rfl, _, rfl, ?_⟩
      (refine iteS (by first | exact dS0 _ | exact dS1 _ | exact dS2 _ | exact dS3 _ | exact dS4 _ | exact dS5 _ | exact dS6 _ | exact dS7 _ | exact dS8 _ | exact dS9 _ | exact dS10 _ | exact dS11 _ | exact nS0 _ | exact nS1 _ | exact nS2 _ | exact nS3 _ | exact nS4 _ | exact nS5 _ | exact nS6 _ | exact nS7 _ | exact in34 _ | exact in012 _ | exact in51 _ | exact in512 _) (fun h12 => ?_) fun h12 => ?_)
      · refine ⟨_, rfl, rfl, _, rfl, ?_⟩
        (refine iteS (by first | exact dS0 _ | exact dS1 _ | exact dS2 _ | exact dS3 _ | exact dS4 _ | exact dS5 _ | exact dS6 _ | exact dS7 _ | exact dS8 _ | exact dS9 _ | exact dS10 _ | exact dS11 _ | exact nS0 _ | exact nS1 _ | exact nS2 _ | exact nS3 _ | exact nS4 _ | exact nS5 _ | exact nS6 _ | exact nS7 _ | exact in34 _ | exact in012 _ | exact in51 _ | exact in512 _) (fun h13 => ?_) fun h13 => ?_)
        · exact ⟨_, rfl, k.yes (by show (if c = 3 ∧ r = 4 then _ else _) = _; rw [if_pos ⟨h12, h13⟩]) (Same.refl _) ht⟩
        · exact ⟨rfl, rfl, fun z => h13 z.2⟩
      · exact iteF ⟨rfl, rfl, fun z => h12 z.1⟩
    rintro σ H4' ⟨rfl, rfl, hn⟩
    refine ⟨by show 1 ≤ sizeLine; decide, ?_⟩
    (intro t n_t; generalize he_t : upd _ t _ = H5; obtain ⟨e_t, s_t, f_t⟩ := new_f he_t n_t; clear he_t)
    exact k.yes (l' := [12]) (by show (if c = 3 ∧ r = 4 then _ else _) = _; rw [if_neg hn]) s_t (.of e_t)
end
end K52
namespace K52
open PySem PySem.Spec PyProof.Rows L2 Rg CwR
/-! ### the law's rows and the program's steps agree, at every standing -/
def okO (o : Option (List Nat)) (t : List Nat) : Bool := match o with
  | none => true
  | some l => decide (l = t) && isM l
def Good (i : Fin 12) (B : List Str) (k c r h g y : Nat) : Prop := llet i B k c r h g y = (aftM i B k c r h g y).isSome ∧ okO (aftM i B k c r h g y) (lbeh i B k c r h g y) = true
theorem mx0 (B : List Str) : ∀ k ∈ [0, 1, 2], ∀ c ∈ [3, 4, 5, 0, 1, 2], ∀ r ∈ [4, 5, 0, 1, 2], ∀ h ∈ [6, 7, 8, 9], ∀ g ∈ [3, 6, 9], ∀ y ∈ [3, 10, 11], isM [k, c, r, h, g, y] = true → Good 0 B k c r h g y := by
  simp only [Good, aftM, llet, lbeh]
  decide +kernel
theorem mx1 (B : List Str) : ∀ k ∈ [0, 1, 2], ∀ c ∈ [3, 4, 5, 0, 1, 2], ∀ r ∈ [4, 5, 0, 1, 2], ∀ h ∈ [6, 7, 8, 9], ∀ g ∈ [3, 6, 9], ∀ y ∈ [3, 10, 11], isM [k, c, r, h, g, y] = true → Good 1 B k c r h g y := by
  by_cases b0 : ("reuse" : Str) ∈ B <;> by_cases b1 : ("shelve" : Str) ∈ B <;>
  simp only [Good, aftM, llet, lbeh, takepM, b0, b1, decide_true, decide_false, not_true, not_false_iff, true_and, false_and, and_true, and_false, true_or, false_or, or_true, or_false, if_true, if_false, Bool.true_and, Bool.false_and, Bool.and_true, Bool.and_false, Bool.true_or, Bool.false_or, Bool.or_true, Bool.or_false] <;>
  decide +kernel
theorem mx2 (B : List Str) : ∀ k ∈ [0, 1, 2], ∀ c ∈ [3, 4, 5, 0, 1, 2], ∀ r ∈ [4, 5, 0, 1, 2], ∀ h ∈ [6, 7, 8, 9], ∀ g ∈ [3, 6, 9], ∀ y ∈ [3, 10, 11], isM [k, c, r, h, g, y] = true → Good 2 B k c r h g y := by
  by_cases b0 : ("wait" : Str) ∈ B <;>
  simp only [Good, aftM, llet, lbeh, changeM, mw, hgo, sp6, lheld, b0, decide_true, decide_false, not_true, not_false_iff, true_and, false_and, and_true, and_false, true_or, false_or, or_true, or_false, if_true, if_false, Bool.true_and, Bool.false_and, Bool.and_true, Bool.and_false, Bool.true_or, Bool.false_or, Bool.or_true, Bool.or_false] <;>
  decide +kernel
theorem mx3 (B : List Str) : ∀ k ∈ [0, 1, 2], ∀ c ∈ [3, 4, 5, 0, 1, 2], ∀ r ∈ [4, 5, 0, 1, 2], ∀ h ∈ [6, 7, 8, 9], ∀ g ∈ [3, 6, 9], ∀ y ∈ [3, 10, 11], isM [k, c, r, h, g, y] = true → Good 3 B k c r h g y := by
  by_cases b0 : ("wait" : Str) ∈ B <;>
  simp only [Good, aftM, llet, lbeh, freeM, mw, hgo, sp6, lheld, b0, decide_true, decide_false, not_true, not_false_iff, true_and, false_and, and_true, and_false, true_or, false_or, or_true, or_false, if_true, if_false, Bool.true_and, Bool.false_and, Bool.and_true, Bool.and_false, Bool.true_or, Bool.false_or, Bool.or_true, Bool.or_false] <;>
  decide +kernel
theorem mx4 (B : List Str) : ∀ k ∈ [0, 1, 2], ∀ c ∈ [3, 4, 5, 0, 1, 2], ∀ r ∈ [4, 5, 0, 1, 2], ∀ h ∈ [6, 7, 8, 9], ∀ g ∈ [3, 6, 9], ∀ y ∈ [3, 10, 11], isM [k, c, r, h, g, y] = true → Good 4 B k c r h g y := by
  simp only [Good, aftM, llet, lbeh]
  decide +kernel
theorem mx5 (B : List Str) : ∀ k ∈ [0, 1, 2], ∀ c ∈ [3, 4, 5, 0, 1, 2], ∀ r ∈ [4, 5, 0, 1, 2], ∀ h ∈ [6, 7, 8, 9], ∀ g ∈ [3, 6, 9], ∀ y ∈ [3, 10, 11], isM [k, c, r, h, g, y] = true → Good 5 B k c r h g y := by
  by_cases b0 : ("frozen" : Str) ∈ B <;>
  simp only [Good, aftM, llet, lbeh, copyM, b0, decide_true, decide_false, not_true, not_false_iff, true_and, false_and, and_true, and_false, true_or, false_or, or_true, or_false, if_true, if_false, Bool.true_and, Bool.false_and, Bool.and_true, Bool.and_false, Bool.true_or, Bool.false_or, Bool.or_true, Bool.or_false] <;>
  decide +kernel
theorem mx6 (B : List Str) : ∀ k ∈ [0, 1, 2], ∀ c ∈ [3, 4, 5, 0, 1, 2], ∀ r ∈ [4, 5, 0, 1, 2], ∀ h ∈ [6, 7, 8, 9], ∀ g ∈ [3, 6, 9], ∀ y ∈ [3, 10, 11], isM [k, c, r, h, g, y] = true → Good 6 B k c r h g y := by
  by_cases b0 : ("copies" : Str) ∈ B <;> by_cases b1 : ("words" : Str) ∈ B <;> by_cases b2 : ("revoke" : Str) ∈ B <;> by_cases b3 : ("lapse" : Str) ∈ B <;>
  simp only [Good, aftM, llet, lbeh, markM, lbm, struckM, lmark, lhome, llog, hbm, b0, b1, b2, b3, decide_true, decide_false, not_true, not_false_iff, true_and, false_and, and_true, and_false, true_or, false_or, or_true, or_false, if_true, if_false, Bool.true_and, Bool.false_and, Bool.and_true, Bool.and_false, Bool.true_or, Bool.false_or, Bool.or_true, Bool.or_false] <;>
  decide +kernel
theorem mx7 (B : List Str) : ∀ k ∈ [0, 1, 2], ∀ c ∈ [3, 4, 5, 0, 1, 2], ∀ r ∈ [4, 5, 0, 1, 2], ∀ h ∈ [6, 7, 8, 9], ∀ g ∈ [3, 6, 9], ∀ y ∈ [3, 10, 11], isM [k, c, r, h, g, y] = true → Good 7 B k c r h g y := by
  simp only [Good, aftM, llet, lbeh]
  decide +kernel
theorem mx8 (B : List Str) : ∀ k ∈ [0, 1, 2], ∀ c ∈ [3, 4, 5, 0, 1, 2], ∀ r ∈ [4, 5, 0, 1, 2], ∀ h ∈ [6, 7, 8, 9], ∀ g ∈ [3, 6, 9], ∀ y ∈ [3, 10, 11], isM [k, c, r, h, g, y] = true → Good 8 B k c r h g y := by
  by_cases b0 : ("mark" : Str) ∈ B <;>
  simp only [Good, aftM, llet, lbeh, earlyM, b0, decide_true, decide_false, not_true, not_false_iff, true_and, false_and, and_true, and_false, true_or, false_or, or_true, or_false, if_true, if_false, Bool.true_and, Bool.false_and, Bool.and_true, Bool.and_false, Bool.true_or, Bool.false_or, Bool.or_true, Bool.or_false] <;>
  decide +kernel
theorem mx9 (B : List Str) : ∀ k ∈ [0, 1, 2], ∀ c ∈ [3, 4, 5, 0, 1, 2], ∀ r ∈ [4, 5, 0, 1, 2], ∀ h ∈ [6, 7, 8, 9], ∀ g ∈ [3, 6, 9], ∀ y ∈ [3, 10, 11], isM [k, c, r, h, g, y] = true → Good 9 B k c r h g y := by
  by_cases b0 : ("late" : Str) ∈ B <;>
  simp only [Good, aftM, llet, lbeh, wordsM, rwM, cwM, lwl, b0, decide_true, decide_false, not_true, not_false_iff, true_and, false_and, and_true, and_false, true_or, false_or, or_true, or_false, if_true, if_false, Bool.true_and, Bool.false_and, Bool.and_true, Bool.and_false, Bool.true_or, Bool.false_or, Bool.or_true, Bool.or_false] <;>
  decide +kernel
theorem mx10 (B : List Str) : ∀ k ∈ [0, 1, 2], ∀ c ∈ [3, 4, 5, 0, 1, 2], ∀ r ∈ [4, 5, 0, 1, 2], ∀ h ∈ [6, 7, 8, 9], ∀ g ∈ [3, 6, 9], ∀ y ∈ [3, 10, 11], isM [k, c, r, h, g, y] = true → Good 10 B k c r h g y := by
  by_cases b0 : ("room" : Str) ∈ B <;>
  simp only [Good, aftM, llet, lbeh, roomM, b0, decide_true, decide_false, not_true, not_false_iff, true_and, false_and, and_true, and_false, true_or, false_or, or_true, or_false, if_true, if_false, Bool.true_and, Bool.false_and, Bool.and_true, Bool.and_false, Bool.true_or, Bool.false_or, Bool.or_true, Bool.or_false] <;>
  decide +kernel
theorem mx11 (B : List Str) : ∀ k ∈ [0, 1, 2], ∀ c ∈ [3, 4, 5, 0, 1, 2], ∀ r ∈ [4, 5, 0, 1, 2], ∀ h ∈ [6, 7, 8, 9], ∀ g ∈ [3, 6, 9], ∀ y ∈ [3, 10, 11], isM [k, c, r, h, g, y] = true → Good 11 B k c r h g y := by
  by_cases b0 : ("told" : Str) ∈ B <;>
  simp only [Good, aftM, llet, lbeh, toldM, b0, decide_true, decide_false, not_true, not_false_iff, true_and, false_and, and_true, and_false, true_or, false_or, or_true, or_false, if_true, if_false, Bool.true_and, Bool.false_and, Bool.and_true, Bool.and_false, Bool.true_or, Bool.false_or, Bool.or_true, Bool.or_false] <;>
  decide +kernel
theorem isM_mem {k c r h g y : Nat} (v : isM [k, c, r, h, g, y] = true) : k ∈ [0, 1, 2] ∧ c ∈ [3, 4, 5, 0, 1, 2] ∧ r ∈ [4, 5, 0, 1, 2] ∧ h ∈ [6, 7, 8, 9] ∧ g ∈ [3, 6, 9] ∧ y ∈ [3, 10, 11] := by
  have v : (rowsM k c r h g y && _) = true := v
  exact of_decide_eq_true (Bool.and_eq_true_iff.mp v).1
theorem mxAll (i : Fin 12) (B : List Str) {k c r h g y : Nat} (v : isM [k, c, r, h, g, y] = true) : Good i B k c r h g y := by
  obtain ⟨a1, a2, a3, a4, a5, a6⟩ := isM_mem v
  match i with
  | 0 => exact mx0 B k a1 c a2 r a3 h a4 g a5 y a6 v
  | 1 => exact mx1 B k a1 c a2 r a3 h a4 g a5 y a6 v
  | 2 => exact mx2 B k a1 c a2 r a3 h a4 g a5 y a6 v
  | 3 => exact mx3 B k a1 c a2 r a3 h a4 g a5 y a6 v
  | 4 => exact mx4 B k a1 c a2 r a3 h a4 g a5 y a6 v
  | 5 => exact mx5 B k a1 c a2 r a3 h a4 g a5 y a6 v
  | 6 => exact mx6 B k a1 c a2 r a3 h a4 g a5 y a6 v
  | 7 => exact mx7 B k a1 c a2 r a3 h a4 g a5 y a6 v
  | 8 => exact mx8 B k a1 c a2 r a3 h a4 g a5 y a6 v
  | 9 => exact mx9 B k a1 c a2 r a3 h a4 g a5 y a6 v
  | 10 => exact mx10 B k a1 c a2 r a3 h a4 g a5 y a6 v
  | 11 => exact mx11 B k a1 c a2 r a3 h a4 g a5 y a6 v
theorem Good.some {i : Fin 12} {B : List Str} {k c r h g y : Nat} {l : List Nat} (G : Good i B k c r h g y) (e : aftM i B k c r h g y = some l) : l = lbeh i B k c r h g y ∧ isM l = true := by
  have := G.2
  rw [e] at this
  have := Bool.and_eq_true_iff.mp (show (decide (l = lbeh i B k c r h g y) && isM l) = true from this)
  exact ⟨of_decide_eq_true this.1, this.2⟩
/-- kinds and contents: the law's and the program's -/
theorem kinds_eq : ∀ k ∈ [0, 1, 2], ∀ c ∈ [3, 4, 5, 0, 1, 2], ∀ r ∈ [4, 5, 0, 1, 2], ∀ h ∈ [6, 7, 8, 9], ∀ g ∈ [3, 6, 9], ∀ y ∈ [3, 10, 11], isM [k, c, r, h, g, y] = true → kr k c r = lkr k c r ∧ cr k c r = lcr k c r := by decide +kernel
end K52
namespace K52
open PySem PySem.Spec PyProof.Rows L2 Rg CwR
def keep (p : Bool) (m : Nat) : List Nat := if p = true then [m] else []
def dC (k : Nat) : List Nat := [3, 4, 1, 2] ++ keep (decide (¬ k = 0)) 0 ++ keep (decide (k = 1)) 5
def dR (b : Nat) : List Nat := [4, 1, 2] ++ keep (decide (¬ b = 0)) 0 ++ keep (decide (b = 1)) 5
def dH (k c r : Nat) : List Nat := [9] ++ keep (decide (¬ k = 0)) 6 ++ keep (decide (c ∈ [5, 1, 2])) 7 ++ keep (decide (r ∈ [5, 1, 2])) 8
def dG (k : Nat) : List Nat := [3, 9] ++ keep (decide (k = 1)) 6
def dY (c : Nat) : List Nat := [3] ++ if c = 5 ∨ c = 1 then [10, 11] else []
theorem drawn_ok : ∀ k ∈ [0, 1, 2], ∀ c ∈ dC k, ∀ r ∈ dR (kb k c), ∀ h ∈ dH k c r, ∀ g ∈ dG k, ∀ y ∈ dY c, isM [k, c, r, h, g, y] = true := by decide +kernel
theorem flp_at {n : Int} (h0 : 0 ≤ n) (h3 : n < 3) : ∃ m c, m ∈ [0, 1, 2] ∧ atI ("FLP" : Str).cps.toList n = some c ∧ (⟨#[c]⟩ : Str) = sg m := by
  have : n = 0 ∨ n = 1 ∨ n = 2 := by omega
  rcases this with rfl | rfl | rfl
  · exact ⟨0, 70, by decide, by decide +kernel, by decide +kernel⟩
  · exact ⟨1, 76, by decide, by decide +kernel, by decide +kernel⟩
  · exact ⟨2, 80, by decide, by decide +kernel, by decide +kernel⟩
theorem small1000 {n : Nat} (h : n < 1000) : n < sizeLine := lt_line (by omega)
theorem keep_len {p : Bool} {m : Nat} : ((keep p m).map sv).length = p.toNat := by cases p <;> rfl
theorem keep_l {p : Bool} {m : Nat} : (keep p m).length = p.toNat := by cases p <;> rfl
theorem dC_ne {k : Nat} : dC k ≠ [] := nofun
theorem dR_ne {k : Nat} : dR k ≠ [] := nofun
theorem dH_ne {k c r : Nat} : dH k c r ≠ [] := nofun
theorem dG_ne {k : Nat} : dG k ≠ [] := nofun
theorem dY_ne {c : Nat} : dY c ≠ [] := nofun
theorem dC_le {k : Nat} : (dC k).length < 900 := by
  simp only [dC, List.length_append, List.length_cons, List.length_nil, keep_l]
  have i1 := Bool.toNat_le (decide (¬ k = 0))
  have i2 := Bool.toNat_le (decide (k = 1))
  omega
theorem dR_le {k : Nat} : (dR k).length < 900 := by
  simp only [dR, List.length_append, List.length_cons, List.length_nil, keep_l]
  have i1 := Bool.toNat_le (decide (¬ k = 0))
  have i2 := Bool.toNat_le (decide (k = 1))
  omega
theorem dH_le {k c r : Nat} : (dH k c r).length < 900 := by
  simp only [dH, List.length_append, List.length_cons, List.length_nil, keep_l]
  have i1 := Bool.toNat_le (decide (¬ k = 0))
  have i2 := Bool.toNat_le (decide (c ∈ [5, 1, 2]))
  have i3 := Bool.toNat_le (decide (r ∈ [5, 1, 2]))
  omega
theorem dG_le {k : Nat} : (dG k).length < 900 := by
  simp only [dG, List.length_append, List.length_cons, List.length_nil, keep_l]
  have i2 := Bool.toNat_le (decide (k = 1))
  omega
theorem dY_eq {c : Nat} : [V.str "-"] ++ ([10, 11].filter fun _ => decide (c = 5 ∨ c = 1)).map sv = (dY c).map sv := by
  unfold dY
  by_cases z : c = 5 ∨ c = 1
  · rw [if_pos z, decide_eq_true z]; rfl
  · rw [if_neg z, decide_eq_false z]; rfl
theorem dY_le {c : Nat} : (dY c).length < 900 := by
  unfold dY
  split <;> decide
/-- a comprehension over one thing is done -/
theorem pv_keep {H H' : Hp} {D : Addr} {n m : Nat} {p : Bool} (h : PvG (fun _ : Nat => sv m) H D [n] (fun _ => p) 1 H') : Same H H' ∧ H' D = some (.lst ((keep p m).map sv)) := by
  obtain ⟨s, e⟩ := h.all rfl
  refine ⟨s, ?_⟩
  rw [e]
  cases p <;> rfl
section
variable {P : Program} {w : World} {K : PySem.W.Frag} {mg : Str → Option Value} {base : Heap}
def sp_drawn (K : PySem.W.Frag) : Sp := fun vs H Q _ => ∃ (p : Addr) (fs : List Int), vs = [.ref p] ∧ H p = some (.lst (fs.map V.int)) ∧ ∀ (H' : Hp) (x : Addr) (fs' : List Int) (k c r h g y : Nat), Kp [p] H H' → H' p = some (.lst (fs'.map V.int)) → StAt K H' x [k, c, r, h, g, y] → isM [k, c, r, h, g, y] = true → Q (.ref x) H'
theorem ok_Ldrawn (T : Tx K mg) : FnOk P w K mg base CX0 3 T.f_Ldrawn T.fd_Ldrawn ["_law_feed_here"] (sp_drawn K) := by
  refine T.F_Ldrawn.ok sc_Ldrawn (fun vs H Q E h => ?_) (fun cdv A0 outer s H vs Q E hr h => ?_)
  · obtain ⟨_, _, rfl, _⟩ := h; rfl
  · obtain ⟨p, fs, rfl, ep, k⟩ := h
    try dsimp only at k
    refine ⟨_, (pss_cons (ps_set (i := 1) sc_Ldrawn.nd rfl (.inl rfl) (pe_ix ix_str pe_str (pe_call (ok_Lpick T) (hr.mono (by decide)) rfl T.mg_Lpick T.F_Lpick.kp (b_Lpick T) .nil pass0 (pa_cons (pv 0) (pa_cons pe_int pa_nil))) (fun _ _ => rfl)))
      (pss_cons (ps_set (i := 2) sc_Ldrawn.nd rfl (.inr rfl) (pe_call (ok_Lone T) (hr.mono (by decide)) rfl T.mg_Lone T.F_Lone.kp (b_Lone T) .nil pass0 (pa_cons (pv 0) (pa_cons (pe_op op_cat (pe_op op_cat (pe_lst (pa_cons pe_str (pa_cons pe_str (pa_cons pe_str (pa_cons pe_str pa_nil))))) (pe_lc rfl (own := [("_law_x", 3)]) (g := gName 3) (tt := _) sc_Ldrawn.nd (pi_list (pe_lst (pa_cons (pv 1) pa_nil))) (blkOk_by (N := ["_law_feed_here", "_law_k", "_law_c", "_law_x", "_law_base", "_law_r", "_law_homes", "_law_h", "_law_g", "_law_y", "_law_sign"]) (sc := defScope s_Ldrawn) (by decide +kernel)) (fun _ _ _ _ _ => pg_name (i := 3) sc_Ldrawn.nd rfl (Or.inl rfl)) (fun _ _ _ _ _ => pts_one (pt_cmpR op_ne (pv 3) pe_str (nomark _))) (fun _ _ _ _ _ => pe_str))) (pe_lc rfl (own := [("_law_x", 3)]) (g := gName 3) (tt := _) sc_Ldrawn.nd (pi_list (pe_lst (pa_cons (pv 1) pa_nil))) (blkOk_by (N := ["_law_feed_here", "_law_k", "_law_c", "_law_x", "_law_base", "_law_r", "_law_homes", "_law_h", "_law_g", "_law_y", "_law_sign"]) (sc := defScope s_Ldrawn) (by decide +kernel)) (fun _ _ _ _ _ => pg_name (i := 3) sc_Ldrawn.nd rfl (Or.inl rfl)) (fun _ _ _ _ _ => pts_one (pt_cmpR op_eq (pv 3) pe_str (nomark _))) (fun _ _ _ _ _ => pe_str))) pa_nil))))
      (pss_cons (ps_set (i := 4) sc_Ldrawn.nd rfl (.inl rfl) (pe_call (ok_Lkind_c T) (hr.mono (by decide)) rfl T.mg_Lkind_c T.F_Lkind_c.kp (b_Lkind_c T) .nil pass0 (pa_cons (pv 1) (pa_cons (pv 2) pa_nil))))
      (pss_cons (ps_set (i := 5) sc_Ldrawn.nd rfl (.inl rfl) (pe_call (ok_Lone T) (hr.mono (by decide)) rfl T.mg_Lone T.F_Lone.kp (b_Lone T) .nil pass0 (pa_cons (pv 0) (pa_cons (pe_op op_cat (pe_op op_cat (pe_lst (pa_cons pe_str (pa_cons pe_str (pa_cons pe_str pa_nil)))) (pe_lc rfl (own := [("_law_x", 3)]) (g := gName 3) (tt := _) sc_Ldrawn.nd (pi_list (pe_lst (pa_cons (pv 4) pa_nil))) (blkOk_by (N := ["_law_feed_here", "_law_k", "_law_c", "_law_x", "_law_base", "_law_r", "_law_homes", "_law_h", "_law_g", "_law_y", "_law_sign"]) (sc := defScope s_Ldrawn) (by decide +kernel)) (fun _ _ _ _ _ => pg_name (i := 3) sc_Ldrawn.nd rfl (Or.inl rfl)) (fun _ _ _ _ _ => pts_one (pt_cmpR op_ne (pv 3) pe_str (nomark _))) (fun _ _ _ _ _ => pe_str))) (pe_lc rfl (own := [("_law_x", 3)]) (g := gName 3) (tt := _) sc_Ldrawn.nd (pi_list (pe_lst (pa_cons (pv 4) pa_nil))) (blkOk_by (N := ["_law_feed_here", "_law_k", "_law_c", "_law_x", "_law_base", "_law_r", "_law_homes", "_law_h", "_law_g", "_law_y", "_law_sign"]) (sc := defScope s_Ldrawn) (by decide +kernel)) (fun _ _ _ _ _ => pg_name (i := 3) sc_Ldrawn.nd rfl (Or.inl rfl)) (fun _ _ _ _ _ => pts_one (pt_cmpR op_eq (pv 3) pe_str (nomark _))) (fun _ _ _ _ _ => pe_str))) pa_nil))))
      (pss_cons (ps_set (i := 6) sc_Ldrawn.nd rfl (.inl rfl) (pe_op op_cat (pe_op op_cat (pe_op op_cat (pe_lst (pa_cons pe_str pa_nil)) (pe_lc rfl (own := [("_law_x", 3)]) (g := gName 3) (tt := _) sc_Ldrawn.nd (pi_list (pe_lst (pa_cons (pv 1) pa_nil))) (blkOk_by (N := ["_law_feed_here", "_law_k", "_law_c", "_law_x", "_law_base", "_law_r", "_law_homes", "_law_h", "_law_g", "_law_y", "_law_sign"]) (sc := defScope s_Ldrawn) (by decide +kernel)) (fun _ _ _ _ _ => pg_name (i := 3) sc_Ldrawn.nd rfl (Or.inl rfl)) (fun _ _ _ _ _ => pts_one (pt_cmpR op_ne (pv 3) pe_str (nomark _))) (fun _ _ _ _ _ => pe_str))) (pe_lc rfl (own := [("_law_x", 3)]) (g := gName 3) (tt := _) sc_Ldrawn.nd (pi_list (pe_lst (pa_cons (pv 2) pa_nil))) (blkOk_by (N := ["_law_feed_here", "_law_k", "_law_c", "_law_x", "_law_base", "_law_r", "_law_homes", "_law_h", "_law_g", "_law_y", "_law_sign"]) (sc := defScope s_Ldrawn) (by decide +kernel)) (fun _ _ _ _ _ => pg_name (i := 3) sc_Ldrawn.nd rfl (Or.inl rfl)) (fun _ _ _ _ _ => pts_one (pt_cmpR op_in_str (pv 3) pe_str rfl)) (fun _ _ _ _ _ => pe_str))) (pe_lc rfl (own := [("_law_x", 3)]) (g := gName 3) (tt := _) sc_Ldrawn.nd (pi_list (pe_lst (pa_cons (pv 5) pa_nil))) (blkOk_by (N := ["_law_feed_here", "_law_k", "_law_c", "_law_x", "_law_base", "_law_r", "_law_homes", "_law_h", "_law_g", "_law_y", "_law_sign"]) (sc := defScope s_Ldrawn) (by decide +kernel)) (fun _ _ _ _ _ => pg_name (i := 3) sc_Ldrawn.nd rfl (Or.inl rfl)) (fun _ _ _ _ _ => pts_one (pt_cmpR op_in_str (pv 3) pe_str rfl)) (fun _ _ _ _ _ => pe_str))))
      (pss_cons (ps_set (i := 7) sc_Ldrawn.nd rfl (.inl rfl) (pe_call (ok_Lone T) (hr.mono (by decide)) rfl T.mg_Lone T.F_Lone.kp (b_Lone T) .nil pass0 (pa_cons (pv 0) (pa_cons (pv 6) pa_nil))))
      (pss_cons (ps_set (i := 8) sc_Ldrawn.nd rfl (.inl rfl) (pe_call (ok_Lone T) (hr.mono (by decide)) rfl T.mg_Lone T.F_Lone.kp (b_Lone T) .nil pass0 (pa_cons (pv 0) (pa_cons (pe_op op_cat (pe_lst (pa_cons pe_str (pa_cons pe_str pa_nil))) (pe_lc rfl (own := [("_law_x", 3)]) (g := gName 3) (tt := _) sc_Ldrawn.nd (pi_list (pe_lst (pa_cons (pv 1) pa_nil))) (blkOk_by (N := ["_law_feed_here", "_law_k", "_law_c", "_law_x", "_law_base", "_law_r", "_law_homes", "_law_h", "_law_g", "_law_y", "_law_sign"]) (sc := defScope s_Ldrawn) (by decide +kernel)) (fun _ _ _ _ _ => pg_name (i := 3) sc_Ldrawn.nd rfl (Or.inl rfl)) (fun _ _ _ _ _ => pts_one (pt_cmpR op_eq (pv 3) pe_str (nomark _))) (fun _ _ _ _ _ => pe_str))) pa_nil))))
      (pss_cons (ps_set (i := 9) sc_Ldrawn.nd rfl (.inl rfl) (pe_call (ok_Lone T) (hr.mono (by decide)) rfl T.mg_Lone T.F_Lone.kp (b_Lone T) .nil pass0 (pa_cons (pv 0) (pa_cons (pe_op op_cat (pe_lst (pa_cons pe_str pa_nil)) (pe_lc rfl (own := [("_law_sign", 10)]) (g := gName 10) (tt := _) sc_Ldrawn.nd (pi_str pe_str) (blkOk_by (N := ["_law_feed_here", "_law_k", "_law_c", "_law_x", "_law_base", "_law_r", "_law_homes", "_law_h", "_law_g", "_law_y", "_law_sign"]) (sc := defScope s_Ldrawn) (by decide +kernel)) (fun _ _ _ _ _ => pg_name (i := 10) sc_Ldrawn.nd rfl (Or.inl rfl)) (fun _ _ _ _ _ => pts_one (PW.pt (pw_or (pt_cmpR op_eq (pv 2) pe_str (nomark _)) (pw_or1 (pt_cmpR op_eq (pv 2) pe_str (nomark _)))))) (fun _ _ _ _ _ => (pv 10)))) pa_nil))))
      (pss_one (ps_ret (pe_tup (pa_cons (pv 1) (pa_cons (pv 2) (pa_cons (pv 5) (pa_cons (pv 7) (pa_cons (pv 8) (pa_cons (pv 9) pa_nil))))))))))))))))), ?_⟩
    refine ⟨_, rfl, p, fs, 3, rfl, ep, by decide, fun n f1 n0 n1 _ => ?_⟩
    (generalize he_y1 : upd _ p _ = H1; obtain ⟨e_y1, k_y1, f_y1⟩ := own_f he_y1; clear he_y1)
    obtain ⟨kk, c0, hk, ec, es⟩ := flp_at n0 n1
    refine ⟨"FLP", n, c0, rfl, rfl, by decide, ec, ?_⟩
    dsimp only
    rw [es]
    ((try dsimp only); (first | (refine Rg.sg (σ' := [some (.ref p), some (sv kk), none, none, none, none, none, none, none, none, none]) ?_ ?_; focus exact rfl) | (refine Rg.sgG (σ' := [some (.ref p), some (sv kk), none, none, none, none, none, none, none, none, none]) ?_ ?_; focus exact rfl)))
    refine ⟨_, rfl, by show 4 ≤ sizeLine; decide, ?_⟩
    (intro l1 n_l1; generalize he_l1 : upd _ l1 _ = H2; obtain ⟨e_l1, s_l1, f_l1⟩ := new_f he_l1 n_l1; clear he_l1)
    refine ⟨_, rfl, by show 1 ≤ sizeLine; decide, ?_⟩
    (intro x1 n_x1; generalize he_x1 : upd _ x1 _ = H3; obtain ⟨e_x1, s_x1, f_x1⟩ := new_f he_x1 n_x1; clear he_x1)
    refine ⟨x1, rfl, ⟨_, .of e_x1⟩, fun D1 hD1 => ?_⟩
    refine lc_list (K := K) (a := x1) (xs := [sv kk]) (PvG (fun _ : Nat => sv 0) H3 D1 [kk] (fun _ => decide (¬ kk = 0))) (PvG.start hD1) (fun j H' _ pv => .of (pv.1 _ _ e_x1)) ?_ ?_
    · rintro j z H' hj pv
      obtain rfl : j = 0 := by have := (List.getElem?_eq_some_iff.mp hj).1; simp only [List.length_cons, List.length_nil] at this; omega
      have ez : sv kk = z := Option.some.inj hj
      subst ez
      refine ⟨rfl, _, rfl, rfl, _, rfl, ?_⟩
      refine iteS (p := ¬ kk = 0) (nS0 _) (fun q => ?_) fun q => ?_
      · exact pv.yes hD1 (Same.refl _) rfl (by show 1 < 1000; decide) (decide_eq_true q)
      · exact pv.no (Same.refl _) rfl (decide_eq_false q)
    intro B1 pv1
    obtain ⟨S1, E1⟩ := pv_keep pv1
    clear pv1
    refine ⟨l1, D1, _, _, rfl, rfl, (s_x1.trans S1) _ _ e_l1, E1, (by refine Nat.le_of_lt (small1000 ?_); simp only [List.length_append, List.length_cons, List.length_nil, keep_len]; have i1 := Bool.toNat_le (decide (¬ kk = 0)); omega), ?_⟩
    (intro l1c0 n_l1c0; generalize he_l1c0 : upd _ l1c0 _ = H4; obtain ⟨e_l1c0, s_l1c0, f_l1c0⟩ := new_f he_l1c0 n_l1c0; clear he_l1c0)
    refine ⟨_, rfl, by show 1 ≤ sizeLine; decide, ?_⟩
    (intro x2 n_x2; generalize he_x2 : upd _ x2 _ = H5; obtain ⟨e_x2, s_x2, f_x2⟩ := new_f he_x2 n_x2; clear he_x2)
    refine ⟨x2, rfl, ⟨_, .of e_x2⟩, fun D2 hD2 => ?_⟩
    refine lc_list (K := K) (a := x2) (xs := [sv kk]) (PvG (fun _ : Nat => sv 5) H5 D2 [kk] (fun _ => decide (kk = 1))) (PvG.start hD2) (fun j H' _ pv => .of (pv.1 _ _ e_x2)) ?_ ?_
    · rintro j z H' hj pv
      obtain rfl : j = 0 := by have := (List.getElem?_eq_some_iff.mp hj).1; simp only [List.length_cons, List.length_nil] at this; omega
      have ez : sv kk = z := Option.some.inj hj
      subst ez
      refine ⟨rfl, _, rfl, rfl, _, rfl, ?_⟩
      refine iteS (p := kk = 1) (dS1 _) (fun q => ?_) fun q => ?_
      · exact pv.yes hD2 (Same.refl _) rfl (by show 1 < 1000; decide) (decide_eq_true q)
      · exact pv.no (Same.refl _) rfl (decide_eq_false q)
    intro B2 pv2
    obtain ⟨S2, E2⟩ := pv_keep pv2
    clear pv2
    refine ⟨l1c0, D2, _, _, rfl, rfl, (s_x2.trans S2) _ _ e_l1c0, E2, (by refine Nat.le_of_lt (small1000 ?_); simp only [List.length_append, List.length_cons, List.length_nil, keep_len]; have i1 := Bool.toNat_le (decide (¬ kk = 0)); have i2 := Bool.toNat_le (decide (kk = 1)); omega), ?_⟩
    (intro l1c1 n_l1c1; generalize he_l1c1 : upd _ l1c1 _ = H6; obtain ⟨e_l1c1, s_l1c1, f_l1c1⟩ := new_f he_l1c1 n_l1c1; clear he_l1c1)
    have eQ_l1 : H6 l1c1 = some (.lst ((dC kk).map sv)) := by rw [e_l1c1]; simp only [dC, List.map_append]; rfl
    refine ⟨p, l1c1, _, dC kk, rfl, ((((s_l1.trans (s_x1.trans S1)).trans s_l1c0).trans (s_x2.trans S2)).trans s_l1c1) _ _ e_y1, eQ_l1, fun z => (by subst z; exact nomatch n_l1c1.symm.trans ((((s_l1.trans (s_x1.trans S1)).trans s_l1c0).trans (s_x2.trans S2)) _ _ e_y1)), dC_ne, dC_le, fun c fl1 m_c => ?_⟩
    (generalize he_o_l1 : upd _ p _ = H7; obtain ⟨e_o_l1, k_o_l1, f_o_l1⟩ := own_f he_o_l1; clear he_o_l1)
    have K_l1 := (k_y1.same ((((s_l1.trans (s_x1.trans S1)).trans s_l1c0).trans (s_x2.trans S2)).trans s_l1c1)).trans k_o_l1
    ((try dsimp only); (first | (refine Rg.sg (σ' := [some (.ref p), some (sv kk), some (sv c), none, none, none, none, none, none, none, none]) ?_ ?_; focus exact rfl) | (refine Rg.sgG (σ' := [some (.ref p), some (sv kk), some (sv c), none, none, none, none, none, none, none, none]) ?_ ?_; focus exact rfl)))
    refine ⟨_, rfl, _, rfl, kk, c, rfl, ?_⟩
    ((try dsimp only); (first | (refine Rg.sg (σ' := [some (.ref p), some (sv kk), some (sv c), none, some (sv (kb kk c)), none, none, none, none, none, none]) ?_ ?_; focus exact rfl) | (refine Rg.sgG (σ' := [some (.ref p), some (sv kk), some (sv c), none, some (sv (kb kk c)), none, none, none, none, none, none]) ?_ ?_; focus exact rfl)))
    refine ⟨_, rfl, by show 3 ≤ sizeLine; decide, ?_⟩
    (intro l2 n_l2; generalize he_l2 : upd _ l2 _ = H8; obtain ⟨e_l2, s_l2, f_l2⟩ := new_f he_l2 n_l2; clear he_l2)
    refine ⟨_, rfl, by show 1 ≤ sizeLine; decide, ?_⟩
    (intro x3 n_x3; generalize he_x3 : upd _ x3 _ = H9; obtain ⟨e_x3, s_x3, f_x3⟩ := new_f he_x3 n_x3; clear he_x3)
    refine ⟨x3, rfl, ⟨_, .of e_x3⟩, fun D3 hD3 => ?_⟩
    refine lc_list (K := K) (a := x3) (xs := [sv (kb kk c)]) (PvG (fun _ : Nat => sv 0) H9 D3 [(kb kk c)] (fun _ => decide (¬ kb kk c = 0))) (PvG.start hD3) (fun j H' _ pv => .of (pv.1 _ _ e_x3)) ?_ ?_
    · rintro j z H' hj pv
      obtain rfl : j = 0 := by have := (List.getElem?_eq_some_iff.mp hj).1; simp only [List.length_cons, List.length_nil] at this; omega
      have ez : sv (kb kk c) = z := Option.some.inj hj
      subst ez
      refine ⟨rfl, _, rfl, rfl, _, rfl, ?_⟩
      refine iteS (p := ¬ kb kk c = 0) (nS0 _) (fun q => ?_) fun q => ?_
      · exact pv.yes hD3 (Same.refl _) rfl (by show 1 < 1000; decide) (decide_eq_true q)
      · exact pv.no (Same.refl _) rfl (decide_eq_false q)
    intro B3 pv3
    obtain ⟨S3, E3⟩ := pv_keep pv3
    clear pv3
    refine ⟨l2, D3, _, _, rfl, rfl, (s_x3.trans S3) _ _ e_l2, E3, (by refine Nat.le_of_lt (small1000 ?_); simp only [List.length_append, List.length_cons, List.length_nil, keep_len]; have i3 := Bool.toNat_le (decide (¬ kb kk c = 0)); omega), ?_⟩
    (intro l2c0 n_l2c0; generalize he_l2c0 : upd _ l2c0 _ = H10; obtain ⟨e_l2c0, s_l2c0, f_l2c0⟩ := new_f he_l2c0 n_l2c0; clear he_l2c0)
    refine ⟨_, rfl, by show 1 ≤ sizeLine; decide, ?_⟩
    (intro x4 n_x4; generalize he_x4 : upd _ x4 _ = H11; obtain ⟨e_x4, s_x4, f_x4⟩ := new_f he_x4 n_x4; clear he_x4)
    refine ⟨x4, rfl, ⟨_, .of e_x4⟩, fun D4 hD4 => ?_⟩
    refine lc_list (K := K) (a := x4) (xs := [sv (kb kk c)]) (PvG (fun _ : Nat => sv 5) H11 D4 [(kb kk c)] (fun _ => decide (kb kk c = 1))) (PvG.start hD4) (fun j H' _ pv => .of (pv.1 _ _ e_x4)) ?_ ?_
    · rintro j z H' hj pv
      obtain rfl : j = 0 := by have := (List.getElem?_eq_some_iff.mp hj).1; simp only [List.length_cons, List.length_nil] at this; omega
      have ez : sv (kb kk c) = z := Option.some.inj hj
      subst ez
      refine ⟨rfl, _, rfl, rfl, _, rfl, ?_⟩
      refine iteS (p := kb kk c = 1) (dS1 _) (fun q => ?_) fun q => ?_
      · exact pv.yes hD4 (Same.refl _) rfl (by show 1 < 1000; decide) (decide_eq_true q)
      · exact pv.no (Same.refl _) rfl (decide_eq_false q)
    intro B4 pv4
    obtain ⟨S4, E4⟩ := pv_keep pv4
    clear pv4
    refine ⟨l2c0, D4, _, _, rfl, rfl, (s_x4.trans S4) _ _ e_l2c0, E4, (by refine Nat.le_of_lt (small1000 ?_); simp only [List.length_append, List.length_cons, List.length_nil, keep_len]; have i3 := Bool.toNat_le (decide (¬ kb kk c = 0)); have i4 := Bool.toNat_le (decide (kb kk c = 1)); omega), ?_⟩
    (intro l2c1 n_l2c1; generalize he_l2c1 : upd _ l2c1 _ = H12; obtain ⟨e_l2c1, s_l2c1, f_l2c1⟩ := new_f he_l2c1 n_l2c1; clear he_l2c1)
    have eQ_l2 : H12 l2c1 = some (.lst ((dR (kb kk c)).map sv)) := by rw [e_l2c1]; simp only [dR, List.map_append]; rfl
    refine ⟨p, l2c1, _, dR (kb kk c), rfl, ((((s_l2.trans (s_x3.trans S3)).trans s_l2c0).trans (s_x4.trans S4)).trans s_l2c1) _ _ e_o_l1, eQ_l2, fun z => (by subst z; exact nomatch n_l2c1.symm.trans ((((s_l2.trans (s_x3.trans S3)).trans s_l2c0).trans (s_x4.trans S4)) _ _ e_o_l1)), dR_ne, dR_le, fun r fl2 m_r => ?_⟩
    (generalize he_o_l2 : upd _ p _ = H13; obtain ⟨e_o_l2, k_o_l2, f_o_l2⟩ := own_f he_o_l2; clear he_o_l2)
    have K_l2 := (K_l1.same ((((s_l2.trans (s_x3.trans S3)).trans s_l2c0).trans (s_x4.trans S4)).trans s_l2c1)).trans k_o_l2
    ((try dsimp only); (first | (refine Rg.sg (σ' := [some (.ref p), some (sv kk), some (sv c), none, some (sv (kb kk c)), some (sv r), none, none, none, none, none]) ?_ ?_; focus exact rfl) | (refine Rg.sgG (σ' := [some (.ref p), some (sv kk), some (sv c), none, some (sv (kb kk c)), some (sv r), none, none, none, none, none]) ?_ ?_; focus exact rfl)))
    refine ⟨by show 1 ≤ sizeLine; decide, ?_⟩
    (intro l3 n_l3; generalize he_l3 : upd _ l3 _ = H14; obtain ⟨e_l3, s_l3, f_l3⟩ := new_f he_l3 n_l3; clear he_l3)
    refine ⟨_, rfl, by show 1 ≤ sizeLine; decide, ?_⟩
    (intro x5 n_x5; generalize he_x5 : upd _ x5 _ = H15; obtain ⟨e_x5, s_x5, f_x5⟩ := new_f he_x5 n_x5; clear he_x5)
    refine ⟨x5, rfl, ⟨_, .of e_x5⟩, fun D5 hD5 => ?_⟩
    refine lc_list (K := K) (a := x5) (xs := [sv kk]) (PvG (fun _ : Nat => sv 6) H15 D5 [kk] (fun _ => decide (¬ kk = 0))) (PvG.start hD5) (fun j H' _ pv => .of (pv.1 _ _ e_x5)) ?_ ?_
    · rintro j z H' hj pv
      obtain rfl : j = 0 := by have := (List.getElem?_eq_some_iff.mp hj).1; simp only [List.length_cons, List.length_nil] at this; omega
      have ez : sv kk = z := Option.some.inj hj
      subst ez
      refine ⟨rfl, _, rfl, rfl, _, rfl, ?_⟩
      refine iteS (p := ¬ kk = 0) (nS0 _) (fun q => ?_) fun q => ?_
      · exact pv.yes hD5 (Same.refl _) rfl (by show 1 < 1000; decide) (decide_eq_true q)
      · exact pv.no (Same.refl _) rfl (decide_eq_false q)
    intro B5 pv5
    obtain ⟨S5, E5⟩ := pv_keep pv5
    clear pv5
    refine ⟨l3, D5, _, _, rfl, rfl, (s_x5.trans S5) _ _ e_l3, E5, (by refine Nat.le_of_lt (small1000 ?_); simp only [List.length_append, List.length_cons, List.length_nil, keep_len]; have i5 := Bool.toNat_le (decide (¬ kk = 0)); omega), ?_⟩
    (intro l3c0 n_l3c0; generalize he_l3c0 : upd _ l3c0 _ = H16; obtain ⟨e_l3c0, s_l3c0, f_l3c0⟩ := new_f he_l3c0 n_l3c0; clear he_l3c0)
    refine ⟨_, rfl, by show 1 ≤ sizeLine; decide, ?_⟩
    (intro x6 n_x6; generalize he_x6 : upd _ x6 _ = H17; obtain ⟨e_x6, s_x6, f_x6⟩ := new_f he_x6 n_x6; clear he_x6)
    refine ⟨x6, rfl, ⟨_, .of e_x6⟩, fun D6 hD6 => ?_⟩
    refine lc_list (K := K) (a := x6) (xs := [sv c]) (PvG (fun _ : Nat => sv 7) H17 D6 [c] (fun _ => decide (c ∈ [5, 1, 2]))) (PvG.start hD6) (fun j H' _ pv => .of (pv.1 _ _ e_x6)) ?_ ?_
    · rintro j z H' hj pv
      obtain rfl : j = 0 := by have := (List.getElem?_eq_some_iff.mp hj).1; simp only [List.length_cons, List.length_nil] at this; omega
      have ez : sv c = z := Option.some.inj hj
      subst ez
      refine ⟨rfl, _, rfl, sg c, "~LP", rfl, rfl, _, rfl, ?_⟩
      refine iteS (p := c ∈ [5, 1, 2]) (occ_tlp _) (fun q => ?_) fun q => ?_
      · exact pv.yes hD6 (Same.refl _) rfl (by show 1 < 1000; decide) (decide_eq_true q)
      · exact pv.no (Same.refl _) rfl (decide_eq_false q)
    intro B6 pv6
    obtain ⟨S6, E6⟩ := pv_keep pv6
    clear pv6
    refine ⟨l3c0, D6, _, _, rfl, rfl, (s_x6.trans S6) _ _ e_l3c0, E6, (by refine Nat.le_of_lt (small1000 ?_); simp only [List.length_append, List.length_cons, List.length_nil, keep_len]; have i5 := Bool.toNat_le (decide (¬ kk = 0)); have i6 := Bool.toNat_le (decide (c ∈ [5, 1, 2])); omega), ?_⟩
    (intro l3c1 n_l3c1; generalize he_l3c1 : upd _ l3c1 _ = H18; obtain ⟨e_l3c1, s_l3c1, f_l3c1⟩ := new_f he_l3c1 n_l3c1; clear he_l3c1)
    refine ⟨_, rfl, by show 1 ≤ sizeLine; decide, ?_⟩
    (intro x7 n_x7; generalize he_x7 : upd _ x7 _ = H19; obtain ⟨e_x7, s_x7, f_x7⟩ := new_f he_x7 n_x7; clear he_x7)
    refine ⟨x7, rfl, ⟨_, .of e_x7⟩, fun D7 hD7 => ?_⟩
    refine lc_list (K := K) (a := x7) (xs := [sv r]) (PvG (fun _ : Nat => sv 8) H19 D7 [r] (fun _ => decide (r ∈ [5, 1, 2]))) (PvG.start hD7) (fun j H' _ pv => .of (pv.1 _ _ e_x7)) ?_ ?_
    · rintro j z H' hj pv
      obtain rfl : j = 0 := by have := (List.getElem?_eq_some_iff.mp hj).1; simp only [List.length_cons, List.length_nil] at this; omega
      have ez : sv r = z := Option.some.inj hj
      subst ez
      refine ⟨rfl, _, rfl, sg r, "~LP", rfl, rfl, _, rfl, ?_⟩
      refine iteS (p := r ∈ [5, 1, 2]) (occ_tlp _) (fun q => ?_) fun q => ?_
      · exact pv.yes hD7 (Same.refl _) rfl (by show 1 < 1000; decide) (decide_eq_true q)
      · exact pv.no (Same.refl _) rfl (decide_eq_false q)
    intro B7 pv7
    obtain ⟨S7, E7⟩ := pv_keep pv7
    clear pv7
    refine ⟨l3c1, D7, _, _, rfl, rfl, (s_x7.trans S7) _ _ e_l3c1, E7, (by refine Nat.le_of_lt (small1000 ?_); simp only [List.length_append, List.length_cons, List.length_nil, keep_len]; have i5 := Bool.toNat_le (decide (¬ kk = 0)); have i6 := Bool.toNat_le (decide (c ∈ [5, 1, 2])); have i7 := Bool.toNat_le (decide (r ∈ [5, 1, 2])); omega), ?_⟩
    (intro l3c2 n_l3c2; generalize he_l3c2 : upd _ l3c2 _ = H20; obtain ⟨e_l3c2, s_l3c2, f_l3c2⟩ := new_f he_l3c2 n_l3c2; clear he_l3c2)
    have eQ_l3 : H20 l3c2 = some (.lst ((dH kk c r).map sv)) := by rw [e_l3c2]; simp only [dH, List.map_append]; rfl
    ((try dsimp only); (first | (refine Rg.sg (σ' := [some (.ref p), some (sv kk), some (sv c), none, some (sv (kb kk c)), some (sv r), some (.ref l3c2), none, none, none, none]) ?_ ?_; focus exact rfl) | (refine Rg.sgG (σ' := [some (.ref p), some (sv kk), some (sv c), none, some (sv (kb kk c)), some (sv r), some (.ref l3c2), none, none, none, none]) ?_ ?_; focus exact rfl)))
    refine ⟨_, rfl, _, rfl, p, l3c2, _, dH kk c r, rfl, ((((((s_l3.trans (s_x5.trans S5)).trans s_l3c0).trans (s_x6.trans S6)).trans s_l3c1).trans (s_x7.trans S7)).trans s_l3c2) _ _ e_o_l2, eQ_l3, fun z => (by subst z; exact nomatch n_l3c2.symm.trans ((((((s_l3.trans (s_x5.trans S5)).trans s_l3c0).trans (s_x6.trans S6)).trans s_l3c1).trans (s_x7.trans S7)) _ _ e_o_l2)), dH_ne, dH_le, fun h fl3 m_h => ?_⟩
    (generalize he_o_l3 : upd _ p _ = H21; obtain ⟨e_o_l3, k_o_l3, f_o_l3⟩ := own_f he_o_l3; clear he_o_l3)
    have K_l3 := (K_l2.same ((((((s_l3.trans (s_x5.trans S5)).trans s_l3c0).trans (s_x6.trans S6)).trans s_l3c1).trans (s_x7.trans S7)).trans s_l3c2)).trans k_o_l3
    ((try dsimp only); (first | (refine Rg.sg (σ' := [some (.ref p), some (sv kk), some (sv c), none, some (sv (kb kk c)), some (sv r), some (.ref l3c2), some (sv h), none, none, none]) ?_ ?_; focus exact rfl) | (refine Rg.sgG (σ' := [some (.ref p), some (sv kk), some (sv c), none, some (sv (kb kk c)), some (sv r), some (.ref l3c2), some (sv h), none, none, none]) ?_ ?_; focus exact rfl)))
    refine ⟨_, rfl, by show 2 ≤ sizeLine; decide, ?_⟩
    (intro l4 n_l4; generalize he_l4 : upd _ l4 _ = H22; obtain ⟨e_l4, s_l4, f_l4⟩ := new_f he_l4 n_l4; clear he_l4)
    refine ⟨_, rfl, by show 1 ≤ sizeLine; decide, ?_⟩
    (intro x8 n_x8; generalize he_x8 : upd _ x8 _ = H23; obtain ⟨e_x8, s_x8, f_x8⟩ := new_f he_x8 n_x8; clear he_x8)
    refine ⟨x8, rfl, ⟨_, .of e_x8⟩, fun D8 hD8 => ?_⟩
    refine lc_list (K := K) (a := x8) (xs := [sv kk]) (PvG (fun _ : Nat => sv 6) H23 D8 [kk] (fun _ => decide (kk = 1))) (PvG.start hD8) (fun j H' _ pv => .of (pv.1 _ _ e_x8)) ?_ ?_
    · rintro j z H' hj pv
      obtain rfl : j = 0 := by have := (List.getElem?_eq_some_iff.mp hj).1; simp only [List.length_cons, List.length_nil] at this; omega
      have ez : sv kk = z := Option.some.inj hj
      subst ez
      refine ⟨rfl, _, rfl, rfl, _, rfl, ?_⟩
      refine iteS (p := kk = 1) (dS1 _) (fun q => ?_) fun q => ?_
      · exact pv.yes hD8 (Same.refl _) rfl (by show 1 < 1000; decide) (decide_eq_true q)
      · exact pv.no (Same.refl _) rfl (decide_eq_false q)
    intro B8 pv8
    obtain ⟨S8, E8⟩ := pv_keep pv8
    clear pv8
    refine ⟨l4, D8, _, _, rfl, rfl, (s_x8.trans S8) _ _ e_l4, E8, (by refine Nat.le_of_lt (small1000 ?_); simp only [List.length_append, List.length_cons, List.length_nil, keep_len]; have i8 := Bool.toNat_le (decide (kk = 1)); omega), ?_⟩
    (intro l4c0 n_l4c0; generalize he_l4c0 : upd _ l4c0 _ = H24; obtain ⟨e_l4c0, s_l4c0, f_l4c0⟩ := new_f he_l4c0 n_l4c0; clear he_l4c0)
    have eQ_l4 : H24 l4c0 = some (.lst ((dG kk).map sv)) := by rw [e_l4c0]; simp only [dG, List.map_append]; rfl
    refine ⟨p, l4c0, _, dG kk, rfl, ((s_l4.trans (s_x8.trans S8)).trans s_l4c0) _ _ e_o_l3, eQ_l4, fun z => (by subst z; exact nomatch n_l4c0.symm.trans ((s_l4.trans (s_x8.trans S8)) _ _ e_o_l3)), dG_ne, dG_le, fun g fl4 m_g => ?_⟩
    (generalize he_o_l4 : upd _ p _ = H25; obtain ⟨e_o_l4, k_o_l4, f_o_l4⟩ := own_f he_o_l4; clear he_o_l4)
    have K_l4 := (K_l3.same ((s_l4.trans (s_x8.trans S8)).trans s_l4c0)).trans k_o_l4
    ((try dsimp only); (first | (refine Rg.sg (σ' := [some (.ref p), some (sv kk), some (sv c), none, some (sv (kb kk c)), some (sv r), some (.ref l3c2), some (sv h), some (sv g), none, none]) ?_ ?_; focus exact rfl) | (refine Rg.sgG (σ' := [some (.ref p), some (sv kk), some (sv c), none, some (sv (kb kk c)), some (sv r), some (.ref l3c2), some (sv h), some (sv g), none, none]) ?_ ?_; focus exact rfl)))
    refine ⟨_, rfl, by show 1 ≤ sizeLine; decide, ?_⟩
    (intro l5 n_l5; generalize he_l5 : upd _ l5 _ = H26; obtain ⟨e_l5, s_l5, f_l5⟩ := new_f he_l5 n_l5; clear he_l5)
    refine ⟨"+!", rfl, fun D9 hD9 => ?_⟩
    refine lc_it walk_str (PvG sv H26 D9 [10, 11] (fun _ => decide (c = 5 ∨ c = 1))) (PvG.start hD9) (fun _ _ _ _ => True.intro) ?_ ?_
    · rintro j z H' H'' hj pv ⟨rfl, c', hc', rfl⟩
      have hj : j < 2 := hj
      have hh : ∃ x, [10, 11][j]? = some x ∧ V.str ⟨#[c']⟩ = sv x := by
        have : j = 0 ∨ j = 1 := by omega
        rcases this with rfl | rfl
        · exact ⟨10, rfl, by rw [← Option.some.inj ((show ("+!" : Str).cps[0]? = some 43 by decide +kernel).symm.trans hc')]; decide +kernel⟩
        · exact ⟨11, rfl, by rw [← Option.some.inj ((show ("+!" : Str).cps[1]? = some 33 by decide +kernel).symm.trans hc')]; decide +kernel⟩
      obtain ⟨x, hx, ex⟩ := hh
      rw [ex]
      refine ⟨rfl, _, rfl, rfl, _, rfl, ?_⟩
      refine iteS (p := c = 5) (dS5 _) (fun q => ?_) fun q => ?_
      · refine iteT ?_
        exact ⟨_, rfl, pv.yes hD9 (Same.refl _) hx (by show 2 < 1000; decide) (decide_eq_true (.inl q))⟩
      refine ⟨_, rfl, rfl, _, rfl, ?_⟩
      refine iteS (p := c = 1) (dS1 _) (fun q2 => ?_) fun q2 => ?_
      · exact ⟨_, rfl, pv.yes hD9 (Same.refl _) hx (by show 2 < 1000; decide) (decide_eq_true (.inr q2))⟩
      · exact pv.no (Same.refl _) hx (decide_eq_false fun z => z.elim q q2)
    intro B9 pv9
    obtain ⟨S9, E9⟩ := pv9.all rfl
    refine ⟨l5, D9, _, _, rfl, rfl, S9 _ _ e_l5, E9, (by refine Nat.le_of_lt (small1000 ?_); rw [List.length_map]; have := List.length_filter_le (fun _ => decide (c = 5 ∨ c = 1)) [10, 11]; show 1 + _ < 1000; simp only [List.length_cons, List.length_nil] at this; omega), ?_⟩
    (intro l5c0 n_l5c0; generalize he_l5c0 : upd _ l5c0 _ = H27; obtain ⟨e_l5c0, s_l5c0, f_l5c0⟩ := new_f he_l5c0 n_l5c0; clear he_l5c0)
    have eQ_l5 : H27 l5c0 = some (.lst ((dY c).map sv)) := by rw [e_l5c0]; exact congrArg (fun z => some (HO.lst z)) dY_eq
    refine ⟨p, l5c0, _, dY c, rfl, ((s_l5.trans S9).trans s_l5c0) _ _ e_o_l4, eQ_l5, fun z => (by subst z; exact nomatch n_l5c0.symm.trans ((s_l5.trans S9) _ _ e_o_l4)), dY_ne, dY_le, fun y fl5 m_y => ?_⟩
    (generalize he_o_l5 : upd _ p _ = H28; obtain ⟨e_o_l5, k_o_l5, f_o_l5⟩ := own_f he_o_l5; clear he_o_l5)
    ((try dsimp only); (first | (refine Rg.sg (σ' := [some (.ref p), some (sv kk), some (sv c), none, some (sv (kb kk c)), some (sv r), some (.ref l3c2), some (sv h), some (sv g), some (sv y), none]) ?_ ?_; focus exact rfl) | (refine Rg.sgG (σ' := [some (.ref p), some (sv kk), some (sv c), none, some (sv (kb kk c)), some (sv r), some (.ref l3c2), some (sv h), some (sv g), some (sv y), none]) ?_ ?_; focus exact rfl)))
    refine ⟨_, rfl, _, rfl, _, rfl, _, rfl, _, rfl, _, rfl, by show 6 ≤ sizeLine; decide, ?_⟩
    (intro x n_x; generalize he_x : upd _ x _ = H29; obtain ⟨e_x, s_x, f_x⟩ := new_f he_x n_x; clear he_x)
    exact k H29 x _ kk c r h g y ((((K_l4.same ((s_l5.trans S9).trans s_l5c0)).trans k_o_l5)).same s_x) (s_x _ _ e_o_l5) (.of e_x) (drawn_ok kk hk c m_c r m_r h m_h g m_g y m_y)
end
end K52
namespace K52
open PySem PySem.Spec PyProof.Rows L2 Rg CwR
theorem cls_ne {K : PySem.W.Frag} {A B : Addr} (h1 : PySem.W.subIn K (.ref A) (.ref A) = some true) (h2 : PySem.W.subIn K (.ref A) (.ref B) = some false) : A ≠ B := fun e => by
  rw [← e, h1] at h2
  cases h2
theorem isM_le {s : List Nat} (h : isM s = true) : s.length ≤ 8 := by
  unfold isM at h
  split at h
  · simp
  · simp
  · cases h
section
variable {P : Program} {w : World} {K : PySem.W.Frag} {mg : Str → Option Value} {base : Heap}
def sp_Lsame (K : PySem.W.Frag) (Ps : List Addr) : Sp := fun vs H Q _ => ∃ (a b : Addr) (s : List Nat), vs = [.ref a, .ref b] ∧ StAt K H a s ∧ StAt K H b s ∧ s.length ≤ 8 ∧ isM s = true ∧ Tab Ps H ∧ ∀ H', Tk Ps H H' → Q (.bl true) H'
theorem ok_Lsame (T : Tx K mg) (B : TBs T base) : FnOk P w K mg base CX0 7 T.f_Lsame T.fd_Lsame ["_law_actual", "_law_due"] (sp_Lsame K T.Ps) := by
  refine T.F_Lsame.ok sc_Lsame (fun vs H Q E h => ?_) (fun cdv A0 outer s H vs Q E hr h => ?_)
  · obtain ⟨_, _, _, rfl, _⟩ := h; rfl
  · obtain ⟨a, b, s, rfl, ha, hb, h8, hM, tb, k⟩ := h
    try dsimp only at k
    refine ⟨_, (pss_cons (ps_if (PW.pt (pw_or (pt_not (pt_val (pe_callB call_isi rfl T.b_isinstance (by decide +kernel) (pa_cons (pv 0) (pa_cons (pe_bltn (v := .ty "tuple") rfl T.b_tuple (by decide +kernel) rfl) pa_nil))))) (pw_or1 (pt_cmpR op_ne (pe_callB call_len_seq rfl T.b_len (by decide +kernel) (pa_cons (pv 0) pa_nil)) (pe_callB call_len_seq rfl T.b_len (by decide +kernel) (pa_cons (pv 1) pa_nil)) (nomark _)))))
        (pss_one (ps_ret pe_bl))
        pss_nil)
      (pss_cons (ps_for PassesOwn.never rfl (pi_range1 rfl T.b_range (pa_cons (pe_callB call_len_seq rfl T.b_len (by decide +kernel) (pa_cons (pv 1) pa_nil)) pa_nil)) (pg_name (i := 2) sc_Lsame.nd rfl (.inl rfl))
        (pss_one (ps_if (PW.pt (pw_or (pt_not (pt_val (pe_callB call_isi rfl T.b_isinstance (by decide +kernel) (pa_cons (pe_ix ix_tup (pv 0) (pv 2) (fun _ _ => rfl)) (pa_cons (pe_bltn (v := .ty "str") rfl T.b_str (by decide +kernel) rfl) pa_nil))))) (pw_or1 (pt_cmpR op_ne (pe_ix ix_tup (pv 0) (pv 2) (fun _ _ => rfl)) (pe_ix ix_tup (pv 1) (pv 2) (fun _ _ => rfl)) (nomark _)))))
          (pss_one (ps_ret pe_bl))
          pss_nil)))
      (pss_one (ps_ret (pe_cmpR op_isV (pe_call (ok_is_standing T B) (hr.mono (by decide)) rfl T.mg_is_standing T.F_is_standing.kp (b_is_standing T) .nil pass0 (pa_cons (pv 0) pa_nil)) pe_bl (nomark _)))))), ?_⟩
    refine ⟨_, rfl, _, _, _, _, true, rfl, .ty _, tyT ha, kit_ty (by decide +kernel), _, rfl, iteF ?_⟩
    refine ⟨_, rfl, a, _, rfl, .inr ha, _, rfl, b, _, rfl, .inr hb, rfl, _, rfl, ?_⟩
    refine wFb (by rw [decide_eq_true rfl]; rfl) ?_
    have hl : (s.map sv).length ≤ 8 := by rw [List.length_map]; exact h8
    refine ⟨_, rfl, b, _, rfl, .inr hb, _, rfl, by omega, by omega, for_range (fun i σ H2 => ∃ v : Option V, σ = [some (.ref a), some (.ref b), v] ∧ Tk T.Ps H H2) ⟨none, rfl, .refl tb⟩ (fun i σ H2 hi hp => ?_) fun σ H2 hp => ?_⟩
    · obtain ⟨v, rfl, kt⟩ := hp
      ((try dsimp only); (first | (refine Rg.sg (σ' := [some (.ref a), some (.ref b), some (.int (0 + i))]) ?_ ?_; focus exact rfl) | (refine Rg.sgG (σ' := [some (.ref a), some (.ref b), some (.int (0 + i))]) ?_ ?_; focus exact rfl)))
      have hi2 : i < s.length := by rw [List.length_map] at hi; omega
      have ga := kt.seqT tb ha
      have gb := kt.seqT tb hb
      have at_ : atI (s.map sv) (0 + (i : Int)) = some (sv s[i]) := at_of (j := i) (by omega) (by rw [List.getElem?_map, List.getElem?_eq_getElem hi2]; rfl)
      refine ⟨_, rfl, _, rfl, a, _, _, _, rfl, rfl, ga, at_, _, _, _, _, true, rfl, .ty _, .base (.str _), kit_ty (by decide +kernel), _, rfl, iteF ?_⟩
      refine ⟨_, rfl, _, rfl, a, _, _, _, rfl, rfl, ga, at_, _, rfl, _, rfl, b, _, _, _, rfl, rfl, gb, at_, rfl, _, rfl, ?_⟩
      refine wFb (by rw [decide_eq_true rfl]; rfl) ?_
      exact ⟨_, rfl, kt⟩
    obtain ⟨v, rfl, kt⟩ := hp
    refine ⟨_, rfl, a, s, rfl, kt.seqT tb ha, by omega, kt.tab, fun H3 k3 => ?_⟩
    rw [hM]
    refine ⟨true, true, rfl, rfl, ?_⟩
    exact k _ (kt.trans k3)
def sp_Lgood (K : PySem.W.Frag) (C : Addr) (Ps : List Addr) : Sp := fun vs H Q _ => ∃ (i : Fin 12) (N : List Str) (k c r h g y : Nat) (a q b : Addr), vs = [.ref a, .str (lt i), .ref q, .ref b] ∧ StAt K H a [k, c, r, h, g, y] ∧ isM [k, c, r, h, g, y] = true ∧ NmAt K H q N ∧ BookAt C H b N ∧ Tab Ps H ∧ ∀ H', Tk Ps H H' → Q (.bl true) H'
theorem ok_Lletter_good (T : Tx K mg) (B : TBs T base) (W : Tw T w) : FnOk P w K mg base CX0 8 T.f_Lletter_good T.fd_Lletter_good ["_law_s", "_law_letter", "_law_names_here", "_law_book"] (sp_Lgood K T.C_Book T.Ps) := by
  refine T.F_Lletter_good.ok sc_Lletter_good (fun vs H Q E h => ?_) (fun cdv A0 outer s H vs Q E hr h => ?_)
  · obtain ⟨_, _, _, _, _, _, _, _, _, _, _, rfl, _⟩ := h; rfl
  · obtain ⟨i, N, kk, c, r, h, g, y, a, q, b, rfl, ht, hM, hq, hb, tb, k⟩ := h
    try dsimp only at k
    refine ⟨_, (pss_cons (ps_set (i := 4) sc_Lletter_good.nd rfl (.inl rfl) (pe_call (ok_after T W) (hr.mono (by decide)) rfl T.mg_after T.F_after.kp (b_after T) .nil pass0 (pa_cons (pv 0) (pa_cons (pv 1) (pa_cons (pv 3) pa_nil)))))
      (pss_cons (ps_if (pt_not (pt_val (pe_call (ok_Llet T) (hr.mono (by decide)) rfl T.mg_Llet T.F_Llet.kp (b_Llet T) .nil pass0 (pa_cons (pv 0) (pa_cons (pv 1) (pa_cons (pv 2) pa_nil))))))
        (pss_one (ps_ret (pe_cmpR op_isN (pv 4) pe_non (nomark _))))
        pss_nil)
      (pss_one (ps_ret (pe_call (ok_Lsame T B) (hr.mono (by decide)) rfl T.mg_Lsame T.F_Lsame.kp (b_Lsame T) .nil pass0 (pa_cons (pv 4) (pa_cons (pe_call (ok_Lbehind T) (hr.mono (by decide)) rfl T.mg_Lbehind T.F_Lbehind.kp (b_Lbehind T) .nil pass0 (pa_cons (pv 0) (pa_cons (pv 1) (pa_cons (pv 2) pa_nil)))) pa_nil))))))), ?_⟩
    refine ⟨_, rfl, _, rfl, _, rfl, i, N, kk, c, r, h, g, y, a, b, rfl, ht, hb, ?_⟩
    obtain ⟨G1, G2⟩ := mxAll i N hM
    revert G1 G2
    generalize aftM i N kk c r h g y = o
    intro G1 G2
    match o, G1, G2 with
    | none, G1, G2 =>
      intro H1 s1
      ((try dsimp only); (first | (refine Rg.sg (σ' := [some (.ref a), some (.str (lt i)), some (.ref q), some (.ref b), some .non]) ?_ ?_; focus exact rfl) | (refine Rg.sgG (σ' := [some (.ref a), some (.str (lt i)), some (.ref q), some (.ref b), some .non]) ?_ ?_; focus exact rfl)))
      refine ⟨_, rfl, _, rfl, _, rfl, i, N, kk, c, r, h, g, y, a, q, rfl, ht.same s1, (Tk.of tb s1).seqL tb hq, ?_⟩
      rw [show llet i N kk c r h g y = false from G1]
      refine ⟨_, rfl, iteT ?_⟩
      refine ⟨_, rfl, rfl, ?_⟩
      rw [decide_eq_true rfl]
      exact k _ (.of tb s1)
    | some l, G1, G2 =>
      intro H1 x s1 hx
      ((try dsimp only); (first | (refine Rg.sg (σ' := [some (.ref a), some (.str (lt i)), some (.ref q), some (.ref b), some (.ref x)]) ?_ ?_; focus exact rfl) | (refine Rg.sgG (σ' := [some (.ref a), some (.str (lt i)), some (.ref q), some (.ref b), some (.ref x)]) ?_ ?_; focus exact rfl)))
      refine ⟨_, rfl, _, rfl, _, rfl, i, N, kk, c, r, h, g, y, a, q, rfl, ht.same s1, (Tk.of tb s1).seqL tb hq, ?_⟩
      rw [show llet i N kk c r h g y = true from G1]
      refine ⟨_, rfl, iteF ?_⟩
      have G3 : l = lbeh i N kk c r h g y ∧ isM l = true := by
        have G2 : (decide (l = lbeh i N kk c r h g y) && isM l) = true := G2
        exact ⟨of_decide_eq_true (Bool.and_eq_true_iff.mp G2).1, (Bool.and_eq_true_iff.mp G2).2⟩
      refine ⟨_, rfl, _, rfl, _, rfl, _, rfl, i, N, kk, c, r, h, g, y, a, q, rfl, ht.same s1, (Tk.of tb s1).seqL tb hq, fun H2 z s2 hz => ?_⟩
      rw [← G3.1] at hz
      exact ⟨x, z, l, rfl, hx.same s2, hz, isM_le G3.2, G3.2, (tb.same s1).same s2, fun H3 k3 => k _ ((Tk.of tb (s1.trans s2)).trans k3)⟩
def sp_Lraises : Sp := fun vs H Q _ => ∃ (z : Str) (a b : Addr), vs = [.ref a, .str z, .ref b] ∧ z ∈ badL ∧ ∀ H', Same H H' → Q (.bl true) H'
theorem ok_Lraises (T : Tx K mg) (W : Tw T w) : FnOk P w K mg base CX0 8 T.f_Lraises T.fd_Lraises ["_law_s", "_law_letter", "_law_book"] sp_Lraises := by
  refine T.F_Lraises.ok sc_Lraises (fun vs H Q E h => ?_) (fun cdv A0 outer s H vs Q E hr h => ?_)
  · obtain ⟨_, _, _, rfl, _⟩ := h; rfl
  · obtain ⟨z, a, b, rfl, hz, k⟩ := h
    try dsimp only at k
    refine ⟨_, (pss_cons (L2N.ps_try_as (i := 3) rfl rfl sc_Lraises.nd rfl rfl ⟨rfl, by decide, .inl T.mg_StoreError⟩ takes0N
        (fun _ pn xe tk _ => pss_one (ps_expr (by exact (pe_callS (ok_afterX T W) (hr.mono (by decide)) rfl T.mg_after T.F_after.kp (b_after T) (fun σ => L2N.passAt tk σ) (pa_cons (pv 0) (pa_cons (pv 1) (pa_cons (pv 2) pa_nil)))))))
        (fun a oe cls d pn hz hf => pss_only (cls := cls) (d := d) (D := T.C_BadValue) fun e1 e2 => by
            subst e1
            subst e2
            exact pss_one (ps_ret (pe_and (pe_callB (call_isE T.ec_BadValue hz.zc hf) rfl T.b_isinstance (by decide +kernel) (pa_cons (pv 3) (pa_cons (pe_glob (v := .ref T.C_BadValue) rfl T.mg_BadValue rfl) pa_nil))) (pe_one (pe_not (pe_callB (call_isE T.ec_BadValue hz.zc hf) rfl T.b_isinstance (by decide +kernel) (pa_cons (pv 3) (pa_cons (pe_glob (v := .ref T.C_BadText) rfl T.mg_BadText rfl) pa_nil)))))))))
      (pss_one (ps_ret pe_bl))), ?_⟩
    refine ⟨_, rfl, _, rfl, _, rfl, z, a, b, rfl, hz, fun H1 s1 => ?_⟩
    refine ⟨true, exm_sub T.be_StoreError T.ie_StoreError T.te_StoreError T.sub_BadValue_StoreError, fun _ a_ ha_ => ⟨rfl, rfl, ?_⟩, fun q => nomatch q⟩
    refine ⟨_, rfl, _, _, true, rfl, fun u hu => hu, kit_self, _, rfl, iteT ?_⟩
    refine ⟨_, rfl, _, _, false, rfl, fun u hu => hu, kit_sub (cls_ne T.sub_BadValue_BadValue T.sub_BadValue_BadText) T.ie_BadText T.te_BadText T.sub_BadValue_BadText, ?_⟩
    exact ⟨_, rfl, k _ s1⟩
end
end K52
namespace K52
open PySem PySem.Spec PyProof.Rows L2 Rg CwR
/-- rows that are no standings -/
def Rws (K : PySem.W.Frag) (H : Hp) (as : List Addr) : Prop := ∀ x ∈ as, ∃ s, StAt K H x s ∧ s.length < 900 ∧ isM s = false
theorem Rws.same {K : PySem.W.Frag} {H H' : Hp} {as : List Addr} (h : Rws K H as) (s : Same H H') : Rws K H' as := fun x hx => let ⟨t, a, b⟩ := h x hx; ⟨t, StAt.same s a, b⟩
theorem Rws.own {K : PySem.W.Frag} {H H' : Hp} {p : Addr} {ls : List V} {as : List Addr} (h : Rws K H as) (s : Kp [p] H H') (ep : H p = some (.lst ls)) : Rws K H' as := fun x hx => by
  obtain ⟨t, a, b⟩ := h x hx
  refine ⟨t, ?_, b⟩
  rcases a with (a | ⟨o, a⟩) | a
  · exact .inl (.inl (s _ _ a fun z => by rw [List.mem_singleton.mp z, ep] at a; cases a))
  · exact .inl (.inr ⟨o, s _ _ a fun z => by rw [List.mem_singleton.mp z, ep] at a; cases a⟩)
  · exact .inr a
theorem Rws.tk {K : PySem.W.Frag} {H H' : Hp} {Ps as : List Addr} (h : Rws K H as) (s : Tk Ps H H') (t : Tab Ps H) : Rws K H' as := fun x hx => let ⟨u, a, b⟩ := h x hx; ⟨u, s.seqT t a, b⟩
theorem Rws.add {K : PySem.W.Frag} {H : Hp} {as bs : List Addr} (h : Rws K H as) (g : Rws K H bs) : Rws K H (as ++ bs) := fun x hx => (List.mem_append.mp hx).elim (h x) (g x)
theorem Rws.one {K : PySem.W.Frag} {H : Hp} {a : Addr} {s : List Nat} (h : StAt K H a s) (l : s.length < 900) (f : isM s = false) : Rws K H [a] := fun x hx => by
  rw [List.mem_singleton.mp hx]
  exact ⟨s, h, l, f⟩
theorem same_own {H H1 H2 : Hp} {p : Addr} (s : Same H H1) (n : H p = none) (k : Kp [p] H1 H2) : Same H H2 := fun a o e => k a o (s a o e) fun z => by
  rw [List.mem_singleton.mp z, n] at e
  cases e
section
variable {P : Program} {w : World} {K : PySem.W.Frag} {mg : Str → Option Value} {base : Heap}
def sp_Lspoilt (K : PySem.W.Frag) : Sp := fun vs H Q _ => ∃ (k c r h g y : Nat) (a : Addr), vs = [.ref a] ∧ StAt K H a [k, c, r, h, g, y] ∧ isM [k, c, r, h, g, y] = true ∧ ∀ (H' : Hp) (p : Addr) (as : List Addr), Same H H' → H p = none → H' p = some (.lst (as.map V.ref)) → as.length = 18 → Rws K H' as → Q (.ref p) H'
theorem ok_Lspoilt (T : Tx K mg) : FnOk P w K mg base CX0 1 T.f_Lspoilt T.fd_Lspoilt ["_law_s"] (sp_Lspoilt K) := by
  refine T.F_Lspoilt.ok sc_Lspoilt (fun vs H Q E h => ?_) (fun cdv A0 outer s H vs Q E hr h => ?_)
  · obtain ⟨_, _, _, _, _, _, _, rfl, _⟩ := h; rfl
  · obtain ⟨kk, c, r, h, g, y, a, rfl, ht, hM, k⟩ := h
    try dsimp only at k
    refine ⟨_, (pss_cons (ps_asg (pv 0) (pg_tup rfl (pgs_cons (pg_name (i := 1) sc_Lspoilt.nd rfl (.inl rfl)) (pgs_cons (pg_name (i := 2) sc_Lspoilt.nd rfl (.inl rfl)) (pgs_cons (pg_name (i := 3) sc_Lspoilt.nd rfl (.inl rfl)) (pgs_cons (pg_name (i := 4) sc_Lspoilt.nd rfl (.inl rfl)) (pgs_cons (pg_name (i := 5) sc_Lspoilt.nd rfl (.inl rfl)) (pgs_cons (pg_name (i := 6) sc_Lspoilt.nd rfl (.inl rfl)) pgs_nil))))))))
      (pss_cons (ps_set (i := 7) sc_Lspoilt.nd rfl (.inl rfl) (pe_lst (pa_cons (pe_slice sl_tup (pv 0) po_none (po_some pe_int)) (pa_cons (pe_op op_catT (pv 0) (pe_tup (pa_cons pe_str pa_nil))) (pa_cons (pe_tup pa_nil) (pa_cons (pe_tup (pa_cons pe_str (pa_cons pe_str pa_nil))) (pa_cons (pe_tup (pa_cons pe_str (pa_cons pe_str (pa_cons pe_str (pa_cons pe_str (pa_cons pe_str (pa_cons pe_str pa_nil))))))) (pa_cons (pe_tup (pa_cons pe_str (pa_cons pe_str (pa_cons pe_str (pa_cons pe_str (pa_cons pe_str (pa_cons pe_str pa_nil))))))) pa_nil))))))))
      (pss_cons (ps_expr (pe_bm PySem.F.plainAttrs_list PySem.F.slot_list_extend PySem.F.type_list_extend mt_extend (pv 7) (pa_cons (pe_lst (pa_cons (pe_tup (pa_cons pe_str (pa_cons pe_str (pa_cons pe_str (pa_cons pe_str (pa_cons pe_str (pa_cons pe_str pa_nil))))))) (pa_cons (pe_tup (pa_cons pe_str (pa_cons pe_str (pa_cons (pv 3) (pa_cons pe_str (pa_cons pe_str (pa_cons pe_str pa_nil))))))) (pa_cons (pe_tup (pa_cons pe_str (pa_cons pe_str (pa_cons pe_str (pa_cons pe_str (pa_cons pe_str (pa_cons pe_str pa_nil))))))) pa_nil)))) pa_nil)))
      (pss_cons (ps_expr (pe_bm PySem.F.plainAttrs_list PySem.F.slot_list_extend PySem.F.type_list_extend mt_extend (pv 7) (pa_cons (pe_lst (pa_cons (pe_tup (pa_cons pe_str (pa_cons pe_str (pa_cons (pv 3) (pa_cons pe_str (pa_cons pe_str (pa_cons pe_str pa_nil))))))) (pa_cons (pe_tup (pa_cons (pv 1) (pa_cons pe_str (pa_cons pe_str (pa_cons pe_str (pa_cons pe_str (pa_cons pe_str pa_nil))))))) (pa_cons (pe_tup (pa_cons (pv 1) (pa_cons pe_str (pa_cons pe_str (pa_cons pe_str (pa_cons pe_str (pa_cons pe_str pa_nil))))))) pa_nil)))) pa_nil)))
      (pss_cons (ps_expr (pe_bm PySem.F.plainAttrs_list PySem.F.slot_list_extend PySem.F.type_list_extend mt_extend (pv 7) (pa_cons (pe_lst (pa_cons (pe_tup (pa_cons pe_str (pa_cons pe_str (pa_cons pe_str (pa_cons pe_str (pa_cons pe_str (pa_cons pe_str pa_nil))))))) (pa_cons (pe_tup (pa_cons pe_str (pa_cons pe_str (pa_cons pe_str (pa_cons pe_str (pa_cons pe_str (pa_cons pe_str pa_nil))))))) (pa_cons (pe_tup (pa_cons (pv 1) (pa_cons pe_str (pa_cons pe_str (pa_cons (pv 4) (pa_cons (pv 5) (pa_cons pe_str pa_nil))))))) pa_nil)))) pa_nil)))
      (pss_cons (ps_expr (pe_bm PySem.F.plainAttrs_list PySem.F.slot_list_extend PySem.F.type_list_extend mt_extend (pv 7) (pa_cons (pe_lst (pa_cons (pe_tup (pa_cons pe_str (pa_cons pe_str (pa_cons pe_str (pa_cons pe_str (pa_cons pe_str (pa_cons pe_str pa_nil))))))) (pa_cons (pe_tup (pa_cons pe_str (pa_cons pe_str (pa_cons pe_str (pa_cons pe_str (pa_cons pe_str (pa_cons pe_str pa_nil))))))) (pa_cons (pe_tup (pa_cons (pv 1) (pa_cons pe_str (pa_cons pe_str (pa_cons pe_str (pa_cons pe_str (pa_cons pe_str pa_nil))))))) pa_nil)))) pa_nil)))
      (pss_one (ps_ret (pv 7))))))))), ?_⟩
    obtain ⟨m1, m2, m3, m4, m5, m6⟩ := isM_mem hM
    have f4 : isM [12, 3] = false := by decide
    have f5 : isM [1, 3, 4, 6, 3, 13] = false := by decide
    have f6 : isM [14, 3, 4, 9, 3, 3] = false := by decide
    have f7 : isM [2, 5, 4, 9, 3, 3] = false := by decide
    have f8 : isM [0, 0, r, 9, 3, 3] = false := (show ∀ r ∈ [4, 5, 0, 1, 2], isM [0, 0, r, 9, 3, 3] = false by decide) r m3
    have f9 : isM [0, 3, 0, 9, 3, 3] = false := by decide
    have f10 : isM [0, 3, r, 6, 3, 3] = false := (show ∀ r ∈ [4, 5, 0, 1, 2], isM [0, 3, r, 6, 3, 3] = false by decide) r m3
    have f11 : isM [kk, 3, 4, 7, 3, 3] = false := (show ∀ kk ∈ [0, 1, 2], isM [kk, 3, 4, 7, 3, 3] = false by decide) kk m1
    have f12 : isM [kk, 4, 4, 8, 3, 3] = false := (show ∀ kk ∈ [0, 1, 2], isM [kk, 4, 4, 8, 3, 3] = false by decide) kk m1
    have f13 : isM [0, 3, 4, 9, 6, 3] = false := by decide
    have f14 : isM [2, 3, 4, 6, 6, 3] = false := by decide
    have f15 : isM [kk, 4, 4, h, g, 10] = false := (show ∀ kk ∈ [0, 1, 2], ∀ h ∈ [6, 7, 8, 9], ∀ g ∈ [3, 6, 9], isM [kk, 4, 4, h, g, 10] = false by decide) kk m1 h m4 g m5
    have f16 : isM [2, 4, 5, 9, 3, 3] = false := by decide
    have f17 : isM [1, 0, 0, 9, 3, 3] = false := by decide
    have f18 : isM [kk, 3, 4, 9, 3, 11] = false := (show ∀ kk ∈ [0, 1, 2], isM [kk, 3, 4, 9, 3, 11] = false by decide) kk m1
    refine ⟨_, rfl, a, _, rfl, ht, rfl, _, _, rfl, _, _, rfl, _, _, rfl, _, _, rfl, _, _, rfl, _, _, rfl, rfl, ?_⟩
    ((try dsimp only); (first | (refine Rg.sg (σ' := [some (.ref a), some (sv kk), some (sv c), some (sv r), some (sv h), some (sv g), some (sv y), none]) ?_ ?_; focus exact rfl) | (refine Rg.sgG (σ' := [some (.ref a), some (sv kk), some (sv c), some (sv r), some (sv h), some (sv g), some (sv y), none]) ?_ ?_; focus exact rfl)))
    refine ⟨_, rfl, _, rfl, a, _, rfl, ht, (by show ¬ (HT.sIx 6 0 none = 0 ∧ HT.sIx 6 6 (some 5) = 6); decide), ?_⟩
    (intro t1 n_t1; generalize he_t1 : upd _ t1 _ = H1; obtain ⟨e_t1, s_t1, f_t1⟩ := new_f he_t1 n_t1; clear he_t1)
    refine ⟨_, rfl, by show 1 ≤ sizeLine; decide, ?_⟩
    (intro t0 n_t0; generalize he_t0 : upd _ t0 _ = H2; obtain ⟨e_t0, s_t0, f_t0⟩ := new_f he_t0 n_t0; clear he_t0)
    refine ⟨a, t0, _, _, rfl, rfl, (ht.same (s_t1.trans s_t0)).at_, .inl (.of e_t0), nofun, by show 7 ≤ sizeLine; decide, nofun, fun _ => ?_⟩
    (intro t2 n_t2; generalize he_t2 : upd _ t2 _ = H3; obtain ⟨e_t2, s_t2, f_t2⟩ := new_f he_t2 n_t2; clear he_t2)
    refine ⟨by show 0 ≤ sizeLine; decide, ?_⟩
    (intro t3 n_t3; generalize he_t3 : upd _ t3 _ = H4; obtain ⟨e_t3, s_t3, f_t3⟩ := new_f he_t3 n_t3; clear he_t3)
    refine ⟨by show 2 ≤ sizeLine; decide, ?_⟩
    (intro t4 n_t4; generalize he_t4 : upd _ t4 _ = H5; obtain ⟨e_t4, s_t4, f_t4⟩ := new_f he_t4 n_t4; clear he_t4)
    refine ⟨by show 6 ≤ sizeLine; decide, ?_⟩
    (intro t5 n_t5; generalize he_t5 : upd _ t5 _ = H6; obtain ⟨e_t5, s_t5, f_t5⟩ := new_f he_t5 n_t5; clear he_t5)
    refine ⟨by show 6 ≤ sizeLine; decide, ?_⟩
    (intro t6 n_t6; generalize he_t6 : upd _ t6 _ = H7; obtain ⟨e_t6, s_t6, f_t6⟩ := new_f he_t6 n_t6; clear he_t6)
    refine ⟨by show 6 ≤ sizeLine; decide, ?_⟩
    (intro p n_p; generalize he_p : upd _ p _ = H8; obtain ⟨e_p, s_p, f_p⟩ := new_f he_p n_p; clear he_p)
    have R : Rws K H8 [t1, t2, t3, t4, t5, t6] := ((((((Rws.one (s := [kk, c, r, h, g]) (StAt.same ((((((s_t0.trans s_t2).trans s_t3).trans s_t4).trans s_t5).trans s_t6).trans s_p) (.inl (.of e_t1))) (by show _ < 900; simp only [List.length_cons, List.length_nil]; decide) rfl).add (Rws.one (s := [kk, c, r, h, g, y, 3]) (StAt.same ((((s_t3.trans s_t4).trans s_t5).trans s_t6).trans s_p) (.inl (.of e_t2))) (by show _ < 900; simp only [List.length_cons, List.length_nil]; decide) rfl)).add (Rws.one (s := []) (StAt.same (((s_t4.trans s_t5).trans s_t6).trans s_p) (.inl (.of e_t3))) (by show _ < 900; simp only [List.length_cons, List.length_nil]; decide) rfl)).add (Rws.one (s := [12, 3]) (StAt.same ((s_t5.trans s_t6).trans s_p) (.inl (.of e_t4))) (by show _ < 900; simp only [List.length_cons, List.length_nil]; decide) f4)).add (Rws.one (s := [1, 3, 4, 6, 3, 13]) (StAt.same (s_t6.trans s_p) (.inl (.of e_t5))) (by show _ < 900; simp only [List.length_cons, List.length_nil]; decide) f5)).add (Rws.one (s := [14, 3, 4, 9, 3, 3]) (StAt.same s_p (.inl (.of e_t6))) (by show _ < 900; simp only [List.length_cons, List.length_nil]; decide) f6))
    have np : H p = none := ((((((s_t1.trans s_t0).trans s_t2).trans s_t3).trans s_t4).trans s_t5).trans s_t6).free n_p
    have S : Same H H8 := (((((((s_t1.trans s_t0).trans s_t2).trans s_t3).trans s_t4).trans s_t5).trans s_t6).trans s_p)
    have ep : H8 p = some (.lst (([t1, t2, t3, t4, t5, t6]).map V.ref)) := e_p
    clear e_t1 e_t0 e_t2 e_t3 e_t4 e_t5 e_t6 e_p
    ((try dsimp only); (first | (refine Rg.sg (σ' := [some (.ref a), some (sv kk), some (sv c), some (sv r), some (sv h), some (sv g), some (sv y), some (.ref p)]) ?_ ?_; focus exact rfl) | (refine Rg.sgG (σ' := [some (.ref a), some (sv kk), some (sv c), some (sv r), some (sv h), some (sv g), some (sv y), some (.ref p)]) ?_ ?_; focus exact rfl)))
    refine ⟨_, rfl, .inl ⟨rfl, _, .inl (.inl ep)⟩, ?_⟩
    refine ⟨by show 6 ≤ sizeLine; decide, ?_⟩
    (intro t7 n_t7; generalize he_t7 : upd _ t7 _ = H9; obtain ⟨e_t7, s_t7, f_t7⟩ := new_f he_t7 n_t7; clear he_t7)
    refine ⟨_, rfl, by show 6 ≤ sizeLine; decide, ?_⟩
    (intro t8 n_t8; generalize he_t8 : upd _ t8 _ = H10; obtain ⟨e_t8, s_t8, f_t8⟩ := new_f he_t8 n_t8; clear he_t8)
    refine ⟨by show 6 ≤ sizeLine; decide, ?_⟩
    (intro t9 n_t9; generalize he_t9 : upd _ t9 _ = H11; obtain ⟨e_t9, s_t9, f_t9⟩ := new_f he_t9 n_t9; clear he_t9)
    refine ⟨by show 3 ≤ sizeLine; decide, ?_⟩
    (intro q0 n_q0; generalize he_q0 : upd _ q0 _ = H12; obtain ⟨e_q0, s_q0, f_q0⟩ := new_f he_q0 n_q0; clear he_q0)
    have R0 : Rws K H12 [t1, t2, t3, t4, t5, t6, t7, t8, t9] := (R.same (((s_t7.trans s_t8).trans s_t9).trans s_q0)).add (((Rws.one (s := [2, 5, 4, 9, 3, 3]) (StAt.same ((s_t8.trans s_t9).trans s_q0) (.inl (.of e_t7))) (by show _ < 900; simp only [List.length_cons, List.length_nil]; decide) f7).add (Rws.one (s := [0, 0, r, 9, 3, 3]) (StAt.same (s_t9.trans s_q0) (.inl (.of e_t8))) (by show _ < 900; simp only [List.length_cons, List.length_nil]; decide) f8)).add (Rws.one (s := [0, 3, 0, 9, 3, 3]) (StAt.same s_q0 (.inl (.of e_t9))) (by show _ < 900; simp only [List.length_cons, List.length_nil]; decide) f9))
    refine ⟨p, q0, _, _, rfl, rfl, (((s_t7.trans s_t8).trans s_t9).trans s_q0) _ _ ep, e_q0, by show 9 ≤ sizeLine; decide, ?_⟩
    (generalize he_o0 : upd _ p _ = H13; obtain ⟨e_o0, k_o0, f_o0⟩ := own_f he_o0; clear he_o0)
    have S0 := same_own (S.trans (((s_t7.trans s_t8).trans s_t9).trans s_q0)) np k_o0
    have Q0 := R0.own k_o0 ((((s_t7.trans s_t8).trans s_t9).trans s_q0) _ _ ep)
    have ep0 : H13 p = some (.lst (([t1, t2, t3, t4, t5, t6, t7, t8, t9]).map V.ref)) := e_o0
    clear R S ep R0 e_o0
    have R := Q0
    have S := S0
    have ep := ep0
    clear Q0 S0 ep0
    ((try dsimp only); (first | (refine Rg.sg (σ' := [some (.ref a), some (sv kk), some (sv c), some (sv r), some (sv h), some (sv g), some (sv y), some (.ref p)]) ?_ ?_; focus exact rfl) | (refine Rg.sgG (σ' := [some (.ref a), some (sv kk), some (sv c), some (sv r), some (sv h), some (sv g), some (sv y), some (.ref p)]) ?_ ?_; focus exact rfl)))
    refine ⟨_, rfl, .inl ⟨rfl, _, .inl (.inl ep)⟩, ?_⟩
    refine ⟨_, rfl, by show 6 ≤ sizeLine; decide, ?_⟩
    (intro t10 n_t10; generalize he_t10 : upd _ t10 _ = H14; obtain ⟨e_t10, s_t10, f_t10⟩ := new_f he_t10 n_t10; clear he_t10)
    refine ⟨_, rfl, by show 6 ≤ sizeLine; decide, ?_⟩
    (intro t11 n_t11; generalize he_t11 : upd _ t11 _ = H15; obtain ⟨e_t11, s_t11, f_t11⟩ := new_f he_t11 n_t11; clear he_t11)
    refine ⟨_, rfl, by show 6 ≤ sizeLine; decide, ?_⟩
    (intro t12 n_t12; generalize he_t12 : upd _ t12 _ = H16; obtain ⟨e_t12, s_t12, f_t12⟩ := new_f he_t12 n_t12; clear he_t12)
    refine ⟨by show 3 ≤ sizeLine; decide, ?_⟩
    (intro q1 n_q1; generalize he_q1 : upd _ q1 _ = H17; obtain ⟨e_q1, s_q1, f_q1⟩ := new_f he_q1 n_q1; clear he_q1)
    have R1 : Rws K H17 [t1, t2, t3, t4, t5, t6, t7, t8, t9, t10, t11, t12] := (R.same (((s_t10.trans s_t11).trans s_t12).trans s_q1)).add (((Rws.one (s := [0, 3, r, 6, 3, 3]) (StAt.same ((s_t11.trans s_t12).trans s_q1) (.inl (.of e_t10))) (by show _ < 900; simp only [List.length_cons, List.length_nil]; decide) f10).add (Rws.one (s := [kk, 3, 4, 7, 3, 3]) (StAt.same (s_t12.trans s_q1) (.inl (.of e_t11))) (by show _ < 900; simp only [List.length_cons, List.length_nil]; decide) f11)).add (Rws.one (s := [kk, 4, 4, 8, 3, 3]) (StAt.same s_q1 (.inl (.of e_t12))) (by show _ < 900; simp only [List.length_cons, List.length_nil]; decide) f12))
    refine ⟨p, q1, _, _, rfl, rfl, (((s_t10.trans s_t11).trans s_t12).trans s_q1) _ _ ep, e_q1, by show 12 ≤ sizeLine; decide, ?_⟩
    (generalize he_o1 : upd _ p _ = H18; obtain ⟨e_o1, k_o1, f_o1⟩ := own_f he_o1; clear he_o1)
    have S1 := same_own (S.trans (((s_t10.trans s_t11).trans s_t12).trans s_q1)) np k_o1
    have Q1 := R1.own k_o1 ((((s_t10.trans s_t11).trans s_t12).trans s_q1) _ _ ep)
    have ep1 : H18 p = some (.lst (([t1, t2, t3, t4, t5, t6, t7, t8, t9, t10, t11, t12]).map V.ref)) := e_o1
    clear R S ep R1 e_o1
    have R := Q1
    have S := S1
    have ep := ep1
    clear Q1 S1 ep1
    ((try dsimp only); (first | (refine Rg.sg (σ' := [some (.ref a), some (sv kk), some (sv c), some (sv r), some (sv h), some (sv g), some (sv y), some (.ref p)]) ?_ ?_; focus exact rfl) | (refine Rg.sgG (σ' := [some (.ref a), some (sv kk), some (sv c), some (sv r), some (sv h), some (sv g), some (sv y), some (.ref p)]) ?_ ?_; focus exact rfl)))
    refine ⟨_, rfl, .inl ⟨rfl, _, .inl (.inl ep)⟩, ?_⟩
    refine ⟨by show 6 ≤ sizeLine; decide, ?_⟩
    (intro t13 n_t13; generalize he_t13 : upd _ t13 _ = H19; obtain ⟨e_t13, s_t13, f_t13⟩ := new_f he_t13 n_t13; clear he_t13)
    refine ⟨by show 6 ≤ sizeLine; decide, ?_⟩
    (intro t14 n_t14; generalize he_t14 : upd _ t14 _ = H20; obtain ⟨e_t14, s_t14, f_t14⟩ := new_f he_t14 n_t14; clear he_t14)
    refine ⟨_, rfl, _, rfl, _, rfl, by show 6 ≤ sizeLine; decide, ?_⟩
    (intro t15 n_t15; generalize he_t15 : upd _ t15 _ = H21; obtain ⟨e_t15, s_t15, f_t15⟩ := new_f he_t15 n_t15; clear he_t15)
    refine ⟨by show 3 ≤ sizeLine; decide, ?_⟩
    (intro q2 n_q2; generalize he_q2 : upd _ q2 _ = H22; obtain ⟨e_q2, s_q2, f_q2⟩ := new_f he_q2 n_q2; clear he_q2)
    have R2 : Rws K H22 [t1, t2, t3, t4, t5, t6, t7, t8, t9, t10, t11, t12, t13, t14, t15] := (R.same (((s_t13.trans s_t14).trans s_t15).trans s_q2)).add (((Rws.one (s := [0, 3, 4, 9, 6, 3]) (StAt.same ((s_t14.trans s_t15).trans s_q2) (.inl (.of e_t13))) (by show _ < 900; simp only [List.length_cons, List.length_nil]; decide) f13).add (Rws.one (s := [2, 3, 4, 6, 6, 3]) (StAt.same (s_t15.trans s_q2) (.inl (.of e_t14))) (by show _ < 900; simp only [List.length_cons, List.length_nil]; decide) f14)).add (Rws.one (s := [kk, 4, 4, h, g, 10]) (StAt.same s_q2 (.inl (.of e_t15))) (by show _ < 900; simp only [List.length_cons, List.length_nil]; decide) f15))
    refine ⟨p, q2, _, _, rfl, rfl, (((s_t13.trans s_t14).trans s_t15).trans s_q2) _ _ ep, e_q2, by show 15 ≤ sizeLine; decide, ?_⟩
    (generalize he_o2 : upd _ p _ = H23; obtain ⟨e_o2, k_o2, f_o2⟩ := own_f he_o2; clear he_o2)
    have S2 := same_own (S.trans (((s_t13.trans s_t14).trans s_t15).trans s_q2)) np k_o2
    have Q2 := R2.own k_o2 ((((s_t13.trans s_t14).trans s_t15).trans s_q2) _ _ ep)
    have ep2 : H23 p = some (.lst (([t1, t2, t3, t4, t5, t6, t7, t8, t9, t10, t11, t12, t13, t14, t15]).map V.ref)) := e_o2
    clear R S ep R2 e_o2
    have R := Q2
    have S := S2
    have ep := ep2
    clear Q2 S2 ep2
    ((try dsimp only); (first | (refine Rg.sg (σ' := [some (.ref a), some (sv kk), some (sv c), some (sv r), some (sv h), some (sv g), some (sv y), some (.ref p)]) ?_ ?_; focus exact rfl) | (refine Rg.sgG (σ' := [some (.ref a), some (sv kk), some (sv c), some (sv r), some (sv h), some (sv g), some (sv y), some (.ref p)]) ?_ ?_; focus exact rfl)))
    refine ⟨_, rfl, .inl ⟨rfl, _, .inl (.inl ep)⟩, ?_⟩
    refine ⟨by show 6 ≤ sizeLine; decide, ?_⟩
    (intro t16 n_t16; generalize he_t16 : upd _ t16 _ = H24; obtain ⟨e_t16, s_t16, f_t16⟩ := new_f he_t16 n_t16; clear he_t16)
    refine ⟨by show 6 ≤ sizeLine; decide, ?_⟩
    (intro t17 n_t17; generalize he_t17 : upd _ t17 _ = H25; obtain ⟨e_t17, s_t17, f_t17⟩ := new_f he_t17 n_t17; clear he_t17)
    refine ⟨_, rfl, by show 6 ≤ sizeLine; decide, ?_⟩
    (intro t18 n_t18; generalize he_t18 : upd _ t18 _ = H26; obtain ⟨e_t18, s_t18, f_t18⟩ := new_f he_t18 n_t18; clear he_t18)
    refine ⟨by show 3 ≤ sizeLine; decide, ?_⟩
    (intro q3 n_q3; generalize he_q3 : upd _ q3 _ = H27; obtain ⟨e_q3, s_q3, f_q3⟩ := new_f he_q3 n_q3; clear he_q3)
    have R3 : Rws K H27 [t1, t2, t3, t4, t5, t6, t7, t8, t9, t10, t11, t12, t13, t14, t15, t16, t17, t18] := (R.same (((s_t16.trans s_t17).trans s_t18).trans s_q3)).add (((Rws.one (s := [2, 4, 5, 9, 3, 3]) (StAt.same ((s_t17.trans s_t18).trans s_q3) (.inl (.of e_t16))) (by show _ < 900; simp only [List.length_cons, List.length_nil]; decide) f16).add (Rws.one (s := [1, 0, 0, 9, 3, 3]) (StAt.same (s_t18.trans s_q3) (.inl (.of e_t17))) (by show _ < 900; simp only [List.length_cons, List.length_nil]; decide) f17)).add (Rws.one (s := [kk, 3, 4, 9, 3, 11]) (StAt.same s_q3 (.inl (.of e_t18))) (by show _ < 900; simp only [List.length_cons, List.length_nil]; decide) f18))
    refine ⟨p, q3, _, _, rfl, rfl, (((s_t16.trans s_t17).trans s_t18).trans s_q3) _ _ ep, e_q3, by show 18 ≤ sizeLine; decide, ?_⟩
    (generalize he_o3 : upd _ p _ = H28; obtain ⟨e_o3, k_o3, f_o3⟩ := own_f he_o3; clear he_o3)
    have S3 := same_own (S.trans (((s_t16.trans s_t17).trans s_t18).trans s_q3)) np k_o3
    have Q3 := R3.own k_o3 ((((s_t16.trans s_t17).trans s_t18).trans s_q3) _ _ ep)
    have ep3 : H28 p = some (.lst (([t1, t2, t3, t4, t5, t6, t7, t8, t9, t10, t11, t12, t13, t14, t15, t16, t17, t18]).map V.ref)) := e_o3
    clear R S ep R3 e_o3
    have R := Q3
    have S := S3
    have ep := ep3
    clear Q3 S3 ep3
    ((try dsimp only); (first | (refine Rg.sg (σ' := [some (.ref a), some (sv kk), some (sv c), some (sv r), some (sv h), some (sv g), some (sv y), some (.ref p)]) ?_ ?_; focus exact rfl) | (refine Rg.sgG (σ' := [some (.ref a), some (sv kk), some (sv c), some (sv r), some (sv h), some (sv g), some (sv y), some (.ref p)]) ?_ ?_; focus exact rfl)))
    exact ⟨_, rfl, k H28 p _ S np ep rfl R⟩
end
end K52
namespace K52
open PySem PySem.Spec PyProof.Rows L2 Rg CwR
section
variable {P : Program} {w : World} {K : PySem.W.Frag} {mg : Str → Option Value} {base : Heap}
def sp_law (K : PySem.W.Frag) (Ps : List Addr) : Sp := fun vs H Q _ => ∃ (a : Addr) (ns : List Int), vs = [.ref a] ∧ Tab Ps H ∧ SqL K H a (ns.map V.int) ∧ ns.length ≤ 63 ∧ ∀ H', Q (.bl true) H'
theorem kind_all : ∀ k ∈ [0, 1, 2], ∀ c ∈ [3, 4, 5, 0, 1, 2], kc k c = kb k c ∧ ∀ r ∈ [4, 5, 0, 1, 2], kr k c r = lkr k c r ∧ cr k c r = lcr k c r := by decide +kernel
theorem letL_ok : ∀ x ∈ letL, okS x = true := by decide +kernel
theorem nd {x y : V} (e : x = y) : (!decide (x = y)) = false := by rw [decide_eq_true e]; rfl
theorem due_eq {c : Nat} : due c = (decide (c = 5) || decide (c = 1)) := by
  unfold due
  by_cases h : c = 5
  · subst h; rfl
  by_cases h2 : c = 1
  · subst h2; rfl
  rw [decide_eq_false h, decide_eq_false h2, decide_eq_false (by simp only [List.mem_cons, List.not_mem_nil, or_false]; exact fun z => z.elim h h2)]
  rfl
theorem let_at {i : Nat} {x : V} (hx : (letL.map V.str)[i]? = some x) : ∃ j : Fin 12, x = .str (lt j) := by
  obtain ⟨r, rfl, hr⟩ := str_at hx
  have hi : i < 12 := (List.getElem?_eq_some_iff.mp hr).1
  refine ⟨⟨i, hi⟩, congrArg V.str ?_⟩
  show r = letL.getD i ""
  rw [List.getD_eq_getElem?_getD, hr]
  rfl
theorem let_at2 {i : Nat} {x : V} (hx : (letL.map V.str)[i]? = some x) : ∃ j : Fin 12, f12[i]? = some j ∧ x = .str (lt j) := by
  rw [← f12_let, List.getElem?_map, List.getElem?_map] at hx
  obtain ⟨r, hr, rfl⟩ := Option.map_eq_some_iff.mp hx
  obtain ⟨j, hj, rfl⟩ := Option.map_eq_some_iff.mp hr
  exact ⟨j, hj, rfl⟩
theorem fl_ok (p : Fin 12 → Bool) : ∀ x ∈ (f12.filter p).map lt, okS x = true := fun x hx => by
  obtain ⟨j, hj, rfl⟩ := List.mem_map.mp hx
  exact letL_ok _ (by rw [← f12_let]; exact List.mem_map.mpr ⟨j, (List.mem_filter.mp hj).1, rfl⟩)
theorem lets_eq {N : List Str} {k c r h g y : Nat} (hM : isM [k, c, r, h, g, y] = true) : letsM N k c r h g y = (f12.filter fun i => llet i N k c r h g y).map lt := by
  unfold letsM
  rw [show (fun i => (aftM i N k c r h g y).isSome) = fun i => llet i N k c r h g y from funext fun i => (mxAll i N hM).1.symm]
theorem via {A : Prop} {R : Hp → Prop} (W : Hp → Prop) (h2 : (∀ G, W G → R G) → A) (h1 : ∀ G, W G → R G) : A := h2 h1
/-- what stands through the law: the standing, the names, the book -/
structure Wl (K : PySem.W.Frag) (Ps : List Addr) (C : Addr) (H : Hp) (a q b : Addr) (s : List Nat) (N : List Str) : Prop where
  st : StAt K H a s
  nm : NmAt K H q N
  bk : BookAt C H b N
  tb : Tab Ps H
theorem BookAt.tk {Ps : List Addr} {C : Addr} {H H' : Hp} {b : Addr} {N : List Str} (h : BookAt C H b N) (t : Tab Ps H) (k : Tk Ps H H') : BookAt C H' b N := ⟨let ⟨dx, tn, e1, e2⟩ := h.ob; ⟨dx, tn, k.at t e1, k.at t e2⟩⟩
theorem Wl.tk {Ps : List Addr} {C : Addr} {H H' : Hp} {a q b : Addr} {s : List Nat} {N : List Str} (h : Wl K Ps C H a q b s N) (k : Tk Ps H H') : Wl K Ps C H' a q b s N := ⟨k.seqT h.tb h.st, k.seqL h.tb h.nm, h.bk.tk h.tb k, k.tab⟩
theorem tab_kp {Ps : List Addr} {H H' : Hp} {p : Addr} {ls : List V} (t : Tab Ps H) (k : Kp [p] H H') (e : H p = some (.lst ls)) : Tab Ps H' := fun P hP => by
  obtain ⟨ps, e1, r⟩ := t P hP
  refine ⟨ps, k _ _ e1 fun z => ?_, r⟩
  rw [List.mem_singleton.mp z, e] at e1
  cases e1
theorem Wl.same {Ps : List Addr} {C : Addr} {H H' : Hp} {a q b : Addr} {s : List Nat} {N : List Str} (h : Wl K Ps C H a q b s N) (k : Same H H') : Wl K Ps C H' a q b s N := h.tk (.of h.tb k)
theorem ok_law (T : Tx K mg) (B : TBs T base) (W : Tw T w) : FnOk P w K mg base CX0 9 T.f_law T.fd_law ["_law_script"] (sp_law K T.Ps) := by
  refine T.F_law.ok sc_law (fun vs H Q E h => ?_) (fun cdv A0 outer s H vs Q E hr h => ?_)
  · obtain ⟨_, _, rfl, _⟩ := h; rfl
  · obtain ⟨a, ns, rfl, ht, hS, hlen, k⟩ := h
    try dsimp only at k
    refine ⟨_, (pss_cons (ps_set (i := 1) sc_law.nd rfl (.inl rfl) (pe_call (ok_Lfeed T) (hr.mono (by decide)) rfl T.mg_Lfeed T.F_Lfeed.kp (b_Lfeed T) .nil pass0 (pa_cons (pv 0) pa_nil)))
      (pss_cons (ps_set (i := 2) sc_law.nd rfl (.inl rfl) (pe_op op_add (pe_call (ok_Lpick T) (hr.mono (by decide)) rfl T.mg_Lpick T.F_Lpick.kp (b_Lpick T) .nil pass0 (pa_cons (pv 1) (pa_cons pe_int pa_nil))) (pe_op op_mul pe_int (pe_call (ok_Lpick T) (hr.mono (by decide)) rfl T.mg_Lpick T.F_Lpick.kp (b_Lpick T) .nil pass0 (pa_cons (pv 1) (pa_cons pe_int pa_nil))))))
      (pss_cons (ps_set (i := 3) sc_law.nd rfl (.inr rfl) (pe_call (ok_Ldrawn T) (hr.mono (by decide)) rfl T.mg_Ldrawn T.F_Ldrawn.kp (b_Ldrawn T) .nil pass0 (pa_cons (pv 1) pa_nil)))
      (pss_cons (ps_set (i := 4) sc_law.nd rfl (.inr rfl) (pe_call (ok_Lnames T) (hr.mono (by decide)) rfl T.mg_Lnames T.F_Lnames.kp (b_Lnames T) .nil pass0 (pa_cons (pv 2) pa_nil)))
      (pss_cons (ps_set (i := 5) sc_law.nd rfl (.inl rfl) (pe_smethS T.mg_Book T.cr_Book T.sm_Book_of_number (ok_of_number T) (hr.mono (by decide)) (b_Book_of_number T) passL0 (pa_cons (pv 2) pa_nil)))
      (pss_cons (ps_if (PW.pt (pw_or (pt_cmpR (op_neD hr.units) (pe_callTy call_list_of rfl T.b_list (by decide +kernel) (pa_cons (pe_glob (v := .ref T.gA_LETTERS) rfl T.gg_LETTERS rfl) pa_nil)) (pe_call0 (ok_Lletters T) (hr.mono (by decide)) rfl T.mg_Lletters T.F_Lletters.kp (b_Lletters T) .nil pass0) (nomark _)) (pw_or (pt_cmpR (op_neD hr.units) (pe_glob (v := .ref T.gA_LOST) rfl T.gg_LOST rfl) (pe_tup (pa_cons pe_str pa_nil)) (nomark _)) (pw_or (pt_cmpR op_notV (pe_call (ok_is_standing T B) (hr.mono (by decide)) rfl T.mg_is_standing T.F_is_standing.kp (b_is_standing T) .nil pass0 (pa_cons (pv 3) pa_nil)) pe_bl (nomark _)) (pw_or1 (pt_cmpR op_notV (pe_call (ok_is_standing T B) (hr.mono (by decide)) rfl T.mg_is_standing T.F_is_standing.kp (b_is_standing T) .nil pass0 (pa_cons (pe_glob (v := .ref T.gA_LOST) rfl T.gg_LOST rfl) pa_nil)) pe_bl (nomark _)))))))
        (pss_one (ps_ret pe_bl))
        pss_nil)
      (pss_cons (ps_if (PW.pt (pw_or (pt_cmpR op_ne (pe_call (ok_kind_c T) (hr.mono (by decide)) rfl T.mg_kind_c T.F_kind_c.kp (b_kind_c T) .nil pass0 (pa_cons (pv 3) pa_nil)) (pe_call (ok_Lkind_c T) (hr.mono (by decide)) rfl T.mg_Lkind_c T.F_Lkind_c.kp (b_Lkind_c T) .nil pass0 (pa_cons (pe_ix ix_tup (pv 3) pe_int (fun _ _ => rfl)) (pa_cons (pe_ix ix_tup (pv 3) pe_int (fun _ _ => rfl)) pa_nil))) (nomark _)) (pw_or1 (pt_cmpR op_ne (pe_call (ok_kind_r T) (hr.mono (by decide)) rfl T.mg_kind_r T.F_kind_r.kp (b_kind_r T) .nil pass0 (pa_cons (pv 3) pa_nil)) (pe_call (ok_Lkind_r T) (hr.mono (by decide)) rfl T.mg_Lkind_r T.F_Lkind_r.kp (b_Lkind_r T) .nil pass0 (pa_cons (pe_ix ix_tup (pv 3) pe_int (fun _ _ => rfl)) (pa_cons (pe_ix ix_tup (pv 3) pe_int (fun _ _ => rfl)) (pa_cons (pe_ix ix_tup (pv 3) pe_int (fun _ _ => rfl)) pa_nil)))) (nomark _)))))
        (pss_one (ps_ret pe_bl))
        pss_nil)
      (pss_cons (ps_if (PW.pt (pw_or (pt_cmpR op_ne (pe_call (ok_content_c T) (hr.mono (by decide)) rfl T.mg_content_c T.F_content_c.kp (b_content_c T) .nil pass0 (pa_cons (pv 3) pa_nil)) (pe_call (ok_Lcontent_c T) (hr.mono (by decide)) rfl T.mg_Lcontent_c T.F_Lcontent_c.kp (b_Lcontent_c T) .nil pass0 (pa_cons (pv 3) pa_nil)) (nomark _)) (pw_or1 (pt_cmpR op_ne (pe_call (ok_content_r T) (hr.mono (by decide)) rfl T.mg_content_r T.F_content_r.kp (b_content_r T) .nil pass0 (pa_cons (pv 3) pa_nil)) (pe_call (ok_Lcontent_r T) (hr.mono (by decide)) rfl T.mg_Lcontent_r T.F_Lcontent_r.kp (b_Lcontent_r T) .nil pass0 (pa_cons (pv 3) pa_nil)) (nomark _)))))
        (pss_one (ps_ret pe_bl))
        pss_nil)
      (pss_cons (ps_if (PW.pt (pw_or (PW.pt (pw_and (pt_cmpR op_notV (pe_call (ok_is_due T) (hr.mono (by decide)) rfl T.mg_is_due T.F_is_due.kp (b_is_due T) .nil pass0 (pa_cons (pv 3) pa_nil)) pe_bl (nomark _)) (pw_and1 (pt_cmpR op_notV (pe_call (ok_is_due T) (hr.mono (by decide)) rfl T.mg_is_due T.F_is_due.kp (b_is_due T) .nil pass0 (pa_cons (pv 3) pa_nil)) pe_bl (nomark _))))) (pw_or1 (pt_cmpR op_ne (pe_call (ok_is_due T) (hr.mono (by decide)) rfl T.mg_is_due T.F_is_due.kp (b_is_due T) .nil pass0 (pa_cons (pv 3) pa_nil)) (pe_or (pe_cmpR op_eq (pe_ix ix_tup (pv 3) pe_int (fun _ _ => rfl)) pe_str (nomark _)) (pe_one (pe_cmpR op_eq (pe_ix ix_tup (pv 3) pe_int (fun _ _ => rfl)) pe_str (nomark _)))) (nomark _)))))
        (pss_one (ps_ret pe_bl))
        pss_nil)
      (pss_cons (ps_for PassesOwn.never rfl (pi_list (pe_call0 (ok_Lletters T) (hr.mono (by decide)) rfl T.mg_Lletters T.F_Lletters.kp (b_Lletters T) .nil pass0)) (pg_name (i := 6) sc_law.nd rfl (.inl rfl))
        (pss_one (ps_if (PW.pt (pw_or (pt_not (pt_val (pe_call (ok_Lletter_good T B W) (hr.mono (by decide)) rfl T.mg_Lletter_good T.F_Lletter_good.kp (b_Lletter_good T) .nil pass0 (pa_cons (pv 3) (pa_cons (pv 6) (pa_cons (pv 4) (pa_cons (pv 5) pa_nil))))))) (pw_or1 (pt_cmpR op_notN (pe_call (ok_afterL T W) (hr.mono (by decide)) rfl T.mg_after T.F_after.kp (b_after T) .nil pass0 (pa_cons (pe_glob (v := .ref T.gA_LOST) rfl T.gg_LOST rfl) (pa_cons (pv 6) (pa_cons (pv 5) pa_nil)))) pe_non (nomark _)))))
          (pss_one (ps_ret pe_bl))
          pss_nil)))
      (pss_cons (ps_set (i := 7) sc_law.nd rfl (.inl rfl) (pe_call (ok_let_letters T W) (hr.mono (by decide)) rfl T.mg_let_letters T.F_let_letters.kp (b_let_letters T) .nil pass0 (pa_cons (pv 3) (pa_cons (pv 5) pa_nil))))
      (pss_cons (ps_if (PW.pt (pw_or (pt_not (pt_val (pe_callB call_isi rfl T.b_isinstance (by decide +kernel) (pa_cons (pv 7) (pa_cons (pe_bltn (v := .ty "list") rfl T.b_list (by decide +kernel) rfl) pa_nil))))) (pw_or1 (pt_cmpR (op_neD hr.units) (pv 7) (pe_lc rfl (own := [("_law_letter", 6)]) (g := gName 6) (tt := _) sc_law.nd (pi_list (pe_call0 (ok_Lletters T) (hr.mono (by decide)) rfl T.mg_Lletters T.F_Lletters.kp (b_Lletters T) .nil pass0)) (blkOk_by (N := ["_law_script", "_law_feed_here", "_law_number", "_law_s", "_law_names_here", "_law_book", "_law_letter", "_law_let_here", "_law_signs"]) (sc := defScope s_law) (by decide +kernel)) (fun _ _ _ _ _ => pg_name (i := 6) sc_law.nd rfl (Or.inl rfl)) (fun _ _ _ _ _ => pts_one (pt_val (pe_call (ok_Llet T) (hr.mono (by decide)) rfl T.mg_Llet T.F_Llet.kp (b_Llet T) .nil pass0 (pa_cons (pv 3) (pa_cons (pv 6) (pa_cons (pv 4) pa_nil)))))) (fun _ _ _ _ _ => (pv 6))) (nomark _)))))
        (pss_one (ps_ret pe_bl))
        pss_nil)
      (pss_cons (ps_for PassesOwn.never rfl (pi_list (pe_lst (pa_cons pe_str (pa_cons pe_str (pa_cons pe_str (pa_cons pe_str (pa_cons pe_str (pa_cons pe_str (pa_cons pe_str pa_nil))))))))) (pg_name (i := 6) sc_law.nd rfl (.inl rfl))
        (pss_one (ps_if (PW.pt (pw_or (pt_not (pt_val (pe_call (ok_Lraises T W) (hr.mono (by decide)) rfl T.mg_Lraises T.F_Lraises.kp (b_Lraises T) .nil pass0 (pa_cons (pv 3) (pa_cons (pv 6) (pa_cons (pv 5) pa_nil)))))) (pw_or1 (pt_not (pt_val (pe_call (ok_Lraises T W) (hr.mono (by decide)) rfl T.mg_Lraises T.F_Lraises.kp (b_Lraises T) .nil pass0 (pa_cons (pe_glob (v := .ref T.gA_LOST) rfl T.gg_LOST rfl) (pa_cons (pv 6) (pa_cons (pv 5) pa_nil)))))))))
          (pss_one (ps_ret pe_bl))
          pss_nil)))
      (pss_cons (ps_for PassesOwn.never rfl (pi_list (pe_call (ok_Lspoilt T) (hr.mono (by decide)) rfl T.mg_Lspoilt T.F_Lspoilt.kp (b_Lspoilt T) .nil pass0 (pa_cons (pv 3) pa_nil))) (pg_name (i := 8) sc_law.nd rfl (.inl rfl))
        (pss_one (ps_if (pt_cmpR op_notV (pe_call (ok_is_standing T B) (hr.mono (by decide)) rfl T.mg_is_standing T.F_is_standing.kp (b_is_standing T) .nil pass0 (pa_cons (pv 8) pa_nil)) pe_bl (nomark _))
          (pss_one (ps_ret pe_bl))
          pss_nil)))
      (pss_one (ps_ret pe_bl)))))))))))))))), ?_⟩
    refine ⟨_, rfl, a, ns, rfl, hS, hlen, fun H1 p f1 S1 np ep hf => ?_⟩
    ((try dsimp only); (first | (refine Rg.sg (σ' := [some (.ref a), some (.ref p), none, none, none, none, none, none, none]) ?_ ?_; focus exact rfl) | (refine Rg.sgG (σ' := [some (.ref a), some (.ref p), none, none, none, none, none, none, none]) ?_ ?_; focus exact rfl)))
    refine ⟨_, rfl, p, f1, 64, rfl, ep, by decide, fun n0 f2 n0a n0b _ => ?_⟩
    (generalize he_y1 : upd _ p _ = H2; obtain ⟨e_y1, k_y1, f_y1⟩ := own_f he_y1; clear he_y1)
    refine ⟨_, rfl, p, f2, 64, rfl, e_y1, by decide, fun n1 f3 n1a n1b _ => ?_⟩
    (generalize he_y2 : upd _ p _ = H3; obtain ⟨e_y2, k_y2, f_y2⟩ := own_f he_y2; clear he_y2)
    refine ⟨_, _, rfl, rfl, .inl ⟨by decide, by decide⟩, _, _, rfl, rfl, ?_⟩
    obtain ⟨m, em⟩ : ∃ m : Nat, n0 + 64 * n1 = m := ⟨(n0 + 64 * n1).toNat, by omega⟩
    have hm : m < 4096 := by omega
    dsimp only
    rw [em]
    ((try dsimp only); (first | (refine Rg.sg (σ' := [some (.ref a), some (.ref p), some (.int m), none, none, none, none, none, none]) ?_ ?_; focus exact rfl) | (refine Rg.sgG (σ' := [some (.ref a), some (.ref p), some (.int m), none, none, none, none, none, none]) ?_ ?_; focus exact rfl)))
    refine ⟨_, rfl, p, f3, rfl, e_y2, fun H4 sa f4 kk c r h g y k4 e4 hst hM => ?_⟩
    ((try dsimp only); (first | (refine Rg.sg (σ' := [some (.ref a), some (.ref p), some (.int m), some (.ref sa), none, none, none, none, none]) ?_ ?_; focus exact rfl) | (refine Rg.sgG (σ' := [some (.ref a), some (.ref p), some (.int m), some (.ref sa), none, none, none, none, none]) ?_ ?_; focus exact rfl)))
    refine ⟨_, rfl, m, rfl, fun H5 q s5 nq eq => ?_⟩
    ((try dsimp only); (first | (refine Rg.sg (σ' := [some (.ref a), some (.ref p), some (.int m), some (.ref sa), some (.ref q), none, none, none, none]) ?_ ?_; focus exact rfl) | (refine Rg.sgG (σ' := [some (.ref a), some (.ref p), some (.int m), some (.ref sa), some (.ref q), none, none, none, none]) ?_ ?_; focus exact rfl)))
    refine ⟨_, rfl, m, rfl, fun m' em' hm' H6 b s6 nb hb => ?_, fun z => by omega⟩
    obtain rfl : m = m' := by omega
    ((try dsimp only); (first | (refine Rg.sg (σ' := [some (.ref a), some (.ref p), some (.int m), some (.ref sa), some (.ref q), some (.ref b), none, none, none]) ?_ ?_; focus exact rfl) | (refine Rg.sgG (σ' := [some (.ref a), some (.ref p), some (.int m), some (.ref sa), some (.ref q), some (.ref b), none, none, none]) ?_ ?_; focus exact rfl)))
    have t6 : Tab T.Ps H6 := ((tab_kp (tab_kp (tab_kp (ht.same S1) k_y1 ep) k_y2 e_y1) k4 e_y2).same s5).same s6
    have L : Wl K T.Ps T.C_Book H6 sa q b [kk, c, r, h, g, y] (nm Rs m) := ⟨hst.same (s5.trans s6), .inl (.of (s6 _ _ eq)), hb, t6⟩
    clear hst eq hb t6 s5 s6 k4 k_y1 k_y2 e4 e_y1 e_y2 S1 ep
    generalize nm Rs m = N at *
    obtain ⟨m1, m2, m3, m4, m5, m6⟩ := isM_mem hM
    obtain ⟨q1, q2⟩ := kind_all kk m1 c m2
    obtain ⟨q3, q4⟩ := q2 r m3
    refine ⟨T.gA_LETTERS, _, rfl, .inr (T.gt_LETTERS _), ?_⟩
    (intro l1 n_l1; generalize he_l1 : upd _ l1 _ = H7; obtain ⟨e_l1, s_l1, f_l1⟩ := new_f he_l1 n_l1; clear he_l1)
    refine ⟨rfl, fun H8 l2 s8 nl2 el2 => ?_⟩
    refine ⟨_, _, dpT (ns := letL) (s8 _ _ e_l1), dpT el2, shT _ letL_ok, shT _ letL_ok, _, rfl, ?_⟩
    refine wFb (by rw [eqvT, decide_eq_true rfl]; rfl) ?_
    refine ⟨by show 1 ≤ sizeLine; decide, ?_⟩
    (intro t1 n_t1; generalize he_t1 : upd _ t1 _ = H9; obtain ⟨e_t1, s_t1, f_t1⟩ := new_f he_t1 n_t1; clear he_t1)
    refine ⟨_, _, dpS (s := [12]) (T.gt_LOST _), dpS (s := [12]) (.inl (.of e_t1)), shS _, shS _, _, rfl, ?_⟩
    refine wFb (by rw [eqS, decide_eq_true rfl]; rfl) ?_
    have L := L.same ((s_l1.trans s8).trans s_t1)
    clear e_l1 el2 e_t1 s8 s_l1 s_t1
    refine ⟨_, rfl, sa, _, rfl, L.st, by show 6 < 900; decide, L.tb, fun H10 k10 => ?_⟩
    have L := L.tk k10
    rw [hM]
    refine ⟨true, true, rfl, rfl, _, rfl, ?_⟩
    refine wFb rfl ?_
    refine ⟨T.gA_LOST, [12], rfl, T.gt_LOST _, by show 1 < 900; decide, L.tb, fun H11 k11 => ?_⟩
    have L := L.tk k11
    refine ⟨true, true, rfl, rfl, _, rfl, ?_⟩
    refine wFb rfl ?_
    refine ⟨_, rfl, kk, c, r, h, g, y, sa, rfl, L.st, fun G1 g1 => ?_⟩
    have L := L.same g1
    refine ⟨_, rfl, sa, _, 0, sv kk, rfl, rfl, L.st, atI_nat (j := 0) rfl, _, rfl, sa, _, 1, sv c, rfl, rfl, L.st, atI_nat (j := 1) rfl, kk, c, rfl, rfl, _, rfl, ?_⟩
    refine wFb (nd (congrArg sv q1)) ?_
    refine ⟨_, rfl, kk, c, r, h, g, y, sa, rfl, L.st, fun G2 g2 => ?_⟩
    have L := L.same g2
    refine ⟨_, rfl, sa, _, 0, sv kk, rfl, rfl, L.st, atI_nat (j := 0) rfl, _, rfl, sa, _, 1, sv c, rfl, rfl, L.st, atI_nat (j := 1) rfl, _, rfl, sa, _, 2, sv r, rfl, rfl, L.st, atI_nat (j := 2) rfl, kk, c, r, rfl, rfl, _, rfl, ?_⟩
    refine wFb (nd (congrArg sv q3)) ?_
    refine ⟨_, rfl, kk, c, r, h, g, y, sa, rfl, L.st, fun G3 g3 => ?_⟩
    have L := L.same g3
    refine ⟨_, rfl, kk, c, r, h, g, y, sa, rfl, L.st, rfl, _, rfl, ?_⟩
    refine wFb (by rw [decide_eq_true rfl]; rfl) ?_
    refine ⟨_, rfl, kk, c, r, h, g, y, sa, rfl, L.st, fun G4 g4 => ?_⟩
    have L := L.same g4
    refine ⟨_, rfl, kk, c, r, h, g, y, sa, rfl, L.st, rfl, _, rfl, ?_⟩
    refine wFb (nd (congrArg sv q4)) ?_
    apply via (fun G => Wl K T.Ps T.C_Book G sa q b [kk, c, r, h, g, y] N)
    · intro REST
      refine ⟨_, rfl, kk, c, r, h, g, y, sa, rfl, L.st, fun G5 g5 => ?_⟩
      have L := L.same g5
      refine ⟨due c, true, rfl, rfl, _, rfl, ?_⟩
      cases hd : due c
      · refine iteT ?_
        refine ⟨_, rfl, kk, c, r, h, g, y, sa, rfl, L.st, fun G6 g6 => ?_⟩
        have L := L.same g6
        refine ⟨due c, false, rfl, rfl, _, rfl, ?_⟩
        refine wFb (by rw [hd]; rfl) ?_
        exact REST _ L
      · refine iteF ?_
        exact REST _ L
    clear L
    intro G7 L
    refine ⟨_, rfl, kk, c, r, h, g, y, sa, rfl, L.st, fun G8 g8 => ?_⟩
    have L := L.same g8
    refine PB.run (PB.or (PB.eqS (fun Q z => ⟨_, rfl, sa, _, 1, sv c, rfl, rfl, L.st, atI_nat (j := 1) rfl, z⟩) (dS5 _)) fun _ => (PB.eqS (fun Q z => ⟨_, rfl, sa, _, 1, sv c, rfl, rfl, L.st, atI_nat (j := 1) rfl, z⟩) (dS1 _))) ?_
    refine ⟨rfl, _, rfl, ?_⟩
    refine wFb (nd (congrArg V.bl due_eq)) ?_
    refine ⟨rfl, fun H9 l3 s9 nl3 el3 => ⟨l3, rfl, ⟨_, .of el3⟩, ?_⟩⟩
    refine for_list (K := K) (a := l3) (xs := letL.map V.str) (fun i σ H' => ∃ v6 : Option V, σ = [some (.ref a), some (.ref p), some (.int m), some (.ref sa), some (.ref q), some (.ref b), v6, none, none] ∧ Wl K T.Ps T.C_Book H' sa q b [kk, c, r, h, g, y] N ∧ H' l3 = some (.lst (letL.map V.str))) ⟨none, rfl, L.same s9, el3⟩ (fun _ _ _ _ ⟨_, _, _, e⟩ => .of e) ?_ ?_
    · rintro i x σ H9' hx ⟨v6, rfl, L, el3⟩
      obtain ⟨j, rfl⟩ := let_at hx
      ((try dsimp only); (first | (refine Rg.sg (σ' := [some (.ref a), some (.ref p), some (.int m), some (.ref sa), some (.ref q), some (.ref b), some (.str (lt j)), none, none]) ?_ ?_; focus exact rfl) | (refine Rg.sgG (σ' := [some (.ref a), some (.ref p), some (.int m), some (.ref sa), some (.ref q), some (.ref b), some (.str (lt j)), none, none]) ?_ ?_; focus exact rfl)))
      refine ⟨_, rfl, _, rfl, _, rfl, _, rfl, j, N, kk, c, r, h, g, y, sa, q, b, rfl, L.st, hM, L.nm, L.bk, L.tb, fun Ha ka => ?_⟩
      have el3 := ka.at L.tb el3
      have L := L.tk ka
      refine ⟨_, rfl, iteF ?_⟩
      refine ⟨_, rfl, _, rfl, j, T.gA_LOST, b, rfl, T.gt_LOST _, fun Hb sb => ?_⟩
      refine ⟨rfl, _, rfl, ?_⟩
      refine wFb (nd rfl) ?_
      exact ⟨_, rfl, L.same sb, sb _ _ el3⟩
    rintro σ H10' ⟨v6, rfl, L, -⟩
    refine ⟨_, rfl, _, rfl, N, kk, c, r, h, g, y, sa, b, rfl, L.st, L.bk, fun Hc ll sc nll ell => ?_⟩
    have L := L.same sc
    ((try dsimp only); (first | (refine Rg.sg (σ' := [some (.ref a), some (.ref p), some (.int m), some (.ref sa), some (.ref q), some (.ref b), v6, some (.ref ll), none]) ?_ ?_; focus exact rfl) | (refine Rg.sgG (σ' := [some (.ref a), some (.ref p), some (.int m), some (.ref sa), some (.ref q), some (.ref b), v6, some (.ref ll), none]) ?_ ?_; focus exact rfl)))
    refine ⟨_, rfl, _, _, _, _, true, rfl, .ty _, .base (.lst ell), kit_ty (by decide +kernel), _, rfl, iteF ?_⟩
    refine ⟨_, rfl, rfl, fun Hd l4 sd nl4 el4 => ⟨l4, rfl, ⟨_, .of el4⟩, fun D hD => ?_⟩⟩
    have L := L.same sd
    have ell := sd _ _ ell
    refine lc_list (K := K) (a := l4) (xs := letL.map V.str) (PvG (fun i : Fin 12 => V.str (lt i)) Hd D f12 (fun i => llet i N kk c r h g y)) (PvG.start hD) (fun j H' _ pv => .of (pv.1 _ _ el4)) ?_ ?_
    · rintro i x H' hx pv
      obtain ⟨j, hj, rfl⟩ := let_at2 hx
      have L := L.same pv.1
      refine ⟨rfl, _, rfl, _, rfl, _, rfl, j, N, kk, c, r, h, g, y, sa, q, rfl, L.st, L.nm, _, rfl, ?_⟩
      cases hl : llet j N kk c r h g y
      · exact iteF (pv.no (Same.refl _) hj hl)
      · exact iteT ⟨_, rfl, pv.yes hD (Same.refl _) hj (by show 12 < 1000; decide) hl⟩
    intro He pv
    obtain ⟨se, ee⟩ := pv.all rfl
    have L := L.same se
    have ell := se _ _ ell
    rw [show (f12.filter fun i => llet i N kk c r h g y).map (fun i : Fin 12 => V.str (lt i)) = ((f12.filter fun i => llet i N kk c r h g y).map lt).map V.str from (List.map_map ..).symm] at ee
    refine ⟨_, _, dpT ell, dpT ee, shT _ (fl_ok _), shT _ (fl_ok _), _, rfl, ?_⟩
    refine wFb (by rw [eqvT, decide_eq_true (lets_eq hM)]; rfl) ?_
    clear ell ee pv se sd sc el4
    refine ⟨by show 7 ≤ sizeLine; decide, ?_⟩
    (intro l5 n_l5; generalize he_l5 : upd _ l5 _ = Hf; obtain ⟨e_l5, s_l5, f_l5⟩ := new_f he_l5 n_l5; clear he_l5)
    have L := L.same s_l5
    refine ⟨l5, rfl, ⟨_, .of e_l5⟩, ?_⟩
    refine for_list (K := K) (a := l5) (xs := badL.map V.str) (fun i σ H' => ∃ v6 : Option V, σ = [some (.ref a), some (.ref p), some (.int m), some (.ref sa), some (.ref q), some (.ref b), v6, some (.ref ll), none] ∧ Wl K T.Ps T.C_Book H' sa q b [kk, c, r, h, g, y] N ∧ H' l5 = some (.lst (badL.map V.str))) ⟨v6, rfl, L, e_l5⟩ (fun _ _ _ _ ⟨_, _, _, e⟩ => .of e) ?_ ?_
    · rintro i x σ Hg hx ⟨v6, rfl, L, el5⟩
      obtain ⟨z, rfl, hz⟩ := str_at hx
      have hz := List.mem_of_getElem? hz
      ((try dsimp only); (first | (refine Rg.sg (σ' := [some (.ref a), some (.ref p), some (.int m), some (.ref sa), some (.ref q), some (.ref b), some (.str z), some (.ref ll), none]) ?_ ?_; focus exact rfl) | (refine Rg.sgG (σ' := [some (.ref a), some (.ref p), some (.int m), some (.ref sa), some (.ref q), some (.ref b), some (.str z), some (.ref ll), none]) ?_ ?_; focus exact rfl)))
      refine ⟨_, rfl, _, rfl, _, rfl, z, sa, b, rfl, hz, fun Ha sa_ => ?_⟩
      refine ⟨_, rfl, iteF ?_⟩
      refine ⟨_, rfl, _, rfl, z, T.gA_LOST, b, rfl, hz, fun Hb sb => ?_⟩
      refine ⟨_, rfl, iteF ?_⟩
      exact ⟨_, rfl, (L.same sa_).same sb, sb _ _ (sa_ _ _ el5)⟩
    rintro σ Hh ⟨v6, rfl, L, -⟩
    refine ⟨_, rfl, kk, c, r, h, g, y, sa, rfl, L.st, hM, fun Hs sp_ as ss nsp esp ln R => ⟨sp_, rfl, ⟨_, .of esp⟩, ?_⟩⟩
    have L := L.same ss
    refine for_list (K := K) (a := sp_) (xs := as.map V.ref) (fun i σ H' => ∃ v8 : Option V, σ = [some (.ref a), some (.ref p), some (.int m), some (.ref sa), some (.ref q), some (.ref b), v6, some (.ref ll), v8] ∧ Tab T.Ps H' ∧ Rws K H' as ∧ H' sp_ = some (.lst (as.map V.ref))) ⟨none, rfl, L.tb, R, esp⟩ (fun _ _ _ _ ⟨_, _, _, _, e⟩ => .of e) ?_ ?_
    · rintro i x σ Hg hx ⟨v8, rfl, tb, R, esp⟩
      rw [List.getElem?_map] at hx
      obtain ⟨t, ht, rfl⟩ := Option.map_eq_some_iff.mp hx
      obtain ⟨s_, hs, hl, hf⟩ := R t (List.mem_of_getElem? ht)
      ((try dsimp only); (first | (refine Rg.sg (σ' := [some (.ref a), some (.ref p), some (.int m), some (.ref sa), some (.ref q), some (.ref b), v6, some (.ref ll), some (.ref t)]) ?_ ?_; focus exact rfl) | (refine Rg.sgG (σ' := [some (.ref a), some (.ref p), some (.int m), some (.ref sa), some (.ref q), some (.ref b), v6, some (.ref ll), some (.ref t)]) ?_ ?_; focus exact rfl)))
      refine ⟨_, rfl, t, s_, rfl, hs, hl, tb, fun Hz kz => ?_⟩
      rw [hf]
      refine ⟨false, false, rfl, rfl, _, rfl, ?_⟩
      refine wFb rfl ?_
      exact ⟨_, rfl, kz.tab, R.tk kz tb, kz.at tb esp⟩
    rintro σ Hi ⟨v8, rfl, -⟩
    exact k _
end
end K52
namespace K52
open PySem PySem.Spec PyProof.Rows L2 Rg
theorem law_binds {K : PySem.W.Frag} {mg : Str → Option Value} (T : Tx K mg) (s : Shared) (v : Value) : BindsTo s T.fd_law ⟨[v], []⟩ [("_law_script", v)] := by
  obtain ⟨oc, od, kV, doc, pm, an, cdv, ct, osl, e, lk, hcd⟩ := T.F_law.ex
  rw [e]
  exact .of_eq rfl
theorem fin_lk {K : PySem.W.Frag} {x qual : Str} {st : Stmt} {f : Addr} {fd : FuncData} (F : Fun K x qual st f fd) : ∃ (oc : Value) (od : Option Addr) (osl : Array (Option Value)), K.lookup f = some ⟨oc, od, .func fd, osl⟩ := by
  obtain ⟨oc, od, kV, doc, pm, an, cdv, ct, osl, e, lk, hcd⟩ := F.ex
  exact ⟨_, _, _, lk⟩
theorem fin_G {l : PySem.W.OpenLaw} {q : Program} {w : World} {K : PySem.W.Frag} {mg : Str → Option Value} {fa : Addr} {h : Heap} (z : ∃ T : Tx K mg, Tw T w) (hmg : mg "law" = some (.ref fa)) (KX : K.In h) (TT : Rg.TabsOf q mg h)
    (q_is_standing : (recsOf q).any (fun d => d.name == "is_standing") = true) :
    LamX.LawAtS l w K L2.CX0 9 63 "_law_script" mg fa h := by
  obtain ⟨T, W⟩ := z
  have e : T.f_law = fa := Value.ref.inj (Option.some.inj (T.mg_law.symm.trans hmg))
  subst e
  have h_is_standing : h.get? T.P_is_standing = some { cls := .none, data := .fields #[] } := by
    obtain ⟨_, _, _, lk⟩ := fin_lk T.F_is_standing
    exact Rg.tab_of TT KX q_is_standing T.mg_is_standing lk T.code_is_standing T.ch_is_standing
  refine ⟨T.fd_law, [(T.cc_is_standing, T.P_is_standing)], sp_law K T.Ps, List.forall_mem_cons.mpr ⟨h_is_standing, fun _ z => nomatch z⟩, List.forall_mem_cons.mpr ⟨T.cn_is_standing, fun _ z => nomatch z⟩, List.forall_mem_cons.mpr ⟨PySem.W.codeHd_of_K KX T.ch_is_standing, fun _ z => nomatch z⟩, fun s v => law_binds T s v, fun H a ns hl _ hT hS => ⟨a, ns, rfl, ?_, hS, hl, fun _ => rfl⟩, fun base _ _ TB => ok_law T ⟨TB (T.cc_is_standing, T.P_is_standing) (by simp)⟩ W⟩
  exact List.forall_mem_cons.mpr ⟨⟨#[], hT (T.cc_is_standing, T.P_is_standing) (by simp), True.intro⟩, fun _ z => nomatch z⟩
theorem all_mk {w : World} {K : PySem.W.Frag} {h : Heap} {mg : Str → Option Value} (X : K.In h) (G : h.Ns mainGlobals mg)
    {a_kind_behind : Addr}
    {od_kind_behind an_kind_behind : Option Addr} {sl_kind_behind : Array (Option Value)} {oc_kind_behind kV_kind_behind dc_kind_behind pm_kind_behind cd_kind_behind ct_kind_behind : Value}
    (l_kind_behind : K.lookup a_kind_behind = some ⟨oc_kind_behind, od_kind_behind, .func (PySem.W.fnOf "_kind_behind" "_kind_behind" (defArgs s_kind_behind) (defBody s_kind_behind) (defScope s_kind_behind) .none kV_kind_behind dc_kind_behind pm_kind_behind an_kind_behind cd_kind_behind ct_kind_behind), sl_kind_behind⟩)
    (c_kind_behind : PySem.W.codeIn K cd_kind_behind "_kind_behind" = true)
    (k_kind_behind : PySem.W.keepIn K (.ref a_kind_behind) = true)
    (g_kind_behind : PySem.W.nsIn K mainGlobals "_kind_behind" = some (some (.ref a_kind_behind)))
    {a_kind_c : Addr}
    {od_kind_c an_kind_c : Option Addr} {sl_kind_c : Array (Option Value)} {oc_kind_c kV_kind_c dc_kind_c pm_kind_c cd_kind_c ct_kind_c : Value}
    (l_kind_c : K.lookup a_kind_c = some ⟨oc_kind_c, od_kind_c, .func (PySem.W.fnOf "kind_c" "kind_c" (defArgs s_kind_c) (defBody s_kind_c) (defScope s_kind_c) .none kV_kind_c dc_kind_c pm_kind_c an_kind_c cd_kind_c ct_kind_c), sl_kind_c⟩)
    (c_kind_c : PySem.W.codeIn K cd_kind_c "kind_c" = true)
    (k_kind_c : PySem.W.keepIn K (.ref a_kind_c) = true)
    (g_kind_c : PySem.W.nsIn K mainGlobals "kind_c" = some (some (.ref a_kind_c)))
    {a_kind_r : Addr}
    {od_kind_r an_kind_r : Option Addr} {sl_kind_r : Array (Option Value)} {oc_kind_r kV_kind_r dc_kind_r pm_kind_r cd_kind_r ct_kind_r : Value}
    (l_kind_r : K.lookup a_kind_r = some ⟨oc_kind_r, od_kind_r, .func (PySem.W.fnOf "kind_r" "kind_r" (defArgs s_kind_r) (defBody s_kind_r) (defScope s_kind_r) .none kV_kind_r dc_kind_r pm_kind_r an_kind_r cd_kind_r ct_kind_r), sl_kind_r⟩)
    (c_kind_r : PySem.W.codeIn K cd_kind_r "kind_r" = true)
    (k_kind_r : PySem.W.keepIn K (.ref a_kind_r) = true)
    (g_kind_r : PySem.W.nsIn K mainGlobals "kind_r" = some (some (.ref a_kind_r)))
    {a_content_c : Addr}
    {od_content_c an_content_c : Option Addr} {sl_content_c : Array (Option Value)} {oc_content_c kV_content_c dc_content_c pm_content_c cd_content_c ct_content_c : Value}
    (l_content_c : K.lookup a_content_c = some ⟨oc_content_c, od_content_c, .func (PySem.W.fnOf "content_c" "content_c" (defArgs s_content_c) (defBody s_content_c) (defScope s_content_c) .none kV_content_c dc_content_c pm_content_c an_content_c cd_content_c ct_content_c), sl_content_c⟩)
    (c_content_c : PySem.W.codeIn K cd_content_c "content_c" = true)
    (k_content_c : PySem.W.keepIn K (.ref a_content_c) = true)
    (g_content_c : PySem.W.nsIn K mainGlobals "content_c" = some (some (.ref a_content_c)))
    {a_content_r : Addr}
    {od_content_r an_content_r : Option Addr} {sl_content_r : Array (Option Value)} {oc_content_r kV_content_r dc_content_r pm_content_r cd_content_r ct_content_r : Value}
    (l_content_r : K.lookup a_content_r = some ⟨oc_content_r, od_content_r, .func (PySem.W.fnOf "content_r" "content_r" (defArgs s_content_r) (defBody s_content_r) (defScope s_content_r) .none kV_content_r dc_content_r pm_content_r an_content_r cd_content_r ct_content_r), sl_content_r⟩)
    (c_content_r : PySem.W.codeIn K cd_content_r "content_r" = true)
    (k_content_r : PySem.W.keepIn K (.ref a_content_r) = true)
    (g_content_r : PySem.W.nsIn K mainGlobals "content_r" = some (some (.ref a_content_r)))
    {a_is_due : Addr}
    {od_is_due an_is_due : Option Addr} {sl_is_due : Array (Option Value)} {oc_is_due kV_is_due dc_is_due pm_is_due cd_is_due ct_is_due : Value}
    (l_is_due : K.lookup a_is_due = some ⟨oc_is_due, od_is_due, .func (PySem.W.fnOf "is_due" "is_due" (defArgs s_is_due) (defBody s_is_due) (defScope s_is_due) .none kV_is_due dc_is_due pm_is_due an_is_due cd_is_due ct_is_due), sl_is_due⟩)
    (c_is_due : PySem.W.codeIn K cd_is_due "is_due" = true)
    (k_is_due : PySem.W.keepIn K (.ref a_is_due) = true)
    (g_is_due : PySem.W.nsIn K mainGlobals "is_due" = some (some (.ref a_is_due)))
    {a_may_follow : Addr}
    {od_may_follow an_may_follow : Option Addr} {sl_may_follow : Array (Option Value)} {oc_may_follow kV_may_follow dc_may_follow pm_may_follow cd_may_follow ct_may_follow : Value}
    (l_may_follow : K.lookup a_may_follow = some ⟨oc_may_follow, od_may_follow, .func (PySem.W.fnOf "_may_follow" "_may_follow" (defArgs s_may_follow) (defBody s_may_follow) (defScope s_may_follow) .none kV_may_follow dc_may_follow pm_may_follow an_may_follow cd_may_follow ct_may_follow), sl_may_follow⟩)
    (c_may_follow : PySem.W.codeIn K cd_may_follow "_may_follow" = true)
    (k_may_follow : PySem.W.keepIn K (.ref a_may_follow) = true)
    (g_may_follow : PySem.W.nsIn K mainGlobals "_may_follow" = some (some (.ref a_may_follow)))
    {a_content_fits : Addr}
    {od_content_fits an_content_fits : Option Addr} {sl_content_fits : Array (Option Value)} {oc_content_fits kV_content_fits dc_content_fits pm_content_fits cd_content_fits ct_content_fits : Value}
    (l_content_fits : K.lookup a_content_fits = some ⟨oc_content_fits, od_content_fits, .func (PySem.W.fnOf "_content_fits" "_content_fits" (defArgs s_content_fits) (defBody s_content_fits) (defScope s_content_fits) .none kV_content_fits dc_content_fits pm_content_fits an_content_fits cd_content_fits ct_content_fits), sl_content_fits⟩)
    (c_content_fits : PySem.W.codeIn K cd_content_fits "_content_fits" = true)
    (k_content_fits : PySem.W.keepIn K (.ref a_content_fits) = true)
    (g_content_fits : PySem.W.nsIn K mainGlobals "_content_fits" = some (some (.ref a_content_fits)))
    {a_is_standing : Addr}
    {od_is_standing an_is_standing : Option Addr} {sl_is_standing : Array (Option Value)} {oc_is_standing kV_is_standing dc_is_standing pm_is_standing cd_is_standing ct_is_standing : Value}
    (l_is_standing : K.lookup a_is_standing = some ⟨oc_is_standing, od_is_standing, .func (PySem.W.fnOf "is_standing" "is_standing" (defArgs s_is_standing) (defBody s_is_standing) (defScope s_is_standing) .none kV_is_standing dc_is_standing pm_is_standing an_is_standing cd_is_standing ct_is_standing), sl_is_standing⟩)
    (c_is_standing : PySem.W.codeIn K cd_is_standing "is_standing" = true)
    (k_is_standing : PySem.W.keepIn K (.ref a_is_standing) = true)
    (g_is_standing : PySem.W.nsIn K mainGlobals "is_standing" = some (some (.ref a_is_standing)))
    {ac_is_standing : Addr}
    (cc1_is_standing : cd_is_standing = .ref ac_is_standing)
    (ch1_is_standing : PySem.W.codeHdIn K ac_is_standing (He.tabOf K ac_is_standing) = true)
    (cn1_is_standing : K.lookup (He.tabOf K ac_is_standing) = none)
    {a_must_wait : Addr}
    {od_must_wait an_must_wait : Option Addr} {sl_must_wait : Array (Option Value)} {oc_must_wait kV_must_wait dc_must_wait pm_must_wait cd_must_wait ct_must_wait : Value}
    (l_must_wait : K.lookup a_must_wait = some ⟨oc_must_wait, od_must_wait, .func (PySem.W.fnOf "_must_wait" "_must_wait" (defArgs s_must_wait) (defBody s_must_wait) (defScope s_must_wait) .none kV_must_wait dc_must_wait pm_must_wait an_must_wait cd_must_wait ct_must_wait), sl_must_wait⟩)
    (c_must_wait : PySem.W.codeIn K cd_must_wait "_must_wait" = true)
    (k_must_wait : PySem.W.keepIn K (.ref a_must_wait) = true)
    (g_must_wait : PySem.W.nsIn K mainGlobals "_must_wait" = some (some (.ref a_must_wait)))
    {a_home_gone : Addr}
    {od_home_gone an_home_gone : Option Addr} {sl_home_gone : Array (Option Value)} {oc_home_gone kV_home_gone dc_home_gone pm_home_gone cd_home_gone ct_home_gone : Value}
    (l_home_gone : K.lookup a_home_gone = some ⟨oc_home_gone, od_home_gone, .func (PySem.W.fnOf "_home_gone" "_home_gone" (defArgs s_home_gone) (defBody s_home_gone) (defScope s_home_gone) .none kV_home_gone dc_home_gone pm_home_gone an_home_gone cd_home_gone ct_home_gone), sl_home_gone⟩)
    (c_home_gone : PySem.W.codeIn K cd_home_gone "_home_gone" = true)
    (k_home_gone : PySem.W.keepIn K (.ref a_home_gone) = true)
    (g_home_gone : PySem.W.nsIn K mainGlobals "_home_gone" = some (some (.ref a_home_gone)))
    {a_home_behind_mark : Addr}
    {od_home_behind_mark an_home_behind_mark : Option Addr} {sl_home_behind_mark : Array (Option Value)} {oc_home_behind_mark kV_home_behind_mark dc_home_behind_mark pm_home_behind_mark cd_home_behind_mark ct_home_behind_mark : Value}
    (l_home_behind_mark : K.lookup a_home_behind_mark = some ⟨oc_home_behind_mark, od_home_behind_mark, .func (PySem.W.fnOf "_home_behind_mark" "_home_behind_mark" (defArgs s_home_behind_mark) (defBody s_home_behind_mark) (defScope s_home_behind_mark) .none kV_home_behind_mark dc_home_behind_mark pm_home_behind_mark an_home_behind_mark cd_home_behind_mark ct_home_behind_mark), sl_home_behind_mark⟩)
    (c_home_behind_mark : PySem.W.codeIn K cd_home_behind_mark "_home_behind_mark" = true)
    (k_home_behind_mark : PySem.W.keepIn K (.ref a_home_behind_mark) = true)
    (g_home_behind_mark : PySem.W.nsIn K mainGlobals "_home_behind_mark" = some (some (.ref a_home_behind_mark)))
    {a_log_behind_mark : Addr}
    {od_log_behind_mark an_log_behind_mark : Option Addr} {sl_log_behind_mark : Array (Option Value)} {oc_log_behind_mark kV_log_behind_mark dc_log_behind_mark pm_log_behind_mark cd_log_behind_mark ct_log_behind_mark : Value}
    (l_log_behind_mark : K.lookup a_log_behind_mark = some ⟨oc_log_behind_mark, od_log_behind_mark, .func (PySem.W.fnOf "_log_behind_mark" "_log_behind_mark" (defArgs s_log_behind_mark) (defBody s_log_behind_mark) (defScope s_log_behind_mark) .none kV_log_behind_mark dc_log_behind_mark pm_log_behind_mark an_log_behind_mark cd_log_behind_mark ct_log_behind_mark), sl_log_behind_mark⟩)
    (c_log_behind_mark : PySem.W.codeIn K cd_log_behind_mark "_log_behind_mark" = true)
    (k_log_behind_mark : PySem.W.keepIn K (.ref a_log_behind_mark) = true)
    (g_log_behind_mark : PySem.W.nsIn K mainGlobals "_log_behind_mark" = some (some (.ref a_log_behind_mark)))
    {a_running_words : Addr}
    {od_running_words an_running_words : Option Addr} {sl_running_words : Array (Option Value)} {oc_running_words kV_running_words dc_running_words pm_running_words cd_running_words ct_running_words : Value}
    (l_running_words : K.lookup a_running_words = some ⟨oc_running_words, od_running_words, .func (PySem.W.fnOf "_running_words" "_running_words" (defArgs s_running_words) (defBody s_running_words) (defScope s_running_words) .none kV_running_words dc_running_words pm_running_words an_running_words cd_running_words ct_running_words), sl_running_words⟩)
    (c_running_words : PySem.W.codeIn K cd_running_words "_running_words" = true)
    (k_running_words : PySem.W.keepIn K (.ref a_running_words) = true)
    (g_running_words : PySem.W.nsIn K mainGlobals "_running_words" = some (some (.ref a_running_words)))
    {a_closing_words : Addr}
    {od_closing_words an_closing_words : Option Addr} {sl_closing_words : Array (Option Value)} {oc_closing_words kV_closing_words dc_closing_words pm_closing_words cd_closing_words ct_closing_words : Value}
    (l_closing_words : K.lookup a_closing_words = some ⟨oc_closing_words, od_closing_words, .func (PySem.W.fnOf "_closing_words" "_closing_words" (defArgs s_closing_words) (defBody s_closing_words) (defScope s_closing_words) .none kV_closing_words dc_closing_words pm_closing_words an_closing_words cd_closing_words ct_closing_words), sl_closing_words⟩)
    (c_closing_words : PySem.W.codeIn K cd_closing_words "_closing_words" = true)
    (k_closing_words : PySem.W.keepIn K (.ref a_closing_words) = true)
    (g_closing_words : PySem.W.nsIn K mainGlobals "_closing_words" = some (some (.ref a_closing_words)))
    {a_takel : Addr}
    {od_takel an_takel : Option Addr} {sl_takel : Array (Option Value)} {oc_takel kV_takel dc_takel pm_takel cd_takel ct_takel : Value}
    (l_takel : K.lookup a_takel = some ⟨oc_takel, od_takel, .func (PySem.W.fnOf "_takel" "_takel" (defArgs s_takel) (defBody s_takel) (defScope s_takel) .none kV_takel dc_takel pm_takel an_takel cd_takel ct_takel), sl_takel⟩)
    (c_takel : PySem.W.codeIn K cd_takel "_takel" = true)
    (k_takel : PySem.W.keepIn K (.ref a_takel) = true)
    (g_takel : PySem.W.nsIn K mainGlobals "_takel" = some (some (.ref a_takel)))
    {a_takep : Addr}
    {od_takep an_takep : Option Addr} {sl_takep : Array (Option Value)} {oc_takep kV_takep dc_takep pm_takep cd_takep ct_takep : Value}
    (l_takep : K.lookup a_takep = some ⟨oc_takep, od_takep, .func (PySem.W.fnOf "_takep" "_takep" (defArgs s_takep) (defBody s_takep) (defScope s_takep) .none kV_takep dc_takep pm_takep an_takep cd_takep ct_takep), sl_takep⟩)
    (c_takep : PySem.W.codeIn K cd_takep "_takep" = true)
    (k_takep : PySem.W.keepIn K (.ref a_takep) = true)
    (g_takep : PySem.W.nsIn K mainGlobals "_takep" = some (some (.ref a_takep)))
    {a_change : Addr}
    {od_change an_change : Option Addr} {sl_change : Array (Option Value)} {oc_change kV_change dc_change pm_change cd_change ct_change : Value}
    (l_change : K.lookup a_change = some ⟨oc_change, od_change, .func (PySem.W.fnOf "_change" "_change" (defArgs s_change) (defBody s_change) (defScope s_change) .none kV_change dc_change pm_change an_change cd_change ct_change), sl_change⟩)
    (c_change : PySem.W.codeIn K cd_change "_change" = true)
    (k_change : PySem.W.keepIn K (.ref a_change) = true)
    (g_change : PySem.W.nsIn K mainGlobals "_change" = some (some (.ref a_change)))
    {a_free : Addr}
    {od_free an_free : Option Addr} {sl_free : Array (Option Value)} {oc_free kV_free dc_free pm_free cd_free ct_free : Value}
    (l_free : K.lookup a_free = some ⟨oc_free, od_free, .func (PySem.W.fnOf "_free" "_free" (defArgs s_free) (defBody s_free) (defScope s_free) .none kV_free dc_free pm_free an_free cd_free ct_free), sl_free⟩)
    (c_free : PySem.W.codeIn K cd_free "_free" = true)
    (k_free : PySem.W.keepIn K (.ref a_free) = true)
    (g_free : PySem.W.nsIn K mainGlobals "_free" = some (some (.ref a_free)))
    {a_close : Addr}
    {od_close an_close : Option Addr} {sl_close : Array (Option Value)} {oc_close kV_close dc_close pm_close cd_close ct_close : Value}
    (l_close : K.lookup a_close = some ⟨oc_close, od_close, .func (PySem.W.fnOf "_close" "_close" (defArgs s_close) (defBody s_close) (defScope s_close) .none kV_close dc_close pm_close an_close cd_close ct_close), sl_close⟩)
    (c_close : PySem.W.codeIn K cd_close "_close" = true)
    (k_close : PySem.W.keepIn K (.ref a_close) = true)
    (g_close : PySem.W.nsIn K mainGlobals "_close" = some (some (.ref a_close)))
    {a_copy : Addr}
    {od_copy an_copy : Option Addr} {sl_copy : Array (Option Value)} {oc_copy kV_copy dc_copy pm_copy cd_copy ct_copy : Value}
    (l_copy : K.lookup a_copy = some ⟨oc_copy, od_copy, .func (PySem.W.fnOf "_copy" "_copy" (defArgs s_copy) (defBody s_copy) (defScope s_copy) .none kV_copy dc_copy pm_copy an_copy cd_copy ct_copy), sl_copy⟩)
    (c_copy : PySem.W.codeIn K cd_copy "_copy" = true)
    (k_copy : PySem.W.keepIn K (.ref a_copy) = true)
    (g_copy : PySem.W.nsIn K mainGlobals "_copy" = some (some (.ref a_copy)))
    {a_mark : Addr}
    {od_mark an_mark : Option Addr} {sl_mark : Array (Option Value)} {oc_mark kV_mark dc_mark pm_mark cd_mark ct_mark : Value}
    (l_mark : K.lookup a_mark = some ⟨oc_mark, od_mark, .func (PySem.W.fnOf "_mark" "_mark" (defArgs s_mark) (defBody s_mark) (defScope s_mark) .none kV_mark dc_mark pm_mark an_mark cd_mark ct_mark), sl_mark⟩)
    (c_mark : PySem.W.codeIn K cd_mark "_mark" = true)
    (k_mark : PySem.W.keepIn K (.ref a_mark) = true)
    (g_mark : PySem.W.nsIn K mainGlobals "_mark" = some (some (.ref a_mark)))
    {a_home : Addr}
    {od_home an_home : Option Addr} {sl_home : Array (Option Value)} {oc_home kV_home dc_home pm_home cd_home ct_home : Value}
    (l_home : K.lookup a_home = some ⟨oc_home, od_home, .func (PySem.W.fnOf "_home" "_home" (defArgs s_home) (defBody s_home) (defScope s_home) .none kV_home dc_home pm_home an_home cd_home ct_home), sl_home⟩)
    (c_home : PySem.W.codeIn K cd_home "_home" = true)
    (k_home : PySem.W.keepIn K (.ref a_home) = true)
    (g_home : PySem.W.nsIn K mainGlobals "_home" = some (some (.ref a_home)))
    {a_early : Addr}
    {od_early an_early : Option Addr} {sl_early : Array (Option Value)} {oc_early kV_early dc_early pm_early cd_early ct_early : Value}
    (l_early : K.lookup a_early = some ⟨oc_early, od_early, .func (PySem.W.fnOf "_early" "_early" (defArgs s_early) (defBody s_early) (defScope s_early) .none kV_early dc_early pm_early an_early cd_early ct_early), sl_early⟩)
    (c_early : PySem.W.codeIn K cd_early "_early" = true)
    (k_early : PySem.W.keepIn K (.ref a_early) = true)
    (g_early : PySem.W.nsIn K mainGlobals "_early" = some (some (.ref a_early)))
    {a_words : Addr}
    {od_words an_words : Option Addr} {sl_words : Array (Option Value)} {oc_words kV_words dc_words pm_words cd_words ct_words : Value}
    (l_words : K.lookup a_words = some ⟨oc_words, od_words, .func (PySem.W.fnOf "_words" "_words" (defArgs s_words) (defBody s_words) (defScope s_words) .none kV_words dc_words pm_words an_words cd_words ct_words), sl_words⟩)
    (c_words : PySem.W.codeIn K cd_words "_words" = true)
    (k_words : PySem.W.keepIn K (.ref a_words) = true)
    (g_words : PySem.W.nsIn K mainGlobals "_words" = some (some (.ref a_words)))
    {a_room : Addr}
    {od_room an_room : Option Addr} {sl_room : Array (Option Value)} {oc_room kV_room dc_room pm_room cd_room ct_room : Value}
    (l_room : K.lookup a_room = some ⟨oc_room, od_room, .func (PySem.W.fnOf "_room" "_room" (defArgs s_room) (defBody s_room) (defScope s_room) .none kV_room dc_room pm_room an_room cd_room ct_room), sl_room⟩)
    (c_room : PySem.W.codeIn K cd_room "_room" = true)
    (k_room : PySem.W.keepIn K (.ref a_room) = true)
    (g_room : PySem.W.nsIn K mainGlobals "_room" = some (some (.ref a_room)))
    {a_told : Addr}
    {od_told an_told : Option Addr} {sl_told : Array (Option Value)} {oc_told kV_told dc_told pm_told cd_told ct_told : Value}
    (l_told : K.lookup a_told = some ⟨oc_told, od_told, .func (PySem.W.fnOf "_told" "_told" (defArgs s_told) (defBody s_told) (defScope s_told) .none kV_told dc_told pm_told an_told cd_told ct_told), sl_told⟩)
    (c_told : PySem.W.codeIn K cd_told "_told" = true)
    (k_told : PySem.W.keepIn K (.ref a_told) = true)
    (g_told : PySem.W.nsIn K mainGlobals "_told" = some (some (.ref a_told)))
    {a_after : Addr}
    {od_after an_after : Option Addr} {sl_after : Array (Option Value)} {oc_after kV_after dc_after pm_after cd_after ct_after : Value}
    (l_after : K.lookup a_after = some ⟨oc_after, od_after, .func (PySem.W.fnOf "after" "after" (defArgs s_after) (defBody s_after) (defScope s_after) .none kV_after dc_after pm_after an_after cd_after ct_after), sl_after⟩)
    (c_after : PySem.W.codeIn K cd_after "after" = true)
    (k_after : PySem.W.keepIn K (.ref a_after) = true)
    (g_after : PySem.W.nsIn K mainGlobals "after" = some (some (.ref a_after)))
    {a_let_letters : Addr}
    {od_let_letters an_let_letters : Option Addr} {sl_let_letters : Array (Option Value)} {oc_let_letters kV_let_letters dc_let_letters pm_let_letters cd_let_letters ct_let_letters : Value}
    (l_let_letters : K.lookup a_let_letters = some ⟨oc_let_letters, od_let_letters, .func (PySem.W.fnOf "let_letters" "let_letters" (defArgs s_let_letters) (defBody s_let_letters) (defScope s_let_letters) .none kV_let_letters dc_let_letters pm_let_letters an_let_letters cd_let_letters ct_let_letters), sl_let_letters⟩)
    (c_let_letters : PySem.W.codeIn K cd_let_letters "let_letters" = true)
    (k_let_letters : PySem.W.keepIn K (.ref a_let_letters) = true)
    (g_let_letters : PySem.W.nsIn K mainGlobals "let_letters" = some (some (.ref a_let_letters)))
    {a_numbered_names : Addr}
    {od_numbered_names an_numbered_names : Option Addr} {sl_numbered_names : Array (Option Value)} {oc_numbered_names kV_numbered_names dc_numbered_names pm_numbered_names cd_numbered_names ct_numbered_names : Value}
    (l_numbered_names : K.lookup a_numbered_names = some ⟨oc_numbered_names, od_numbered_names, .func (PySem.W.fnOf "numbered_names" "numbered_names" (defArgs s_numbered_names) (defBody s_numbered_names) (defScope s_numbered_names) .none kV_numbered_names dc_numbered_names pm_numbered_names an_numbered_names cd_numbered_names ct_numbered_names), sl_numbered_names⟩)
    (c_numbered_names : PySem.W.codeIn K cd_numbered_names "numbered_names" = true)
    (k_numbered_names : PySem.W.keepIn K (.ref a_numbered_names) = true)
    (g_numbered_names : PySem.W.nsIn K mainGlobals "numbered_names" = some (some (.ref a_numbered_names)))
    {a_Lfeed : Addr}
    {od_Lfeed an_Lfeed : Option Addr} {sl_Lfeed : Array (Option Value)} {oc_Lfeed kV_Lfeed dc_Lfeed pm_Lfeed cd_Lfeed ct_Lfeed : Value}
    (l_Lfeed : K.lookup a_Lfeed = some ⟨oc_Lfeed, od_Lfeed, .func (PySem.W.fnOf "_law_feed" "_law_feed" (defArgs s_Lfeed) (defBody s_Lfeed) (defScope s_Lfeed) .none kV_Lfeed dc_Lfeed pm_Lfeed an_Lfeed cd_Lfeed ct_Lfeed), sl_Lfeed⟩)
    (c_Lfeed : PySem.W.codeIn K cd_Lfeed "_law_feed" = true)
    (k_Lfeed : PySem.W.keepIn K (.ref a_Lfeed) = true)
    (g_Lfeed : PySem.W.nsIn K mainGlobals "_law_feed" = some (some (.ref a_Lfeed)))
    {a_Lpick : Addr}
    {od_Lpick an_Lpick : Option Addr} {sl_Lpick : Array (Option Value)} {oc_Lpick kV_Lpick dc_Lpick pm_Lpick cd_Lpick ct_Lpick : Value}
    (l_Lpick : K.lookup a_Lpick = some ⟨oc_Lpick, od_Lpick, .func (PySem.W.fnOf "_law_pick" "_law_pick" (defArgs s_Lpick) (defBody s_Lpick) (defScope s_Lpick) .none kV_Lpick dc_Lpick pm_Lpick an_Lpick cd_Lpick ct_Lpick), sl_Lpick⟩)
    (c_Lpick : PySem.W.codeIn K cd_Lpick "_law_pick" = true)
    (k_Lpick : PySem.W.keepIn K (.ref a_Lpick) = true)
    (g_Lpick : PySem.W.nsIn K mainGlobals "_law_pick" = some (some (.ref a_Lpick)))
    {a_Lrules : Addr}
    {od_Lrules an_Lrules : Option Addr} {sl_Lrules : Array (Option Value)} {oc_Lrules kV_Lrules dc_Lrules pm_Lrules cd_Lrules ct_Lrules : Value}
    (l_Lrules : K.lookup a_Lrules = some ⟨oc_Lrules, od_Lrules, .func (PySem.W.fnOf "_law_rules" "_law_rules" (defArgs s_Lrules) (defBody s_Lrules) (defScope s_Lrules) .none kV_Lrules dc_Lrules pm_Lrules an_Lrules cd_Lrules ct_Lrules), sl_Lrules⟩)
    (c_Lrules : PySem.W.codeIn K cd_Lrules "_law_rules" = true)
    (k_Lrules : PySem.W.keepIn K (.ref a_Lrules) = true)
    (g_Lrules : PySem.W.nsIn K mainGlobals "_law_rules" = some (some (.ref a_Lrules)))
    {a_Lnames : Addr}
    {od_Lnames an_Lnames : Option Addr} {sl_Lnames : Array (Option Value)} {oc_Lnames kV_Lnames dc_Lnames pm_Lnames cd_Lnames ct_Lnames : Value}
    (l_Lnames : K.lookup a_Lnames = some ⟨oc_Lnames, od_Lnames, .func (PySem.W.fnOf "_law_names" "_law_names" (defArgs s_Lnames) (defBody s_Lnames) (defScope s_Lnames) .none kV_Lnames dc_Lnames pm_Lnames an_Lnames cd_Lnames ct_Lnames), sl_Lnames⟩)
    (c_Lnames : PySem.W.codeIn K cd_Lnames "_law_names" = true)
    (k_Lnames : PySem.W.keepIn K (.ref a_Lnames) = true)
    (g_Lnames : PySem.W.nsIn K mainGlobals "_law_names" = some (some (.ref a_Lnames)))
    {a_Lletters : Addr}
    {od_Lletters an_Lletters : Option Addr} {sl_Lletters : Array (Option Value)} {oc_Lletters kV_Lletters dc_Lletters pm_Lletters cd_Lletters ct_Lletters : Value}
    (l_Lletters : K.lookup a_Lletters = some ⟨oc_Lletters, od_Lletters, .func (PySem.W.fnOf "_law_letters" "_law_letters" (defArgs s_Lletters) (defBody s_Lletters) (defScope s_Lletters) .none kV_Lletters dc_Lletters pm_Lletters an_Lletters cd_Lletters ct_Lletters), sl_Lletters⟩)
    (c_Lletters : PySem.W.codeIn K cd_Lletters "_law_letters" = true)
    (k_Lletters : PySem.W.keepIn K (.ref a_Lletters) = true)
    (g_Lletters : PySem.W.nsIn K mainGlobals "_law_letters" = some (some (.ref a_Lletters)))
    {a_Lkind_c : Addr}
    {od_Lkind_c an_Lkind_c : Option Addr} {sl_Lkind_c : Array (Option Value)} {oc_Lkind_c kV_Lkind_c dc_Lkind_c pm_Lkind_c cd_Lkind_c ct_Lkind_c : Value}
    (l_Lkind_c : K.lookup a_Lkind_c = some ⟨oc_Lkind_c, od_Lkind_c, .func (PySem.W.fnOf "_law_kind_c" "_law_kind_c" (defArgs s_Lkind_c) (defBody s_Lkind_c) (defScope s_Lkind_c) .none kV_Lkind_c dc_Lkind_c pm_Lkind_c an_Lkind_c cd_Lkind_c ct_Lkind_c), sl_Lkind_c⟩)
    (c_Lkind_c : PySem.W.codeIn K cd_Lkind_c "_law_kind_c" = true)
    (k_Lkind_c : PySem.W.keepIn K (.ref a_Lkind_c) = true)
    (g_Lkind_c : PySem.W.nsIn K mainGlobals "_law_kind_c" = some (some (.ref a_Lkind_c)))
    {a_Lkind_r : Addr}
    {od_Lkind_r an_Lkind_r : Option Addr} {sl_Lkind_r : Array (Option Value)} {oc_Lkind_r kV_Lkind_r dc_Lkind_r pm_Lkind_r cd_Lkind_r ct_Lkind_r : Value}
    (l_Lkind_r : K.lookup a_Lkind_r = some ⟨oc_Lkind_r, od_Lkind_r, .func (PySem.W.fnOf "_law_kind_r" "_law_kind_r" (defArgs s_Lkind_r) (defBody s_Lkind_r) (defScope s_Lkind_r) .none kV_Lkind_r dc_Lkind_r pm_Lkind_r an_Lkind_r cd_Lkind_r ct_Lkind_r), sl_Lkind_r⟩)
    (c_Lkind_r : PySem.W.codeIn K cd_Lkind_r "_law_kind_r" = true)
    (k_Lkind_r : PySem.W.keepIn K (.ref a_Lkind_r) = true)
    (g_Lkind_r : PySem.W.nsIn K mainGlobals "_law_kind_r" = some (some (.ref a_Lkind_r)))
    {a_Lone : Addr}
    {od_Lone an_Lone : Option Addr} {sl_Lone : Array (Option Value)} {oc_Lone kV_Lone dc_Lone pm_Lone cd_Lone ct_Lone : Value}
    (l_Lone : K.lookup a_Lone = some ⟨oc_Lone, od_Lone, .func (PySem.W.fnOf "_law_one" "_law_one" (defArgs s_Lone) (defBody s_Lone) (defScope s_Lone) .none kV_Lone dc_Lone pm_Lone an_Lone cd_Lone ct_Lone), sl_Lone⟩)
    (c_Lone : PySem.W.codeIn K cd_Lone "_law_one" = true)
    (k_Lone : PySem.W.keepIn K (.ref a_Lone) = true)
    (g_Lone : PySem.W.nsIn K mainGlobals "_law_one" = some (some (.ref a_Lone)))
    {a_Ldrawn : Addr}
    {od_Ldrawn an_Ldrawn : Option Addr} {sl_Ldrawn : Array (Option Value)} {oc_Ldrawn kV_Ldrawn dc_Ldrawn pm_Ldrawn cd_Ldrawn ct_Ldrawn : Value}
    (l_Ldrawn : K.lookup a_Ldrawn = some ⟨oc_Ldrawn, od_Ldrawn, .func (PySem.W.fnOf "_law_drawn" "_law_drawn" (defArgs s_Ldrawn) (defBody s_Ldrawn) (defScope s_Ldrawn) .none kV_Ldrawn dc_Ldrawn pm_Ldrawn an_Ldrawn cd_Ldrawn ct_Ldrawn), sl_Ldrawn⟩)
    (c_Ldrawn : PySem.W.codeIn K cd_Ldrawn "_law_drawn" = true)
    (k_Ldrawn : PySem.W.keepIn K (.ref a_Ldrawn) = true)
    (g_Ldrawn : PySem.W.nsIn K mainGlobals "_law_drawn" = some (some (.ref a_Ldrawn)))
    {a_Lcontent_c : Addr}
    {od_Lcontent_c an_Lcontent_c : Option Addr} {sl_Lcontent_c : Array (Option Value)} {oc_Lcontent_c kV_Lcontent_c dc_Lcontent_c pm_Lcontent_c cd_Lcontent_c ct_Lcontent_c : Value}
    (l_Lcontent_c : K.lookup a_Lcontent_c = some ⟨oc_Lcontent_c, od_Lcontent_c, .func (PySem.W.fnOf "_law_content_c" "_law_content_c" (defArgs s_Lcontent_c) (defBody s_Lcontent_c) (defScope s_Lcontent_c) .none kV_Lcontent_c dc_Lcontent_c pm_Lcontent_c an_Lcontent_c cd_Lcontent_c ct_Lcontent_c), sl_Lcontent_c⟩)
    (c_Lcontent_c : PySem.W.codeIn K cd_Lcontent_c "_law_content_c" = true)
    (k_Lcontent_c : PySem.W.keepIn K (.ref a_Lcontent_c) = true)
    (g_Lcontent_c : PySem.W.nsIn K mainGlobals "_law_content_c" = some (some (.ref a_Lcontent_c)))
    {a_Lcontent_r : Addr}
    {od_Lcontent_r an_Lcontent_r : Option Addr} {sl_Lcontent_r : Array (Option Value)} {oc_Lcontent_r kV_Lcontent_r dc_Lcontent_r pm_Lcontent_r cd_Lcontent_r ct_Lcontent_r : Value}
    (l_Lcontent_r : K.lookup a_Lcontent_r = some ⟨oc_Lcontent_r, od_Lcontent_r, .func (PySem.W.fnOf "_law_content_r" "_law_content_r" (defArgs s_Lcontent_r) (defBody s_Lcontent_r) (defScope s_Lcontent_r) .none kV_Lcontent_r dc_Lcontent_r pm_Lcontent_r an_Lcontent_r cd_Lcontent_r ct_Lcontent_r), sl_Lcontent_r⟩)
    (c_Lcontent_r : PySem.W.codeIn K cd_Lcontent_r "_law_content_r" = true)
    (k_Lcontent_r : PySem.W.keepIn K (.ref a_Lcontent_r) = true)
    (g_Lcontent_r : PySem.W.nsIn K mainGlobals "_law_content_r" = some (some (.ref a_Lcontent_r)))
    {a_Lwords_let : Addr}
    {od_Lwords_let an_Lwords_let : Option Addr} {sl_Lwords_let : Array (Option Value)} {oc_Lwords_let kV_Lwords_let dc_Lwords_let pm_Lwords_let cd_Lwords_let ct_Lwords_let : Value}
    (l_Lwords_let : K.lookup a_Lwords_let = some ⟨oc_Lwords_let, od_Lwords_let, .func (PySem.W.fnOf "_law_words_let" "_law_words_let" (defArgs s_Lwords_let) (defBody s_Lwords_let) (defScope s_Lwords_let) .none kV_Lwords_let dc_Lwords_let pm_Lwords_let an_Lwords_let cd_Lwords_let ct_Lwords_let), sl_Lwords_let⟩)
    (c_Lwords_let : PySem.W.codeIn K cd_Lwords_let "_law_words_let" = true)
    (k_Lwords_let : PySem.W.keepIn K (.ref a_Lwords_let) = true)
    (g_Lwords_let : PySem.W.nsIn K mainGlobals "_law_words_let" = some (some (.ref a_Lwords_let)))
    {a_Llet : Addr}
    {od_Llet an_Llet : Option Addr} {sl_Llet : Array (Option Value)} {oc_Llet kV_Llet dc_Llet pm_Llet cd_Llet ct_Llet : Value}
    (l_Llet : K.lookup a_Llet = some ⟨oc_Llet, od_Llet, .func (PySem.W.fnOf "_law_let" "_law_let" (defArgs s_Llet) (defBody s_Llet) (defScope s_Llet) .none kV_Llet dc_Llet pm_Llet an_Llet cd_Llet ct_Llet), sl_Llet⟩)
    (c_Llet : PySem.W.codeIn K cd_Llet "_law_let" = true)
    (k_Llet : PySem.W.keepIn K (.ref a_Llet) = true)
    (g_Llet : PySem.W.nsIn K mainGlobals "_law_let" = some (some (.ref a_Llet)))
    {a_Llog : Addr}
    {od_Llog an_Llog : Option Addr} {sl_Llog : Array (Option Value)} {oc_Llog kV_Llog dc_Llog pm_Llog cd_Llog ct_Llog : Value}
    (l_Llog : K.lookup a_Llog = some ⟨oc_Llog, od_Llog, .func (PySem.W.fnOf "_law_log" "_law_log" (defArgs s_Llog) (defBody s_Llog) (defScope s_Llog) .none kV_Llog dc_Llog pm_Llog an_Llog cd_Llog ct_Llog), sl_Llog⟩)
    (c_Llog : PySem.W.codeIn K cd_Llog "_law_log" = true)
    (k_Llog : PySem.W.keepIn K (.ref a_Llog) = true)
    (g_Llog : PySem.W.nsIn K mainGlobals "_law_log" = some (some (.ref a_Llog)))
    {a_Lmarked : Addr}
    {od_Lmarked an_Lmarked : Option Addr} {sl_Lmarked : Array (Option Value)} {oc_Lmarked kV_Lmarked dc_Lmarked pm_Lmarked cd_Lmarked ct_Lmarked : Value}
    (l_Lmarked : K.lookup a_Lmarked = some ⟨oc_Lmarked, od_Lmarked, .func (PySem.W.fnOf "_law_marked" "_law_marked" (defArgs s_Lmarked) (defBody s_Lmarked) (defScope s_Lmarked) .none kV_Lmarked dc_Lmarked pm_Lmarked an_Lmarked cd_Lmarked ct_Lmarked), sl_Lmarked⟩)
    (c_Lmarked : PySem.W.codeIn K cd_Lmarked "_law_marked" = true)
    (k_Lmarked : PySem.W.keepIn K (.ref a_Lmarked) = true)
    (g_Lmarked : PySem.W.nsIn K mainGlobals "_law_marked" = some (some (.ref a_Lmarked)))
    {a_Lbehind : Addr}
    {od_Lbehind an_Lbehind : Option Addr} {sl_Lbehind : Array (Option Value)} {oc_Lbehind kV_Lbehind dc_Lbehind pm_Lbehind cd_Lbehind ct_Lbehind : Value}
    (l_Lbehind : K.lookup a_Lbehind = some ⟨oc_Lbehind, od_Lbehind, .func (PySem.W.fnOf "_law_behind" "_law_behind" (defArgs s_Lbehind) (defBody s_Lbehind) (defScope s_Lbehind) .none kV_Lbehind dc_Lbehind pm_Lbehind an_Lbehind cd_Lbehind ct_Lbehind), sl_Lbehind⟩)
    (c_Lbehind : PySem.W.codeIn K cd_Lbehind "_law_behind" = true)
    (k_Lbehind : PySem.W.keepIn K (.ref a_Lbehind) = true)
    (g_Lbehind : PySem.W.nsIn K mainGlobals "_law_behind" = some (some (.ref a_Lbehind)))
    {a_Lsame : Addr}
    {od_Lsame an_Lsame : Option Addr} {sl_Lsame : Array (Option Value)} {oc_Lsame kV_Lsame dc_Lsame pm_Lsame cd_Lsame ct_Lsame : Value}
    (l_Lsame : K.lookup a_Lsame = some ⟨oc_Lsame, od_Lsame, .func (PySem.W.fnOf "_law_same" "_law_same" (defArgs s_Lsame) (defBody s_Lsame) (defScope s_Lsame) .none kV_Lsame dc_Lsame pm_Lsame an_Lsame cd_Lsame ct_Lsame), sl_Lsame⟩)
    (c_Lsame : PySem.W.codeIn K cd_Lsame "_law_same" = true)
    (k_Lsame : PySem.W.keepIn K (.ref a_Lsame) = true)
    (g_Lsame : PySem.W.nsIn K mainGlobals "_law_same" = some (some (.ref a_Lsame)))
    {a_Lletter_good : Addr}
    {od_Lletter_good an_Lletter_good : Option Addr} {sl_Lletter_good : Array (Option Value)} {oc_Lletter_good kV_Lletter_good dc_Lletter_good pm_Lletter_good cd_Lletter_good ct_Lletter_good : Value}
    (l_Lletter_good : K.lookup a_Lletter_good = some ⟨oc_Lletter_good, od_Lletter_good, .func (PySem.W.fnOf "_law_letter_good" "_law_letter_good" (defArgs s_Lletter_good) (defBody s_Lletter_good) (defScope s_Lletter_good) .none kV_Lletter_good dc_Lletter_good pm_Lletter_good an_Lletter_good cd_Lletter_good ct_Lletter_good), sl_Lletter_good⟩)
    (c_Lletter_good : PySem.W.codeIn K cd_Lletter_good "_law_letter_good" = true)
    (k_Lletter_good : PySem.W.keepIn K (.ref a_Lletter_good) = true)
    (g_Lletter_good : PySem.W.nsIn K mainGlobals "_law_letter_good" = some (some (.ref a_Lletter_good)))
    {a_Lraises : Addr}
    {od_Lraises an_Lraises : Option Addr} {sl_Lraises : Array (Option Value)} {oc_Lraises kV_Lraises dc_Lraises pm_Lraises cd_Lraises ct_Lraises : Value}
    (l_Lraises : K.lookup a_Lraises = some ⟨oc_Lraises, od_Lraises, .func (PySem.W.fnOf "_law_raises" "_law_raises" (defArgs s_Lraises) (defBody s_Lraises) (defScope s_Lraises) .none kV_Lraises dc_Lraises pm_Lraises an_Lraises cd_Lraises ct_Lraises), sl_Lraises⟩)
    (c_Lraises : PySem.W.codeIn K cd_Lraises "_law_raises" = true)
    (k_Lraises : PySem.W.keepIn K (.ref a_Lraises) = true)
    (g_Lraises : PySem.W.nsIn K mainGlobals "_law_raises" = some (some (.ref a_Lraises)))
    {a_Lspoilt : Addr}
    {od_Lspoilt an_Lspoilt : Option Addr} {sl_Lspoilt : Array (Option Value)} {oc_Lspoilt kV_Lspoilt dc_Lspoilt pm_Lspoilt cd_Lspoilt ct_Lspoilt : Value}
    (l_Lspoilt : K.lookup a_Lspoilt = some ⟨oc_Lspoilt, od_Lspoilt, .func (PySem.W.fnOf "_law_spoilt" "_law_spoilt" (defArgs s_Lspoilt) (defBody s_Lspoilt) (defScope s_Lspoilt) .none kV_Lspoilt dc_Lspoilt pm_Lspoilt an_Lspoilt cd_Lspoilt ct_Lspoilt), sl_Lspoilt⟩)
    (c_Lspoilt : PySem.W.codeIn K cd_Lspoilt "_law_spoilt" = true)
    (k_Lspoilt : PySem.W.keepIn K (.ref a_Lspoilt) = true)
    (g_Lspoilt : PySem.W.nsIn K mainGlobals "_law_spoilt" = some (some (.ref a_Lspoilt)))
    {a_law : Addr}
    {od_law an_law : Option Addr} {sl_law : Array (Option Value)} {oc_law kV_law dc_law pm_law cd_law ct_law : Value}
    (l_law : K.lookup a_law = some ⟨oc_law, od_law, .func (PySem.W.fnOf "law" "law" (defArgs s_law) (defBody s_law) (defScope s_law) .none kV_law dc_law pm_law an_law cd_law ct_law), sl_law⟩)
    (c_law : PySem.W.codeIn K cd_law "law" = true)
    (k_law : PySem.W.keepIn K (.ref a_law) = true)
    (g_law : PySem.W.nsIn K mainGlobals "law" = some (some (.ref a_law)))
    {a_RuleSet___init__ : Addr}
    {od_RuleSet___init__ an_RuleSet___init__ : Option Addr} {sl_RuleSet___init__ : Array (Option Value)} {oc_RuleSet___init__ kV_RuleSet___init__ dc_RuleSet___init__ pm_RuleSet___init__ cd_RuleSet___init__ ct_RuleSet___init__ : Value}
    (l_RuleSet___init__ : K.lookup a_RuleSet___init__ = some ⟨oc_RuleSet___init__, od_RuleSet___init__, .func (PySem.W.fnOf "__init__" "RuleSet.__init__" (defArgs s_RuleSet___init__) (defBody s_RuleSet___init__) (defScope s_RuleSet___init__) .none kV_RuleSet___init__ dc_RuleSet___init__ pm_RuleSet___init__ an_RuleSet___init__ cd_RuleSet___init__ ct_RuleSet___init__), sl_RuleSet___init__⟩)
    (c_RuleSet___init__ : PySem.W.codeIn K cd_RuleSet___init__ "RuleSet.__init__" = true)
    (k_RuleSet___init__ : PySem.W.keepIn K (.ref a_RuleSet___init__) = true)
    {a_RuleSet___contains__ : Addr}
    {od_RuleSet___contains__ an_RuleSet___contains__ : Option Addr} {sl_RuleSet___contains__ : Array (Option Value)} {oc_RuleSet___contains__ kV_RuleSet___contains__ dc_RuleSet___contains__ pm_RuleSet___contains__ cd_RuleSet___contains__ ct_RuleSet___contains__ : Value}
    (l_RuleSet___contains__ : K.lookup a_RuleSet___contains__ = some ⟨oc_RuleSet___contains__, od_RuleSet___contains__, .func (PySem.W.fnOf "__contains__" "RuleSet.__contains__" (defArgs s_RuleSet___contains__) (defBody s_RuleSet___contains__) (defScope s_RuleSet___contains__) .none kV_RuleSet___contains__ dc_RuleSet___contains__ pm_RuleSet___contains__ an_RuleSet___contains__ cd_RuleSet___contains__ ct_RuleSet___contains__), sl_RuleSet___contains__⟩)
    (c_RuleSet___contains__ : PySem.W.codeIn K cd_RuleSet___contains__ "RuleSet.__contains__" = true)
    (k_RuleSet___contains__ : PySem.W.keepIn K (.ref a_RuleSet___contains__) = true)
    {a_Book_of_number : Addr}
    {od_Book_of_number an_Book_of_number : Option Addr} {sl_Book_of_number : Array (Option Value)} {oc_Book_of_number kV_Book_of_number dc_Book_of_number pm_Book_of_number cd_Book_of_number ct_Book_of_number : Value}
    (l_Book_of_number : K.lookup a_Book_of_number = some ⟨oc_Book_of_number, od_Book_of_number, .func (PySem.W.fnOf "of_number" "Book.of_number" (defArgs s_Book_of_number) (defBody s_Book_of_number) (defScope s_Book_of_number) .none kV_Book_of_number dc_Book_of_number pm_Book_of_number an_Book_of_number cd_Book_of_number ct_Book_of_number), sl_Book_of_number⟩)
    (c_Book_of_number : PySem.W.codeIn K cd_Book_of_number "Book.of_number" = true)
    (k_Book_of_number : PySem.W.keepIn K (.ref a_Book_of_number) = true)
    {aC_Book : Addr}
    (g_Book : PySem.W.nsIn K mainGlobals "Book" = some (some (.ref aC_Book)))
    (pg_Book : PySem.W.plainGet K aC_Book Str.empty = true)
    (hd_Book : PySem.W.hasDictIn K aC_Book = true)
    (po_Book : PySem.W.plainOver K aC_Book = true)
    (sa_Book : PySem.W.findIn K (.ref aC_Book) "__setattr__" = some (some (.builtin "object.__setattr__")))
    (n_Book_names : PySem.W.findIn K (.ref aC_Book) "names" = some none)
    (n_Book_number : PySem.W.findIn K (.ref aC_Book) "number" = some none)
    {mcv_Book : Value}
    (tp_Book : PySem.W.typeIn K (.ref aC_Book) = some mcv_Book)
    (rd_Book : PySem.W.readsIn K aC_Book mcv_Book = true)
    (ga_Book : PySem.W.specialIn K (.ref aC_Book) "__getattribute__" = some (some (.builtin "type.__getattribute__")))
    {tA_Book_RULES : Addr}
    {tod_Book_RULES : Option Addr} {tsl_Book_RULES : Array (Option Value)} {tn_Book_RULES : Nat} {tits_Book_RULES : Array Value}
    (tk_Book_RULES : K.lookup tA_Book_RULES = some ⟨.type "tuple", tod_Book_RULES, .seq tits_Book_RULES tn_Book_RULES, tsl_Book_RULES⟩)
    (tr_Book_RULES : Rg.relAllS [.str "copies", .str "mark", .str "words", .str "reuse", .str "late", .str "revoke", .str "lapse", .str "shelve", .str "frozen", .str "wait", .str "room", .str "told"] tits_Book_RULES.toList = true)
    (tv1_Book_RULES : PySem.W.findCls K (.ref aC_Book) mcv_Book "RULES" = some (.val (.ref tA_Book_RULES)))
    (tc1_Book_RULES : PySem.W.findIn K (.ref aC_Book) "RULES" = some (some (.ref tA_Book_RULES)))
    (tc2_Book_RULES : PySem.W.specialIn K (.ref tA_Book_RULES) "__get__" = some none)
    {sp_Book_of_number : Addr} {sr_Book_of_number : List Value}
    (s1_Book_of_number : PySem.W.findCls K (.ref aC_Book) mcv_Book "of_number" = some (.get (.builtin "staticmethod.__get__") (.ref sp_Book_of_number) .none (.ref aC_Book)))
    (s2_Book_of_number : PySem.W.recIn K sp_Book_of_number "staticmethod" = some (.ref a_Book_of_number :: sr_Book_of_number))
    {aC_StoreError : Addr}
    (g_StoreError : PySem.W.nsIn K mainGlobals "StoreError" = some (some (.ref aC_StoreError)))
    (be1_StoreError : PySem.W.subIn K (.ref aC_StoreError) (.type "BaseException") = some true)
    (te1_StoreError : PySem.W.typeIn K (.ref aC_StoreError) = some (.type "type"))
    (ie1_StoreError : PySem.W.isClsIn K aC_StoreError = true)
    {aC_BadText : Addr}
    (g_BadText : PySem.W.nsIn K mainGlobals "BadText" = some (some (.ref aC_BadText)))
    (be1_BadText : PySem.W.subIn K (.ref aC_BadText) (.type "BaseException") = some true)
    (te1_BadText : PySem.W.typeIn K (.ref aC_BadText) = some (.type "type"))
    (ie1_BadText : PySem.W.isClsIn K aC_BadText = true)
    {aC_BadValue : Addr}
    (g_BadValue : PySem.W.nsIn K mainGlobals "BadValue" = some (some (.ref aC_BadValue)))
    (be1_BadValue : PySem.W.subIn K (.ref aC_BadValue) (.type "BaseException") = some true)
    (te1_BadValue : PySem.W.typeIn K (.ref aC_BadValue) = some (.type "type"))
    (ie1_BadValue : PySem.W.isClsIn K aC_BadValue = true)
    (xe1_BadValue : PySem.W.excIn K aC_BadValue [.type "ValueError", .type "Exception", .type "BaseException", .type "object"] "ValueError.__new__" = true)
    (ke1_BadValue : PySem.W.keepIn K (.ref aC_BadValue) = true)
    (ec1_BadValue : PySem.W.findIn K (.ref aC_BadValue) "__getattribute__" = some (some (.builtin "BaseException.__getattribute__")))
    (ec2_BadValue : PySem.W.findIn K (.ref aC_BadValue) "__getattr__" = some none)
    (ec4_BadValue : PySem.W.hasDictIn K aC_BadValue = true)
    (ec5_BadValue : PySem.W.findIn K (.ref aC_BadValue) "__class__" = some (some (.builtin "object.__class__")))
    (ec6_BadValue : PySem.W.specialIn K (.builtin "object.__class__") "__get__" = some (some (.builtin "getset_descriptor.__get__")))
    (ec7_BadValue : PySem.W.takesIn K (.builtin "object.__class__") = some true)
    (ec8_BadValue : PySem.W.mroIn K aC_BadValue (.type "object") = some true)
    (sb_BadValue_StoreError : PySem.W.subIn K (.ref aC_BadValue) (.ref aC_StoreError) = some true)
    (sb_BadValue_BadText : PySem.W.subIn K (.ref aC_BadValue) (.ref aC_BadText) = some false)
    (sb_BadValue_BadValue : PySem.W.subIn K (.ref aC_BadValue) (.ref aC_BadValue) = some true)
    (bs_BadValue_ValueError : PySem.W.subIn K (.ref aC_BadValue) (.type "ValueError") = some true)
    {gA_NEW : Addr}
    (g_NEW : PySem.W.nsIn K mainGlobals "NEW" = some (some (.ref gA_NEW)))
    {god_NEW : Option Addr} {gsl_NEW : Array (Option Value)} {gn_NEW : Nat} {gits_NEW : Array Value}
    (tk_NEW : K.lookup gA_NEW = some ⟨.type "tuple", god_NEW, .seq gits_NEW gn_NEW, gsl_NEW⟩)
    (tr_NEW : Rg.relAllS [.str "~", .str "L", .str "P"] gits_NEW.toList = true)
    {gA_LOST : Addr}
    (g_LOST : PySem.W.nsIn K mainGlobals "LOST" = some (some (.ref gA_LOST)))
    {god_LOST : Option Addr} {gsl_LOST : Array (Option Value)} {gn_LOST : Nat} {gits_LOST : Array Value}
    (tk_LOST : K.lookup gA_LOST = some ⟨.type "tuple", god_LOST, .seq gits_LOST gn_LOST, gsl_LOST⟩)
    (tr_LOST : Rg.relAllS [.str "lost"] gits_LOST.toList = true)
    {gA_LETTERS : Addr}
    (g_LETTERS : PySem.W.nsIn K mainGlobals "LETTERS" = some (some (.ref gA_LETTERS)))
    {god_LETTERS : Option Addr} {gsl_LETTERS : Array (Option Value)} {gn_LETTERS : Nat} {gits_LETTERS : Array Value}
    (tk_LETTERS : K.lookup gA_LETTERS = some ⟨.type "tuple", god_LETTERS, .seq gits_LETTERS gn_LETTERS, gsl_LETTERS⟩)
    (tr_LETTERS : Rg.relAllS [.str "takel", .str "takep", .str "change", .str "free", .str "close", .str "copy", .str "mark", .str "home", .str "early", .str "words", .str "room", .str "told"] gits_LETTERS.toList = true)
    {gA_SIGNS : Addr}
    {gA_SIGNS_0 : Addr}
    {gA_SIGNS_1 : Addr}
    {gA_SIGNS_2 : Addr}
    {gA_SIGNS_3 : Addr}
    {gA_SIGNS_4 : Addr}
    {gA_SIGNS_5 : Addr}
    (g_SIGNS : PySem.W.nsIn K mainGlobals "SIGNS" = some (some (.ref gA_SIGNS)))
    {god_SIGNS : Option Addr} {gsl_SIGNS : Array (Option Value)} {gn_SIGNS : Nat}
    (tk_SIGNS : K.lookup gA_SIGNS = some ⟨.type "tuple", god_SIGNS, .seq #[.ref gA_SIGNS_0, .ref gA_SIGNS_1, .ref gA_SIGNS_2, .ref gA_SIGNS_3, .ref gA_SIGNS_4, .ref gA_SIGNS_5] gn_SIGNS, gsl_SIGNS⟩)
    {god_SIGNS_0 : Option Addr} {gsl_SIGNS_0 : Array (Option Value)} {gn_SIGNS_0 : Nat} {gits_SIGNS_0 : Array Value}
    (tk_SIGNS_0 : K.lookup gA_SIGNS_0 = some ⟨.type "tuple", god_SIGNS_0, .seq gits_SIGNS_0 gn_SIGNS_0, gsl_SIGNS_0⟩)
    (tr_SIGNS_0 : Rg.relAllS [.str "F", .str "L", .str "P"] gits_SIGNS_0.toList = true)
    {god_SIGNS_1 : Option Addr} {gsl_SIGNS_1 : Array (Option Value)} {gn_SIGNS_1 : Nat} {gits_SIGNS_1 : Array Value}
    (tk_SIGNS_1 : K.lookup gA_SIGNS_1 = some ⟨.type "tuple", god_SIGNS_1, .seq gits_SIGNS_1 gn_SIGNS_1, gsl_SIGNS_1⟩)
    (tr_SIGNS_1 : Rg.relAllS [.str "-", .str "=", .str "~", .str "F", .str "L", .str "P"] gits_SIGNS_1.toList = true)
    {god_SIGNS_2 : Option Addr} {gsl_SIGNS_2 : Array (Option Value)} {gn_SIGNS_2 : Nat} {gits_SIGNS_2 : Array Value}
    (tk_SIGNS_2 : K.lookup gA_SIGNS_2 = some ⟨.type "tuple", god_SIGNS_2, .seq gits_SIGNS_2 gn_SIGNS_2, gsl_SIGNS_2⟩)
    (tr_SIGNS_2 : Rg.relAllS [.str "=", .str "~", .str "F", .str "L", .str "P"] gits_SIGNS_2.toList = true)
    {god_SIGNS_3 : Option Addr} {gsl_SIGNS_3 : Array (Option Value)} {gn_SIGNS_3 : Nat} {gits_SIGNS_3 : Array Value}
    (tk_SIGNS_3 : K.lookup gA_SIGNS_3 = some ⟨.type "tuple", god_SIGNS_3, .seq gits_SIGNS_3 gn_SIGNS_3, gsl_SIGNS_3⟩)
    (tr_SIGNS_3 : Rg.relAllS [.str "K", .str "C", .str "R", .str "o"] gits_SIGNS_3.toList = true)
    {god_SIGNS_4 : Option Addr} {gsl_SIGNS_4 : Array (Option Value)} {gn_SIGNS_4 : Nat} {gits_SIGNS_4 : Array Value}
    (tk_SIGNS_4 : K.lookup gA_SIGNS_4 = some ⟨.type "tuple", god_SIGNS_4, .seq gits_SIGNS_4 gn_SIGNS_4, gsl_SIGNS_4⟩)
    (tr_SIGNS_4 : Rg.relAllS [.str "-", .str "K", .str "o"] gits_SIGNS_4.toList = true)
    {god_SIGNS_5 : Option Addr} {gsl_SIGNS_5 : Array (Option Value)} {gn_SIGNS_5 : Nat} {gits_SIGNS_5 : Array Value}
    (tk_SIGNS_5 : K.lookup gA_SIGNS_5 = some ⟨.type "tuple", god_SIGNS_5, .seq gits_SIGNS_5 gn_SIGNS_5, gsl_SIGNS_5⟩)
    (tr_SIGNS_5 : Rg.relAllS [.str "-", .str "+", .str "!"] gits_SIGNS_5.toList = true)
    {gA_STEPS : Addr}
    (g_STEPS : PySem.W.nsIn K mainGlobals "STEPS" = some (some (.ref gA_STEPS)))
    (gd1_STEPS_takel : PySem.W.nsIn K gA_STEPS "takel" = some (some (.ref a_takel)))
    (gd1_STEPS_takep : PySem.W.nsIn K gA_STEPS "takep" = some (some (.ref a_takep)))
    (gd1_STEPS_change : PySem.W.nsIn K gA_STEPS "change" = some (some (.ref a_change)))
    (gd1_STEPS_free : PySem.W.nsIn K gA_STEPS "free" = some (some (.ref a_free)))
    (gd1_STEPS_close : PySem.W.nsIn K gA_STEPS "close" = some (some (.ref a_close)))
    (gd1_STEPS_copy : PySem.W.nsIn K gA_STEPS "copy" = some (some (.ref a_copy)))
    (gd1_STEPS_mark : PySem.W.nsIn K gA_STEPS "mark" = some (some (.ref a_mark)))
    (gd1_STEPS_home : PySem.W.nsIn K gA_STEPS "home" = some (some (.ref a_home)))
    (gd1_STEPS_early : PySem.W.nsIn K gA_STEPS "early" = some (some (.ref a_early)))
    (gd1_STEPS_words : PySem.W.nsIn K gA_STEPS "words" = some (some (.ref a_words)))
    (gd1_STEPS_room : PySem.W.nsIn K gA_STEPS "room" = some (some (.ref a_room)))
    (gd1_STEPS_told : PySem.W.nsIn K gA_STEPS "told" = some (some (.ref a_told)))
    (gn1_STEPS_0 : PySem.W.nsIn K gA_STEPS "" = some none)
    (gn1_STEPS_1 : PySem.W.nsIn K gA_STEPS "takes" = some none)
    (gn1_STEPS_2 : PySem.W.nsIn K gA_STEPS "Close" = some none)
    (gn1_STEPS_3 : PySem.W.nsIn K gA_STEPS "close " = some none)
    (gn1_STEPS_4 : PySem.W.nsIn K gA_STEPS "lost" = some none)
    (gn1_STEPS_5 : PySem.W.nsIn K gA_STEPS "copies" = some none)
    (gn1_STEPS_6 : PySem.W.nsIn K gA_STEPS "take" = some none)
    (mk1_Book : PySem.W.makesIn K aC_Book = true)
    (mk2_Book : PySem.W.findIn K (.ref aC_Book) "__init__" = some (some (.ref a_RuleSet___init__)))
    (mk3_Book : PySem.W.isFn K (.ref a_RuleSet___init__) = true)
    (mk4_Book : PySem.W.keepIn K (.ref aC_Book) = true)
    (bm1_contains : PySem.W.findIn K (.ref aC_Book) "__contains__" = some (some (.ref a_RuleSet___contains__)))
    (bm2_contains : PySem.W.isFn K (.ref a_RuleSet___contains__) = true)
    (nb_abs : PySem.W.nsIn K mainGlobals "abs" = some none)
    (nb_all : PySem.W.nsIn K mainGlobals "all" = some none)
    (nb_enumerate : PySem.W.nsIn K mainGlobals "enumerate" = some none)
    (nb_int : PySem.W.nsIn K mainGlobals "int" = some none)
    (nb_isinstance : PySem.W.nsIn K mainGlobals "isinstance" = some none)
    (nb_len : PySem.W.nsIn K mainGlobals "len" = some none)
    (nb_list : PySem.W.nsIn K mainGlobals "list" = some none)
    (nb_range : PySem.W.nsIn K mainGlobals "range" = some none)
    (nb_str : PySem.W.nsIn K mainGlobals "str" = some none)
    (nb_sum : PySem.W.nsIn K mainGlobals "sum" = some none)
    (nb_tuple : PySem.W.nsIn K mainGlobals "tuple" = some none)
    (nb_zip : PySem.W.nsIn K mainGlobals "zip" = some none)
    (dw_STEPS : He.dicW K gA_STEPS = some (He.keysIn w.params ["takel", "takep", "change", "free", "close", "copy", "mark", "home", "early", "words", "room", "told"]))
    : ∃ T : Tx K mg, Tw T w := ⟨{
      f_kind_behind := a_kind_behind,
      fd_kind_behind := PySem.W.fnOf "_kind_behind" "_kind_behind" (defArgs s_kind_behind) (defBody s_kind_behind) (defScope s_kind_behind) .none kV_kind_behind dc_kind_behind pm_kind_behind an_kind_behind cd_kind_behind ct_kind_behind,
      F_kind_behind := fun_mk (st := s_kind_behind) l_kind_behind c_kind_behind k_kind_behind,
      mg_kind_behind := PySem.W.mg_of X G g_kind_behind,
      f_kind_c := a_kind_c,
      fd_kind_c := PySem.W.fnOf "kind_c" "kind_c" (defArgs s_kind_c) (defBody s_kind_c) (defScope s_kind_c) .none kV_kind_c dc_kind_c pm_kind_c an_kind_c cd_kind_c ct_kind_c,
      F_kind_c := fun_mk (st := s_kind_c) l_kind_c c_kind_c k_kind_c,
      mg_kind_c := PySem.W.mg_of X G g_kind_c,
      f_kind_r := a_kind_r,
      fd_kind_r := PySem.W.fnOf "kind_r" "kind_r" (defArgs s_kind_r) (defBody s_kind_r) (defScope s_kind_r) .none kV_kind_r dc_kind_r pm_kind_r an_kind_r cd_kind_r ct_kind_r,
      F_kind_r := fun_mk (st := s_kind_r) l_kind_r c_kind_r k_kind_r,
      mg_kind_r := PySem.W.mg_of X G g_kind_r,
      f_content_c := a_content_c,
      fd_content_c := PySem.W.fnOf "content_c" "content_c" (defArgs s_content_c) (defBody s_content_c) (defScope s_content_c) .none kV_content_c dc_content_c pm_content_c an_content_c cd_content_c ct_content_c,
      F_content_c := fun_mk (st := s_content_c) l_content_c c_content_c k_content_c,
      mg_content_c := PySem.W.mg_of X G g_content_c,
      f_content_r := a_content_r,
      fd_content_r := PySem.W.fnOf "content_r" "content_r" (defArgs s_content_r) (defBody s_content_r) (defScope s_content_r) .none kV_content_r dc_content_r pm_content_r an_content_r cd_content_r ct_content_r,
      F_content_r := fun_mk (st := s_content_r) l_content_r c_content_r k_content_r,
      mg_content_r := PySem.W.mg_of X G g_content_r,
      f_is_due := a_is_due,
      fd_is_due := PySem.W.fnOf "is_due" "is_due" (defArgs s_is_due) (defBody s_is_due) (defScope s_is_due) .none kV_is_due dc_is_due pm_is_due an_is_due cd_is_due ct_is_due,
      F_is_due := fun_mk (st := s_is_due) l_is_due c_is_due k_is_due,
      mg_is_due := PySem.W.mg_of X G g_is_due,
      f_may_follow := a_may_follow,
      fd_may_follow := PySem.W.fnOf "_may_follow" "_may_follow" (defArgs s_may_follow) (defBody s_may_follow) (defScope s_may_follow) .none kV_may_follow dc_may_follow pm_may_follow an_may_follow cd_may_follow ct_may_follow,
      F_may_follow := fun_mk (st := s_may_follow) l_may_follow c_may_follow k_may_follow,
      mg_may_follow := PySem.W.mg_of X G g_may_follow,
      f_content_fits := a_content_fits,
      fd_content_fits := PySem.W.fnOf "_content_fits" "_content_fits" (defArgs s_content_fits) (defBody s_content_fits) (defScope s_content_fits) .none kV_content_fits dc_content_fits pm_content_fits an_content_fits cd_content_fits ct_content_fits,
      F_content_fits := fun_mk (st := s_content_fits) l_content_fits c_content_fits k_content_fits,
      mg_content_fits := PySem.W.mg_of X G g_content_fits,
      f_is_standing := a_is_standing,
      fd_is_standing := PySem.W.fnOf "is_standing" "is_standing" (defArgs s_is_standing) (defBody s_is_standing) (defScope s_is_standing) .none kV_is_standing dc_is_standing pm_is_standing an_is_standing cd_is_standing ct_is_standing,
      F_is_standing := fun_mk (st := s_is_standing) l_is_standing c_is_standing k_is_standing,
      mg_is_standing := PySem.W.mg_of X G g_is_standing,
      cc_is_standing := ac_is_standing,
      P_is_standing := He.tabOf K ac_is_standing,
      code_is_standing := cc1_is_standing,
      ch_is_standing := ch1_is_standing,
      cn_is_standing := cn1_is_standing,
      f_must_wait := a_must_wait,
      fd_must_wait := PySem.W.fnOf "_must_wait" "_must_wait" (defArgs s_must_wait) (defBody s_must_wait) (defScope s_must_wait) .none kV_must_wait dc_must_wait pm_must_wait an_must_wait cd_must_wait ct_must_wait,
      F_must_wait := fun_mk (st := s_must_wait) l_must_wait c_must_wait k_must_wait,
      mg_must_wait := PySem.W.mg_of X G g_must_wait,
      f_home_gone := a_home_gone,
      fd_home_gone := PySem.W.fnOf "_home_gone" "_home_gone" (defArgs s_home_gone) (defBody s_home_gone) (defScope s_home_gone) .none kV_home_gone dc_home_gone pm_home_gone an_home_gone cd_home_gone ct_home_gone,
      F_home_gone := fun_mk (st := s_home_gone) l_home_gone c_home_gone k_home_gone,
      mg_home_gone := PySem.W.mg_of X G g_home_gone,
      f_home_behind_mark := a_home_behind_mark,
      fd_home_behind_mark := PySem.W.fnOf "_home_behind_mark" "_home_behind_mark" (defArgs s_home_behind_mark) (defBody s_home_behind_mark) (defScope s_home_behind_mark) .none kV_home_behind_mark dc_home_behind_mark pm_home_behind_mark an_home_behind_mark cd_home_behind_mark ct_home_behind_mark,
      F_home_behind_mark := fun_mk (st := s_home_behind_mark) l_home_behind_mark c_home_behind_mark k_home_behind_mark,
      mg_home_behind_mark := PySem.W.mg_of X G g_home_behind_mark,
      f_log_behind_mark := a_log_behind_mark,
      fd_log_behind_mark := PySem.W.fnOf "_log_behind_mark" "_log_behind_mark" (defArgs s_log_behind_mark) (defBody s_log_behind_mark) (defScope s_log_behind_mark) .none kV_log_behind_mark dc_log_behind_mark pm_log_behind_mark an_log_behind_mark cd_log_behind_mark ct_log_behind_mark,
      F_log_behind_mark := fun_mk (st := s_log_behind_mark) l_log_behind_mark c_log_behind_mark k_log_behind_mark,
      mg_log_behind_mark := PySem.W.mg_of X G g_log_behind_mark,
      f_running_words := a_running_words,
      fd_running_words := PySem.W.fnOf "_running_words" "_running_words" (defArgs s_running_words) (defBody s_running_words) (defScope s_running_words) .none kV_running_words dc_running_words pm_running_words an_running_words cd_running_words ct_running_words,
      F_running_words := fun_mk (st := s_running_words) l_running_words c_running_words k_running_words,
      mg_running_words := PySem.W.mg_of X G g_running_words,
      f_closing_words := a_closing_words,
      fd_closing_words := PySem.W.fnOf "_closing_words" "_closing_words" (defArgs s_closing_words) (defBody s_closing_words) (defScope s_closing_words) .none kV_closing_words dc_closing_words pm_closing_words an_closing_words cd_closing_words ct_closing_words,
      F_closing_words := fun_mk (st := s_closing_words) l_closing_words c_closing_words k_closing_words,
      mg_closing_words := PySem.W.mg_of X G g_closing_words,
      f_takel := a_takel,
      fd_takel := PySem.W.fnOf "_takel" "_takel" (defArgs s_takel) (defBody s_takel) (defScope s_takel) .none kV_takel dc_takel pm_takel an_takel cd_takel ct_takel,
      F_takel := fun_mk (st := s_takel) l_takel c_takel k_takel,
      mg_takel := PySem.W.mg_of X G g_takel,
      f_takep := a_takep,
      fd_takep := PySem.W.fnOf "_takep" "_takep" (defArgs s_takep) (defBody s_takep) (defScope s_takep) .none kV_takep dc_takep pm_takep an_takep cd_takep ct_takep,
      F_takep := fun_mk (st := s_takep) l_takep c_takep k_takep,
      mg_takep := PySem.W.mg_of X G g_takep,
      f_change := a_change,
      fd_change := PySem.W.fnOf "_change" "_change" (defArgs s_change) (defBody s_change) (defScope s_change) .none kV_change dc_change pm_change an_change cd_change ct_change,
      F_change := fun_mk (st := s_change) l_change c_change k_change,
      mg_change := PySem.W.mg_of X G g_change,
      f_free := a_free,
      fd_free := PySem.W.fnOf "_free" "_free" (defArgs s_free) (defBody s_free) (defScope s_free) .none kV_free dc_free pm_free an_free cd_free ct_free,
      F_free := fun_mk (st := s_free) l_free c_free k_free,
      mg_free := PySem.W.mg_of X G g_free,
      f_close := a_close,
      fd_close := PySem.W.fnOf "_close" "_close" (defArgs s_close) (defBody s_close) (defScope s_close) .none kV_close dc_close pm_close an_close cd_close ct_close,
      F_close := fun_mk (st := s_close) l_close c_close k_close,
      mg_close := PySem.W.mg_of X G g_close,
      f_copy := a_copy,
      fd_copy := PySem.W.fnOf "_copy" "_copy" (defArgs s_copy) (defBody s_copy) (defScope s_copy) .none kV_copy dc_copy pm_copy an_copy cd_copy ct_copy,
      F_copy := fun_mk (st := s_copy) l_copy c_copy k_copy,
      mg_copy := PySem.W.mg_of X G g_copy,
      f_mark := a_mark,
      fd_mark := PySem.W.fnOf "_mark" "_mark" (defArgs s_mark) (defBody s_mark) (defScope s_mark) .none kV_mark dc_mark pm_mark an_mark cd_mark ct_mark,
      F_mark := fun_mk (st := s_mark) l_mark c_mark k_mark,
      mg_mark := PySem.W.mg_of X G g_mark,
      f_home := a_home,
      fd_home := PySem.W.fnOf "_home" "_home" (defArgs s_home) (defBody s_home) (defScope s_home) .none kV_home dc_home pm_home an_home cd_home ct_home,
      F_home := fun_mk (st := s_home) l_home c_home k_home,
      mg_home := PySem.W.mg_of X G g_home,
      f_early := a_early,
      fd_early := PySem.W.fnOf "_early" "_early" (defArgs s_early) (defBody s_early) (defScope s_early) .none kV_early dc_early pm_early an_early cd_early ct_early,
      F_early := fun_mk (st := s_early) l_early c_early k_early,
      mg_early := PySem.W.mg_of X G g_early,
      f_words := a_words,
      fd_words := PySem.W.fnOf "_words" "_words" (defArgs s_words) (defBody s_words) (defScope s_words) .none kV_words dc_words pm_words an_words cd_words ct_words,
      F_words := fun_mk (st := s_words) l_words c_words k_words,
      mg_words := PySem.W.mg_of X G g_words,
      f_room := a_room,
      fd_room := PySem.W.fnOf "_room" "_room" (defArgs s_room) (defBody s_room) (defScope s_room) .none kV_room dc_room pm_room an_room cd_room ct_room,
      F_room := fun_mk (st := s_room) l_room c_room k_room,
      mg_room := PySem.W.mg_of X G g_room,
      f_told := a_told,
      fd_told := PySem.W.fnOf "_told" "_told" (defArgs s_told) (defBody s_told) (defScope s_told) .none kV_told dc_told pm_told an_told cd_told ct_told,
      F_told := fun_mk (st := s_told) l_told c_told k_told,
      mg_told := PySem.W.mg_of X G g_told,
      f_after := a_after,
      fd_after := PySem.W.fnOf "after" "after" (defArgs s_after) (defBody s_after) (defScope s_after) .none kV_after dc_after pm_after an_after cd_after ct_after,
      F_after := fun_mk (st := s_after) l_after c_after k_after,
      mg_after := PySem.W.mg_of X G g_after,
      f_let_letters := a_let_letters,
      fd_let_letters := PySem.W.fnOf "let_letters" "let_letters" (defArgs s_let_letters) (defBody s_let_letters) (defScope s_let_letters) .none kV_let_letters dc_let_letters pm_let_letters an_let_letters cd_let_letters ct_let_letters,
      F_let_letters := fun_mk (st := s_let_letters) l_let_letters c_let_letters k_let_letters,
      mg_let_letters := PySem.W.mg_of X G g_let_letters,
      f_numbered_names := a_numbered_names,
      fd_numbered_names := PySem.W.fnOf "numbered_names" "numbered_names" (defArgs s_numbered_names) (defBody s_numbered_names) (defScope s_numbered_names) .none kV_numbered_names dc_numbered_names pm_numbered_names an_numbered_names cd_numbered_names ct_numbered_names,
      F_numbered_names := fun_mk (st := s_numbered_names) l_numbered_names c_numbered_names k_numbered_names,
      mg_numbered_names := PySem.W.mg_of X G g_numbered_names,
      f_Lfeed := a_Lfeed,
      fd_Lfeed := PySem.W.fnOf "_law_feed" "_law_feed" (defArgs s_Lfeed) (defBody s_Lfeed) (defScope s_Lfeed) .none kV_Lfeed dc_Lfeed pm_Lfeed an_Lfeed cd_Lfeed ct_Lfeed,
      F_Lfeed := fun_mk (st := s_Lfeed) l_Lfeed c_Lfeed k_Lfeed,
      mg_Lfeed := PySem.W.mg_of X G g_Lfeed,
      f_Lpick := a_Lpick,
      fd_Lpick := PySem.W.fnOf "_law_pick" "_law_pick" (defArgs s_Lpick) (defBody s_Lpick) (defScope s_Lpick) .none kV_Lpick dc_Lpick pm_Lpick an_Lpick cd_Lpick ct_Lpick,
      F_Lpick := fun_mk (st := s_Lpick) l_Lpick c_Lpick k_Lpick,
      mg_Lpick := PySem.W.mg_of X G g_Lpick,
      f_Lrules := a_Lrules,
      fd_Lrules := PySem.W.fnOf "_law_rules" "_law_rules" (defArgs s_Lrules) (defBody s_Lrules) (defScope s_Lrules) .none kV_Lrules dc_Lrules pm_Lrules an_Lrules cd_Lrules ct_Lrules,
      F_Lrules := fun_mk (st := s_Lrules) l_Lrules c_Lrules k_Lrules,
      mg_Lrules := PySem.W.mg_of X G g_Lrules,
      f_Lnames := a_Lnames,
      fd_Lnames := PySem.W.fnOf "_law_names" "_law_names" (defArgs s_Lnames) (defBody s_Lnames) (defScope s_Lnames) .none kV_Lnames dc_Lnames pm_Lnames an_Lnames cd_Lnames ct_Lnames,
      F_Lnames := fun_mk (st := s_Lnames) l_Lnames c_Lnames k_Lnames,
      mg_Lnames := PySem.W.mg_of X G g_Lnames,
      f_Lletters := a_Lletters,
      fd_Lletters := PySem.W.fnOf "_law_letters" "_law_letters" (defArgs s_Lletters) (defBody s_Lletters) (defScope s_Lletters) .none kV_Lletters dc_Lletters pm_Lletters an_Lletters cd_Lletters ct_Lletters,
      F_Lletters := fun_mk (st := s_Lletters) l_Lletters c_Lletters k_Lletters,
      mg_Lletters := PySem.W.mg_of X G g_Lletters,
      f_Lkind_c := a_Lkind_c,
      fd_Lkind_c := PySem.W.fnOf "_law_kind_c" "_law_kind_c" (defArgs s_Lkind_c) (defBody s_Lkind_c) (defScope s_Lkind_c) .none kV_Lkind_c dc_Lkind_c pm_Lkind_c an_Lkind_c cd_Lkind_c ct_Lkind_c,
      F_Lkind_c := fun_mk (st := s_Lkind_c) l_Lkind_c c_Lkind_c k_Lkind_c,
      mg_Lkind_c := PySem.W.mg_of X G g_Lkind_c,
      f_Lkind_r := a_Lkind_r,
      fd_Lkind_r := PySem.W.fnOf "_law_kind_r" "_law_kind_r" (defArgs s_Lkind_r) (defBody s_Lkind_r) (defScope s_Lkind_r) .none kV_Lkind_r dc_Lkind_r pm_Lkind_r an_Lkind_r cd_Lkind_r ct_Lkind_r,
      F_Lkind_r := fun_mk (st := s_Lkind_r) l_Lkind_r c_Lkind_r k_Lkind_r,
      mg_Lkind_r := PySem.W.mg_of X G g_Lkind_r,
      f_Lone := a_Lone,
      fd_Lone := PySem.W.fnOf "_law_one" "_law_one" (defArgs s_Lone) (defBody s_Lone) (defScope s_Lone) .none kV_Lone dc_Lone pm_Lone an_Lone cd_Lone ct_Lone,
      F_Lone := fun_mk (st := s_Lone) l_Lone c_Lone k_Lone,
      mg_Lone := PySem.W.mg_of X G g_Lone,
      f_Ldrawn := a_Ldrawn,
      fd_Ldrawn := PySem.W.fnOf "_law_drawn" "_law_drawn" (defArgs s_Ldrawn) (defBody s_Ldrawn) (defScope s_Ldrawn) .none kV_Ldrawn dc_Ldrawn pm_Ldrawn an_Ldrawn cd_Ldrawn ct_Ldrawn,
      F_Ldrawn := fun_mk (st := s_Ldrawn) l_Ldrawn c_Ldrawn k_Ldrawn,
      mg_Ldrawn := PySem.W.mg_of X G g_Ldrawn,
      f_Lcontent_c := a_Lcontent_c,
      fd_Lcontent_c := PySem.W.fnOf "_law_content_c" "_law_content_c" (defArgs s_Lcontent_c) (defBody s_Lcontent_c) (defScope s_Lcontent_c) .none kV_Lcontent_c dc_Lcontent_c pm_Lcontent_c an_Lcontent_c cd_Lcontent_c ct_Lcontent_c,
      F_Lcontent_c := fun_mk (st := s_Lcontent_c) l_Lcontent_c c_Lcontent_c k_Lcontent_c,
      mg_Lcontent_c := PySem.W.mg_of X G g_Lcontent_c,
      f_Lcontent_r := a_Lcontent_r,
      fd_Lcontent_r := PySem.W.fnOf "_law_content_r" "_law_content_r" (defArgs s_Lcontent_r) (defBody s_Lcontent_r) (defScope s_Lcontent_r) .none kV_Lcontent_r dc_Lcontent_r pm_Lcontent_r an_Lcontent_r cd_Lcontent_r ct_Lcontent_r,
      F_Lcontent_r := fun_mk (st := s_Lcontent_r) l_Lcontent_r c_Lcontent_r k_Lcontent_r,
      mg_Lcontent_r := PySem.W.mg_of X G g_Lcontent_r,
      f_Lwords_let := a_Lwords_let,
      fd_Lwords_let := PySem.W.fnOf "_law_words_let" "_law_words_let" (defArgs s_Lwords_let) (defBody s_Lwords_let) (defScope s_Lwords_let) .none kV_Lwords_let dc_Lwords_let pm_Lwords_let an_Lwords_let cd_Lwords_let ct_Lwords_let,
      F_Lwords_let := fun_mk (st := s_Lwords_let) l_Lwords_let c_Lwords_let k_Lwords_let,
      mg_Lwords_let := PySem.W.mg_of X G g_Lwords_let,
      f_Llet := a_Llet,
      fd_Llet := PySem.W.fnOf "_law_let" "_law_let" (defArgs s_Llet) (defBody s_Llet) (defScope s_Llet) .none kV_Llet dc_Llet pm_Llet an_Llet cd_Llet ct_Llet,
      F_Llet := fun_mk (st := s_Llet) l_Llet c_Llet k_Llet,
      mg_Llet := PySem.W.mg_of X G g_Llet,
      f_Llog := a_Llog,
      fd_Llog := PySem.W.fnOf "_law_log" "_law_log" (defArgs s_Llog) (defBody s_Llog) (defScope s_Llog) .none kV_Llog dc_Llog pm_Llog an_Llog cd_Llog ct_Llog,
      F_Llog := fun_mk (st := s_Llog) l_Llog c_Llog k_Llog,
      mg_Llog := PySem.W.mg_of X G g_Llog,
      f_Lmarked := a_Lmarked,
      fd_Lmarked := PySem.W.fnOf "_law_marked" "_law_marked" (defArgs s_Lmarked) (defBody s_Lmarked) (defScope s_Lmarked) .none kV_Lmarked dc_Lmarked pm_Lmarked an_Lmarked cd_Lmarked ct_Lmarked,
      F_Lmarked := fun_mk (st := s_Lmarked) l_Lmarked c_Lmarked k_Lmarked,
      mg_Lmarked := PySem.W.mg_of X G g_Lmarked,
      f_Lbehind := a_Lbehind,
      fd_Lbehind := PySem.W.fnOf "_law_behind" "_law_behind" (defArgs s_Lbehind) (defBody s_Lbehind) (defScope s_Lbehind) .none kV_Lbehind dc_Lbehind pm_Lbehind an_Lbehind cd_Lbehind ct_Lbehind,
      F_Lbehind := fun_mk (st := s_Lbehind) l_Lbehind c_Lbehind k_Lbehind,
      mg_Lbehind := PySem.W.mg_of X G g_Lbehind,
      f_Lsame := a_Lsame,
      fd_Lsame := PySem.W.fnOf "_law_same" "_law_same" (defArgs s_Lsame) (defBody s_Lsame) (defScope s_Lsame) .none kV_Lsame dc_Lsame pm_Lsame an_Lsame cd_Lsame ct_Lsame,
      F_Lsame := fun_mk (st := s_Lsame) l_Lsame c_Lsame k_Lsame,
      mg_Lsame := PySem.W.mg_of X G g_Lsame,
      f_Lletter_good := a_Lletter_good,
      fd_Lletter_good := PySem.W.fnOf "_law_letter_good" "_law_letter_good" (defArgs s_Lletter_good) (defBody s_Lletter_good) (defScope s_Lletter_good) .none kV_Lletter_good dc_Lletter_good pm_Lletter_good an_Lletter_good cd_Lletter_good ct_Lletter_good,
      F_Lletter_good := fun_mk (st := s_Lletter_good) l_Lletter_good c_Lletter_good k_Lletter_good,
      mg_Lletter_good := PySem.W.mg_of X G g_Lletter_good,
      f_Lraises := a_Lraises,
      fd_Lraises := PySem.W.fnOf "_law_raises" "_law_raises" (defArgs s_Lraises) (defBody s_Lraises) (defScope s_Lraises) .none kV_Lraises dc_Lraises pm_Lraises an_Lraises cd_Lraises ct_Lraises,
      F_Lraises := fun_mk (st := s_Lraises) l_Lraises c_Lraises k_Lraises,
      mg_Lraises := PySem.W.mg_of X G g_Lraises,
      f_Lspoilt := a_Lspoilt,
      fd_Lspoilt := PySem.W.fnOf "_law_spoilt" "_law_spoilt" (defArgs s_Lspoilt) (defBody s_Lspoilt) (defScope s_Lspoilt) .none kV_Lspoilt dc_Lspoilt pm_Lspoilt an_Lspoilt cd_Lspoilt ct_Lspoilt,
      F_Lspoilt := fun_mk (st := s_Lspoilt) l_Lspoilt c_Lspoilt k_Lspoilt,
      mg_Lspoilt := PySem.W.mg_of X G g_Lspoilt,
      f_law := a_law,
      fd_law := PySem.W.fnOf "law" "law" (defArgs s_law) (defBody s_law) (defScope s_law) .none kV_law dc_law pm_law an_law cd_law ct_law,
      F_law := fun_mk (st := s_law) l_law c_law k_law,
      mg_law := PySem.W.mg_of X G g_law,
      f_RuleSet___init__ := a_RuleSet___init__,
      fd_RuleSet___init__ := PySem.W.fnOf "__init__" "RuleSet.__init__" (defArgs s_RuleSet___init__) (defBody s_RuleSet___init__) (defScope s_RuleSet___init__) .none kV_RuleSet___init__ dc_RuleSet___init__ pm_RuleSet___init__ an_RuleSet___init__ cd_RuleSet___init__ ct_RuleSet___init__,
      F_RuleSet___init__ := fun_mk (st := s_RuleSet___init__) l_RuleSet___init__ c_RuleSet___init__ k_RuleSet___init__,
      f_RuleSet___contains__ := a_RuleSet___contains__,
      fd_RuleSet___contains__ := PySem.W.fnOf "__contains__" "RuleSet.__contains__" (defArgs s_RuleSet___contains__) (defBody s_RuleSet___contains__) (defScope s_RuleSet___contains__) .none kV_RuleSet___contains__ dc_RuleSet___contains__ pm_RuleSet___contains__ an_RuleSet___contains__ cd_RuleSet___contains__ ct_RuleSet___contains__,
      F_RuleSet___contains__ := fun_mk (st := s_RuleSet___contains__) l_RuleSet___contains__ c_RuleSet___contains__ k_RuleSet___contains__,
      f_Book_of_number := a_Book_of_number,
      fd_Book_of_number := PySem.W.fnOf "of_number" "Book.of_number" (defArgs s_Book_of_number) (defBody s_Book_of_number) (defScope s_Book_of_number) .none kV_Book_of_number dc_Book_of_number pm_Book_of_number an_Book_of_number cd_Book_of_number ct_Book_of_number,
      F_Book_of_number := fun_mk (st := s_Book_of_number) l_Book_of_number c_Book_of_number k_Book_of_number,
      C_Book := aC_Book,
      mg_Book := PySem.W.mg_of X G g_Book,
      cl_Book := ⟨pg_Book, hd_Book, po_Book, sa_Book⟩,
      na_Book_names := n_Book_names,
      na_Book_number := n_Book_number,
      mc_Book := mcv_Book,
      cr_Book := ⟨rd_Book, ga_Book⟩,
      tA_Book_RULES := tA_Book_RULES,
      tt_Book_RULES := fun H => .inr ⟨_, _, _, tk_Book_RULES, rfl, rfl, Rg.relAllS_sz tr_Book_RULES, Rg.relAllS_ok tr_Book_RULES⟩,
      tv_Book_RULES := ⟨tv1_Book_RULES, rfl⟩,
      tc_Book_RULES := ⟨tc1_Book_RULES, rfl, tc2_Book_RULES, by decide +kernel⟩,
      sm_Book_of_number := ⟨_, s1_Book_of_number, ⟨_, s2_Book_of_number⟩, k_Book_of_number⟩,
      C_StoreError := aC_StoreError,
      mg_StoreError := PySem.W.mg_of X G g_StoreError,
      be_StoreError := be1_StoreError,
      te_StoreError := te1_StoreError,
      ie_StoreError := ie1_StoreError,
      C_BadText := aC_BadText,
      mg_BadText := PySem.W.mg_of X G g_BadText,
      be_BadText := be1_BadText,
      te_BadText := te1_BadText,
      ie_BadText := ie1_BadText,
      C_BadValue := aC_BadValue,
      mg_BadValue := PySem.W.mg_of X G g_BadValue,
      be_BadValue := be1_BadValue,
      te_BadValue := te1_BadValue,
      ie_BadValue := ie1_BadValue,
      xe_BadValue := xe1_BadValue,
      ke_BadValue := ke1_BadValue,
      ec_BadValue := ⟨ec1_BadValue, ec2_BadValue, be1_BadValue, ec4_BadValue, ec5_BadValue, ec6_BadValue, ec7_BadValue, ec8_BadValue⟩,
      sub_BadValue_StoreError := sb_BadValue_StoreError,
      sub_BadValue_BadText := sb_BadValue_BadText,
      sub_BadValue_BadValue := sb_BadValue_BadValue,
      bsub_BadValue_ValueError := bs_BadValue_ValueError,
      gA_NEW := gA_NEW,
      gg_NEW := PySem.W.mg_of X G g_NEW,
      gt_NEW := fun H => .inr ⟨_, _, _, tk_NEW, rfl, rfl, Rg.relAllS_sz tr_NEW, Rg.relAllS_ok tr_NEW⟩,
      gA_LOST := gA_LOST,
      gg_LOST := PySem.W.mg_of X G g_LOST,
      gt_LOST := fun H => .inr ⟨_, _, _, tk_LOST, rfl, rfl, Rg.relAllS_sz tr_LOST, Rg.relAllS_ok tr_LOST⟩,
      gA_LETTERS := gA_LETTERS,
      gg_LETTERS := PySem.W.mg_of X G g_LETTERS,
      gt_LETTERS := fun H => .inr ⟨_, _, _, tk_LETTERS, rfl, rfl, Rg.relAllS_sz tr_LETTERS, Rg.relAllS_ok tr_LETTERS⟩,
      gA_SIGNS := gA_SIGNS,
      gA_SIGNS_0 := gA_SIGNS_0,
      gA_SIGNS_1 := gA_SIGNS_1,
      gA_SIGNS_2 := gA_SIGNS_2,
      gA_SIGNS_3 := gA_SIGNS_3,
      gA_SIGNS_4 := gA_SIGNS_4,
      gA_SIGNS_5 := gA_SIGNS_5,
      gg_SIGNS := PySem.W.mg_of X G g_SIGNS,
      gt_SIGNS := fun H => .inr ⟨_, _, _, tk_SIGNS, rfl, rfl, by show 6 ≤ sizeLine; decide, .cons rfl (.cons rfl (.cons rfl (.cons rfl (.cons rfl (.cons rfl (.nil))))))⟩,
      gt_SIGNS_0 := fun H => .inr ⟨_, _, _, tk_SIGNS_0, rfl, rfl, Rg.relAllS_sz tr_SIGNS_0, Rg.relAllS_ok tr_SIGNS_0⟩,
      gt_SIGNS_1 := fun H => .inr ⟨_, _, _, tk_SIGNS_1, rfl, rfl, Rg.relAllS_sz tr_SIGNS_1, Rg.relAllS_ok tr_SIGNS_1⟩,
      gt_SIGNS_2 := fun H => .inr ⟨_, _, _, tk_SIGNS_2, rfl, rfl, Rg.relAllS_sz tr_SIGNS_2, Rg.relAllS_ok tr_SIGNS_2⟩,
      gt_SIGNS_3 := fun H => .inr ⟨_, _, _, tk_SIGNS_3, rfl, rfl, Rg.relAllS_sz tr_SIGNS_3, Rg.relAllS_ok tr_SIGNS_3⟩,
      gt_SIGNS_4 := fun H => .inr ⟨_, _, _, tk_SIGNS_4, rfl, rfl, Rg.relAllS_sz tr_SIGNS_4, Rg.relAllS_ok tr_SIGNS_4⟩,
      gt_SIGNS_5 := fun H => .inr ⟨_, _, _, tk_SIGNS_5, rfl, rfl, Rg.relAllS_sz tr_SIGNS_5, Rg.relAllS_ok tr_SIGNS_5⟩,
      gA_STEPS := gA_STEPS,
      gg_STEPS := PySem.W.mg_of X G g_STEPS,
      gd_STEPS_takel := gd1_STEPS_takel,
      gd_STEPS_takep := gd1_STEPS_takep,
      gd_STEPS_change := gd1_STEPS_change,
      gd_STEPS_free := gd1_STEPS_free,
      gd_STEPS_close := gd1_STEPS_close,
      gd_STEPS_copy := gd1_STEPS_copy,
      gd_STEPS_mark := gd1_STEPS_mark,
      gd_STEPS_home := gd1_STEPS_home,
      gd_STEPS_early := gd1_STEPS_early,
      gd_STEPS_words := gd1_STEPS_words,
      gd_STEPS_room := gd1_STEPS_room,
      gd_STEPS_told := gd1_STEPS_told,
      gn_STEPS_0 := gn1_STEPS_0,
      gn_STEPS_1 := gn1_STEPS_1,
      gn_STEPS_2 := gn1_STEPS_2,
      gn_STEPS_3 := gn1_STEPS_3,
      gn_STEPS_4 := gn1_STEPS_4,
      gn_STEPS_5 := gn1_STEPS_5,
      gn_STEPS_6 := gn1_STEPS_6,
      mk_Book := ⟨mk1_Book, mk2_Book, mk3_Book, mk4_Book⟩,
      bm_contains := ⟨bm1_contains, bm2_contains, k_RuleSet___contains__⟩,
      b_abs := PySem.W.mg_none_of X G nb_abs,
      b_all := PySem.W.mg_none_of X G nb_all,
      b_enumerate := PySem.W.mg_none_of X G nb_enumerate,
      b_int := PySem.W.mg_none_of X G nb_int,
      b_isinstance := PySem.W.mg_none_of X G nb_isinstance,
      b_len := PySem.W.mg_none_of X G nb_len,
      b_list := PySem.W.mg_none_of X G nb_list,
      b_range := PySem.W.mg_none_of X G nb_range,
      b_str := PySem.W.mg_none_of X G nb_str,
      b_sum := PySem.W.mg_none_of X G nb_sum,
      b_tuple := PySem.W.mg_none_of X G nb_tuple,
      b_zip := PySem.W.mg_none_of X G nb_zip
    }, ⟨He.dicW_ok dw_STEPS⟩⟩
end K52
open PySem PySem.W PyProof.Rows
set_option maxRecDepth 100000 in
set_option maxHeartbeats 0 in
theorem PySem.Challenge.cw_lotsandties_k52_one_letter_holds : PySem.Challenge.rw_lotsandties_k52_one_letter.Holds := by
  w_on; o_law; k_head; (case hw => w_witness2)
  k_fill
  refine Rg.walk_ofG (l := PySem.Challenge.rw_lotsandties_k52_one_letter) (n := 63) (k := 9) (x := "_law_script") (CX := fun _ => L2.CX0) rfl (by decide) rfl ⟨rfl, by decide, by decide⟩ (fun w h Y => PySem.W.kIn_of Y) ?F (fun _ _ _ _ _ h => h)
  case F =>
    intro w mg fa h TT Y KX G hmg
    refine K52.fin_G ?_ hmg KX TT (by kernel_rfl)
    refine' K52.all_mk (w := w) KX G ?l_kind_behind ?c_kind_behind ?k_kind_behind ?g_kind_behind ?l_kind_c ?c_kind_c ?k_kind_c ?g_kind_c ?l_kind_r ?c_kind_r ?k_kind_r ?g_kind_r ?l_content_c ?c_content_c ?k_content_c ?g_content_c ?l_content_r ?c_content_r ?k_content_r ?g_content_r ?l_is_due ?c_is_due ?k_is_due ?g_is_due ?l_may_follow ?c_may_follow ?k_may_follow ?g_may_follow ?l_content_fits ?c_content_fits ?k_content_fits ?g_content_fits ?l_is_standing ?c_is_standing ?k_is_standing ?g_is_standing ?cc1_is_standing ?ch1_is_standing ?cn1_is_standing ?l_must_wait ?c_must_wait ?k_must_wait ?g_must_wait ?l_home_gone ?c_home_gone ?k_home_gone ?g_home_gone ?l_home_behind_mark ?c_home_behind_mark ?k_home_behind_mark ?g_home_behind_mark ?l_log_behind_mark ?c_log_behind_mark ?k_log_behind_mark ?g_log_behind_mark ?l_running_words ?c_running_words ?k_running_words ?g_running_words ?l_closing_words ?c_closing_words ?k_closing_words ?g_closing_words ?l_takel ?c_takel ?k_takel ?g_takel ?l_takep ?c_takep ?k_takep ?g_takep ?l_change ?c_change ?k_change ?g_change ?l_free ?c_free ?k_free ?g_free ?l_close ?c_close ?k_close ?g_close ?l_copy ?c_copy ?k_copy ?g_copy ?l_mark ?c_mark ?k_mark ?g_mark ?l_home ?c_home ?k_home ?g_home ?l_early ?c_early ?k_early ?g_early ?l_words ?c_words ?k_words ?g_words ?l_room ?c_room ?k_room ?g_room ?l_told ?c_told ?k_told ?g_told ?l_after ?c_after ?k_after ?g_after ?l_let_letters ?c_let_letters ?k_let_letters ?g_let_letters ?l_numbered_names ?c_numbered_names ?k_numbered_names ?g_numbered_names ?l_Lfeed ?c_Lfeed ?k_Lfeed ?g_Lfeed ?l_Lpick ?c_Lpick ?k_Lpick ?g_Lpick ?l_Lrules ?c_Lrules ?k_Lrules ?g_Lrules ?l_Lnames ?c_Lnames ?k_Lnames ?g_Lnames ?l_Lletters ?c_Lletters ?k_Lletters ?g_Lletters ?l_Lkind_c ?c_Lkind_c ?k_Lkind_c ?g_Lkind_c ?l_Lkind_r ?c_Lkind_r ?k_Lkind_r ?g_Lkind_r ?l_Lone ?c_Lone ?k_Lone ?g_Lone ?l_Ldrawn ?c_Ldrawn ?k_Ldrawn ?g_Ldrawn ?l_Lcontent_c ?c_Lcontent_c ?k_Lcontent_c ?g_Lcontent_c ?l_Lcontent_r ?c_Lcontent_r ?k_Lcontent_r ?g_Lcontent_r ?l_Lwords_let ?c_Lwords_let ?k_Lwords_let ?g_Lwords_let ?l_Llet ?c_Llet ?k_Llet ?g_Llet ?l_Llog ?c_Llog ?k_Llog ?g_Llog ?l_Lmarked ?c_Lmarked ?k_Lmarked ?g_Lmarked ?l_Lbehind ?c_Lbehind ?k_Lbehind ?g_Lbehind ?l_Lsame ?c_Lsame ?k_Lsame ?g_Lsame ?l_Lletter_good ?c_Lletter_good ?k_Lletter_good ?g_Lletter_good ?l_Lraises ?c_Lraises ?k_Lraises ?g_Lraises ?l_Lspoilt ?c_Lspoilt ?k_Lspoilt ?g_Lspoilt ?l_law ?c_law ?k_law ?g_law ?l_RuleSet___init__ ?c_RuleSet___init__ ?k_RuleSet___init__ ?l_RuleSet___contains__ ?c_RuleSet___contains__ ?k_RuleSet___contains__ ?l_Book_of_number ?c_Book_of_number ?k_Book_of_number ?g_Book ?pg_Book ?hd_Book ?po_Book ?sa_Book ?n_Book_names ?n_Book_number ?tp_Book ?rd_Book ?ga_Book ?tk_Book_RULES ?tr_Book_RULES ?tv1_Book_RULES ?tc1_Book_RULES ?tc2_Book_RULES ?s1_Book_of_number ?s2_Book_of_number ?g_StoreError ?be1_StoreError ?te1_StoreError ?ie1_StoreError ?g_BadText ?be1_BadText ?te1_BadText ?ie1_BadText ?g_BadValue ?be1_BadValue ?te1_BadValue ?ie1_BadValue ?xe1_BadValue ?ke1_BadValue ?ec1_BadValue ?ec2_BadValue ?ec4_BadValue ?ec5_BadValue ?ec6_BadValue ?ec7_BadValue ?ec8_BadValue ?sb_BadValue_StoreError ?sb_BadValue_BadText ?sb_BadValue_BadValue ?bs_BadValue_ValueError ?g_NEW ?tk_NEW ?tr_NEW ?g_LOST ?tk_LOST ?tr_LOST ?g_LETTERS ?tk_LETTERS ?tr_LETTERS ?g_SIGNS ?tk_SIGNS ?tk_SIGNS_0 ?tr_SIGNS_0 ?tk_SIGNS_1 ?tr_SIGNS_1 ?tk_SIGNS_2 ?tr_SIGNS_2 ?tk_SIGNS_3 ?tr_SIGNS_3 ?tk_SIGNS_4 ?tr_SIGNS_4 ?tk_SIGNS_5 ?tr_SIGNS_5 ?g_STEPS ?gd1_STEPS_takel ?gd1_STEPS_takep ?gd1_STEPS_change ?gd1_STEPS_free ?gd1_STEPS_close ?gd1_STEPS_copy ?gd1_STEPS_mark ?gd1_STEPS_home ?gd1_STEPS_early ?gd1_STEPS_words ?gd1_STEPS_room ?gd1_STEPS_told ?gn1_STEPS_0 ?gn1_STEPS_1 ?gn1_STEPS_2 ?gn1_STEPS_3 ?gn1_STEPS_4 ?gn1_STEPS_5 ?gn1_STEPS_6 ?mk1_Book ?mk2_Book ?mk3_Book ?mk4_Book ?bm1_contains ?bm2_contains ?nb_abs ?nb_all ?nb_enumerate ?nb_int ?nb_isinstance ?nb_len ?nb_list ?nb_range ?nb_str ?nb_sum ?nb_tuple ?nb_zip ?dw_STEPS
    (case g_kind_behind => k_is)
    (case g_kind_c => k_is)
    (case g_kind_r => k_is)
    (case g_content_c => k_is)
    (case g_content_r => k_is)
    (case g_is_due => k_is)
    (case g_may_follow => k_is)
    (case g_content_fits => k_is)
    (case g_is_standing => k_is)
    (case g_must_wait => k_is)
    (case g_home_gone => k_is)
    (case g_home_behind_mark => k_is)
    (case g_log_behind_mark => k_is)
    (case g_running_words => k_is)
    (case g_closing_words => k_is)
    (case g_takel => k_is)
    (case g_takep => k_is)
    (case g_change => k_is)
    (case g_free => k_is)
    (case g_close => k_is)
    (case g_copy => k_is)
    (case g_mark => k_is)
    (case g_home => k_is)
    (case g_early => k_is)
    (case g_words => k_is)
    (case g_room => k_is)
    (case g_told => k_is)
    (case g_after => k_is)
    (case g_let_letters => k_is)
    (case g_numbered_names => k_is)
    (case g_Lfeed => k_is)
    (case g_Lpick => k_is)
    (case g_Lrules => k_is)
    (case g_Lnames => k_is)
    (case g_Lletters => k_is)
    (case g_Lkind_c => k_is)
    (case g_Lkind_r => k_is)
    (case g_Lone => k_is)
    (case g_Ldrawn => k_is)
    (case g_Lcontent_c => k_is)
    (case g_Lcontent_r => k_is)
    (case g_Lwords_let => k_is)
    (case g_Llet => k_is)
    (case g_Llog => k_is)
    (case g_Lmarked => k_is)
    (case g_Lbehind => k_is)
    (case g_Lsame => k_is)
    (case g_Lletter_good => k_is)
    (case g_Lraises => k_is)
    (case g_Lspoilt => k_is)
    (case g_law => k_is)
    (case g_Book => k_is)
    (case g_StoreError => k_is)
    (case g_BadText => k_is)
    (case g_BadValue => k_is)
    (case g_NEW => k_is)
    (case g_LOST => k_is)
    (case g_LETTERS => k_is)
    (case g_SIGNS => k_is)
    (case g_STEPS => k_is)
    (case tp_Book => k_is)
    (case mk2_Book => k_is)
    (case bm1_contains => k_is)
    (case s1_Book_of_number => k_is)
    (case s2_Book_of_number => k_is)
    (case tv1_Book_RULES => k_is)
    (case tc1_Book_RULES => k_is)
    (case l_kind_behind => k_is)
    (case c_kind_behind => k_is)
    (case k_kind_behind => k_is)
    (case l_kind_c => k_is)
    (case c_kind_c => k_is)
    (case k_kind_c => k_is)
    (case l_kind_r => k_is)
    (case c_kind_r => k_is)
    (case k_kind_r => k_is)
    (case l_content_c => k_is)
    (case c_content_c => k_is)
    (case k_content_c => k_is)
    (case l_content_r => k_is)
    (case c_content_r => k_is)
    (case k_content_r => k_is)
    (case l_is_due => k_is)
    (case c_is_due => k_is)
    (case k_is_due => k_is)
    (case l_may_follow => k_is)
    (case c_may_follow => k_is)
    (case k_may_follow => k_is)
    (case l_content_fits => k_is)
    (case c_content_fits => k_is)
    (case k_content_fits => k_is)
    (case l_is_standing => k_is)
    (case c_is_standing => k_is)
    (case k_is_standing => k_is)
    (case l_must_wait => k_is)
    (case c_must_wait => k_is)
    (case k_must_wait => k_is)
    (case l_home_gone => k_is)
    (case c_home_gone => k_is)
    (case k_home_gone => k_is)
    (case l_home_behind_mark => k_is)
    (case c_home_behind_mark => k_is)
    (case k_home_behind_mark => k_is)
    (case l_log_behind_mark => k_is)
    (case c_log_behind_mark => k_is)
    (case k_log_behind_mark => k_is)
    (case l_running_words => k_is)
    (case c_running_words => k_is)
    (case k_running_words => k_is)
    (case l_closing_words => k_is)
    (case c_closing_words => k_is)
    (case k_closing_words => k_is)
    (case l_takel => k_is)
    (case c_takel => k_is)
    (case k_takel => k_is)
    (case l_takep => k_is)
    (case c_takep => k_is)
    (case k_takep => k_is)
    (case l_change => k_is)
    (case c_change => k_is)
    (case k_change => k_is)
    (case l_free => k_is)
    (case c_free => k_is)
    (case k_free => k_is)
    (case l_close => k_is)
    (case c_close => k_is)
    (case k_close => k_is)
    (case l_copy => k_is)
    (case c_copy => k_is)
    (case k_copy => k_is)
    (case l_mark => k_is)
    (case c_mark => k_is)
    (case k_mark => k_is)
    (case l_home => k_is)
    (case c_home => k_is)
    (case k_home => k_is)
    (case l_early => k_is)
    (case c_early => k_is)
    (case k_early => k_is)
    (case l_words => k_is)
    (case c_words => k_is)
    (case k_words => k_is)
    (case l_room => k_is)
    (case c_room => k_is)
    (case k_room => k_is)
    (case l_told => k_is)
    (case c_told => k_is)
    (case k_told => k_is)
    (case l_after => k_is)
    (case c_after => k_is)
    (case k_after => k_is)
    (case l_let_letters => k_is)
    (case c_let_letters => k_is)
    (case k_let_letters => k_is)
    (case l_numbered_names => k_is)
    (case c_numbered_names => k_is)
    (case k_numbered_names => k_is)
    (case l_Lfeed => k_is)
    (case c_Lfeed => k_is)
    (case k_Lfeed => k_is)
    (case l_Lpick => k_is)
    (case c_Lpick => k_is)
    (case k_Lpick => k_is)
    (case l_Lrules => k_is)
    (case c_Lrules => k_is)
    (case k_Lrules => k_is)
    (case l_Lnames => k_is)
    (case c_Lnames => k_is)
    (case k_Lnames => k_is)
    (case l_Lletters => k_is)
    (case c_Lletters => k_is)
    (case k_Lletters => k_is)
    (case l_Lkind_c => k_is)
    (case c_Lkind_c => k_is)
    (case k_Lkind_c => k_is)
    (case l_Lkind_r => k_is)
    (case c_Lkind_r => k_is)
    (case k_Lkind_r => k_is)
    (case l_Lone => k_is)
    (case c_Lone => k_is)
    (case k_Lone => k_is)
    (case l_Ldrawn => k_is)
    (case c_Ldrawn => k_is)
    (case k_Ldrawn => k_is)
    (case l_Lcontent_c => k_is)
    (case c_Lcontent_c => k_is)
    (case k_Lcontent_c => k_is)
    (case l_Lcontent_r => k_is)
    (case c_Lcontent_r => k_is)
    (case k_Lcontent_r => k_is)
    (case l_Lwords_let => k_is)
    (case c_Lwords_let => k_is)
    (case k_Lwords_let => k_is)
    (case l_Llet => k_is)
    (case c_Llet => k_is)
    (case k_Llet => k_is)
    (case l_Llog => k_is)
    (case c_Llog => k_is)
    (case k_Llog => k_is)
    (case l_Lmarked => k_is)
    (case c_Lmarked => k_is)
    (case k_Lmarked => k_is)
    (case l_Lbehind => k_is)
    (case c_Lbehind => k_is)
    (case k_Lbehind => k_is)
    (case l_Lsame => k_is)
    (case c_Lsame => k_is)
    (case k_Lsame => k_is)
    (case l_Lletter_good => k_is)
    (case c_Lletter_good => k_is)
    (case k_Lletter_good => k_is)
    (case l_Lraises => k_is)
    (case c_Lraises => k_is)
    (case k_Lraises => k_is)
    (case l_Lspoilt => k_is)
    (case c_Lspoilt => k_is)
    (case k_Lspoilt => k_is)
    (case l_law => k_is)
    (case c_law => k_is)
    (case k_law => k_is)
    (case l_RuleSet___init__ => k_is)
    (case c_RuleSet___init__ => k_is)
    (case k_RuleSet___init__ => k_is)
    (case l_RuleSet___contains__ => k_is)
    (case c_RuleSet___contains__ => k_is)
    (case k_RuleSet___contains__ => k_is)
    (case l_Book_of_number => k_is)
    (case c_Book_of_number => k_is)
    (case k_Book_of_number => k_is)
    (case pg_Book => k_is)
    (case hd_Book => k_is)
    (case po_Book => k_is)
    (case sa_Book => k_is)
    (case n_Book_names => k_is)
    (case n_Book_number => k_is)
    (case rd_Book => k_is)
    (case ga_Book => k_is)
    (case tk_Book_RULES => k_is)
    (case tc2_Book_RULES => k_is)
    (case be1_StoreError => k_is)
    (case te1_StoreError => k_is)
    (case ie1_StoreError => k_is)
    (case be1_BadText => k_is)
    (case te1_BadText => k_is)
    (case ie1_BadText => k_is)
    (case be1_BadValue => k_is)
    (case te1_BadValue => k_is)
    (case ie1_BadValue => k_is)
    (case xe1_BadValue => first | k_exc | k_is)
    (case ke1_BadValue => k_is)
    (case ec1_BadValue => k_is)
    (case ec2_BadValue => k_is)
    (case ec4_BadValue => k_is)
    (case ec5_BadValue => k_is)
    (case ec6_BadValue => k_is)
    (case ec7_BadValue => k_is)
    (case ec8_BadValue => k_is)
    (case sb_BadValue_StoreError => first | rfl | k_is)
    (case sb_BadValue_BadText => first | rfl | k_is)
    (case sb_BadValue_BadValue => first | rfl | k_is)
    (case bs_BadValue_ValueError => k_is)
    (case tk_NEW => k_is)
    (case tk_LOST => k_is)
    (case tk_LETTERS => k_is)
    (case tk_SIGNS => k_is)
    (case tk_SIGNS_0 => k_is)
    (case tk_SIGNS_1 => k_is)
    (case tk_SIGNS_2 => k_is)
    (case tk_SIGNS_3 => k_is)
    (case tk_SIGNS_4 => k_is)
    (case tk_SIGNS_5 => k_is)
    (case gd1_STEPS_takel => k_is)
    (case gd1_STEPS_takep => k_is)
    (case gd1_STEPS_change => k_is)
    (case gd1_STEPS_free => k_is)
    (case gd1_STEPS_close => k_is)
    (case gd1_STEPS_copy => k_is)
    (case gd1_STEPS_mark => k_is)
    (case gd1_STEPS_home => k_is)
    (case gd1_STEPS_early => k_is)
    (case gd1_STEPS_words => k_is)
    (case gd1_STEPS_room => k_is)
    (case gd1_STEPS_told => k_is)
    (case gn1_STEPS_0 => k_is)
    (case gn1_STEPS_1 => k_is)
    (case gn1_STEPS_2 => k_is)
    (case gn1_STEPS_3 => k_is)
    (case gn1_STEPS_4 => k_is)
    (case gn1_STEPS_5 => k_is)
    (case gn1_STEPS_6 => k_is)
    (case mk1_Book => k_is)
    (case mk3_Book => k_is)
    (case mk4_Book => k_is)
    (case bm2_contains => k_is)
    (case nb_abs => k_is)
    (case nb_all => k_is)
    (case nb_enumerate => k_is)
    (case nb_int => k_is)
    (case nb_isinstance => k_is)
    (case nb_len => k_is)
    (case nb_list => k_is)
    (case nb_range => k_is)
    (case nb_str => k_is)
    (case nb_sum => k_is)
    (case nb_tuple => k_is)
    (case nb_zip => k_is)
    (case dw_STEPS => first | kernel_rfl | rfl)
    (case cc1_is_standing => first | rfl | kernel_rfl)
    (case tr_Book_RULES => first | rfl | decide +kernel | k_is)
    (case tr_NEW => first | rfl | decide +kernel | k_is)
    (case tr_LOST => first | rfl | decide +kernel | k_is)
    (case tr_LETTERS => first | rfl | decide +kernel | k_is)
    (case tr_SIGNS_0 => first | rfl | decide +kernel | k_is)
    (case tr_SIGNS_1 => first | rfl | decide +kernel | k_is)
    (case tr_SIGNS_2 => first | rfl | decide +kernel | k_is)
    (case tr_SIGNS_3 => first | rfl | decide +kernel | k_is)
    (case tr_SIGNS_4 => first | rfl | decide +kernel | k_is)
    (case tr_SIGNS_5 => first | rfl | decide +kernel | k_is)
    (case ch1_is_standing => first | kernel_rfl | rfl | k_is)
    (case cn1_is_standing => first | kernel_rfl | rfl | k_is)
