import PyProof.Rows.All
import Wide.All
import OpenK.AllK
import Wide.FinOn
import HandS.ForMost
import HandS.IsInst
import HandS.Evl
import HandS.ClsMeth
import HandS.MakeKwOnly
import HandS.TryOnly
import HandS.TryMany
import HandS.Iter
import HandS.Property
import HandS.DictComp
import HandS.WordsDict
import HandS.ExcOwn
import HandS.ExcIs
import HandS.ExcCtx
import HandS.HotCalls
import HandS.WordsExc
import HandS.Conv
import HandS.FStr
import HandS.RaiseMore
import HandS.Style
import HandS.Small
import HandS.More
import HandS.Star
import KE.GoesMore
import HandS.Walk
import HandS.SetBool
import HandS.Strs
import HandS.SetFor
import HandS.SortInts
import HandS.SortRule
import HandS.HeadHook2
import KE.KOwnIter
import HandS.Iter
import HandS.IterVal
import HandS.Lambda
import HandS.RevTup
import HandS.Rev
import HandS.EndTab
import HandS.TupMul
import HandS.Flow
import HandS.Zip
import HandS.Dict
import HandS.StrMore
import HandS.HeadHook4
import KE.KNestM
import HandS.AnyAll
import HandS.GenOver
import HandS.Deep
import HandS.ReplaceDef
import HandS.ReplaceLit
import HandS.Replace
import PySem.Challenge.RW_lotsandties_k60_one_letter
import HandS.GenList
import HandS.TupAny
import PyProof.ForAny
set_option Elab.async false
set_option linter.all false
set_option maxRecDepth 100000
set_option maxHeartbeats 4000000
namespace Rg
open PySem PySem.Spec PyProof.Rows L2
/-! ### heaps -/
theorem same_upd {H : Hp} {p : Addr} {o : HO} (h : H p = none) : Same H (upd H p o) := fun b x e => by
  rw [upd_ne (ne_of_none e h)]
  exact e
theorem upd_id {H : Hp} {p : Addr} {o : HO} (h : H p = some o) : upd H p o = H := by
  funext b
  by_cases e : b = p
  · rw [e, upd_same, h]
  · rw [upd_ne e]
theorem yes_ {σ : L2.St} {H : Hp} {A B : Hp → Prop} (h : A H) : tYes σ H fun b H3 => if b = true then A H3 else B H3 := by
  show if true = true then A H else B H
  rw [if_pos rfl]
  exact h
/-- what is free behind a store was free, and is another place -/
theorem un {H : Hp} {a b : Addr} {o : HO} (e : upd H a o b = none) : H b = none := by
  by_cases z : b = a
  · rw [z, upd_same] at e; cases e
  · rw [upd_ne z] at e; exact e
theorem unn {H : Hp} {a b : Addr} {o : HO} (e : upd H a o b = none) : b ≠ a := fun z => by
  rw [z, upd_same] at e; cases e
theorem unn' {H : Hp} {a b : Addr} {o : HO} (e : upd H a o b = none) : a ≠ b := fun z => unn e z.symm
theorem upd_comm {H : Hp} {p q : Addr} {o o' : HO} (h : p ≠ q) : upd (upd H p o) q o' = upd (upd H q o') p o := by
  funext b
  by_cases e : b = p
  · rw [e, upd_same, upd_ne h, upd_same]
  · by_cases e2 : b = q
    · rw [e2, upd_same, upd_ne h.symm, upd_same]
    · rw [upd_ne e2, upd_ne e, upd_ne e, upd_ne e2]
theorem upd_app {H : Hp} {p : Addr} {fs : List Int} {x : Int} : upd (upd H p (.lst (fs.map V.int))) p (.lst (fs.map V.int ++ [V.int x])) = upd H p (.lst ((fs ++ [x]).map V.int)) := by
  rw [upd_upd, List.map_append]
  rfl
/-- kept but for what stands at S -/
def Kp (S : List Addr) (H H' : Hp) : Prop := ∀ x o, H x = some o → x ∉ S → H' x = some o
theorem Kp.refl {S : List Addr} {H : Hp} : Kp S H H := fun _ _ e _ => e
theorem Kp.new {S : List Addr} {H H1 : Hp} {a : Addr} {o : HO} (k : Kp S H H1) (h : H1 a = none) : Kp S H (upd H1 a o) := fun x u e n => by
  rw [upd_ne (ne_of_none (k x u e n) h)]
  exact k x u e n
theorem Kp.own {S : List Addr} {H H1 : Hp} {a : Addr} {o : HO} (k : Kp S H H1) (h : a ∈ S) : Kp S H (upd H1 a o) := fun x u e n => by
  have z : x ≠ a := fun z => by rw [z] at n; exact n h
  rw [upd_ne z]
  exact k x u e n
theorem Kp.own1 {p : Addr} {H H1 : Hp} {o : HO} (k : Kp [p] H H1) : Kp [p] H (upd H1 p o) := k.own (by simp)
theorem Kp.trans {S : List Addr} {H H1 H2 : Hp} (a : Kp S H H1) (b : Kp S H1 H2) : Kp S H H2 := fun x o e n => b x o (a x o e n) n
theorem Kp.same {S : List Addr} {H H1 H2 : Hp} (a : Kp S H H1) (b : Same H1 H2) : Kp S H H2 := fun x o e n => b x o (a x o e n)
theorem Kp.of {S : List Addr} {H H1 : Hp} (b : Same H H1) : Kp S H H1 := fun x o e _ => b x o e
theorem Kp.mono {S S' : List Addr} {H H1 : Hp} (a : Kp S H H1) (h : ∀ x, x ∈ S → x ∈ S') : Kp S' H H1 := fun x o e n => a x o e fun z => n (h x z)
theorem Kp.free {S : List Addr} {H H1 : Hp} {x : Addr} (a : Kp S H H1) (n : x ∉ S) (h : H1 x = none) : H x = none := by
  cases q : H x with
  | none => rfl
  | some o => rw [a x o q n] at h; cases h
theorem Kp.at1 {p x : Addr} {H H' : Hp} {o : HO} (k : Kp [p] H H') (e : H x = some o) (n : x ≠ p) : H' x = some o := k x o e (by simp [n])
theorem Kp.ret {a : Addr} {S : List Addr} {H H' : Hp} {o : HO} (k : Kp (a :: S) H H') (h : H a = none) : Kp S H H' := fun x u e n => k x u e (by
  intro z
  rcases List.mem_cons.mp z with z | z
  · rw [z, h] at e; cases e
  · exact n z)
theorem own_f {H H' : Hp} {p : Addr} {o : HO} (h : upd H p o = H') : H' p = some o ∧ Kp [p] H H' ∧ ∀ x, H' x = none → H x = none ∧ x ≠ p := by
  subst h
  exact ⟨upd_same, Kp.refl.own1, fun x e => ⟨un e, unn e⟩⟩
theorem new_f {H H' : Hp} {a : Addr} {o : HO} (h : upd H a o = H') (n : H a = none) : H' a = some o ∧ Same H H' ∧ ∀ x, H' x = none → H x = none ∧ x ≠ a := by
  subst h
  exact ⟨upd_same, same_upd n, fun x e => ⟨un e, unn e⟩⟩
/-- a whole-number constant of the module -/
theorem pe_gc {X : Cx} {x : Str} {n : Int} {pos : Pos} (hm : ∃ t, X.mg x = some (.int n t)) (hg : Gl X x := by rfl) (hd : (x == ("__debug__" : Str)) = false := by decide) : PE X (.Name x pos) (tC (.int n)) :=
  let ⟨t, h⟩ := hm
  pe_glob hg h ⟨t, rfl⟩ hd
/-- a text constant of the module -/
theorem pe_gs {X : Cx} {x z : Str} {pos : Pos} (hm : ∃ t, X.mg x = some (.str z t)) (hg : Gl X x := by rfl) (hd : (x == ("__debug__" : Str)) = false := by decide) : PE X (.Name x pos) (tC (.str z)) :=
  let ⟨t, h⟩ := hm
  pe_glob hg h ⟨t, rfl⟩ hd
/-- C.f, C a class of the module, f a value of the class -/
theorem pe_cv {X : Cx} {x f : Str} {C : Addr} {mc : Value} {v : V} {p pos : Pos} (hm : X.mg x = some (.ref C)) (r : ClX.CRead X.K C mc) (k : ∃ u, ClX.CVal X.K C mc f v u) (hg : Gl X x := by rfl) (hd : (x == ("__debug__" : Str)) = false := by decide)
    (hb : attributeBase (.Name x p) f X.env (eval (.Name x p) X.env) = eval (.Name x p) X.env := by rfl) : PE X (.Attribute (.Name x p) f pos) (tC v) := by
  obtain ⟨u, k⟩ := k
  have := (ClX.pe_cval (pos := pos) (pe_glob (X := X) (x := x) (v := .ref C) (u := .ref C) (pos := p) hg hm rfl hd) hb)
  exact ⟨fun pins s σ H Q I h => this.run pins s σ H Q I ⟨C, mc, v, u, rfl, r, k, h⟩⟩
/-! ### the same rules with the written part named (inside a comprehension) -/
section
variable {X : Cx} {K : PySem.W.Frag}
def rListOf (K : PySem.W.Frag) : List V → Hp → VK → Prop := fun xs H Q => ∃ p ys, xs = [.ref p] ∧ (SqL K H p ys ∨ SqT K H p ys) ∧ ∀ l, H l = none → Q (.ref l) (upd H l (.lst ys))
theorem pe_listof {e : Expr} {te : TE} {p pos : Pos} (he : PE X e te) (hm : X.mg "list" = none) (hK : X.K = K := by rfl) (hg : Gl X "list" := by rfl) (hs : starEach [e] X.env = (false, eval e X.env) :: starEach [] X.env := by rfl) : PE X (.Call (.Name "list" p) [e] [] pos) (tCB (rListOf K) (tCons te tNil)) := by
  subst hK
  exact pe_callTy call_list_of hg hm (by decide +kernel) (pa_cons he pa_nil hs) (he := hs)
theorem pe_fldK {e : Expr} {f : Str} {pos : Pos} {ta : TE} (he : PE X e ta) (hb : attributeBase e f X.env (eval e X.env) = eval e X.env) (hK : X.K = K := by rfl) : PE X (.Attribute e f pos) (tFld K ta f) := by
  subst hK
  exact pe_fld he hb
theorem pe_ixK {a b : Expr} {pos : Pos} {ta tb : TE} (ha : PE X a ta) (hb : PE X b tb) (hs : PlainIx b) (hK : X.K = K := by rfl) : PE X (.Subscript a b pos) (tOp (rIxL K) ta tb) := by
  subst hK
  exact pe_ix ix_list ha hb hs
theorem pe_lenK {e : Expr} {te : TE} {p pos : Pos} (he : PE X e te) (hm : X.mg "len" = none) (hK : X.K = K := by rfl) (hg : Gl X "len" := by rfl) (hs : starEach [e] X.env = (false, eval e X.env) :: starEach [] X.env := by rfl) : PE X (.Call (.Name "len" p) [e] [] pos) (tCB (fun xs H Q => ∃ p ys, xs = [.ref p] ∧ (SqL K H p ys ∨ SqT K H p ys) ∧ Q (.int ys.length) H) (tCons te tNil)) := by
  subst hK
  exact pe_callB call_len_seq hg hm (by decide +kernel) (pa_cons he pa_nil hs) (he := hs)
end
/-! ### static methods, called off the class -/
structure SMet (K : PySem.W.Frag) (C : Addr) (mc : Value) (m : Str) (g : Addr) : Prop where
  ex : ∃ p, PySem.W.findCls K (.ref C) mc m = some (.get (.builtin "staticmethod.__get__") (.ref p) .none (.ref C)) ∧ (∃ rest, PySem.W.recIn K p "staticmethod" = some (.ref g :: rest)) ∧ PySem.W.keepIn K (.ref g) = true
/-- C.m(e, ..), C the class at C, m a static method -/
def tSMeth (sp : Sp) (dvs : List V) (E : XK) (t : TA) : TE := fun σ H Q => t σ H fun vs H2 => sp (vs ++ dvs) H2 Q E
section
variable {X : Cx} {CX : CXT} {k : Nat} {C g : Addr} {mc : Value} {sp : Sp} {E : XK} {x : Str} {e : Expr} {es : List Expr} {m : Str} {p pos apos : Pos} {t : TA} {pl : Sem Bool} {fd : FuncData} {ps : List Str} {ds : List Value} {dvs : List V}
theorem pe_smeth (hmx : X.mg x = some (.ref C)) (r : ClX.CRead X.K C mc) (c : SMet X.K C mc m g) (F : FnOk X.prog X.w X.K X.mg X.base CX k g fd ps sp) (hr : Room k X.A) (hb : Binds X.K fd ps ds) (hd : Vals dvs ds) (hx : Passes CX X E) (ha : PA X (e :: es) t) (hg : Gl X x := by rfl) (hdb : (x == ("__debug__" : Str)) = false := by decide)
    (hst : starEach (e :: es) X.env = (false, eval e X.env) :: starEach es X.env := by rfl) (hpl : (backTo pos (starEach es X.env)).any (·.1) = false := by rfl)
    (ht : eval (.Call (.Attribute (.Name x p) m apos) (e :: es) [] pos) X.env = (do
      let ov ← eval (.Name x p) X.env
      standAt apos.atName
      let (f, first) ← holding [ov] (getMethod ov m pl)
      callWith pos f first (backTo pos (starEach (e :: es) X.env)) (backToKw pos (keywordEach [] X.env))) := by rfl) :
    PE X (.Call (.Attribute (.Name x p) m apos) (e :: es) [] pos) (tSMeth sp dvs E t) := by
  obtain ⟨q, at_, ⟨rest, hp⟩, hk⟩ := c.ex
  refine ⟨fun pins s σ H Q I h => ?_⟩
  refine PySem.W.methodCall_KW (pl := pl) (ld_glob I hg hmx ?_ hdb) ht
  refine PySem.W.method_cls I.kIn r.ga (PySem.W.cls_bind I.kIn r.rd at_ ?_)
  refine wpAny_call (PySem.W.sm_get (s := { s with toks := s.toks + 1 }) I.kIn hp (PySem.W.handed_on rfl ?_))
  refine PySem.W.callWith_K (f := .ref g) (first := []) (h₀ := X.base) I.ok.mod.kin hk (thn (ha.run pos pins _ σ H _ (I.tok _) h) fun us s1 ⟨vs, H1, I1, r1, q1⟩ => ⟨I1.kIn, ?_⟩) hst hpl
  exact run_fn F hr hb hd hx I1 r1 q1
end
/-! ### errors -/
theorem exm_sub {K : PySem.W.Frag} {D S : Addr} (h1 : PySem.W.subIn K (.ref S) (.type "BaseException") = some true) (h2 : PySem.W.isClsIn K S = true) (h3 : PySem.W.typeIn K (.ref S) = some (.type "type")) (h4 : PySem.W.subIn K (.ref D) (.ref S) = some true) :
    PySem.W.exmOne K (.ref D) (.ref S) = some true := by
  have e1 : (PySem.W.subIn K (.ref S) (.type "BaseException") == some true) = true := by rw [h1] <;> rfl
  have e2 : ((PySem.W.clsIn K S).isSome && PySem.W.typeIn K (.ref S) == some (.type "type")) = true := by
    have h2' : (PySem.W.clsIn K S).isSome = true := h2
    rw [h2', h3] <;> rfl
  show (if (PySem.W.subIn K (.ref S) (.type "BaseException") == some true) = true then (if ((PySem.W.clsIn K S).isSome && PySem.W.typeIn K (.ref S) == some (.type "type")) = true then PySem.W.subIn K (.ref D) (.ref S) else none) else none) = some true
  rw [if_pos e1, if_pos e2]
  exact h4
theorem kit_sub {K : PySem.W.Frag} {D S : Addr} {b : Bool} (hne : D ≠ S) (h2 : PySem.W.isClsIn K S = true) (h3 : PySem.W.typeIn K (.ref S) = some (.type "type")) (h4 : PySem.W.subIn K (.ref D) (.ref S) = some b) :
    PySem.W.kitOne K (.ref D) (.ref S) = some b := by
  have e2 : ((PySem.W.clsIn K S).isSome && PySem.W.typeIn K (.ref S) == some (.type "type")) = true := by
    have h2' : (PySem.W.clsIn K S).isSome = true := h2
    rw [h2', h3] <;> rfl
  unfold PySem.W.kitOne
  rw [if_neg (by intro z; exact hne (Value.ref.inj (beq_iff_eq.mp z)))]
  show (if ((PySem.W.clsIn K S).isSome && PySem.W.typeIn K (.ref S) == some (.type "type")) = true then PySem.W.subIn K (.ref D) (.ref S) else none) = some b
  rw [if_pos e2]
  exact h4
/-- a suite that is come to by an error of the class at D alone (no fields of its own) -/
def tOnly (cls : Value) (d : Option Addr) (D : Addr) (t : TS) : TS := fun E σ H => cls = .ref D ∧ d = none ∧ t E σ H
theorem pss_only {X : Cx} {sts : List Stmt} {t : TS} {cls : Value} {d : Option Addr} {D : Addr} (h : cls = .ref D → d = none → PSs X sts t) : PSs X sts (tOnly cls d D t) :=
  ⟨fun pins s σ H E I hh => (h hh.1 hh.2.1).run pins s σ H E I hh.2.2⟩
theorem kit_self {K : PySem.W.Frag} {D : Addr} : PySem.W.kitOne K (.ref D) (.ref D) = some true := by
  unfold PySem.W.kitOne
  rw [if_pos (beq_self_eq_true _)]
theorem dec_iv (a d : Int) : decide (V.int a = V.int d) = decide (a = d) := by
  by_cases e : a = d
  · subst e; simp
  · rw [decide_eq_false e, decide_eq_false fun q => e (V.int.inj q)]
end Rg
namespace Rg
open PySem PySem.Spec PyProof.Rows L2
/-! ### tests that are known -/
theorem wT {c A B : Prop} [Decidable c] (h : c) (a : A) : if decide c = true then A else B := by rw [decide_eq_true h, if_pos rfl]; exact a
theorem wF {c A B : Prop} [Decidable c] (h : ¬ c) (a : B) : if decide c = true then A else B := by rw [decide_eq_false h, if_neg Bool.false_ne_true]; exact a
theorem wTv {a b : Int} {A B : Prop} (h : a = b) (k : A) : if decide (V.int a = V.int b) = true then A else B := wT (by rw [h]) k
theorem wFv {a b : Int} {A B : Prop} (h : ¬ a = b) (k : B) : if decide (V.int a = V.int b) = true then A else B := wF (fun z => h (V.int.inj z)) k
theorem wI {a b : Int} {A B : Prop} (h1 : a = b → A) (h2 : ¬ a = b → B) : if decide (V.int a = V.int b) = true then A else B := by
  by_cases e : a = b
  · exact wTv e (h1 e)
  · exact wFv e (h2 e)
theorem wD {c A B : Prop} [Decidable c] (h1 : c → A) (h2 : ¬ c → B) : if decide c = true then A else B := by
  by_cases e : c
  · exact wT e (h1 e)
  · exact wF e (h2 e)
theorem wTn {c A B : Prop} [Decidable c] (h : ¬ c) (a : A) : if (!decide c) = true then A else B := by rw [decide_eq_false h]; exact iteT a
theorem wFn {c A B : Prop} [Decidable c] (h : c) (a : B) : if (!decide c) = true then A else B := by rw [decide_eq_true h]; exact iteF a
theorem wTb {b : Bool} {A B : Prop} (h : b = true) (a : A) : if b = true then A else B := by rw [if_pos h]; exact a
theorem wFb {b : Bool} {A B : Prop} (h : b = false) (a : B) : if b = true then A else B := by rw [if_neg (by rw [h]; decide)]; exact a
/-- what was free before may be written -/
theorem Kp.put {S : List Addr} {H H1 : Hp} {a : Addr} {o : HO} (k : Kp S H H1) (h : H a = none) : Kp S H (upd H1 a o) := fun x u e n => by
  rw [upd_ne (ne_of_none e h)]
  exact k x u e n
theorem wNT {a b : Int} {A B : Prop} (h : ¬ a = b) (k : A) : if (!decide (V.int a = V.int b)) = true then A else B := wTn (fun z => h (V.int.inj z)) k
theorem wNF {a b : Int} {A B : Prop} (h : a = b) (k : B) : if (!decide (V.int a = V.int b)) = true then A else B := wFn (by rw [h]) k
theorem wNe {a b : Int} {A B : Prop} (h1 : ¬ a = b → A) (h2 : a = b → B) : if (!decide (V.int a = V.int b)) = true then A else B := by
  by_cases e : a = b
  · exact wNF e (h2 e)
  · exact wNT e (h1 e)
theorem wND {c A B : Prop} [Decidable c] (h1 : ¬ c → A) (h2 : c → B) : if (!decide c) = true then A else B := by
  by_cases e : c
  · exact wFn e (h2 e)
  · exact wTn e (h1 e)
theorem CMul_l {i j : Int} (h : -(2 ^ 64) < i ∧ i < 2 ^ 64) : CMul i j := .inl h
theorem CMul_r {i j : Int} (h : -(2 ^ 64) < j ∧ j < 2 ^ 64) : CMul i j := .inr h
theorem lt_line {n : Nat} (h : n ≤ 10000) : n < sizeLine := Nat.lt_of_le_of_lt h (by decide)
/-- the slots written out -/
theorem sg {t : L2.St → Hp → Prop} {σ σ' : L2.St} {H : Hp} (e : σ = σ') (h : t σ' H) : t σ H := by rw [e]; exact h
theorem sgG {i : Nat} {v : V} {σ σ' : L2.St} {H : Hp} {k : L2.St → Hp → Prop} (e : σ.set i (some v) = σ') (h : k σ' H) : gName i v σ H k := by
  subst e
  exact h
end Rg
namespace Rg
open PySem PySem.Spec PyProof.Rows L2
/-! ### an error that a suite holds, handed to a def of one's own -/
section
variable {prog : Program} {w : World} {A : Around} {E : Value → Shared → Prop} {s : Shared}
/-- a walk over a list comes to its end while an error is handled -/
theorem list_end_hot {it l x1 : Addr} {i : Nat} {items} {Q : Option Value → Shared → Prop} (hot : HotX.HotAt A x1 s.heap) (hit : s.heap.IsListIter it l i) (hl : s.heap.IsList l items) (hx : items[i]? = none)
    (hQ : ∀ h', Heap.ExtBut it s.heap h' → Q none { s with heap := h' }) : wpAny (model prog w) A (pyNext (.ref it)) Q E s := by
  obtain ⟨hh, o1, vs1, h1, d1, c1⟩ := hot; obtain ⟨o, ho, hc, hd⟩ := id hit
  obtain ⟨ol, hol, _, nl, hdl⟩ := hl; unfold pyNext
  have ni : it ≠ x1 := fun z => by
    rw [← z, ho] at h1
    cases h1
    rw [hd] at d1
    cases d1
    simp at c1
  refine wpAny_bind (wpAny_attempt (wpAny_callSpecial?_slot (name := Str.ofString "__next__") hit.typeIs slot_listiter_next (wpAny_call_entry slot_listiter_next hit.typeIs entry_listiter_next ?_ (args_listiter_next _))))
  refine (show wpAny _ _ (field (.ref it) 0 >>= _) _ _ s from ?_); refine wpAny_bind (wpAny_field ho hd (x := .ref l) rfl ?_)
  refine (show wpAny _ _ (if (Value.ref l == Value.none) = true then _ else _) _ _ s from ?_); rw [if_neg (show ¬ ((Value.ref l == Value.none) = true) from Bool.false_ne_true)]
  refine (show wpAny _ _ (field (.ref it) 1 >>= _) _ _ s from ?_); refine wpAny_bind (wpAny_field ho hd (x := .int i 0) rfl ?_)
  refine (show wpAny _ _ (seqItems? (.ref l) >>= _) _ _ s from ?_); refine wpAny_bind (wpAny_seqItems hol hdl ?_)
  simp only [Int.toNat_natCast, hx]; refine wpAny_bind (wpAny_rule (wpAny_bind (wpAny_setField ho hd (by simp) ?_)))
  refine (show wpAny _ _ (newExc (.type "StopIteration") [] >>= _) _ _ _ from ?_); refine wpAny_bind ?_
  simp only [newExc, newTuple]; refine wpAny_bind (wpAny_newObj_type ?_ (by size_fits))
  refine wpAny_bind (m := firstArgMember _ _) (wpAny_of_eq (a := Value.none) (by first | rfl | (simp only [firstArgMember]; rfl)) ?_); refine wpAny_newObj_type ?_ (by size_fits)
  have g1 : ∀ f : Obj → Obj, (s.heap.update it f).get? x1 = some o1 := fun f => by rw [Heap.get?_update_other _ _ ni]; exact h1
  refine HotX.raiseNew_hot ⟨hh, o1, vs1, Heap.get?_push_of_some _ (Heap.get?_push_of_some _ (g1 _)), d1, c1⟩ (Nat.ne_of_lt (Heap.lt_size (Heap.get?_push_of_some _ (g1 _)))) (Heap.get?_push_size _ rfl) rfl (by first | (simp; done) | (simp; omega) | (simp only [Array.size_append]; simp; omega)) ?_
  refine wpAny_bind (wpAny_isInstance (T := "StopIteration") (b := true) ⟨_, Heap.get?_update_self _ (Heap.get?_push_size _ rfl) rfl, rfl⟩ isSubtype_stop ?_); refine wpAny_pure (hQ _ fun b o' nb e => ?_)
  have e2 : ∀ f oo, ((s.heap.update it f).push oo).get? b = some o' := fun f oo => (Heap.SameBut.update ..).extBut.push _ b o' nb e
  rw [Heap.get?_update_other _ _ (Nat.ne_of_gt (Heap.lt_size (e2 _ _)))]; exact Heap.get?_push_of_some _ (e2 _ _)
end
/-- the turns of a walk over a list while an error is handled -/
theorem turn_listH {P : Program} {w : World} {K : PySem.W.Frag} {tg : Expr} (a it : Addr) : L2H.TurnH P w K tg (Itl K a) [it] it (fun i h => h.IsListIter it a i) where
  mem := by simp
  obj := fun i h st b hb => (turn_list (P := P) (w := w) (K := K) (tg := tg) a it).obj i h st b hb
  keep := fun i h h' st k => (turn_list (P := P) (w := w) (K := K) (tg := tg) a it).keep i h h' st k
  item := by
    intro X hP hw hK hc i pins s σ H E I hf st hg; subst hP hw hK
    obtain ⟨xs, x, hq, hx⟩ := hg; obtain ⟨its, rv, p, hz⟩ := I.list hq
    obtain ⟨u, hu, ru⟩ := rv.get hx; obtain ⟨f0, f1, f2, f3, f4, f5⟩ := hf it (by simp)
    refine wpAny_pyNext_list_item st p.isList (x := u) (by simpa using hu) fun h' st' sb => ?_
    have I1 : Inv X pins σ H { s with heap := h' } := I.turned (t' := s.toks) (fun b o hb e => (sb.2 b hb).trans e) f0 f1 f3 f4 f5
    obtain ⟨o, e, c, d⟩ := id st'
    exact ⟨u, rfl, go_of (s := { s with heap := h' }) e c d (by decide) ⟨x, H, I1, ru, ⟨rfl, fun ys hy => by rw [I.list_inj hy hq]; exact hx⟩, st', fun b hb => (hf b hb).1⟩⟩
  done := by
    intro X hP hw hK hc i pins s σ H E I hf st hg; subst hP hw hK
    obtain ⟨xs, hq, hx⟩ := hg; obtain ⟨its, rv, p, hz⟩ := I.list hq
    obtain ⟨f0, f1, f2, f3, f4, f5⟩ := hf it (by simp); obtain ⟨x1, hot⟩ := hc.at I
    have hl := rv.length
    exact list_end_hot hot st p.isList (by simp; omega) fun h' eb => ⟨rfl, I.turned (t' := s.toks) (fun b o hb e => eb b o hb e) f0 f1 f3 f4 f5⟩
  self := fun _ _ _ _ _ st h => wpAny_pyIter_listiter st h
theorem pi_listH {X : Cx} {tg l : Expr} {tl : TE} (hl : PE X l tl) : L2H.PIH X tg l (iList X.K tl) := by
  refine ⟨fun pins s σ H R I h => thn (hl.run pins s σ H _ I h) fun v s1 ⟨x, H1, I1, r1, q1⟩ => ?_⟩
  obtain ⟨a, e, ⟨xs, hq⟩, q⟩ := q1; subst e; cases r1
  obtain ⟨its, rv, p, hz⟩ := I1.list hq; refine wpAny_pyIter_list p.isList ?_
  refine ⟨s1.heap.objs.size, [s1.heap.objs.size], _, _, H1, rfl, I1.kept (t' := s1.toks) (fun b o e => Heap.get?_push_of_some _ e), turn_listH a _, ⟨_, Heap.get?_push_size _ rfl, rfl, rfl⟩, fun b hb => ?_, q⟩
  have e : b = s1.heap.objs.size := by simpa using hb
  subst e; exact I1.fpOk (Nat.le_refl _) (I1.hok.fresh (Nat.le_refl _))
/-- a def that is called with the error that a suite holds (of the class at D) and lets nothing out -/
structure FnE (P : Program) (w : World) (K : PySem.W.Frag) (mg : Str → Option Value) (base : Heap) (k : Nat) (f : Addr) (fd : FuncData) (ps : List Str) (D : Addr) (sp : Addr → Sp) : Prop where
  len : ∀ a vs H Q E, sp a vs H Q E → vs.length = ps.length
  run : ∀ (A : Around) (outer : List Env) (s : Shared) (H : Hp) (args : Args) (us : List Value) (vs : List V) (Q : VK) (E : XK) (p : Addr × Obj), L2H.RoomH k A → L2H.Hot1 A p → Zc (.ref D) none p.2 → L2H.PinOk outer H s p → Env0 P w K mg base A outer s H →
    BindsTo s fd args (ps.zip us) → Vals vs us → sp p.1 vs H Q E → codeAny (model P w) A (.call (.ref f) args) (CR CX0 outer P w H s Q E) s
section
variable {P : Program} {w : World} {K : PySem.W.Frag} {mg : Str → Option Value} {base : Heap}
theorem _root_.L2.Fun.okE {x qual : Str} {st : Stmt} {f D : Addr} {fd : FuncData} {N ps : List Str} {k : Nat} {sp : Addr → Sp} (F : Fun K x qual st f fd) (S : FnScope N ps (defScope st)) (len : ∀ a vs H Q E, sp a vs H Q E → vs.length = ps.length)
    (hbody : ∀ (cdv : Value) (A : Around) (outer : List Env) (s : Shared) (H : Hp) (vs : List V) (Q : VK) (E : XK) (p : Addr × Obj), L2H.Hot1 A p → Zc (.ref D) none p.2 → L2H.RoomH k (A.deeper (envOfC qual (defScope st) s.heap.objs.size f cdv)) → sp p.1 vs H Q E →
      ∃ t, PSs (L2H.cxH CX0 P w K mg base N qual (defScope st) f cdv A outer s H E p) (defBody st) t ∧ t { nx := fun _ H' => Q .non H', rt := Q } (L2.start N vs) H) : FnE P w K mg base (k + 1) f fd ps D sp := by
  obtain ⟨oc, od, kV, doc, pm, an, cdv, ct, osl, rfl, lk, hcd⟩ := F.ex
  refine ⟨len, fun A outer s H args us vs Q E p hr hot hz hpin e0 hb r hsp => ?_⟩
  have hl := len _ _ _ _ _ hsp; have KX : K.In s.heap := e0.mod.kin.keeps fun b o e => (e0.bs b o e).1
  have lim : s.heap.NoLimit := e0.mod.nolimit.keeps fun b o e => (e0.bs b o e).1; have bb := hb
  have hkind : ∀ y ∈ ps.zip us, (defScope st).names.lookup y.1 = some .local ∨ ((defScope st).names.lookup y.1 = some .cell ∧ ((cellsFrom (s.heap.objs.size + 1) (defScope st).names []).lookup y.1).isSome = true) := fun ⟨n, v⟩ hy =>
    (S.par n (List.of_mem_zip hy).1).elim .inl fun q => .inr ⟨q, PySem.W.cellsFrom_some _ _ _ (.inl q)⟩
  refine codeAny_call_function hr.depth (KX _ _ lk) rfl S.co S.gen rfl (PySem.W.codeRec_of KX hcd) (bb _ _ _ _ (wpAny_newFunctionEnv_cells S.kind hkind fun env he s1 x => ?_))
  subst he; refine ⟨lim.keeps x.toInCall.keep, codeAny_func ?_⟩
  obtain ⟨t, ht, hq⟩ := hbody cdv A outer s H vs Q E p hot hz (hr.deeper _) hsp
  have I := L2H.inv_startH (CX := CX0) (E := E) S hpin e0 hl r x
  refine wpAny_mono (ht.run [] s1 (L2.start N vs) H _ I hq) (fun fl s' hs => ?_) fun _ _ hs => hs
  cases fl with
  | ret u => exact hs.elim fun v ⟨σ', H', J, rv, q⟩ => ⟨v, H', J.os, J.bare, J.base, J.hok, rv, q⟩
  | next => exact hs.elim fun σ' ⟨H', J, q⟩ => ⟨V.non, H', J.os, J.bare, J.base, J.hok, rfl, q⟩
  | brk => exact hs.elim fun _ ⟨_, _, q⟩ => q.elim
  | cont => exact hs.elim fun _ ⟨_, _, q⟩ => q.elim
end
section
variable {X : Cx} {k : Nat} {f D : Addr} {fd : FuncData} {ps : List Str} {sp : Addr → Sp} {x : Str} {q pos : Pos} {e : Expr} {es : List Expr} {t : TA}
/-- f(e, ..), f a def for the error at a -/
def tCallE (sp : Addr → Sp) (a : Addr) (t : TA) : TE := fun σ H Q => t σ H fun vs H1 => sp a vs H1 Q E0
theorem pe_callE (F : FnE X.prog X.w X.K X.mg X.base k f fd ps D sp) (hr : L2H.RoomH k X.A) {p : Addr × Obj} (hot : L2H.Hot1 X.A p) (hz : Zc (.ref D) none p.2) (hp : p ∈ X.pn) (hg : Gl X x) (hm : X.mg x = some (.ref f)) (hk : PySem.W.keepIn X.K (.ref f) = true) (hb : Binds X.K fd ps [])
    (ha : PA X (e :: es) t) (hdb : (x == ("__debug__" : Str)) = false := by decide) (he : starEach (e :: es) X.env = (false, eval e X.env) :: starEach es X.env := by rfl) (hpl : (backTo pos (starEach es X.env)).any (·.1) = false := by rfl) :
    PE X (.Call (.Name x q) (e :: es) [] pos) (tCallE sp p.1 t) := by
  refine ⟨fun pins s σ H Q I h => wpAny_Call_Name_kw (ld_glob I hg hm ?_ hdb)⟩
  refine PySem.W.callWith_K (h₀ := X.base) I.ok.mod.kin hk (thn (ha.run pos pins s σ H _ I h) fun us s1 ⟨vs, H1, I1, r, q⟩ => ⟨I1.kIn, ?_⟩) he hpl
  have hl : us.length = ps.length := by rw [← r.length]; exact F.len _ _ _ _ _ q
  have b := hb s1 us I1.kIn (by rw [List.append_nil]; exact hl)
  rw [List.append_nil] at b
  have P1 := I1.pin p (List.mem_append_left _ hp)
  have hpin : L2H.PinOk X.stack H1 s1 p := ⟨P1.1, P1.2.1, fun hm' => (List.mem_cons.mp (I1.stkSub p.1 hm')).elim P1.2.2.1 P1.2.2.2.1, P1.2.2.2.2⟩
  refine wpAny_call (codeAny_mono (F.run X.A X.stack s1 H1 ⟨us, []⟩ us vs Q E0 p hr hot hz hpin I1.env0 b r q) fun r' s' hq => ?_)
  cases r' with
  | error e => exact False.elim hq
  | ok fl =>
    cases fl with
    | ret u => exact I1.after hq
    | _ => exact False.elim hq
/-- isinstance of the error that is handled, in whatever def it is asked -/
theorem call_isP {a D : Addr} {oe : Obj} (C : ExcC X.K D) (hz : Zc (.ref D) none oe) (hf : ∃ vs, oe.data = .fields vs) (hp : (a, oe) ∈ X.pn) : CallR X (.builtin "isinstance") (rIsE X.K D a) := by
  rintro pins s σ H xs us Q I r ⟨c, cv, b, rfl, hcv, e, q⟩
  obtain ⟨vs, hv⟩ := hf
  cases r with
  | cons rx rr =>
    cases rr with
    | cons rt rr =>
      cases rr; cases rx
      have ec := hcv _ rt
      subst ec
      have hget := (I.pin (a, oe) (List.mem_append_left _ hp)).1
      have J : PySem.W.InstAt s.heap a oe D none := by
        obtain ⟨oc, od, oda, osl⟩ := oe
        obtain ⟨h1, h2⟩ := hz
        subst hv
        cases h1
        cases h2
        exact ⟨hget, rfl, rfl, trivial⟩
      exact PySem.W.kia_one (PySem.W.handS_kitx_exc C.hg C.hk C.hs C.hd C.ha C.hn C.ht C.hm) I.kIn J e (fun z => nomatch z) fun tk => ⟨.bl b, H, I.kept (t' := tk) fun _ _ z => z, rfl, q⟩
end
/-! ### defs that raise: the error's context is told to be None -/
section
variable {P : Program} {w : World} {K : PySem.W.Frag} {mg : Str → Option Value} {base : Heap}
theorem _root_.L2.Fun.okN {x qual : Str} {st : Stmt} {f : Addr} {fd : FuncData} {N ps : List Str} {k : Nat} {sp : Sp} (F : Fun K x qual st f fd) (S : FnScope N ps (defScope st)) (len : ∀ vs H Q E, sp vs H Q E → vs.length = ps.length)
    (hbody : ∀ (cdv : Value) (A : Around) (outer : List Env) (s : Shared) (H : Hp) (vs : List V) (Q : VK) (E : XK), Room k (A.deeper (envOfC qual (defScope st) s.heap.objs.size f cdv)) → sp vs H Q E →
      ∃ t, PSs (cxOf (L2N.CX P w) P w K mg base N qual (defScope st) f cdv A outer s H E) (defBody st) t ∧ t { nx := fun _ H' => Q .non H', rt := Q } (L2.start N vs) H) : FnOk P w K mg base (L2N.CX P w) (k + 1) f fd ps sp := by
  obtain ⟨oc, od, kV, doc, pm, an, cdv, ct, osl, rfl, lk, hcd⟩ := F.ex
  exact fn_of lk hcd S len fun A outer s H vs Q E hr hsp => hbody cdv A outer s H vs Q E hr hsp
theorem takes0N {X : Cx} : L2N.Takes X (fun _ _ _ _ => False) := fun _ _ x => by
  obtain ⟨_, _, _, _, _, _, _, _, _, _, _, _, _, _, _, _, z⟩ := x
  cases z
end
section
variable {X : Cx} {C : Addr} {bmB : List Value} {B newId initId : String}
/-- X(e) -/
theorem pmk_own1N {x : Str} {e : Expr} {ta : TE} {p pos : Pos} (F : ExcBaseFacts B newId initId bmB) (q : PySem.W.excIn X.K C bmB newId = true) (gC : X.mg x = some (.ref C)) (kC : PySem.W.keepIn X.K (.ref C) = true) (r : Raises X (.ref C)) (hg : Gl X x) (he : PE X e ta)
    (hs : starEach [e] X.env = (false, eval e X.env) :: starEach [] X.env := by rfl) (hdb : (x == ("__debug__" : Str)) = false := by decide) : L2N.PMk X (.Call (.Name x p) [e] [] pos) (fun σ H Q => ta σ H fun _ H1 => Q (.ref C) none H1) := by
  intro pins s σ H Q I h; refine wpAny_Call_Name_kw (ld_glob I hg gC ?_ hdb)
  refine PySem.W.callWith_K (h₀ := X.base) I.ok.mod.kin kC ?_ hs (by rfl); rw [hs]
  refine (show wpAny _ _ (spliced ((false, eval e X.env) :: backTo pos (starEach [] X.env))) _ _ s from ?_)
  refine Calls.spliced_cons (thn (he.run pins s σ H _ I h) fun u s1 ⟨v, H1, I1, r1, q1⟩ => Calls.spliced_nil ⟨I1.kIn, ?_⟩)
  refine (show wpAny _ _ (call (.ref C) [u]) _ _ _ from ?_)
  obtain ⟨bm, N, nm, qn, bs, hdct, sn, sub, ab, col, dd, k0, k1, k2, k3, k5, mN, hC, hN, hni, T⟩ := exc_obj I1.kIn q
  exact wpAny_call_exc_subT F T hC hN hni (fun h' e' hm => L2N.mk_of I1 hm r q1 (I1.hok.gone hm.new)) (by show 1 ≤ sizeLine; rw [sizeLine_eq]; omega)
end
/-! ### which class an error is of -/
theorem kit_subT {K : PySem.W.Frag} {D S : Addr} (h2 : PySem.W.isClsIn K S = true) (h3 : PySem.W.typeIn K (.ref S) = some (.type "type")) (h4 : PySem.W.subIn K (.ref D) (.ref S) = some true) : PySem.W.kitOne K (.ref D) (.ref S) = some true := by
  by_cases e : D = S
  · subst e
    exact kit_self
  · exact kit_sub e h2 h3 h4
theorem kit_blt {K : PySem.W.Frag} {D : Addr} {b : String} {r : Bool} (hm : PySem.W.kitMeta b = true) (h : PySem.W.subIn K (.ref D) (.type b) = some r) : PySem.W.kitOne K (.ref D) (.type b) = some r := by
  unfold PySem.W.kitOne
  rw [if_neg (by intro z; exact nomatch (beq_iff_eq.mp z))]
  unfold PySem.W.kitCls
  simpa [hm] using h
theorem takeB {α : Type} {l : List α} {i : Nat} {x : α} (h : l[i]? = some x) : l.take (i + 1) = l.take i ++ [x] := by
  rw [List.take_succ, h]
  rfl
/-! ### unpacking a tuple while an error is handled -/
section
variable {prog : Program} {w : World} {A : Around} {E : Value → Shared → Prop} {s : Shared}
theorem tup_end_hot {it l x1 : Addr} {i : Nat} {items} {Q : Option Value → Shared → Prop} (hot : HotX.HotAt A x1 s.heap) (hit : IsTupIter s.heap it l i) (hl : IsTup s.heap l items) (hx : items[i]? = none)
    (hQ : ∀ h', Heap.ExtBut it s.heap h' → Q none { s with heap := h' }) : wpAny (model prog w) A (pyNext (.ref it)) Q E s := by
  obtain ⟨hh, o1, vs1, h1, d1, c1⟩ := hot; obtain ⟨o, ho, hc, hd⟩ := id hit
  obtain ⟨ol, hol, _, nl, hdl⟩ := hl; unfold pyNext
  have ni : it ≠ x1 := fun z => by
    rw [← z, ho] at h1
    cases h1
    rw [hd] at d1
    cases d1
    simp at c1
  refine wpAny_bind (wpAny_attempt (wpAny_callSpecial?_slot (name := Str.ofString "__next__") hit.typeIs slot_tupleiter_next (wpAny_call_entry slot_tupleiter_next hit.typeIs entry_tupleiter_next ?_ (args_tupleiter_next _))))
  refine (show wpAny _ _ (field (.ref it) 0 >>= _) _ _ s from ?_); refine wpAny_bind (wpAny_field ho hd (x := .ref l) rfl ?_)
  refine (show wpAny _ _ (if (Value.ref l == Value.none) = true then _ else _) _ _ s from ?_); rw [if_neg (show ¬ ((Value.ref l == Value.none) = true) from Bool.false_ne_true)]
  refine (show wpAny _ _ (field (.ref it) 1 >>= _) _ _ s from ?_); refine wpAny_bind (wpAny_field ho hd (x := .int i 0) rfl ?_)
  refine (show wpAny _ _ (seqItems? (.ref l) >>= _) _ _ s from ?_); refine wpAny_bind (wpAny_seqItems hol hdl ?_)
  simp only [Int.toNat_natCast, hx]; refine wpAny_bind (wpAny_rule (wpAny_bind (wpAny_setField ho hd (by simp) ?_)))
  refine (show wpAny _ _ (newExc (.type "StopIteration") [] >>= _) _ _ _ from ?_); refine wpAny_bind ?_
  simp only [newExc, newTuple]; refine wpAny_bind (wpAny_newObj_type ?_ (by size_fits))
  refine wpAny_bind (m := firstArgMember _ _) (wpAny_of_eq (a := Value.none) (by first | rfl | (simp only [firstArgMember]; rfl)) ?_); refine wpAny_newObj_type ?_ (by size_fits)
  have g1 : ∀ f : Obj → Obj, (s.heap.update it f).get? x1 = some o1 := fun f => by rw [Heap.get?_update_other _ _ ni]; exact h1
  refine HotX.raiseNew_hot ⟨hh, o1, vs1, Heap.get?_push_of_some _ (Heap.get?_push_of_some _ (g1 _)), d1, c1⟩ (Nat.ne_of_lt (Heap.lt_size (Heap.get?_push_of_some _ (g1 _)))) (Heap.get?_push_size _ rfl) rfl (by first | (simp; done) | (simp; omega) | (simp only [Array.size_append]; simp; omega)) ?_
  refine wpAny_bind (wpAny_isInstance (T := "StopIteration") (b := true) ⟨_, Heap.get?_update_self _ (Heap.get?_push_size _ rfl) rfl, rfl⟩ isSubtype_stop ?_); refine wpAny_pure (hQ _ fun b o' nb e => ?_)
  have e2 : ∀ f oo, ((s.heap.update it f).push oo).get? b = some o' := fun f oo => (Heap.SameBut.update ..).extBut.push _ b o' nb e
  rw [Heap.get?_update_other _ _ (Nat.ne_of_gt (Heap.lt_size (e2 _ _)))]; exact Heap.get?_push_of_some _ (e2 _ _)
theorem unpack_hot {t x1 : Addr} {items : Array Value} {Q : List Value → Shared → Prop} (hot : HotX.HotAt A x1 s.heap) (ht : IsTup s.heap t items)
    (hQ : ∀ h', Heap.ExtBut s.heap.objs.size s.heap h' → Q items.toList { s with heap := h' }) : wpAny (model prog w) A (unpackItems (.ref t) items.size none) Q E s := by
  have hlt : t ≠ s.heap.objs.size := ht.elim fun o ho => Nat.ne_of_lt (Heap.lt_size ho.1)
  have hx : x1 ≠ s.heap.objs.size := hot.2.elim fun o ho => ho.elim fun _ h => Nat.ne_of_lt (Heap.lt_size h.1)
  unfold unpackItems notIterableAtAll; refine wpAny_bind (wpAny_bind (wpAny_specialOf ht.typeIs slot_tuple_iter.lookup (wpAny_pure ?_)))
  simp only [Bool.false_eq_true, if_false]; refine wpAny_bind (wpAny_holding (iter_tuple ht (wpAny_bind (wpAny_holding (draw_tuple hlt items.size 0 _ _ ⟨_, Heap.get?_push_size _ rfl, rfl, rfl⟩ (ht.push _) (by omega) fun h₁ hit₁ hs₁ => ?_)))))
  have hall : List.take items.size (List.drop 0 items.toList) = items.toList := by rw [List.drop_zero]; exact List.take_of_length_le (by simp)
  rw [hall, if_neg (by simp)]
  have ht₁ := (ht.push { cls := .type "tuple_iterator", data := .fields #[.ref t, .int 0 0] }).extBut hs₁.extBut hlt
  have hot₁ : HotX.HotAt A x1 h₁ := hot.2.elim fun o ho => ho.elim fun vv h => ⟨hot.1, o, vv, hs₁.extBut x1 o hx (Heap.get?_push_of_some _ h.1), h.2.1, h.2.2⟩
  refine wpAny_bind (wpAny_holding (tup_end_hot hot₁ hit₁ ht₁ (by simp) fun h₂ he₂ => ?_))
  simp only [Option.isSome_none, Bool.false_eq_true, if_false]; exact wpAny_pure (hQ h₂ fun b o hb e => he₂ b o hb (hs₁.extBut b o hb (Heap.get?_push_of_some _ e)))
end
/-- (a, b, ..) = a tuple, while an error is handled -/
theorem pg_tupH {X : Cx} {pos : Pos} {es : List Expr} {k : Nat} {t : TGs} {n : Nat} (hc : L2H.HotC X) (h : PGs X es t) (hn : (assignEach es X.env).length = n := by rfl) (hst : (assignEach es X.env).findIdx? (·.1) = none := by rfl) : PG X (.Tuple es k pos) (gTup X.K n t) := by
  refine ⟨fun pins s σ H v u Q I r hw => ?_⟩
  obtain ⟨a, xs, e1, hq, hl, hw⟩ := hw; subst e1; cases r
  obtain ⟨its, rv, ht, hz⟩ := I.tuple hq; obtain ⟨x1, hot⟩ := hc.at I
  rw [assign_Tuple]; refine wpAny_bind (wpAny_standAt ?_); unfold unpack
  rw [show (assignEach es X.env).length = its.toArray.size by simp [hn, ← hl, rv.length], hst]
  refine wpAny_bind (wpAny_holding (unpack_hot hot ht fun h' hx => ?_))
  have I1 : Inv X pins σ H { s with heap := h' } := I.kept (t' := s.toks) fun b o e => hx b o (Nat.ne_of_lt (Heap.lt_size e)) e
  exact h.run pins _ σ H xs _ Q I1 (by simpa using rv) hw
/-- a def that may raise, called where it does not -/
theorem passLN {X : Cx} : Passes (L2N.CX X.prog X.w) X E0 := fun _ _ _ _ _ _ _ h => by
  obtain ⟨_, _, _, _, _, _, _, _, _, _, _, _, z⟩ := h
  exact False.elim z
end Rg
namespace Rg
open PySem PySem.Spec PyProof.Rows L2
/-! ### enumerate(tuple) -/
open Sem (wp)
open AutoSeq1 (wpAny_loadPart')
theorem meets_enumerate_newT (l : Addr) (items : Array Value) (n : Nat) (dct : Option Addr) (sl : Array (Option Value)) :
    Meets (Builtin.«enumerate.__new__» ⟨[.type "enumerate", .ref l], []⟩) (fun _ R s => s.heap.get? l = some { cls := .type "tuple", dict := dct, data := .seq items n, slots := sl } ∧
      R (.ok (.ret (.ref (s.heap.push { cls := .type "tuple_iterator", data := .fields #[.ref l, .int 0 0] }).objs.size)))
        { s with heap := (s.heap.push { cls := .type "tuple_iterator", data := .fields #[.ref l, .int 0 0] }).push { cls := .type "enumerate", data := .fields #[.none, .bool false, .ref s.heap.objs.size, rawInt 0, .none, .none] } }) :=
  .of_wp fun prog w A R s h => by
    obtain ⟨hp, g, d, tk, os⟩ := s; obtain ⟨hl, h⟩ := h
    have hsub := sub_enumerate
    have hL : Heap.IsTuple (Shared.heap ⟨hp, g, d, tk, os⟩) l items := ⟨_, hl, rfl, n, rfl⟩
    wp_walk using wpAny_loadPart' hl
    refine wpAny_stack_any fun st => wpAny_pure ?_
    split
    · rename_i c _ _ _ _ _
      cases (c == Value.type "enumerate")
      · wp_walk using wpAny_loadPart' hl, wpAny_pyIter_tuple hL
        exact ⟨_, rfl, h⟩
      · wp_walk using wpAny_loadPart' hl, wpAny_pyIter_tuple hL
        exact ⟨_, rfl, h⟩
    · wp_walk using wpAny_loadPart' hl, wpAny_pyIter_tuple hL
      exact ⟨_, rfl, h⟩
section
variable {prog : Program} {w : World} {A : Around} {E : Value → Shared → Prop} {s : Shared}
theorem call_enumerate_tuple {l : Addr} {items : Array Value} {Q : Value → Shared → Prop} (hL : s.heap.IsTuple l items)
    (h : ∀ h', IsEnum h' (s.heap.objs.size + 1) s.heap.objs.size 0 .none → h'.IsTupleIter s.heap.objs.size l 0 → h'.objs.size = s.heap.objs.size + 2 →
      (∀ b o, s.heap.get? b = some o → h'.get? b = some o) → Q (.ref (s.heap.objs.size + 1)) { s with heap := h' }) :
    wpAny (model prog w) A (call (.type "enumerate") [.ref l]) Q E s := by
  obtain ⟨⟨c, dct, dt, sl⟩, hl, hc, n, hd⟩ := hL
  replace hc : c = .type "tuple" := hc
  replace hd : dt = .seq items n := hd
  subst hc hd
  refine callType_new F.called_enumerate (by decide) (F.typeCall_enumerate_1 _) (F.newCall_enumerate_1 _) (fun obj => F.args_object_init_2 obj _) F.entry_enumerate_new
    (meets_enumerate_newT l items n dct sl) ⟨hl, ?_⟩
  have hz : (s.heap.push { cls := .type "tuple_iterator", data := .fields #[.ref l, .int 0 0] }).objs.size = s.heap.objs.size + 1 := Heap.size_push ..
  show _ ∧ _
  rw [hz]
  have he : IsEnum ((s.heap.push { cls := .type "tuple_iterator", data := .fields #[.ref l, .int 0 0] }).push
      { cls := .type "enumerate", data := .fields #[.none, .bool false, .ref s.heap.objs.size, rawInt 0, .none, .none] }) (s.heap.objs.size + 1) s.heap.objs.size 0 .none := by
    have := Heap.get?_push_size (s.heap.push { cls := .type "tuple_iterator", data := .fields #[.ref l, .int 0 0] })
      (o := { cls := .type "enumerate", data := .fields #[.none, .bool false, .ref s.heap.objs.size, rawInt 0, .none, .none] }) rfl
    rw [hz] at this; exact this
  refine ⟨⟨_, he, rfl⟩, h _ he ⟨_, Heap.get?_push_of_some _ (Heap.get?_push_size _ rfl), rfl, rfl⟩ (by rw [Heap.size_push, hz]) fun b o x => Heap.get?_push_of_some _ (Heap.get?_push_of_some _ x)⟩
end
/-- the tuple at a as it stands at each turn, each item in a new pair -/
def IteT (K : PySem.W.Frag) (a : Addr) : It :=
  ⟨fun i H => ∃ (xs : List V) (x : V), SqT K H a xs ∧ xs[i]? = some x, fun i H v H' => ∃ T x, v = .ref T ∧ H T = none ∧ H' = upd H T (.tup [.int (i : Nat), x]) ∧ ∀ xs, SqT K H a xs → xs[i]? = some x, fun i H => ∃ xs : List V, SqT K H a xs ∧ xs.length ≤ i⟩
theorem turn_enumT {P : Program} {w : World} {K : PySem.W.Frag} {elts : List Expr} {kk : Nat} {tpos : Pos} (a e it : Addr) :
    Turn P w K (.Tuple elts kk tpos) (IteT K a) [e, it] e (fun i h => (∃ old, IsEnum h e it ((i : Nat) : Int) old) ∧ h.IsTupleIter it a i ∧ e ≠ it) where
  mem := by simp
  obj := fun i h st b hb => by
    obtain ⟨⟨old, he⟩, ⟨o, ho, hc, hd⟩, _⟩ := st
    have e' : b = e ∨ b = it := by simpa using hb
    rcases e' with z | z
    · rw [z]; exact ⟨_, he, fun v q => nomatch q⟩
    · rw [z]; exact ⟨o, ho, fun v q => by rw [hd] at q; cases q⟩
  keep := fun i h h' st k => let ⟨⟨old, he⟩, hi, hne⟩ := st; ⟨⟨old, k e (by simp) _ he⟩, hi.at fun o q => k it (by simp) o q, hne⟩
  item := by
    intro X hP hw hK hc i pins s σ H E I hf st hg
    subst hP hw hK
    obtain ⟨⟨old, he⟩, hit, hne⟩ := st
    obtain ⟨xs, x, hq, hx⟩ := hg
    obtain ⟨its, rv, p, hz⟩ := I.tuple hq
    obtain ⟨u, hu, ru⟩ := rv.get hx
    have hlt : i < its.toArray.size := by
      have := (List.getElem?_eq_some_iff.mp hu).1
      simpa using this
    have hel : e < s.heap.objs.size := Heap.lt_size he
    have hil : it < s.heap.objs.size := by obtain ⟨_, q, _⟩ := hit; exact Heap.lt_size q
    have hae : a ≠ e := fun z => by
      obtain ⟨o, ho, hc', _⟩ := p
      rw [z] at ho
      have := Option.some.inj (ho.symm.trans he)
      rw [this] at hc'
      have hc2 : Value.type "enumerate" = Value.type "tuple" := hc'
      exact absurd hc2 (by decide)
    have hai : a ≠ it := fun z => by
      obtain ⟨o, ho, hc', _⟩ := p
      obtain ⟨o2, ho2, hc2, _⟩ := hit
      rw [z] at ho
      have := Option.some.inj (ho.symm.trans ho2)
      rw [this, hc2] at hc'
      exact absurd hc' (by decide)
    refine wpAny_pyNext_enum_itemD (Draws.tuple (prog := X.prog) (w := X.w) (A := X.A.in1) (I.ok.hd hc) it a hai its.toArray) he ⟨hit, p⟩ hlt hne (by simp [hne, hae.symm]) fun y h' tk hy ho hit' hT hsz hk => ?_
    have ey : y = u := by
      have e1 : its.toArray[i]? = some u := by simpa using hu
      rw [e1] at hy
      exact (Option.some.inj hy).symm
    subst ey
    refine ⟨_, rfl, wpAny_letOwnedTupleGo_enum (s := { s with heap := h', toks := tk + 1 }) ho fun h'' he' sb => ?_⟩
    have hT2 : h''.get? s.heap.objs.size = some { cls := .type "tuple", data := .seq #[.int i tk, y] } := (sb.2 _ (Nat.ne_of_gt hel)).trans hT
    have new : ObjOk X.prog X.w (upd H s.heap.objs.size (.tup [.int (i : Nat), x])) h'' s.heap.objs.size (.tup [.int (i : Nat), x]) :=
      ⟨by show 2 ≤ sizeLine; decide, [.int i tk, y], .cons ⟨_, rfl⟩ (.cons ru .nil), ⟨_, hT2, rfl, _, rfl⟩⟩
    have I1 : Inv X pins σ (upd H s.heap.objs.size (.tup [.int (i : Nat), x])) { s with heap := h'', toks := tk + 1 } :=
      I.turnedNew (t' := tk + 1) (ch := [e, it]) (fun b ob hb q => (sb.2 b (fun z => hb (by simp [z]))).trans (hk b ob (fun z => hb (by simp [z])) (fun z => hb (by simp [z])) q)) hf (Nat.le_refl _) new
    refine ⟨.ref s.heap.objs.size, _, I1, rfl, ⟨_, x, rfl, I.hok.fresh (Nat.le_refl _), rfl, fun ys hy => by rw [I.tuple_inj hy hq]; exact hx⟩, ⟨⟨y, ?_⟩, hit'.1.at fun o q => (sb.2 it (Ne.symm hne)).trans q, hne⟩, fun b hb => ?_⟩
    · have e1 : ((i + 1 : Nat) : Int) = (i : Int) + 1 := by omega
      rw [e1]; exact he'
    · have hb' : b < s.heap.objs.size := by
        have e' : b = e ∨ b = it := by simpa using hb
        rcases e' with z | z
        · rw [z]; exact hel
        · rw [z]; exact hil
      rw [upd_ne (Nat.ne_of_lt hb')]
      exact (hf b hb).1
  done := by
    intro X hP hw hK hc i pins s σ H E I hf st hg
    subst hP hw hK
    obtain ⟨⟨old, he⟩, hit, hne⟩ := st
    obtain ⟨xs, hq, hx⟩ := hg
    obtain ⟨its, rv, p, hz⟩ := I.tuple hq
    obtain ⟨f0, f1, f2, f3, f4, f5⟩ := hf it (by simp)
    have hl := rv.length
    unfold pyNext
    have hT : s.TypeIs (.ref e) "enumerate" := ⟨_, he, rfl⟩
    refine wpAny_bind (wpAny_attempt (wpAny_callSpecial?_slot (name := Str.ofString "__next__") hT F.slot_enumerate_next
      (wpAny_call_entry F.slot_enumerate_next hT F.entry_enumerate_next ?_ (F.args_enumerate_next_1 _))))
    show wpAny _ _ (field (.ref e) 2 >>= _) _ _ _
    refine wpAny_bind (wpAny_field he rfl (x := .ref it) rfl ?_)
    refine wpAny_bind (wpAny_nextOf_tuple_end (I.ok.hd hc) hit p (by simp; omega) fun h' x he' hx' => ?_)
    obtain ⟨o, ho, hc'⟩ := hx'
    refine wpAny_bind (wpAny_isInstance (T := "StopIteration") (b := true) ⟨o, ho, hc'⟩ isSubtype_stop ?_)
    exact wpAny_pure ⟨rfl, I.turned (t' := s.toks) (fun b o hb q => he' b o hb q) f0 f1 f3 f4 f5⟩
  self := fun A i s Q E st h => let ⟨⟨_, he⟩, _⟩ := st; wpAny_pyIter_enum he h
theorem walk_enumT {K : PySem.W.Frag} {a : Addr} {xs : List V} : Walk (IteT K a) xs.length (fun H => SqT K H a xs) (YPair (fun i => some (.int (i : Nat))) (fun i => xs[i]?)) := by
  refine ⟨fun i _ hi q => ⟨xs, xs[i], q, by simp [hi]⟩, fun _ q => ⟨xs, q, Nat.le_refl _⟩, fun i H v H' _ q y => ?_⟩
  obtain ⟨T, x, h1, h2, h3, h4⟩ := y
  exact ⟨T, .int (i : Nat), x, h1, h2, h3, rfl, h4 xs q⟩
/-- over a list or a tuple, which stays as it is -/
def iEnumA (ta : TA) : TI := fun σ H R => ta σ H fun vs H1 => ∃ a xs, vs = [.ref a] ∧ (H1 a = some (.lst xs) ∨ H1 a = some (.tup xs)) ∧ ∀ J, Walk J xs.length (fun H' => H' a = H1 a) (YPair (fun i => some (.int (i : Nat))) (fun i => xs[i]?)) → R J H1
theorem pi_enumA {X : Cx} {e : Expr} {ta : TA} {p pos tpos : Pos} {elts : List Expr} {kk : Nat} (hg : Gl X "enumerate") (hm : X.mg "enumerate" = none) (ha : PA X [e] ta) (hs : starEach [e] X.env = [(false, eval e X.env)] := by rfl) :
    PI X (.Tuple elts kk tpos) (.Call (.Name "enumerate" p) [e] [] pos) (iEnumA ta) := by
  refine ⟨fun pins s σ H R I h => ?_⟩
  refine Call_ (ld_blt I hg hm boot_enumerate (PyProof.Rows.callWith_type1 (thn (ha.run pos pins s σ H _ I h) fun us s1 ⟨vs, H1, I1, r1, q1⟩ => ?_) hs rfl))
  obtain ⟨a, xs, ex, hw, q⟩ := q1
  subst ex
  cases r1 with
  | cons r rr =>
    cases rr
    cases r
    have fp : ∀ b, b = s1.heap.objs.size + 1 ∨ b = s1.heap.objs.size → FpOk X pins H1 b := fun b e' => by
      have hle : s1.heap.objs.size ≤ b := by
        rcases e' with z | z
        · rw [z]; exact Nat.le_add_right _ _
        · rw [z]; exact Nat.le_refl _
      exact I1.fpOk hle (I1.hok.fresh hle)
    rcases hw with hw | hw
    · have hq : SqL X.K H1 a xs := .of hw
      have q := q (Ite X.K a) (walk_enum.mono (fun H' e => .of (e.trans hw)) fun _ _ _ _ _ _ y => y)
      obtain ⟨its, rv, p', hz⟩ := I1.list hq
      refine call_enumerate_list p'.isList fun h' he hit hsz hk => wpAny_pyIter_enum he ?_
      have I2 : Inv X pins σ H1 { s1 with heap := h' } := I1.kept (t' := s1.toks) hk
      refine ⟨s1.heap.objs.size + 1, [s1.heap.objs.size + 1, s1.heap.objs.size], _, _, H1, rfl, I2, turn_enum a (s1.heap.objs.size + 1) s1.heap.objs.size, ⟨⟨.none, he⟩, hit, Nat.succ_ne_self _⟩, fun b hb => fp b (by simpa using hb), q⟩
    · have hq : SqT X.K H1 a xs := .of hw
      have q := q (IteT X.K a) (walk_enumT.mono (fun H' e => .of (e.trans hw)) fun _ _ _ _ _ _ y => y)
      obtain ⟨its, rv, p', hz⟩ := I1.tuple hq
      refine call_enumerate_tuple p' fun h' he hit hsz hk => wpAny_pyIter_enum he ?_
      have I2 : Inv X pins σ H1 { s1 with heap := h' } := I1.kept (t' := s1.toks) hk
      refine ⟨s1.heap.objs.size + 1, [s1.heap.objs.size + 1, s1.heap.objs.size], _, _, H1, rfl, I2, turn_enumT a (s1.heap.objs.size + 1) s1.heap.objs.size, ⟨⟨.none, he⟩, hit, Nat.succ_ne_self _⟩, fun b hb => fp b (by simpa using hb), q⟩
end Rg
namespace Rg
open PySem PySem.Spec PyProof.Rows L2
/-! ### tuples of the written part -/
def relAllS (vs : List V) (us : List Value) : Bool := He.relAll vs us && decide (us.length ≤ 1000)
theorem relAllS_ok {vs : List V} {us : Array Value} (h : relAllS vs us.toList = true) : Vals vs us.toList := He.relAll_ok (Bool.and_eq_true_iff.mp h).1
theorem relAllS_sz {vs : List V} {us : Array Value} (h : relAllS vs us.toList = true) : us.size ≤ sizeLine := by
  have := of_decide_eq_true (Bool.and_eq_true_iff.mp h).2
  rw [Array.length_toList] at this
  have : 1000 ≤ sizeLine := by decide
  omega
/-! ### own classes: x in o, o op u, for x in o -/
section
variable {X : Cx} {k : Nat} {f C : Addr} {fd : FuncData} {sp : Sp}
/-- x in o, by the class's own __contains__ -/
def rInOwn (C : Addr) (sp : Sp) (c : Bool → Bool) : R2 := fun x y H Q => ∃ a dx fs, y = .ref a ∧ H a = some (.ins C dx fs) ∧ sp [.ref a, x] H (fun v H1 => ∃ b, v = .bl b ∧ Q (.bl (c b)) H1) E0
theorem op_inOwn (hm : Meth X.K C "__contains__" f) (F : FnOk X.prog X.w X.K X.mg X.base CX0 k f fd ["self", "name"] sp) (hr : Room k X.A) (hb : Binds X.K fd ["self", "name"] []) : OpR X (compareOp .In) (rInOwn C sp fun b => b) := by
  intro pins s σ H x y v u Q I rx ry h
  obtain ⟨a, dx, fs, rfl, e, h⟩ := h
  obtain rfl : u = Value.ref a := ry
  obtain ⟨mA, O, _, _, _, _⟩ := ins_get I.hok e
  obtain ⟨od, at_, _⟩ := O.look
  obtain ⟨m, fr⟩ := I.fr
  refine PySem.W.in_K fr I.mod.kin at_ hm.at_ hm.fn ?_
  refine wpAny_mono (run_fn (us := [.ref a, v]) (vs := [.ref a, x]) F hr hb .nil pass0 I (.cons rfl (.cons rx .nil)) h) (fun r s' hq => ?_) fun _ _ z => z
  obtain ⟨z, H1, I1, rz, b, rfl, q⟩ := hq
  obtain rfl : r = Value.bool b := rz
  exact wpAny_truthy_bool ⟨.bl b, H1, I1, rfl, q⟩
theorem op_notInOwn (hm : Meth X.K C "__contains__" f) (F : FnOk X.prog X.w X.K X.mg X.base CX0 k f fd ["self", "name"] sp) (hr : Room k X.A) (hb : Binds X.K fd ["self", "name"] []) : OpR X (compareOp .NotIn) (rInOwn C sp fun b => !b) := by
  intro pins s σ H x y v u Q I rx ry h
  obtain ⟨a, dx, fs, rfl, e, h⟩ := h
  obtain rfl : u = Value.ref a := ry
  obtain ⟨mA, O, _, _, _, _⟩ := ins_get I.hok e
  obtain ⟨od, at_, _⟩ := O.look
  obtain ⟨m, fr⟩ := I.fr
  refine PySem.W.notIn_K fr I.mod.kin at_ hm.at_ hm.fn ?_
  refine wpAny_mono (run_fn (us := [.ref a, v]) (vs := [.ref a, x]) F hr hb .nil pass0 I (.cons rfl (.cons rx .nil)) h) (fun r s' hq => ?_) fun _ _ z => z
  obtain ⟨z, H1, I1, rz, b, rfl, q⟩ := hq
  obtain rfl : r = Value.bool b := rz
  exact wpAny_truthy_bool ⟨.bl (!b), H1, I1, rfl, q⟩
/-- o op u, both of the class C, by its own method -/
def rOpOwn (C : Addr) (sp : Sp) : R2 := fun x y H Q => ∃ a dx fs b dy gs, x = .ref a ∧ y = .ref b ∧ H a = some (.ins C dx fs) ∧ H b = some (.ins C dy gs) ∧ sp [.ref a, .ref b] H (fun v H1 => Q v H1) E0
theorem op_own {op : Operator} {ps : List Str} (hs : PySem.W.selfFirst X.K C = true) (hm : Meth X.K C (PySem.dunder op.info.2) f) (F : FnOk X.prog X.w X.K X.mg X.base CX0 k f fd ps sp) (hr : Room k X.A) (hb : Binds X.K fd ps []) : OpR X (binaryOp op) (rOpOwn C sp) := by
  intro pins s σ H x y v u Q I rx ry h
  obtain ⟨a, dx, fs, b, dy, gs, rfl, rfl, e, e', h⟩ := h
  obtain rfl : v = Value.ref a := rx
  obtain rfl : u = Value.ref b := ry
  obtain ⟨mA, O, _, _, _, _⟩ := ins_get I.hok e
  obtain ⟨od, at_, _⟩ := O.look
  obtain ⟨mB, O', _, _, _, _⟩ := ins_get I.hok e'
  obtain ⟨od', at', _⟩ := O'.look
  obtain ⟨m, fr⟩ := I.fr
  refine PySem.W.binop_K fr I.mod.kin at_ at'.type hs hm.at_ hm.fn ?_
  refine wpAny_mono (run_fn (us := [.ref a, .ref b]) (vs := [.ref a, .ref b]) F hr hb .nil pass0 I (.cons rfl (.cons rfl .nil)) h) (fun r s' hq => ?_) fun _ _ z => z
  obtain ⟨z, H1, I1, rz, q⟩ := hq
  cases z with
  | non => cases rz; exact ⟨.non, H1, I1, rfl, q⟩
  | bl b => cases rz; exact ⟨.bl b, H1, I1, rfl, q⟩
  | int i => obtain ⟨t, rfl⟩ := rz; exact ⟨.int i, H1, I1, ⟨t, rfl⟩, q⟩
  | str i => obtain ⟨t, rfl⟩ := rz; exact ⟨.str i, H1, I1, ⟨t, rfl⟩, q⟩
  | byt i => obtain ⟨t, rfl⟩ := rz; exact ⟨.byt i, H1, I1, ⟨t, rfl⟩, q⟩
  | flt i => obtain ⟨t, rfl⟩ := rz; exact ⟨.flt i, H1, I1, ⟨t, rfl⟩, q⟩
  | ref i => cases rz; exact ⟨.ref i, H1, I1, rfl, q⟩
  | ty i => cases rz; exact ⟨.ty i, H1, I1, rfl, q⟩
end
/-! ### iter(t), t a tuple; walks by an own __iter__ that hands it back -/
abbrev itT (l : Addr) : Obj := { cls := .type "tuple_iterator", data := .fields #[.ref l, .int 0 0] }
def ItTO (l it : Addr) : HO := .ext fun h => h.get? it = some (itT l)
theorem itTO_ok {P : Program} {w : World} {H : Hp} {h : Heap} {l it : Addr} (e : h.get? it = some (itT l)) : ObjOk P w H h it (ItTO l it) := ⟨e, ⟨_, e⟩, fun h1 h2 q k => k _ q⟩
theorem call_iter_tup {prog : Program} {w : World} {A : Around} {E : Value → Shared → Prop} {s : Shared} {l : Addr} {items : Array Value} {Q : Value → Shared → Prop} (hl : s.heap.IsTuple l items) (h : Q (.ref s.heap.objs.size) { s with heap := s.heap.push (itT l) }) : wpAny (model prog w) A (call (.builtin "iter") [.ref l]) Q E s := by
  refine Calls.call_function_entry (by decide +kernel) (by decide +kernel) PySem.W.kdk_entry_iter (PySem.W.kdk_args_iter _) ?_
  unfold Builtin.«iter»
  refine wpAny_bind (m := PySem.someArgs "iter" 1 2 _) (wpAny_of_eq (a := [Value.ref l]) (by first | rfl | kernel_rfl!) ?_)
  show wpAny _ _ (pyIter (.ref l) >>= _) _ _ _
  refine wpAny_bind (wpAny_pyIter_tuple hl ?_)
  exact wpAny_pure ⟨_, rfl, h⟩
def rIterT (K : PySem.W.Frag) (n : Nat) : List V → Hp → VK → Prop := fun xs H Q => ∃ (l : Addr) (zs : List V), xs = [.ref l] ∧ SqT K H l zs ∧ ∀ it, H it = none → n ≤ it → Q (.ref it) (upd H it (ItTO l it))
theorem call_iterT {X : Cx} : CallR X (.builtin "iter") (rIterT X.K X.s_0.heap.objs.size) := by
  intro pins s σ H xs us Q I r h
  obtain ⟨l, zs, rfl, hq, q⟩ := h
  obtain ⟨u, rfl, ru⟩ := vals1 r
  cases ru
  obtain ⟨its, rv, pl, hz⟩ := I.tuple hq
  refine call_iter_tup (show s.heap.IsTuple l its.toArray from pl) ?_
  exact ⟨.ref s.heap.objs.size, _, I.laid (t' := s.toks) (fun b u e => Heap.get?_push_of_some _ e) (Nat.le_refl _) (itTO_ok (Heap.get?_push_size _ rfl)), rfl, q _ (I.hok.fresh (Nat.le_refl _)) I.sz⟩
/-- a def whose promise knows how many objects there are at its entry -/
structure FnS (P : Program) (w : World) (K : PySem.W.Frag) (mg : Str → Option Value) (base : Heap) (k : Nat) (f : Addr) (fd : FuncData) (ps : List Str) (sp : Nat → Sp) : Prop where
  run : ∀ (A : Around) (outer : List Env) (s : Shared) (H : Hp) (args : Args) (us : List Value) (vs : List V) (Q : VK), Room k A → Env0 P w K mg base A outer s H → BindsTo s fd args (ps.zip us) → Vals vs us → sp s.heap.objs.size vs H Q E0 →
    codeAny (model P w) A (.call (.ref f) args) (CR CX0 outer P w H s Q E0) s
theorem _root_.L2.Fun.okS {P : Program} {w : World} {K : PySem.W.Frag} {mg : Str → Option Value} {base : Heap} {x qual : Str} {st : Stmt} {f : Addr} {fd : FuncData} {N ps : List Str} {k : Nat} {sp : Nat → Sp} (F : Fun K x qual st f fd) (S : FnScope N ps (defScope st)) (len : ∀ n vs H Q E, sp n vs H Q E → vs.length = ps.length)
    (hbody : ∀ (cdv : Value) (A : Around) (outer : List Env) (s : Shared) (H : Hp) (vs : List V) (Q : VK), Room k (A.deeper (envOfC qual (defScope st) s.heap.objs.size f cdv)) → sp s.heap.objs.size vs H Q E0 →
      ∃ t, PSs (cxOf CX0 P w K mg base N qual (defScope st) f cdv A outer s H E0) (defBody st) t ∧ t { nx := fun _ H' => Q .non H', rt := Q } (L2.start N vs) H) : FnS P w K mg base (k + 1) f fd ps sp := by
  obtain ⟨oc, od, kV, doc, pm, an, cdv, ct, osl, rfl, lk, hcd⟩ := F.ex
  exact ⟨fun A outer s H args us vs Q hr e0 hb r hsp => LamX.run_ofS lk hcd S hr e0 hb r (len _ _ _ _ _ hsp) fun hr' => hbody _ A outer s H vs Q hr' hsp⟩
/-- o walked: o's class at C has an own __iter__ that keeps sp and hands back a tuple's iterator -/
def iOwnT (K : PySem.W.Frag) (C : Addr) (sp : Nat → Sp) (te : TE) : TI := fun σ H R => te σ H fun x H1 => ∃ a dx fs, x = .ref a ∧ H1 a = some (.ins C dx fs) ∧
  ∀ n, sp n [.ref a] H1 (fun v H2 => ∃ it l xs, v = .ref it ∧ n ≤ it ∧ H2 it = some (ItTO l it) ∧ SqT K (ItX.dropH H2 it) l xs ∧ R (Itt K l) (ItX.dropH H2 it)) E0
theorem pi_ownT {X : Cx} {k : Nat} {f C : Addr} {fd : FuncData} {sp : Nat → Sp} {e tg : Expr} {te : TE} (hm : Meth X.K C "__iter__" f) (F : FnS X.prog X.w X.K X.mg X.base k f fd ["self"] sp) (hr : Room k X.A) (hb : Binds X.K fd ["self"] []) (he : PE X e te) : PI X tg e (iOwnT X.K C sp te) := by
  refine ⟨fun pins s σ H R I h => thn (he.run pins s σ H _ I h) fun v s1 ⟨x, H1, I1, r1, a, dx, fs, ex, ea, h⟩ => ?_⟩
  subst ex
  obtain rfl : v = Value.ref a := r1
  obtain ⟨mA, O, _, _, _, _⟩ := ins_get I1.hok ea
  obtain ⟨od, at_, _⟩ := O.look
  obtain ⟨m, fr⟩ := I1.fr
  refine PySem.W.owit_iter fr I1.mod.kin at_ hm.at_ hm.fn ?_
  refine wpAny_call (codeAny_mono (F.run X.A X.stack s1 H1 ⟨[.ref a], []⟩ [.ref a] [.ref a] _ hr I1.env0 (hb s1 [.ref a] I1.kIn rfl) (.cons rfl .nil) (h _)) fun r s2 hq => ?_)
  cases r with
  | error e => exact hq.elim
  | ok fl =>
    cases fl with
    | ret u =>
      obtain ⟨z, H2, os, bare, un, hok, rz, it, l, xs, rfl, young, hit, hl, hR⟩ := hq
      obtain rfl : u = Value.ref it := rz
      obtain ⟨hh, g, d, t, os'⟩ := s2
      obtain rfl : os' = s1.os := os
      have I2 : Inv X pins σ H2 ⟨hh, g, d, t, s1.os⟩ := I1.call (h' := hh) (g' := g) (d' := d) (t' := t) (ch := []) un hok bare (fun b z => absurd z (by simp))
      have I3 := ItX.inv_drop I2 hit
      have at3 : hh.get? it = some (itT l) := (I2.hok it _ hit).1
      unfold PySem.W.OwitIt
      have hst : hh.IsTupleIter it l 0 := ⟨_, at3, rfl, rfl⟩
      refine wpAny_specialOf (name := Str.ofString "__next__") (T := "tuple_iterator") (Heap.IsTupleIter.typeIs (s := ⟨hh, g, d, t, s1.os⟩) hst) PySem.F.slot_tuple_iterator_next.lookup ?_
      refine ⟨it, [it], _, Itt X.K l, _, rfl, I3, turn_tuple l it, hst, fun b hb => ?_, hR⟩
      have e : b = it := by simpa using hb
      subst e
      exact ItX.inv_fp I2 hit (Nat.le_trans I1.sz young)
    | next => exact False.elim hq
    | brk => exact False.elim hq
    | cont => exact False.elim hq
/-! ### a walk over a list or a tuple -/
def iSeq (K : PySem.W.Frag) (tl : TE) : TI := fun σ H R => tl σ H fun x H1 => ∃ a, x = .ref a ∧ (((∃ xs, SqL K H1 a xs) ∧ R (Itl K a) H1) ∨ ((∃ xs, SqT K H1 a xs) ∧ R (Itt K a) H1))
theorem pi_seq {X : Cx} {tg l : Expr} {tl : TE} (hl : PE X l tl) : PI X tg l (iSeq X.K tl) := by
  refine ⟨fun pins s σ H R I h => ?_⟩
  refine thn (hl.run pins s σ H _ I h) fun v s1 ⟨x, H1, I1, r1, q1⟩ => ?_
  obtain ⟨a, e, q⟩ := q1
  subst e
  cases r1
  rcases q with ⟨⟨xs, hq⟩, q⟩ | ⟨⟨xs, hq⟩, q⟩
  · obtain ⟨its, rv, p, hz⟩ := I1.list hq
    refine wpAny_pyIter_list p.isList ?_
    refine ⟨s1.heap.objs.size, [s1.heap.objs.size], _, _, H1, rfl, I1.kept (t' := s1.toks) fun b o e => Heap.get?_push_of_some _ e, turn_list a _, ⟨_, Heap.get?_push_size _ rfl, rfl, rfl⟩, fun b hb => ?_, q⟩
    have e : b = s1.heap.objs.size := by simpa using hb
    subst e
    exact I1.fpOk (Nat.le_refl _) (I1.hok.fresh (Nat.le_refl _))
  · obtain ⟨its, rv, p, hz⟩ := I1.tuple hq
    refine wpAny_pyIter_tuple (show s1.heap.IsTuple a its.toArray from p) ?_
    refine ⟨s1.heap.objs.size, [s1.heap.objs.size], _, _, H1, rfl, I1.kept (t' := s1.toks) fun b o e => Heap.get?_push_of_some _ e, turn_tuple a _, ⟨_, Heap.get?_push_size _ rfl, rfl, rfl⟩, fun b hb => ?_, q⟩
    have e : b = s1.heap.objs.size := by simpa using hb
    subst e
    exact I1.fpOk (Nat.le_refl _) (I1.hok.fresh (Nat.le_refl _))
/-! ### enumerate of a tuple that may be written -/
def iEnumT (K : PySem.W.Frag) (ta : TA) : TI := fun σ H R => ta σ H fun vs H1 => ∃ a xs, vs = [.ref a] ∧ SqT K H1 a xs ∧ R (IteT K a) H1
theorem pi_enumT {X : Cx} {e : Expr} {ta : TA} {p pos tpos : Pos} {elts : List Expr} {kk : Nat} (hg : Gl X "enumerate") (hm : X.mg "enumerate" = none) (ha : PA X [e] ta) (hs : starEach [e] X.env = [(false, eval e X.env)] := by rfl) :
    PI X (.Tuple elts kk tpos) (.Call (.Name "enumerate" p) [e] [] pos) (iEnumT X.K ta) := by
  refine ⟨fun pins s σ H R I h => ?_⟩
  refine Call_ (ld_blt I hg hm boot_enumerate (PyProof.Rows.callWith_type1 (thn (ha.run pos pins s σ H _ I h) fun us s1 ⟨vs, H1, I1, r1, q1⟩ => ?_) hs rfl))
  obtain ⟨a, xs, ex, hq, q⟩ := q1
  subst ex
  cases r1 with
  | cons r rr =>
    cases rr
    cases r
    have fp : ∀ b, b = s1.heap.objs.size + 1 ∨ b = s1.heap.objs.size → FpOk X pins H1 b := fun b e' => by
      have hle : s1.heap.objs.size ≤ b := by
        rcases e' with z | z
        · rw [z]; exact Nat.le_add_right _ _
        · rw [z]; exact Nat.le_refl _
      exact I1.fpOk hle (I1.hok.fresh hle)
    obtain ⟨its, rv, p', hz⟩ := I1.tuple hq
    refine call_enumerate_tuple p' fun h' he hit hsz hk => wpAny_pyIter_enum he ?_
    have I2 : Inv X pins σ H1 { s1 with heap := h' } := I1.kept (t' := s1.toks) hk
    refine ⟨s1.heap.objs.size + 1, [s1.heap.objs.size + 1, s1.heap.objs.size], _, _, H1, rfl, I2, turn_enumT a (s1.heap.objs.size + 1) s1.heap.objs.size, ⟨⟨.none, he⟩, hit, Nat.succ_ne_self _⟩, fun b hb => fp b (by simpa using hb), q⟩
/-! ### an object made, a static method called, where the body may raise -/
section
variable {X : Cx} {CX : CXT} {k : Nat} {f C g : Addr} {mc : Value} {fd : FuncData} {ps : List Str} {sp : Sp} {E : L2.St → XK} {x m : Str} {p pos apos : Pos} {e : Expr} {es : List Expr} {t : TA} {pl : Sem Bool}
theorem run_makeS {pins : List (Addr × Obj)} {σ : L2.St} {H : Hp} {s : Shared} {Q : VK} {us : List Value} {vs : List V} (M : Mk X.K C f) (F : FnOk X.prog X.w X.K X.mg X.base CX k f fd ps sp) (hr : Room (k + 1) X.A) (hb : Binds X.K fd ps []) (hx : PassesAt CX X σ (E σ)) (I : Inv X pins σ H s) (r : Vals vs us)
    (h : ∀ x dx, H x = none → H dx = none → dx ≠ x → sp (.ref x :: vs) (upd (upd H dx (.own x)) x (.ins C dx [])) (fun v H2 => v = .non ∧ Q (.ref x) H2) (E σ)) :
    wpAny (model X.prog X.w) X.A (call (.ref C) us) (EP X pins σ Q) X.xe s := by
  have hq := h (s.heap.objs.size + 1) s.heap.objs.size (I.hok.fresh (Nat.le_succ _)) (I.hok.fresh (Nat.le_refl _)) (Nat.ne_of_lt (Nat.lt_succ_self _))
  have I2 := Inv.made (C := C) I
  have r2 : Vals (V.ref (s.heap.objs.size + 1) :: vs) (Value.ref (s.heap.objs.size + 1) :: us) := .cons rfl r
  have hl : (Value.ref (s.heap.objs.size + 1) :: us).length = ps.length := by
    have e := r2.length
    rw [F.len _ _ _ _ hq] at e
    exact e.symm
  have b := hb _ (Value.ref (s.heap.objs.size + 1) :: us) I2.kIn (by rw [List.append_nil]; exact hl)
  rw [List.append_nil] at b
  refine wpAny_call (make_map (f := f) I.kIn M.makes M.init (beq_iff_eq.mp M.fn) (codeAny_mono (F.run _ X.stack _ _ ⟨Value.ref (s.heap.objs.size + 1) :: us, []⟩ (Value.ref (s.heap.objs.size + 1) :: us) _ _ (E σ) (hr.make C us [])
    (I2.env0.make C us []) b r2 hq) fun r s' hq' => ?_))
  cases r with
  | error e => exact hx pins _ _ e s' I2 hq'
  | ok fl =>
    cases fl with
    | ret u =>
      obtain ⟨v, H', I3, rv, ev, q3⟩ := I2.after hq'
      subst ev
      exact ⟨rv, ⟨V.ref (s.heap.objs.size + 1), H', I3, rfl, q3⟩⟩
    | next => exact False.elim hq'
    | brk => exact False.elim hq'
    | cont => exact False.elim hq'
def tMakeS (C : Addr) (sp : Sp) (E : L2.St → XK) (t : TA) : TE := fun σ H Q => t σ H fun vs H1 => ∀ x dx, H1 x = none → H1 dx = none → dx ≠ x → sp (.ref x :: vs) (upd (upd H1 dx (.own x)) x (.ins C dx [])) (fun v H2 => v = .non ∧ Q (.ref x) H2) (E σ)
theorem pe_makeS (M : Mk X.K C f) (F : FnOk X.prog X.w X.K X.mg X.base CX k f fd ps sp) (hr : Room (k + 1) X.A) (hg : Gl X x) (hm : X.mg x = some (.ref C)) (hb : Binds X.K fd ps []) (hx : ∀ σ, PassesAt CX X σ (E σ))
    (ha : PA X (e :: es) t) (hdb : (x == ("__debug__" : Str)) = false := by decide) (he : starEach (e :: es) X.env = (false, eval e X.env) :: starEach es X.env := by rfl) (hpl : (backTo pos (starEach es X.env)).any (·.1) = false := by rfl) :
    PE X (.Call (.Name x p) (e :: es) [] pos) (tMakeS C sp E t) := by
  refine ⟨fun pins s σ H Q I h => ?_⟩
  refine wpAny_Call_Name_kw (ld_glob I hg hm ?_ hdb)
  refine PySem.W.callWith_K (h₀ := X.base) I.ok.mod.kin M.kp (thn (ha.run pos pins s σ H _ I h) fun us s1 ⟨vs, H1, I1, r, q⟩ => ⟨I1.kIn, ?_⟩) he hpl
  exact run_makeS M F hr hb (hx σ) I1 r q
def tSMethS (sp : Sp) (E : L2.St → XK) (t : TA) : TE := fun σ H Q => t σ H fun vs H2 => sp vs H2 Q (E σ)
theorem pe_smethS (hmx : X.mg x = some (.ref C)) (r : ClX.CRead X.K C mc) (c : SMet X.K C mc m g) (F : FnOk X.prog X.w X.K X.mg X.base CX k g fd ps sp) (hr : Room k X.A) (hb : Binds X.K fd ps []) (hx : ∀ σ, PassesAt CX X σ (E σ)) (ha : PA X (e :: es) t) (hg : Gl X x := by rfl) (hdb : (x == ("__debug__" : Str)) = false := by decide)
    (hst : starEach (e :: es) X.env = (false, eval e X.env) :: starEach es X.env := by rfl) (hpl : (backTo pos (starEach es X.env)).any (·.1) = false := by rfl)
    (ht : eval (.Call (.Attribute (.Name x p) m apos) (e :: es) [] pos) X.env = (do
      let ov ← eval (.Name x p) X.env
      standAt apos.atName
      let (f, first) ← holding [ov] (getMethod ov m pl)
      callWith pos f first (backTo pos (starEach (e :: es) X.env)) (backToKw pos (keywordEach [] X.env))) := by rfl) :
    PE X (.Call (.Attribute (.Name x p) m apos) (e :: es) [] pos) (tSMethS sp E t) := by
  obtain ⟨q, at_, ⟨rest, hp⟩, hk⟩ := c.ex
  refine ⟨fun pins s σ H Q I h => ?_⟩
  refine PySem.W.methodCall_KW (pl := pl) (ld_glob I hg hmx ?_ hdb) ht
  refine PySem.W.method_cls I.kIn r.ga (PySem.W.cls_bind I.kIn r.rd at_ ?_)
  refine wpAny_call (PySem.W.sm_get (s := { s with toks := s.toks + 1 }) I.kIn hp (PySem.W.handed_on rfl ?_))
  refine PySem.W.callWith_K (f := .ref g) (first := []) (h₀ := X.base) I.ok.mod.kin hk (thn (ha.run pos pins _ σ H _ (I.tok _) h) fun us s1 ⟨vs, H1, I1, r1, q1⟩ => ⟨I1.kIn, ?_⟩) hst hpl
  exact run_fnS F hr hb (hx σ) I1 r1 q1
theorem pe_smeth0 (hmx : X.mg x = some (.ref C)) (r : ClX.CRead X.K C mc) (c : SMet X.K C mc m g) {E : XK} (F : FnOk X.prog X.w X.K X.mg X.base CX k g fd ps sp) (hr : Room k X.A) (hb : Binds X.K fd ps []) (hx : Passes CX X E) (hg : Gl X x := by rfl) (hdb : (x == ("__debug__" : Str)) = false := by decide)
    (ht : eval (.Call (.Attribute (.Name x p) m apos) [] [] pos) X.env = (do
      let ov ← eval (.Name x p) X.env
      standAt apos.atName
      let (f, first) ← holding [ov] (getMethod ov m pl)
      callWith pos f first (backTo pos (starEach [] X.env)) (backToKw pos (keywordEach [] X.env))) := by rfl) :
    PE X (.Call (.Attribute (.Name x p) m apos) [] [] pos) (fun σ H Q => sp [] H Q E) := by
  obtain ⟨q, at_, ⟨rest, hp⟩, hk⟩ := c.ex
  refine ⟨fun pins s σ H Q I h => ?_⟩
  refine PySem.W.methodCall_KW (pl := pl) (ld_glob I hg hmx ?_ hdb) ht
  refine PySem.W.method_cls I.kIn r.ga (PySem.W.cls_bind I.kIn r.rd at_ ?_)
  refine wpAny_call (PySem.W.sm_get (s := { s with toks := s.toks + 1 }) I.kIn hp (PySem.W.handed_on rfl ?_))
  exact PySem.W.callWith_K0 (first := []) (I.tok (s.toks + 1)).kIn hk (run_fn (us := []) (vs := []) F hr hb .nil hx (I.tok (s.toks + 1)) .nil h)
end
/-! ### isinstance(e, (c1, c2, ..)), e the exception that the suite holds -/
def rIsET (K : PySem.W.Frag) (D a : Addr) : List V → Hp → VK → Prop := fun xs H Q => ∃ (tp : Addr) (cs : List V) (us : List Value) (b : Bool), xs = [.ref a, .ref tp] ∧ H tp = some (.tup cs) ∧ Paired ClsV cs us ∧ PySem.W.kitAny K (.ref D) us = some b ∧ Q (.bl b) H
theorem call_isET {X : Cx} {a D : Addr} {oe : Obj} {pn : List (Addr × Obj)} (C : ExcC X.K D) (hz : Zc (.ref D) none oe) (hf : ∃ vs, oe.data = .fields vs) : CallR (X.suite a ((a, oe) :: pn)) (.builtin "isinstance") (rIsET X.K D a) := by
  intro pins s σ H xs us Q I r h
  obtain ⟨tp, cs, ws, b, rfl, hT, k, e, q⟩ := h
  cases r with
  | cons rx rr =>
    cases rr with
    | cons rt rr =>
      cases rr
      cases rx
      cases rt
      obtain ⟨hget, _⟩ := I.pin (a, oe) (List.mem_append.mpr (.inl List.mem_cons_self))
      obtain ⟨vs, hv⟩ := hf
      have J : PySem.W.InstAt s.heap a oe D none := by
        obtain ⟨oc, od, oda, osl⟩ := oe
        obtain ⟨h1, h2⟩ := hz
        dsimp only at h1 h2 hv
        subst h1 h2 hv
        exact ⟨hget, rfl, rfl, trivial⟩
      obtain ⟨_, its, rv, o, h1, h2, n, h3⟩ := (show ObjOk X.prog X.w H s.heap tp (.tup cs) from I.hok tp _ hT)
      have e3 := ClsV.all k rv
      subst e3
      obtain ⟨oc, od, dt, sl⟩ := o
      simp only at h2 h3
      subst h2 h3
      exact PySem.W.kia_tup (PySem.W.handS_kitx_exc C.hg C.hk C.hs C.hd C.ha C.hn C.ht C.hm) I.kIn J h1 e (fun z => nomatch z) fun tk => ⟨.bl b, H, I.kept (t' := tk) fun _ _ z => z, rfl, q⟩
end Rg
namespace Rg
open PySem PySem.Spec PyProof.Rows L2
theorem op_inK {X : Cx} {K : PySem.W.Frag} (hK : X.K = K := by rfl) : OpR X (compareOp .In) (rIn K false) := by
  subst hK
  exact op_in_seq
theorem pg_tupK {X : Cx} {K : PySem.W.Frag} {es : List Expr} {k n : Nat} {pos : Pos} {t : TGs} (hc : X.calm = true) (h : PGs X es t) (hn : (assignEach es X.env).length = n := by rfl) (hst : (assignEach es X.env).findIdx? (·.1) = none := by rfl) (hK : X.K = K := by rfl) : PG X (.Tuple es k pos) (gTup K n t) := by
  subst hK
  exact pg_tup hc h hn hst
def tTru (K : PySem.W.Frag) (ta : TE) : TT := fun σ H Q => ta σ H fun x H' => ∃ k, TruV K x H' k ∧ Q k H'
theorem pt_truthK {X : Cx} {K : PySem.W.Frag} {a : Expr} {ta : TE} (ha : PE X a ta) (he : ∀ whole, isTrue a X.env whole = (do let v ← whole; standAt a.pos; holding [v] (truthy v))) (hK : X.K = K := by rfl) : PT X a (tTru K ta) := by
  subst hK
  exact pt_truth ha he
theorem op_notInK {X : Cx} {K : PySem.W.Frag} (hK : X.K = K := by rfl) : OpR X (compareOp .NotIn) (rIn K true) := by
  subst hK
  exact op_notIn_seq
end Rg
namespace RT
open PySem PySem.Spec PyProof.Rows
open Builtin
section
variable {prog : Program} {w : World} {A : Around} {E : Value → Shared → Prop} {s : Shared}
theorem list_init_rev {R : Result → Shared → Prop} {it l S : Addr} {items : Array Value} (hh : A.handled = none) (hit : s.heap.IsRevIter it l ((items.size : Int) - 1)) (hl : s.heap.IsList l items) (hne : l ≠ it) (hn : items.size ≤ sizeLine) (hSi : S ≠ it) (hSl : S ≠ l)
    (hS : s.heap.get? S = some { cls := .type "list", data := .seq #[] })
    (hR : ∀ (h' : Heap) (tk : Nat) (acc' : Array Value) (c' : Nat), (∀ b o, b ≠ S → b ≠ it → s.heap.get? b = some o → h'.get? b = some o) → h'.get? S = some { cls := .type "list", dict := none, data := .seq acc' c', slots := #[] } → ItemsOf (fun i v => items[items.size - 1 - i]? = some v) acc' items.size → R (.ok (.ret .none)) { s with heap := h', toks := tk }) :
    wpAny (model prog w) A.in1 (Builtin.«list.__init__» ⟨[.ref S, .ref it], []⟩)
      (fun fin s' => match fin with | .done f => R (.ok f) s' | .again c' => c'.quiet = true ∧ codeAny (model prog w) A c' R s') (fun e s' => R (.error e) s') s := by
  have W := (Walks.listRev (prog := prog) (w := w) (A := A.in1) hh it l hne items).toS
  have hSf : S ∉ [it, l] := by simp only [List.mem_cons, List.not_mem_nil, or_false, not_or]; exact ⟨hSi, hSl⟩
  show wpAny _ A.in1 (do let old ← Builtin.List.listItems (.ref S); Builtin.List.listUpdate (.ref S) (fun _ => #[]); letGo old.toList.reverse; Builtin.List.listExtendWith (.ref S) (.ref it) .none) _ _ s
  refine wpAny_bind ?_
  unfold Builtin.List.listItems
  refine wpAny_bind (wpAny_seqItems hS rfl (wpAny_pure ?_))
  show wpAny _ A.in1 (updateSeq S (fun _ => #[]) >>= fun _ => letGo (#[] : Array Value).toList.reverse >>= fun _ => Builtin.List.listExtendWith (.ref S) (.ref it) .none) _ _ s
  refine wpAny_bind (wpAny_updateSeq hS rfl ?_)
  have hS₂ := Heap.get?_update_self (Obj.mapSeq (fun _ => (#[] : Array Value))) hS rfl
  have oth : ∀ b o, b ≠ S → s.heap.get? b = some o → (s.heap.update S (Obj.mapSeq (fun _ => (#[] : Array Value)))).get? b = some o :=
    fun b o hb e => (Heap.get?_update_other _ _ (Ne.symm hb)).trans e
  refine wpAny_bind (wpAny_letGo ?_)
  have hit1 : (s.heap.update S (Obj.mapSeq (fun _ => (#[] : Array Value)))).IsRevIter it l ((items.size : Int) - 1) := hit.at fun o e => oth _ _ (Ne.symm hSi) e
  obtain ⟨ol, hol, q1, q2⟩ := id hl
  have hl1 : (s.heap.update S (Obj.mapSeq (fun _ => (#[] : Array Value)))).IsList l items := ⟨ol, oth _ _ (Ne.symm hSl) hol, q1, q2⟩
  have hT : ({ s with heap := s.heap.update S (Obj.mapSeq (fun _ => (#[] : Array Value))) } : Shared).TypeIs (.ref it) "list_reverseiterator" := Heap.IsRevIter.typeIs (s := { s with heap := s.heap.update S (Obj.mapSeq (fun _ => (#[] : Array Value))) }) hit1
  have h1 : Builtin.List.listSameRef (.ref S) (.ref it) = false := by simp [Builtin.List.listSameRef, hSi]
  unfold Builtin.List.listExtendWith
  refine wpAny_bind (wpAny_typeOf hT ?_)
  rw [if_neg (by rw [h1]; decide)]
  refine wpAny_bind (wpAny_pyIter_revIter (s := { s with heap := s.heap.update S (Obj.mapSeq (fun _ => (#[] : Array Value))) }) hit1 ?_)
  refine wpAny_bind (wpAny_holding ?_)
  unfold Builtin.List.listLengthHint
  refine wpAny_bind (wpAny_specialOf hT nolen_lri ?_)
  show wpAny _ A.in1 (specialOf (Value.ref it) (Str.ofString "__length_hint__") >>= _) _ _ _
  refine wpAny_bind (wpAny_specialOf hT hint_lri ?_)
  generalize hid : ("list_reverseiterator.__length_hint__" : String) = id0
  wp_delta
  rw [show splitId id0 = some ("list_reverseiterator", "__length_hint__") from by subst hid; decide +kernel]
  subst hid
  refine wpAny_bind (wpAny_isInstance (b := true) hT (by rw [isSubtype_type]; kernel_rfl) ?_)
  refine wpAny_pure ?_
  rw [if_neg (by decide)]
  have e0 : ((items.size : Nat) : Int) - 1 - ((0 : Nat) : Int) = (items.size : Int) - 1 := by omega
  refine wpAny_pure ⟨plainId_quiet F.plain_extend_loop _, codeAny_extend_loopS W hn _ hSf _ items.size 0 _ _ _ rfl (Nat.zero_le _) ⟨Nat.zero_le _, by rw [e0]; exact hit1, hl1⟩ hS₂ (ItemsOf.nil _) fun s' acc' c' hm hS' hacc => ?_⟩
  rw [Moved.eq_with hm]
  refine hR s'.heap s'.toks acc' c' (fun b o hb hi e => hm.heap b o (fun hmem => ?_) (oth b o hb e)) hS' hacc
  rcases List.mem_cons.mp hmem with e' | hmem
  · exact hb e'
  · exact hi (List.mem_singleton.mp hmem)
theorem call_list_rev {it l : Addr} {items : Array Value} {Q : Value → Shared → Prop} (hh : A.handled = none) (hit : s.heap.IsRevIter it l ((items.size : Int) - 1)) (hl : s.heap.IsList l items) (hne : l ≠ it) (hn : items.size ≤ sizeLine)
    (hQ : ∀ (h' : Heap) (tk : Nat) (acc : Array Value) (c : Nat), (∀ b o, b ≠ it → s.heap.get? b = some o → h'.get? b = some o) → h'.get? s.heap.objs.size = some { cls := .type "list", dict := none, data := .seq acc c, slots := #[] } → ItemsOf (fun i v => items[items.size - 1 - i]? = some v) acc items.size → Q (.ref s.heap.objs.size) { s with heap := h', toks := tk }) :
    wpAny (model prog w) A (call (.type "list") [.ref it]) Q E s := by
  obtain ⟨oi, hoi, _⟩ := id hit
  obtain ⟨ol, hol, _⟩ := id hl
  have hSi : s.heap.objs.size ≠ it := Nat.ne_of_gt (Heap.lt_size hoi)
  have hSl : s.heap.objs.size ≠ l := Nat.ne_of_gt (Heap.lt_size hol)
  refine callType_codes (Q₁ := fun obj s₁ => obj = .ref s.heap.objs.size ∧ s₁ = { s with heap := s.heap.push { cls := .type "list", data := .seq #[] } }) F.called_list (F.typeCall_list_1 _) F.entry_list_init
    (code_list_new _ ⟨rfl, rfl⟩) fun obj s₁ h₁ => ?_
  obtain ⟨rfl, rfl⟩ := h₁
  have hS : (s.heap.push { cls := .type "list", data := .seq #[] }).get? s.heap.objs.size = some { cls := .type "list", data := .seq #[] } := Heap.get?_push_size _ rfl
  refine ⟨⟨_, hS, rfl⟩, F.args_list_init_2 _ _, list_init_rev (s := { s with heap := s.heap.push { cls := .type "list", data := .seq #[] } }) hh (hit.at fun o e => Heap.get?_push_of_some _ e) (hl.push _) hne hn hSi hSl hS fun h' tk acc' c' hk hS' hacc => ?_⟩
  exact ⟨rfl, hQ h' tk acc' c' (fun b o hb e => hk b o (Nat.ne_of_lt (Heap.lt_size e)) hb (Heap.get?_push_of_some _ e)) hS' hacc⟩
end
end RT
namespace Rg
open PySem PySem.Spec PyProof.Rows L2 RT
/-- list(reversed(x)), x a list: a new list -/
def tListRev (K : PySem.W.Frag) (te : TE) : TE := fun σ H Q => te σ H fun v H1 => ∃ (a : Addr) (xs : List V), v = .ref a ∧ SqL K H1 a xs ∧ ∀ q, H1 q = none → Q (.ref q) (upd H1 q (.lst xs.reverse))
theorem pe_listRev {X : Cx} {e : Expr} {te : TE} {p p2 pos pos2 : Pos} (hc : X.calm = true) (hg : Gl X "list") (hm : X.mg "list" = none) (hg2 : Gl X "reversed") (hm2 : X.mg "reversed" = none) (he : PE X e te)
    (hs : starEach [e] X.env = (false, eval e X.env) :: starEach [] X.env := by rfl)
    (hs2 : starEach [.Call (.Name "reversed" p2) [e] [] pos2] X.env = (false, eval (.Call (.Name "reversed" p2) [e] [] pos2) X.env) :: starEach [] X.env := by rfl) :
    PE X (.Call (.Name "list" p) [.Call (.Name "reversed" p2) [e] [] pos2] [] pos) (tListRev X.K te) := by
  refine ⟨fun pins s σ H Q I h => ?_⟩
  refine Call_ (ld_blt I hg hm boot_list (PyProof.Rows.callWith_type1 (args_cons (Call_ (ld_blt I hg2 hm2 PyProof.Rows.boot_reversed (PyProof.Rows.callWith_type1 (args_cons (thn (he.run pins s σ H _ I h) fun u s1 ⟨v, H1, I1, r1, q1⟩ => args_nil ?_) hs) hs rfl))) hs2) hs2 rfl))
  obtain ⟨a, xs, ev, hq, q⟩ := q1
  subst ev
  obtain rfl : u = Value.ref a := r1
  obtain ⟨its, rv, p', hz⟩ := I1.list hq
  refine call_reversed_list p'.isList (args_nil ?_)
  have k0 : ∀ b o, s1.heap.get? b = some o → (s1.heap.push (revObj a ((its.toArray.size : Int) - 1))).get? b = some o := fun b o e => Heap.get?_push_of_some _ e
  have I2 : Inv X pins σ H1 { s1 with heap := s1.heap.push (revObj a ((its.toArray.size : Int) - 1)) } := I1.kept (t' := s1.toks) k0
  obtain ⟨f0, f1, f2, f3, f4, f5⟩ := I1.fpOk (H' := H1) (b := s1.heap.objs.size) (Nat.le_refl _) (I1.hok.fresh (Nat.le_refl _))
  have hl := p'.isList
  obtain ⟨ol, hol, _⟩ := id hl
  have hne : a ≠ s1.heap.objs.size := Nat.ne_of_lt (Heap.lt_size hol)
  have hn : its.toArray.size ≤ sizeLine := by rw [List.size_toArray, ← rv.length]; exact hz
  have hsz : (s1.heap.push (revObj a ((its.toArray.size : Int) - 1))).objs.size = s1.heap.objs.size + 1 := Heap.size_push ..
  refine call_list_rev (s := { s1 with heap := s1.heap.push (revObj a ((its.toArray.size : Int) - 1)) }) (I1.ok.hd hc) ⟨_, Heap.get?_push_size _ rfl, rfl, rfl⟩ (hl.push _) hne hn fun h' tk acc c hk hS hi => ?_
  have hle : s1.heap.objs.size ≤ (s1.heap.push (revObj a ((its.toArray.size : Int) - 1))).objs.size := by rw [hsz]; exact Nat.le_succ _
  refine ⟨.ref (s1.heap.push (revObj a ((its.toArray.size : Int) - 1))).objs.size, upd H1 (s1.heap.push (revObj a ((its.toArray.size : Int) - 1))).objs.size (.lst xs.reverse), I1.laid (t' := tk) (fun b o e => hk b o (Nat.ne_of_lt (Heap.lt_size e)) (k0 b o e)) hle (show ObjOk X.prog X.w _ _ _ (.lst xs.reverse) from ⟨by rw [List.length_reverse]; exact hz, acc.toList, c, vals_rev rv hi, ?_⟩), rfl, q _ (I1.hok.fresh hle)⟩
  rw [Array.toArray_toList]
  exact hS
end Rg
/-! ### all, any of a generator expression whose element calls one's own defs -/
namespace GxL
open PySem PySem.Spec PyProof.Rows L2
open Sem (wp)
/-- the state is the same but for the generators' table, what was drawn, the tokens -/
def Slept (s s' : Shared) : Prop := s'.os = s.os ∧ AllBare s'.gens ∧ s'.heap = s.heap
theorem Slept.trans {a b c : Shared} (x : Slept a b) (y : Slept b c) : Slept a c := ⟨y.1.trans x.1, y.2.1, y.2.2.trans x.2.2⟩
theorem bare_set {gs : Array GenState} {g : Nat} {x : GenState} (h : AllBare gs) (hx : x.bare = true) : AllBare (gs.setIfInBounds g x) := fun y hy => by
  obtain ⟨i, hi, rfl⟩ := Array.mem_iff_getElem.mp hy
  rw [Array.getElem_setIfInBounds (by simpa using hi)]
  split
  · exact hx
  · exact h _ (Array.getElem_mem _)
theorem Slept.set {s : Shared} {g : Nat} {x : GenState} (h : AllBare s.gens) (hx : x.bare = true) : Slept s (s.setGen g x) := ⟨rfl, bare_set h hx, rfl⟩
/-- the generator's frame, entered at s: its iterator's objects at fp -/
def genCx (X : Cx) (s : Shared) (H : Hp) (cenv : Env) (fp : List Addr) : Cx where
  prog := X.prog
  w := X.w
  K := X.K
  mg := X.mg
  base := X.base
  A := X.A.in1.in1.deeper cenv
  N := X.N
  s_0 := s
  H_0 := H
  env := cenv
  outer := X.stack
  stack := cenv :: X.stack
  ex := fp
  fn := fun _ => false
  calm := true
  pn := []
  xe := fun _ _ => False
/-- the generator's frame's environment over the def's -/
abbrev gEnv (X : Cx) (scope : Scope) (C : Addr) (code : Value) : Env := genEnv scope (cloFrom X.env.cells scope.names []) C code builtinsNs X.env
section
variable {X : Cx} {pins : List (Addr × Obj)} {σ : L2.St} {H H' : Hp} {s : Shared}
theorem slept_inv (I : Inv X pins σ H s) {s' : Shared} (h : Slept s s') : Inv X pins σ H s' := by
  refine I.call' (ch := []) h.1 (Un.kept fun b u e => by rw [h.2.2]; exact e) (by rw [h.2.2]; exact I.hok) h.2.1 fun b z => absurd z (by simp)
/-- a generator's scope -/
structure GSc (scope : Scope) : Prop where
  co : scope.isCoroutine = false
  cell : ∀ y ∈ scope.names, y.2 ≠ .cell
  dot : scope.names.lookup (".0" : Str) = some NameKind.local
def gscB (scope : Scope) : Bool := !scope.isCoroutine && (scope.names.all fun y => !decide (y.2 = .cell)) && decide (scope.names.lookup (".0" : Str) = some NameKind.local)
theorem gsc_by {scope : Scope} (h : gscB scope = true) : GSc scope := by
  unfold gscB at h
  simp only [Bool.and_eq_true, Bool.not_eq_true', decide_eq_true_eq, decide_eq_false_iff_not, List.all_eq_true] at h
  exact ⟨h.1.1, fun y hy => h.1.2 y hy, h.2⟩
theorem gen_start {scope : Scope} {own : List (Str × Nat)} {fp : List Addr} {code : Value} {m : Str → Option Value} {s5 : Shared} (I : Inv X pins σ H s) (ok : BlkOk X.N X.env.scope scope own) (S : GSc scope) (hN : X.N.Nodup) (hd : X.A.handled = none)
    (hfp : ∀ b ∈ fp, FpOk X pins H b ∧ b < s.heap.objs.size) (ho : s5.os = s.os) (hb : AllBare s5.gens) (hns : s5.heap.Ns s.heap.objs.size m) (kp : ∀ b o, s.heap.get? b = some o → s5.heap.get? b = some o) :
    Inv (genCx X s H (gEnv X scope s.heap.objs.size code) fp) [] (wipe σ (own.map (·.2))) H s5 := by
  have hfree : ∀ y ∈ scope.names, y.2 = .free → ∃ c, X.env.cells.lookup y.1 = some c := fun y hy e => by
    rcases ok.free y hy e with k | k
    · exact I.ok.has _ (.inl k)
    · exact I.ok.has _ (.inr k)
  have cm : ∀ {y c}, (cloFrom X.env.cells scope.names []).lookup y = some c → X.env.cells.lookup y = some c := fun {y c} e => by
    rcases cloFrom_mem (PySem.mem_of_lookup e) with hm | ⟨h1, h2⟩
    · cases hm
    · obtain ⟨c1, hc⟩ := hfree _ h1 rfl
      have hc : X.env.cells.lookup y = some c1 := hc
      have e2 : c = c1 := by
        rw [h2, hc] <;> rfl
      rw [e2]
      exact hc
  have look : ∀ {y}, scope.names.lookup y = some .free → ∃ c, (cloFrom X.env.cells scope.names []).lookup y = some c := fun {y} hl => by
    have hy : (y, NameKind.free) ∈ scope.names := PySem.mem_of_lookup hl
    exact mem_lookup (cloFrom_has (cells := X.env.cells) (acc := []) hy)
  have okB : (genCx X s H (gEnv X scope s.heap.objs.size code) fp).Ok := by
    refine ⟨I.ok.mod, ok.kind, I.ok.glob, rfl, Nat.le_refl _, fun y z c e1 e2 => I.ok.inj y z c (cm e1) (cm e2), fun y hy => ?_, fun y c z _ => ?_, fun _ => hd, Around.frames_deeper I.ok.frames, .inr ⟨rfl, rfl⟩, fun b hb => ⟨?_, fun y c e z => ?_⟩, I.bs, Nat.le_trans I.ok.bsz I.sz,
      fun b o e hb => ?_, fun b hb z => ?_, I.stack, I.stkFree⟩
    · have hy : scope.names.lookup y = some .cell ∨ scope.names.lookup y = some .free := hy
      rcases hy with hy | hy
      · exact absurd rfl (S.cell _ (PySem.mem_of_lookup hy))
      · exact look hy
    · have z : false = true := z
      cases z
    · exact Nat.ne_of_lt (hfp b hb).2
    · exact (hfp b hb).1.2.2.2.2.1 y c (cm e) z
    · rcases (hfp b hb).1.2.2.2.1 with z | z
      · exact I.ok.noex b o e z
      · exact absurd (Nat.lt_of_lt_of_le (Heap.lt_size e) (Nat.le_trans I.ok.bsz z)) (Nat.lt_irrefl _)
    · rcases List.mem_cons.mp (I.stkSub b z) with z | z
      · exact (hfp b hb).1.2.1 z
      · exact (hfp b hb).1.2.2.1 z
  refine ⟨okB, ho, hb, Un.kept kp, ⟨m, hns, fun i y av e1 e2 e3 => ?_⟩, fun y c e => ?_, I.hok.fresh (Nat.le_refl _), fun y c e => I.freeC y c (cm e), fun p hp => absurd (show p ∈ ([] : List (Addr × Obj)) ++ [] from hp) (by simp), I.hok.kept kp, by rw [wipe_length]; exact I.len⟩
  · obtain ⟨e2, hne⟩ := wipe_some e2
    have e3 : Vis scope y := e3
    have no : ∀ k, scope.names.lookup y = some k → ¬ (k = .local ∨ k = .cell) := fun k e hh => by
      rcases ok.own _ (PySem.mem_of_lookup e) hh with e' | e'
      · obtain ⟨p, hp, hpy⟩ := List.mem_map.mp e'
        have e3 := ok.ix p hp
        have : p.1 = y := hpy
        rw [this] at e3
        exact hne (List.mem_map.mpr ⟨p, hp, nodup_ix hN e3 e1⟩)
      · exact e' (List.mem_of_getElem? e1)
    rcases e3 with k | k | k
    · exact absurd (.inl rfl) (no _ k)
    · exact absurd (.inr rfl) (no _ k)
    · obtain ⟨m, hn, hl⟩ := I.loc
      have hvis : Vis X.env.scope y := (ok.free _ (PySem.mem_of_lookup k) rfl).elim (fun k => .inr (.inl k)) (fun k => .inr (.inr k))
      obtain ⟨w', r, q⟩ := hl i y av e1 e2 hvis
      obtain ⟨c2, h2⟩ := look k
      refine ⟨w', r, .inr ⟨.inr k, c2, h2, ?_⟩⟩
      have c1 := cm h2
      rcases q with ⟨k', _⟩ | ⟨_, c3, e', z⟩
      · have k' : X.env.scope.names.lookup y = some .local := k'
        rcases ok.free _ (PySem.mem_of_lookup k) rfl with k2 | k2 <;> rw [show X.env.scope.names.lookup y = _ from k2] at k' <;> cases k'
      · rw [c1] at e'
        cases e'
        exact z.keeps kp
  · obtain ⟨w', z⟩ := I.cell y c (cm e)
    exact ⟨w', z.keeps kp⟩
end
end GxL
namespace GxL
open PySem PySem.Spec PyProof.Rows L2
open Sem (wp)
theorem over_gen {A : Around} {elt tg iter : Expr} {ifs : List Expr} {scope : Scope} {pos : Pos} {it acc : Value} {env : Env} : A.over (.compLoop (.GeneratorExp elt [⟨tg, iter, ifs, 0⟩] scope pos) 0 it acc env) [] = A.deeper env := by
  first
    | rfl
    | (obtain ⟨hd, d, fr, gs, u⟩ := A; simp [Around.over, Around.deeper, marksOver, frameCount, unitsOf, envsOf, guardsOf, pushEnvs, pushGuards, Code.envs, Code.env?, Code.isFrame, Code.guards, Code.isGuard, Code.weight, Code.frames, Code.isCreation, Code.isCaller, Code.cUnits])
theorem over_gstart {A : Around} {elt tg iter : Expr} {ifs : List Expr} {scope : Scope} {pos : Pos} {it acc : Value} {env : Env} : A.over (.compStart (.GeneratorExp elt [⟨tg, iter, ifs, 0⟩] scope pos) 0 it acc env) [] = A.deeper env := by
  first
    | rfl
    | (obtain ⟨hd, d, fr, gs, u⟩ := A; simp [Around.over, Around.deeper, marksOver, frameCount, unitsOf, envsOf, guardsOf, pushEnvs, pushGuards, Code.envs, Code.env?, Code.isFrame, Code.guards, Code.isGuard, Code.weight, Code.frames, Code.isCreation, Code.isCaller, Code.cUnits])
/-- a bool or an int, told by its truth -/
def TB (y : V) (k : Bool) : Prop := y = .bl k ∨ ∃ i : Int, y = .int i ∧ k = (i != 0)
def TBv (v : Value) (k : Bool) : Prop := v = .bool k ∨ ∃ (i : Int) (t : Tok), v = .int i t ∧ k = (i != 0)
theorem TB.v {y : V} {v : Value} {k : Bool} (h : TB y k) (r : RelV y v) : TBv v k := by
  rcases h with rfl | ⟨i, rfl, e⟩
  · exact .inl r
  · obtain ⟨t, rfl⟩ := r
    exact .inr ⟨i, t, rfl, e⟩
theorem truthyTB {prog : Program} {w : World} {A : Around} {E : Value → Shared → Prop} {s : Shared} {v : Value} {k : Bool} {Q : Bool → Shared → Prop} (h : TBv v k) (q : Q k s) : wpAny (model prog w) A (truthy v) Q E s := by
  rcases h with rfl | ⟨i, t, rfl, e⟩
  · exact wpAny_truthy_bool q
  · subst e
    exact PySem.P.truthy_int q
/-- the whole turn's reading: c: all's true, any's false; W by the turn and a measure -/
def GTurn (c : Bool) (J : It) (g : TG) (tt : TT) (te : TE) (vs : List Nat) (σ : L2.St) (Q : VK) (W : Nat → Nat → Hp → Prop) : Prop :=
  ∀ i m H, W i m H → (J.stop i H ∧ Q (.bl c) H) ∨ (J.go i H ∧ ∃ Nx : Hp → Prop, (∀ H', Nx H' → ∃ m', m' < m ∧ W (i + 1) m' H') ∧ ∀ x H', J.yld i H x H' → g x (wipe σ vs) H' fun σ2 H2 => wipe σ2 vs = wipe σ vs ∧ tt σ2 H2 fun b H3 =>
    if b = true then te σ2 H3 fun y H4 => ∃ k, GxL.TB y k ∧ if k = c then Nx H4 else Q (.bl (!c)) H4 else Nx H3)
/-- the generator's end, its protocol -/
def gR (G : Cx) (pn : List (Addr × Obj)) (σ : L2.St) (Q : Hp → Prop) : GenEnd := fun _ _ r s₁ => r = .ok .next ∧ ∃ H', Inv G pn σ H' s₁ ∧ Q H'
def gY (G : Cx) (pn : List (Addr × Obj)) (σ : L2.St) (c : Bool) (Q : Hp → Prop) : Protocol := fun _ _ v s₁ kap => ∃ k H', TBv v k ∧ Inv G pn σ H' s₁ ∧ if k = c then ∀ s'', Slept s₁ s'' → kap (.send .none) s'' else Q H'
section
variable {X : Cx}
theorem thnS {α : Type} {t : Sem α} {Q Q' : α → Shared → Prop} {M : Model} {A : Around} {E : Value → Shared → Prop} {s : Shared} (h : wpAny M A t Q (fun _ _ => False) s) (hQ : ∀ a s, Q a s → Q' a s) : wpAny M A t Q' E s := wpAny_mono h hQ fun _ _ z => False.elim z
theorem gen_seg {s3 : Shared} {H3 : Hp} {cenv : Env} {fp : List Addr} {it a : Addr} {ob : Obj} {tn : Nat → Heap → Prop} {J : It} {elt tg iter : Expr} {ifs : List Expr} {scope : Scope} {pos : Pos} {g : TG} {tt : TT} {te : TE} {vs : List Nat} {σ : L2.St} {c : Bool} {Q : VK} {W : Nat → Nat → Hp → Prop}
    (T : Turn X.prog X.w X.K tg J fp it tn) (hco : cenv.scope.isCoroutine = false) (ha : ∀ b ∈ fp, a ≠ b)
    (hg : PG (genCx X s3 H3 cenv fp) tg g) (ht : PTs (genCx X s3 H3 cenv fp) ifs tt) (he : PE (genCx X s3 H3 cenv fp) elt te) (turn : GTurn c J g tt te vs σ Q W) :
    ∀ (m n i : Nat) (s₀ s : Shared) (H : Hp), m < n → Inv (genCx X s3 H3 cenv fp) [(a, ob)] (wipe σ vs) H s → tn i s.heap → (∀ b ∈ fp, H b = none) → W i m H →
      Seg (model X.prog X.w) X.A.in1.in1 (gR (genCx X s3 H3 cenv fp) [(a, ob)] (wipe σ vs) (Q (.bl c))) (gY (genCx X s3 H3 cenv fp) [(a, ob)] (wipe σ vs) c (Q (.bl (!c)))) n s₀
        (.compLoop (.GeneratorExp elt [⟨tg, iter, ifs, 0⟩] scope pos) 0 (.ref it) .none cenv)
        ((model X.prog X.w).den (.compLoop (.GeneratorExp elt [⟨tg, iter, ifs, 0⟩] scope pos) 0 (.ref it) .none cenv)) [] s := by
  intro m
  induction m using Nat.strongRecOn with
  | ind m ih =>
  intro n i s₀ s H hmn I st nf w
  have stat : ∀ {σ' : L2.St} {H' : Hp} {s' : Shared}, Inv (genCx X s3 H3 cenv fp) [(a, ob)] σ' H' s' → (∀ b ∈ fp, H' b = none) → ∀ b ∈ fp, FpOk (genCx X s3 H3 cenv fp) [(a, ob)] H' b := fun {σ' H' s'} I' hn b hb =>
    ⟨hn b hb, (I'.ok.exf b hb).1, I'.ok.exfs b hb, .inl hb, fun x c e => (I'.ok.exf b hb).2 x c e, fun p hp => by
      have hp : p ∈ ([] : List (Addr × Obj)) ++ [(a, ob)] := hp
      simp at hp
      rw [hp]
      exact ha b hb⟩
  show Seg _ _ _ _ _ s₀ _ ((compTurn (.GeneratorExp elt [⟨tg, iter, ifs, 0⟩] scope pos) 0 (.ref it) .none cenv).onRaise (leaving cenv)) [] s
  rw [compTurn_gen, Sem.onRaise_eq_wrap]
  refine seg_bind_wrap (wpAny_standAt ?_)
  rcases turn i m H w with ⟨stop, qq⟩ | ⟨go, Nx, hNx, step⟩
  · have td := T.done (genCx X s3 H3 cenv fp) rfl rfl rfl rfl i [(a, ob)] s _ H (fun _ _ => False) I (stat I nf) st stop
    refine seg_bind_wrap ?_
    rw [over_gen]
    refine thnS td fun r s6 ⟨hr, I6⟩ => ?_
    subst hr
    exact seg_end (.ok .next) ⟨rfl, H, I6, qq⟩
  · have ti := T.item (genCx X s3 H3 cenv fp) rfl rfl rfl rfl i [(a, ob)] s _ H (fun _ _ => False) I (stat I nf) st go
    refine seg_bind_wrap ?_
    rw [over_gen]
    refine thnS ti fun r s6 ⟨u, hr, h6⟩ => ?_
    subst hr
    refine seg_bind_wrap ?_
    rw [over_gen]
    refine thnS h6 fun _ s7 ⟨x, H7, I7, r7, y7, st7, n7⟩ => ?_
    have I7' := I7.pinned (stat I7 n7) (T.obj _ _ st7)
    refine seg_bind_wrap ?_
    rw [over_gen]
    refine thnS (hg.run _ s7 _ H7 x u _ I7' r7 (step x H7 y7)) fun _ s8 ⟨σ8, H8, I8, hw8, q8⟩ => ?_
    refine seg_bind_wrap ?_
    rw [over_gen]
    refine thnS (ht.run _ s8 σ8 H8 _ I8 q8) fun b s9 ⟨H9, I9, q9⟩ => ?_
    -- the turn's end
    have fin : ∀ {s' : Shared} {H' : Hp}, Inv (genCx X s3 H3 cenv fp) ([(a, ob)] ++ pinsAt fp s7.heap) σ8 H' s' → Inv (genCx X s3 H3 cenv fp) [(a, ob)] (wipe σ vs) H' s' ∧ tn (i + 1) s'.heap ∧ ∀ b ∈ fp, H' b = none := fun {s' H'} I' => by
      have pin' : ∀ b ∈ fp, ∀ o, s7.heap.get? b = some o → s'.heap.get? b = some o ∧ H' b = none := fun b hb o e =>
        let z := I'.pin (b, o) (List.mem_append_right _ (List.mem_append_right _ (mem_pinsAt hb e)))
        ⟨z.1, z.2.1⟩
      have hl : (wipe σ vs).length = σ8.length := by rw [← hw8, wipe_length]
      refine ⟨(I'.unpinned (pins := [(a, ob)])).weak hl (fun j v e => ?_), T.keep _ _ _ st7 fun b hb o e => (pin' b hb o e).1, fun b hb => ?_⟩
      · rw [← hw8] at e
        exact (wipe_some e).1
      · obtain ⟨o, e, _⟩ := T.obj _ _ st7 b hb
        exact (pin' b hb o e).2
    cases b with
    | false =>
      simp only [Bool.false_eq_true, if_false] at q9 ⊢
      obtain ⟨m', hm, w'⟩ := hNx H9 q9
      obtain ⟨J1, J2, J3⟩ := fin I9
      exact seg_again rfl (ih m' hm n (i + 1) s₀ s9 H9 (by omega) J1 J2 J3 w')
    | true =>
      simp only [if_true] at q9 ⊢
      have hy : ∀ v, yieldOut cenv v = yieldValue v := fun v => by simp only [yieldOut, hco, Bool.false_eq_true, if_false]
      simp only [hy]
      rw [Sem.bind_eq_wrap', Sem.bind_eq_wrap', Sem.wrap_wrap, Sem.wrap_wrap]
      refine seg_wrap ?_
      rw [over_gen]
      refine thnS (he.run _ s9 σ8 H9 _ I9 q9) fun z s10 ⟨yv, H10, I10, r10, k, ek, q10⟩ => ?_
      obtain ⟨J1, J2, J3⟩ := fin I10
      obtain ⟨n', rfl⟩ : ∃ n', n = n' + 1 := by
        cases n with
        | succ n' => exact ⟨n', rfl⟩
        | zero => exact absurd hmn (Nat.not_lt_zero _)
      refine seg_at (seg_yield rfl rfl rfl ⟨k, H10, ek.v r10, J1, ?_⟩)
      by_cases hk : k = c
      · rw [if_pos hk] at q10 ⊢
        intro s'' hs
        obtain ⟨m', hm, w'⟩ := hNx H10 q10
        exact seg_again rfl (ih m' hm n' (i + 1) s'' s'' H10 (by omega) (slept_inv J1 hs) (by rw [hs.2.2]; exact J2) J3 w')
      · rw [if_neg hk] at q10 ⊢
        exact q10
/-- the generator's start -/
theorem gen_seg0 {s3 : Shared} {H3 : Hp} {cenv : Env} {fp : List Addr} {it a : Addr} {ob : Obj} {tn : Nat → Heap → Prop} {J : It} {elt tg iter : Expr} {ifs : List Expr} {scope : Scope} {pos : Pos} {g : TG} {tt : TT} {te : TE} {vs : List Nat} {σ : L2.St} {c : Bool} {Q : VK} {W : Nat → Nat → Hp → Prop}
    (T : Turn X.prog X.w X.K tg J fp it tn) (hco : cenv.scope.isCoroutine = false) (ha : ∀ b ∈ fp, a ≠ b)
    (hg : PG (genCx X s3 H3 cenv fp) tg g) (ht : PTs (genCx X s3 H3 cenv fp) ifs tt) (he : PE (genCx X s3 H3 cenv fp) elt te) (turn : GTurn c J g tt te vs σ Q W)
    {m n : Nat} {s₀ s : Shared} {H : Hp} (hmn : m < n) (I : Inv (genCx X s3 H3 cenv fp) [(a, ob)] (wipe σ vs) H s) (st : tn 0 s.heap) (nf : ∀ b ∈ fp, H b = none) (w : W 0 m H) :
      Seg (model X.prog X.w) X.A.in1.in1 (gR (genCx X s3 H3 cenv fp) [(a, ob)] (wipe σ vs) (Q (.bl c))) (gY (genCx X s3 H3 cenv fp) [(a, ob)] (wipe σ vs) c (Q (.bl (!c)))) n s₀
        (.compStart (.GeneratorExp elt [⟨tg, iter, ifs, 0⟩] scope pos) 0 (.ref it) .none cenv)
        ((model X.prog X.w).den (.compStart (.GeneratorExp elt [⟨tg, iter, ifs, 0⟩] scope pos) 0 (.ref it) .none cenv)) [] s := by
  have loop := gen_seg (pos := pos) (iter := iter) (scope := scope) T hco ha hg ht he turn m n 0 s₀ s H hmn I st nf w
  show Seg _ _ _ _ _ s₀ _ ((compStart (.GeneratorExp elt [⟨tg, iter, ifs, 0⟩] scope pos) 0 (.ref it) .none cenv).onRaise (leaving cenv)) [] s
  unfold compStart
  rw [Sem.onRaise_eq_wrap]
  show Seg _ _ _ _ _ s₀ _ ((ask >>= _).wrap _ _ _ _) [] s
  refine seg_bind_wrap (wpAny_askSetting ?_)
  split
  · exact seg_again rfl loop
  · first
      | exact seg_bind_wrap (wpAny_rule (seg_bind_wrap (wpAny_standAt (seg_bind_wrap (T.self _ 0 s _ _ st (seg_again rfl loop))))))
      | (refine seg_bind_wrap (wpAny_rule ?_); show Seg _ _ _ _ _ s₀ _ ((standAt iter.pos >>= _).wrap _ _ _ _) [] s; exact seg_bind_wrap (wpAny_standAt (seg_bind_wrap (T.self _ 0 s _ _ st (seg_again rfl loop)))))
/-- the generator's object: its number gi -/
structure GOb (ob : Obj) (gi : Nat) : Prop where
  cls : ob.cls = .type "generator"
  data : ∃ nm qn : Value, ob.data = .fields #[.int gi 0, nm, qn]
  slots : ob.slots = #[]
theorem GOb.at {ob : Obj} {gi : Nat} (h : GOb ob gi) {hp : Heap} {a : Addr} (e : hp.get? a = some ob) : hp.IsGen a gi := by
  obtain ⟨nm, qn, hd⟩ := h.data
  exact ⟨ob, nm, qn, e, h.cls, hd, h.slots⟩
/-- the generator at a, ready to be walked: n bounds its turns -/
def GReady (X : Cx) (G : Cx) (a : Addr) (ob : Obj) (gi : Nat) (σ : L2.St) (c : Bool) (Qs Qb : Hp → Prop) (n : Nat) (s : Shared) : Prop :=
  s.heap.NoLimit ∧ AllBare s.gens ∧ s.heap.get? a = some ob ∧ ∃ gs, s.gens[gi]? = some gs ∧ ∀ s'', Slept s s'' → gs.Goes (model X.prog X.w) X.A.in1.in1 (gR G [(a, ob)] σ Qs) (gY G [(a, ob)] σ c Qb) n (.send .none) s''
/-- a turn of the consumer -/
theorem gen_next {G : Cx} {a : Addr} {ob : Obj} {gi : Nat} {σ : L2.St} {c : Bool} {Qs Qb : Hp → Prop} {n : Nat} {s : Shared} {E : Value → Shared → Prop} {Q' : Option Value → Shared → Prop} {k : Nat} (hr : Room k X.A)
    (hob : GOb ob gi) (R : GReady X G a ob gi σ c Qs Qb n s)
    (hend : ∀ s' H', Inv G [(a, ob)] σ H' s' → Qs H' → Q' none s')
    (hgo : ∀ n' s', n = n' + 1 → GReady X G a ob gi σ c Qs Qb n' s' → ∀ v, TBv v c → Q' (some v) s')
    (hbr : ∀ s' H', Inv G [(a, ob)] σ H' s' → Qb H' → ∀ v, TBv v (!c) → Q' (some v) s') :
    wpAny (model X.prog X.w) X.A.in1 (pyNext (.ref a)) Q' E s := by
  obtain ⟨lim, bare, hG, gs, hgs, goes⟩ := R
  have hlt : gi < s.gens.size := (Array.getElem?_eq_some_iff.mp hgs).1
  refine GenW.wpAny_gsz (n := s.gens.size) (Nat.le_refl _) ?_
  refine wpAny_pyNext_genexpQ (A := X.A.in1) (P := fun _ _ s₁ => ∃ H', Inv G [(a, ob)] σ H' s₁ ∧ Qs H') hr.hd lim (by have := hr.dp; show X.A.depth < _; omega) (hob.at hG) hgs (goes _ (Slept.set bare rfl)) (fun v s₁ gs' hb hv => ?_) (fun s₁ hp h' hk => ?_)
  · intro hsz
    obtain ⟨kk, H', hv, I', hk⟩ := hv
    by_cases e : kk = c
    · subst e
      rw [if_pos rfl] at hk
      have sl : Slept s₁ (s₁.setGen gi gs') := Slept.set I'.bare hb
      cases n with
      | zero => exact False.elim (hk s₁ ⟨rfl, I'.bare, rfl⟩)
      | succ n' =>
        have hlt' : gi < s₁.gens.size := by
          rw [GenW.setGen_size] at hsz
          exact Nat.lt_of_lt_of_le hlt hsz
        refine hgo n' (s₁.setGen gi gs') rfl ⟨I'.nolimit, (slept_inv I' sl).bare, (I'.pin (a, ob) (List.mem_append_right _ (by simp))).1, gs', ?_, fun s'' hs => hk s'' (sl.trans hs)⟩ _ hv
        simp [Shared.setGen, hlt']
    · rw [if_neg e] at hk
      have e2 : kk = !c := by cases kk <;> cases c <;> simp_all
      rw [e2] at hv
      exact hbr _ H' (slept_inv I' (Slept.set I'.bare hb)) hk _ hv
  · intro _
    obtain ⟨H', I', q⟩ := hp
    have I2 := slept_inv I' (Slept.set (g := gi) (x := .finished) I'.bare rfl)
    exact hend _ H' (I2.kept (t' := (s₁.setGen gi .finished).toks) hk) q
/-- all's loop, any's loop -/
theorem all_loop {G : Cx} {a : Addr} {ob : Obj} {gi : Nat} {σ : L2.St} {Qs Qb : Hp → Prop} {k : Nat} {R : Result → Shared → Prop} (hr : Room k X.A) (hob : GOb ob gi)
    (hs : ∀ s' H', Inv G [(a, ob)] σ H' s' → Qs H' → R (.ok (.ret (.bool true))) s') (hb : ∀ s' H', Inv G [(a, ob)] σ H' s' → Qb H' → R (.ok (.ret (.bool false))) s') :
    ∀ (n : Nat) (s : Shared), GReady X G a ob gi σ true Qs Qb n s → codeAny (model X.prog X.w) X.A (.builtin "all.loop" ⟨[.ref a], []⟩) R s := by
  intro n
  induction n with
  | zero =>
    intro s g
    refine codeAny_builtin F.entry_all_loop ?_
    rw [Around.under_plainId F.plain_all_loop _]
    show wpAny _ X.A.in1 (pyNext (.ref a) >>= _) _ _ s
    refine wpAny_bind (gen_next hr hob g (fun s' H' I q => ?_) (fun n' s' e => by cases e) (fun s' H' I q v hv => ?_))
    · exact wpAny_bind (wpAny_rule (wpAny_pure (hs s' H' I q)))
    · refine wpAny_bind (wpAny_holding (truthyTB hv ?_))
      refine wpAny_bind (wpAny_letGo ?_)
      simp only [Bool.not_true, Bool.false_eq_true, if_false]
      exact wpAny_bind (wpAny_rule (wpAny_pure (hb s' H' I q)))
  | succ n ih =>
    intro s g
    refine codeAny_builtin F.entry_all_loop ?_
    rw [Around.under_plainId F.plain_all_loop _]
    show wpAny _ X.A.in1 (pyNext (.ref a) >>= _) _ _ s
    refine wpAny_bind (gen_next hr hob g (fun s' H' I q => ?_) (fun n' s' e g' v hv => ?_) (fun s' H' I q v hv => ?_))
    · exact wpAny_bind (wpAny_rule (wpAny_pure (hs s' H' I q)))
    · cases e
      refine wpAny_bind (wpAny_holding (truthyTB hv ?_))
      refine wpAny_bind (wpAny_letGo ?_)
      simp only [if_true]
      exact wpAny_pure ⟨plainId_quiet F.plain_all_loop _, ih s' g'⟩
    · refine wpAny_bind (wpAny_holding (truthyTB hv ?_))
      refine wpAny_bind (wpAny_letGo ?_)
      simp only [Bool.not_true, Bool.false_eq_true, if_false]
      exact wpAny_bind (wpAny_rule (wpAny_pure (hb s' H' I q)))
theorem any_loop {G : Cx} {a : Addr} {ob : Obj} {gi : Nat} {σ : L2.St} {Qs Qb : Hp → Prop} {k : Nat} {R : Result → Shared → Prop} (hr : Room k X.A) (hob : GOb ob gi)
    (hs : ∀ s' H', Inv G [(a, ob)] σ H' s' → Qs H' → R (.ok (.ret (.bool false))) s') (hb : ∀ s' H', Inv G [(a, ob)] σ H' s' → Qb H' → R (.ok (.ret (.bool true))) s') :
    ∀ (n : Nat) (s : Shared), GReady X G a ob gi σ false Qs Qb n s → codeAny (model X.prog X.w) X.A (.builtin "any.loop" ⟨[.ref a], []⟩) R s := by
  intro n
  induction n with
  | zero =>
    intro s g
    refine codeAny_builtin F.entry_any_loop ?_
    rw [Around.under_plainId F.plain_any_loop _]
    show wpAny _ X.A.in1 (pyNext (.ref a) >>= _) _ _ s
    refine wpAny_bind (gen_next hr hob g (fun s' H' I q => ?_) (fun n' s' e => by cases e) (fun s' H' I q v hv => ?_))
    · exact wpAny_bind (wpAny_rule (wpAny_pure (hs s' H' I q)))
    · refine wpAny_bind (wpAny_holding (truthyTB hv ?_))
      refine wpAny_bind (wpAny_letGo ?_)
      simp only [Bool.not_false, if_true]
      exact wpAny_bind (wpAny_rule (wpAny_pure (hb s' H' I q)))
  | succ n ih =>
    intro s g
    refine codeAny_builtin F.entry_any_loop ?_
    rw [Around.under_plainId F.plain_any_loop _]
    show wpAny _ X.A.in1 (pyNext (.ref a) >>= _) _ _ s
    refine wpAny_bind (gen_next hr hob g (fun s' H' I q => ?_) (fun n' s' e g' v hv => ?_) (fun s' H' I q v hv => ?_))
    · exact wpAny_bind (wpAny_rule (wpAny_pure (hs s' H' I q)))
    · cases e
      refine wpAny_bind (wpAny_holding (truthyTB hv ?_))
      refine wpAny_bind (wpAny_letGo ?_)
      simp only [Bool.false_eq_true, if_false]
      exact wpAny_pure ⟨plainId_quiet F.plain_any_loop _, ih s' g'⟩
    · refine wpAny_bind (wpAny_holding (truthyTB hv ?_))
      refine wpAny_bind (wpAny_letGo ?_)
      simp only [Bool.not_false, if_true]
      exact wpAny_bind (wpAny_rule (wpAny_pure (hb s' H' I q)))
end
end GxL
namespace GxL
open PySem PySem.Spec PyProof.Rows L2
open Sem (wp)
/-- all(..) (c: true), any(..) (c: false) of a generator expression; the def's table at P may have grown -/
def tGx (c : Bool) (P : Addr) (wi : TI) (g : TG) (tt : TT) (te : TE) (vs : List Nat) : TE := fun σ H Q => wi σ H fun J H1 => GxR.TabG H1 P ∧ ∀ H2, GxR.Tabbed P H1 H2 → ∃ W : Nat → Nat → Hp → Prop, (∃ m, W 0 m H2) ∧ GTurn c J g tt te vs σ Q W
section
variable {X : Cx}
theorem gen_made {cc P : Addr} {c : Bool} {elt tg iter : Expr} {ifs : List Expr} {scope : Scope} {own : List (Str × Nat)} {gpos : Pos} {wi : TI} {g : TG} {tt : TT} {te : TE} {k : Nat} {pins : List (Addr × Obj)} {s : Shared} {σ : L2.St} {H : Hp} {Q : VK} {Q' : Value → Shared → Prop}
    (hr : Room (k + 3) X.A) (TB : LamX.TabB X.base X.mg cc P) (hcode : X.env.code = .ref cc) (S : GSc scope) (ok : BlkOk X.N X.env.scope scope own) (hN : X.N.Nodup) (hi : PI X tg iter wi)
    (hg : ∀ (s : Shared) (H : Hp) (C : Addr) (code : Value) (fp : List Addr), PG (genCx X s H (gEnv X scope C code) fp) tg g) (ht : ∀ (s : Shared) (H : Hp) (C : Addr) (code : Value) (fp : List Addr), Room k (genCx X s H (gEnv X scope C code) fp).A → PTs (genCx X s H (gEnv X scope C code) fp) ifs tt)
    (he : ∀ (s : Shared) (H : Hp) (C : Addr) (code : Value) (fp : List Addr), Room k (genCx X s H (gEnv X scope C code) fp).A → PE (genCx X s H (gEnv X scope C code) fp) elt te) (hs : ∀ v, genFold iter X.env v = pure v)
    (I : Inv X pins σ H s) (h : tGx c P wi g tt te (own.map (·.2)) σ H Q)
    (hQ : ∀ (G : Cx) (a : Addr) (ob : Obj) (gi n : Nat) (s5 : Shared), GOb ob gi → GReady X G a ob gi (wipe σ (own.map (·.2))) c (Q (.bl c)) (Q (.bl (!c))) n s5 → (∀ s' H', Inv G [(a, ob)] (wipe σ (own.map (·.2))) H' s' → Inv X pins σ H' s') → Q' (.ref a) s5) :
    wpAny (model X.prog X.w) X.A (eval (.GeneratorExp elt [⟨tg, iter, ifs, 0⟩] scope gpos) X.env) Q' X.xe s := by
  have hfree : ∀ y ∈ scope.names, y.2 = .free → ∃ c, X.env.cells.lookup y.1 = some c := fun y hy e => by
    rcases ok.free y hy e with k | k
    · exact I.ok.has _ (.inl k)
    · exact I.ok.has _ (.inr k)
  refine wpAny_GeneratorExp_make S.co (closure_ok hfree) S.cell S.dot ok.kind (by have := hr.dp; omega) ?_ hs
  refine thn (hi.run pins s σ H _ I h) fun xv s1 h1 => thn h1 fun itv s2 h2 => ?_
  obtain ⟨it, fp, tn, J, H2, e, I2, T, st2, f2, ⟨ps, hP, hto⟩, q⟩ := h2
  subst e
  have hPs : s2.heap.get? P = some { cls := .none, data := .fields ps } := I2.hok P _ hP
  have cd : PySem.W.CodeHd s2.heap cc P := TB.code.keeps I2.bk
  have sz : ∀ b ∈ fp, b < s2.heap.objs.size := fun b hb => by
    obtain ⟨o, e, _⟩ := T.obj _ _ st2 b hb
    exact Heap.lt_size e
  have nfP : ∀ b ∈ fp, b ≠ P := fun b hb z => by
    have z1 := (f2 b hb).1
    rw [z, hP] at z1
    cases z1
  have cont : ∀ (code : Value) (h3 : Heap) (tk : Nat) (more : Array Value), Heap.ExtBut P s2.heap h3 → s2.heap.objs.size ≤ h3.objs.size → h3.get? P = some { cls := .none, data := .fields (ps ++ more) } → TriplesOk (ps ++ more).toList →
      wpAny (model X.prog X.w) X.A (builtinsFor X.env.globals X.env.builtins) (fun bi s₄ =>
        ∀ h', h'.Ns s₄.heap.objs.size (fun y => if y = ".0" then some (.ref it) else none) → Heap.SameBut s₄.heap.objs.size (s₄.heap.push { cls := .type "frame", data := .dict #[] }) h' →
          Q' (.ref h'.objs.size) { s₄ with
            gens := s₄.gens.push (.fresh (.compStart (.GeneratorExp elt [⟨tg, iter, ifs, 0⟩] scope gpos) 0 (.ref it) .none (genEnv scope (cloFrom X.env.cells scope.names []) s₄.heap.objs.size code bi X.env))),
            toks := s₄.toks + 1 + 1 + 1,
            heap := h'.push { cls := .type "generator", data := .fields #[.int s₄.gens.size 0, .str "<genexpr>" (s₄.toks + 1), .str (X.env.qual ++ "<genexpr>") (s₄.toks + 1 + 1)] } }) X.xe { s2 with heap := h3, toks := tk } := by
    intro code h3 tk more hx hsz hP3 ht3
    have I3 : Inv X pins σ (upd H2 P (.tbl (ps ++ more))) { s2 with heap := h3, gens := s2.gens, drawn := s2.drawn, toks := tk } := GxR.inv_tab I2 hP (fun b o hb e => hx b o hb e) hP3 I2.bare
    obtain ⟨bm, ob, e1, e2, e3, e4, e5, e6, e7, e8⟩ := TB.bm
    have keep3 : ∀ b u, b ≠ P → s2.heap.get? b = some u → h3.get? b = some u := fun b u hb e => hx b u hb e
    refine wpAny_builtinsFor (m := X.mg) (by rw [I2.ok.glob]; exact (I2.mod.glob.keeps I2.bk).extBut hx TB.gP) e1 e2 (keep3 _ _ e4 (I2.bk _ _ e5)) e6 e7 e8 ?_
    intro h' hns hsb
    obtain ⟨W, ⟨m0, w0⟩, turn⟩ := q (upd H2 P (.tbl (ps ++ more))) ⟨⟨ps ++ more, upd_same, ht3⟩, fun b hb => upd_ne hb⟩
    generalize hH3 : upd H2 P (.tbl (ps ++ more)) = H3 at I3 w0
    have n3 : ∀ b ∈ fp, H3 b = none := fun b hb => by rw [← hH3, upd_ne (nfP b hb)]; exact (f2 b hb).1
    generalize hs3 : ({ s2 with heap := h3, gens := s2.gens, drawn := s2.drawn, toks := tk } : Shared) = s3 at I3
    have es3 : ({ s2 with heap := h3, toks := tk } : Shared) = s3 := by rw [← hs3]
    have eh3 : h3 = s3.heap := by rw [← hs3]
    rw [show ({ s2 with heap := h3, toks := tk } : Shared).heap = s3.heap from by rw [es3]] at hns hsb
    have f3 : ∀ b ∈ fp, FpOk X pins H3 b ∧ b < s3.heap.objs.size := fun b hb => ⟨⟨n3 b hb, (f2 b hb).2⟩, by rw [← eh3]; exact Nat.lt_of_lt_of_le (sz b hb) hsz⟩
    have szh : h'.objs.size = s3.heap.objs.size + 1 := by rw [hsb.1, Heap.size_push]
    have kp' : ∀ b o, s3.heap.get? b = some o → h'.get? b = some o := fun b o e => hsb.extBut b o (Nat.ne_of_lt (Heap.lt_size e)) (Heap.get?_push_of_some _ e)
    generalize hob : ({ cls := .type "generator", data := .fields #[.int s3.gens.size 0, .str "<genexpr>" (s3.toks + 1), .str (X.env.qual ++ "<genexpr>") (s3.toks + 1 + 1)] } : Obj) = og
    have GO : GOb og s3.gens.size := by
      rw [← hob]
      exact ⟨rfl, ⟨_, _, rfl⟩, rfl⟩
    have kp5 : ∀ b o, s3.heap.get? b = some o → (h'.push og).get? b = some o := fun b o e => Heap.get?_push_of_some _ (kp' b o e)
    have ga : (h'.push og).get? h'.objs.size = some og := Heap.get?_push_size _ (by rw [← hob]; rfl)
    refine hQ (genCx X s3 H3 (gEnv X scope s3.heap.objs.size code) fp) h'.objs.size og s3.gens.size (m0 + 1) _ GO ?_ fun s' H' I' => ?_
    · generalize hs5 : ({ s3 with
            gens := s3.gens.push (.fresh (.compStart (.GeneratorExp elt [⟨tg, iter, ifs, 0⟩] scope gpos) 0 (.ref it) .none (genEnv scope (cloFrom X.env.cells scope.names []) s3.heap.objs.size code builtinsNs X.env))),
            toks := s3.toks + 1 + 1 + 1, heap := h'.push og } : Shared) = s5
      have eh5 : s5.heap = h'.push og := by rw [← hs5]
      have I5 : Inv (genCx X s3 H3 (gEnv X scope s3.heap.objs.size code) fp) [] (wipe σ (own.map (·.2))) H3 s5 :=
        gen_start I3 ok S hN hr.hd f3 (by rw [← hs5]) (by rw [← hs5]; exact I3.bare.push rfl) (by rw [eh5]; exact hns.push _) (by rw [eh5]; exact kp5)
      have I6 : Inv (genCx X s3 H3 (gEnv X scope s3.heap.objs.size code) fp) [(h'.objs.size, og)] (wipe σ (own.map (·.2))) H3 s5 := by
        refine I5.pins_of fun p hp => ?_
        have hp : p = (h'.objs.size, og) := by simpa using hp
        rw [hp]
        have hge : s3.heap.objs.size ≤ h'.objs.size := by omega
        refine ⟨by rw [eh5]; exact ga, I3.hok.fresh hge, ?_, fun z => ?_, fun v z => ?_⟩
        · show h'.objs.size ≠ s3.heap.objs.size
          omega
        · obtain ⟨_, o, ho, _⟩ := I5.ok.funs.mem z
          have ho : s3.heap.get? h'.objs.size = some o := ho
          exact absurd (Nat.lt_of_lt_of_le (Heap.lt_size ho) hge) (Nat.lt_irrefl _)
        · rw [← hob] at z
          cases z
      have st5 : tn 0 s5.heap := T.keep _ _ _ st2 fun b hb o e => by rw [eh5]; exact kp5 b o (by rw [← eh3]; exact keep3 b o (nfP b hb) e)
      have hgs : s5.gens[s3.gens.size]? = some (.fresh (.compStart (.GeneratorExp elt [⟨tg, iter, ifs, 0⟩] scope gpos) 0 (.ref it) .none (gEnv X scope s3.heap.objs.size code))) := by
        rw [← hs5]
        exact Array.getElem?_push_size ..
      refine ⟨I6.nolimit, I6.bare, by rw [eh5]; exact ga, _, hgs, fun s'' hsl => ⟨rfl, ?_⟩⟩
      have hab : ∀ b ∈ fp, h'.objs.size ≠ b := fun b hb z => by
        have h1 := (f3 b hb).2
        rw [← z] at h1
        have h1 : h'.objs.size < s3.heap.objs.size := h1
        omega
      exact gen_seg0 T S.co hab (hg _ _ _ _ _) (ht _ _ _ _ _ (hr.in1.in1.deeper _)) (he _ _ _ _ _ (hr.in1.in1.deeper _)) turn (Nat.lt_succ_self m0) (slept_inv I6 hsl) (by rw [hsl.2.2]; exact st5) n3 w0
    · exact I3.call' (ch := fp) I'.os I'.base I'.hok I'.bare fun b hb => ⟨(f3 b hb).1.2.2.2.1, (f3 b hb).1.2.1, (f3 b hb).1.2.2.2.2.1, (f3 b hb).1.2.2.2.2.2⟩
  refine ⟨I2.nolimit, ?_⟩
  cases hf : codeAmong gpos ps.toList with
  | none =>
    refine wpAny_genexprCodeX hcode (cd.code hPs hto) (cd.tab hPs) hf fun c' h' tk hx hge hlt hco' _ htab' _ => ?_
    obtain ⟨o1, vs, f1, tf, fl, tg, inF, tx, tt, op, _, _, _, _, _, _, _, _, _, htr, _⟩ := hco'
    exact cont _ h' tk _ hx (Nat.le_trans hge (Nat.le_of_lt hlt)) htab'.2 htr
  | some cv =>
    refine wpAny_genexprCode_hit hcode (cd.code hPs hto) hf ?_
    exact cont cv s2.heap s2.toks #[] (Heap.ExtBut.refl _ _) (Nat.le_refl _) (by simpa using hPs) (by simpa using hto)
/-- all(.. for .. in ..) -/
theorem pe_allG {cc P : Addr} {elt tg iter : Expr} {ifs : List Expr} {scope : Scope} {own : List (Str × Nat)} {p pos gpos : Pos} {wi : TI} {g : TG} {tt : TT} {te : TE} {k : Nat}
    (hr : Room (k + 3) X.A) (hgl : Gl X "all") (hm : X.mg "all" = none) (TB : LamX.TabB X.base X.mg cc P) (hcode : X.env.code = .ref cc) (S : GSc scope) (ok : BlkOk X.N X.env.scope scope own) (hN : X.N.Nodup) (hi : PI X tg iter wi)
    (hg : ∀ (s : Shared) (H : Hp) (C : Addr) (code : Value) (fp : List Addr), PG (genCx X s H (gEnv X scope C code) fp) tg g) (ht : ∀ (s : Shared) (H : Hp) (C : Addr) (code : Value) (fp : List Addr), Room k (genCx X s H (gEnv X scope C code) fp).A → PTs (genCx X s H (gEnv X scope C code) fp) ifs tt)
    (he : ∀ (s : Shared) (H : Hp) (C : Addr) (code : Value) (fp : List Addr), Room k (genCx X s H (gEnv X scope C code) fp).A → PE (genCx X s H (gEnv X scope C code) fp) elt te) (hb : bootBuiltins "all" = some (.builtin "all") := by rfl) (hs : ∀ v, genFold iter X.env v = pure v := by intro _; rfl)
    (hst : starEach [.GeneratorExp elt [⟨tg, iter, ifs, 0⟩] scope gpos] X.env = (false, eval (.GeneratorExp elt [⟨tg, iter, ifs, 0⟩] scope gpos) X.env) :: starEach [] X.env := by rfl) :
    PE X (.Call (.Name "all" p) [.GeneratorExp elt [⟨tg, iter, ifs, 0⟩] scope gpos] [] pos) (tGx true P wi g tt te (own.map (·.2))) := by
  refine ⟨fun pins s σ H Q I h => ?_⟩
  refine wpAny_Call_Name_kw (ld_blt I hgl hm hb ?_)
  refine PyProof.Rows.callWith_builtin1 ?_ hst (by rfl)
  rw [hst]
  show wpAny _ _ (spliced ((false, eval (.GeneratorExp elt [⟨tg, iter, ifs, 0⟩] scope gpos) X.env) :: backTo pos (starEach [] X.env))) _ _ s
  refine Calls.spliced_cons (gen_made hr TB hcode S ok hN hi hg ht he hs I h fun G a ob gi n s5 hob R back => ?_)
  refine Calls.spliced_nil ?_
  refine call_function_tree F.kind_all F.plain_all F.entry_all (F.args_all1 _) ?_
  unfold Builtin.«all»
  refine wpAny_bind (m := oneArg "all" _) (wpAny_pure ?_)
  refine wpAny_bind (wpAny_pyIter_gen (hob.at R.2.2.1) ?_)
  exact wpAny_pure ⟨plainId_quiet F.plain_all_loop _, all_loop hr hob (fun s' H' I' q => ⟨.bl true, H', back s' H' I', rfl, q⟩) (fun s' H' I' q => ⟨.bl false, H', back s' H' I', rfl, q⟩) n s5 R⟩
/-- any(.. for .. in ..) -/
theorem pe_anyG {cc P : Addr} {elt tg iter : Expr} {ifs : List Expr} {scope : Scope} {own : List (Str × Nat)} {p pos gpos : Pos} {wi : TI} {g : TG} {tt : TT} {te : TE} {k : Nat}
    (hr : Room (k + 3) X.A) (hgl : Gl X "any") (hm : X.mg "any" = none) (TB : LamX.TabB X.base X.mg cc P) (hcode : X.env.code = .ref cc) (S : GSc scope) (ok : BlkOk X.N X.env.scope scope own) (hN : X.N.Nodup) (hi : PI X tg iter wi)
    (hg : ∀ (s : Shared) (H : Hp) (C : Addr) (code : Value) (fp : List Addr), PG (genCx X s H (gEnv X scope C code) fp) tg g) (ht : ∀ (s : Shared) (H : Hp) (C : Addr) (code : Value) (fp : List Addr), Room k (genCx X s H (gEnv X scope C code) fp).A → PTs (genCx X s H (gEnv X scope C code) fp) ifs tt)
    (he : ∀ (s : Shared) (H : Hp) (C : Addr) (code : Value) (fp : List Addr), Room k (genCx X s H (gEnv X scope C code) fp).A → PE (genCx X s H (gEnv X scope C code) fp) elt te) (hs : ∀ v, genFold iter X.env v = pure v := by intro _; rfl)
    (hst : starEach [.GeneratorExp elt [⟨tg, iter, ifs, 0⟩] scope gpos] X.env = (false, eval (.GeneratorExp elt [⟨tg, iter, ifs, 0⟩] scope gpos) X.env) :: starEach [] X.env := by rfl) :
    PE X (.Call (.Name "any" p) [.GeneratorExp elt [⟨tg, iter, ifs, 0⟩] scope gpos] [] pos) (tGx false P wi g tt te (own.map (·.2))) := by
  refine ⟨fun pins s σ H Q I h => ?_⟩
  refine wpAny_Call_Name_kw (ld_blt I hgl hm boot_any ?_)
  refine PyProof.Rows.callWith_builtin1 ?_ hst (by rfl)
  rw [hst]
  show wpAny _ _ (spliced ((false, eval (.GeneratorExp elt [⟨tg, iter, ifs, 0⟩] scope gpos) X.env) :: backTo pos (starEach [] X.env))) _ _ s
  refine Calls.spliced_cons (gen_made hr TB hcode S ok hN hi hg ht he hs I h fun G a ob gi n s5 hob R back => ?_)
  refine Calls.spliced_nil ?_
  refine call_function_tree F.kind_any F.plain_any F.entry_any (F.args_any1 _) ?_
  unfold Builtin.«any»
  refine wpAny_bind (m := oneArg "any" _) (wpAny_pure ?_)
  refine wpAny_bind (wpAny_pyIter_gen (hob.at R.2.2.1) ?_)
  exact wpAny_pure ⟨plainId_quiet F.plain_any_loop _, any_loop hr hob (fun s' H' I' q => ⟨.bl false, H', back s' H' I', rfl, q⟩) (fun s' H' I' q => ⟨.bl true, H', back s' H' I', rfl, q⟩) n s5 R⟩
end
end GxL
namespace Rg
open PySem PySem.Spec PyProof.Rows L2
/-! ### tables of code objects: all the law's tables stand, all else is kept -/
def Tab (Ps : List Addr) (H : Hp) : Prop := ∀ p ∈ Ps, GxR.TabG H p
structure Tk (Ps : List Addr) (H H' : Hp) : Prop where
  tab : Tab Ps H'
  kp : Kp Ps H H'
section
variable {Ps : List Addr} {H H1 H2 : Hp} {a P : Addr} {o : HO}
theorem Tk.refl (t : Tab Ps H) : Tk Ps H H := ⟨t, .refl⟩
theorem Tk.trans (x : Tk Ps H H1) (y : Tk Ps H1 H2) : Tk Ps H H2 := ⟨y.tab, x.kp.trans y.kp⟩
theorem Tab.same (t : Tab Ps H) (s : Same H H1) : Tab Ps H1 := fun p hp => let ⟨ps, e, r⟩ := t p hp; ⟨ps, s _ _ e, r⟩
theorem Tk.of (t : Tab Ps H) (s : Same H H1) : Tk Ps H H1 := ⟨t.same s, .of s⟩
theorem Tk.same (x : Tk Ps H H1) (s : Same H1 H2) : Tk Ps H H2 := x.trans (.of x.tab s)
theorem Tab.new (t : Tab Ps H) (h : H a = none) : Tab Ps (upd H a o) := t.same (same_upd h)
theorem Tk.new (x : Tk Ps H H1) (h : H1 a = none) : Tk Ps H (upd H1 a o) := x.same (same_upd h)
theorem Tab.ne (t : Tab Ps H) (hp : P ∈ Ps) (h : H a = some o) (n : ∀ ps, o ≠ .tbl ps) : a ≠ P := fun z => by
  obtain ⟨ps, e, _⟩ := t P hp
  rw [z, e] at h
  exact n ps (Option.some.inj h).symm
theorem Tab.nin (t : Tab Ps H) (h : H a = some o) (n : ∀ ps, o ≠ .tbl ps) : a ∉ Ps := fun z => t.ne z h n rfl
theorem Tab.ninN (t : Tab Ps H) (h : H a = none) : a ∉ Ps := fun z => by
  obtain ⟨ps, e, _⟩ := t a z
  rw [h] at e
  cases e
/-- what is no table is kept -/
theorem Tk.at (x : Tk Ps H H1) (t : Tab Ps H) (h : H a = some o) (n : ∀ ps, o ≠ .tbl ps := by intro _ z; cases z) : H1 a = some o := x.kp a o h (t.nin h n)
theorem Tk.at' (x : Tk Ps H H1) (h : H a = some o) (n : a ∉ Ps) : H1 a = some o := x.kp a o h n
theorem Tk.free (x : Tk Ps H H1) (h : H1 a = none) : H a = none := x.kp.free (x.tab.ninN h) h
theorem Tab.upd (t : Tab Ps H) (h : H a = some o) (n : ∀ ps, o ≠ .tbl ps) {u : HO} : Tab Ps (upd H a u) := fun p hp => by
  obtain ⟨ps, e, r⟩ := t p hp
  exact ⟨ps, by rw [upd_ne (t.ne hp h n).symm]; exact e, r⟩
/-- one table has grown -/
theorem Tk.tabbed (t : Tab Ps H) (hp : P ∈ Ps) (h : GxR.Tabbed P H H1) : Tk Ps H H1 := by
  refine ⟨fun p q => ?_, fun x o e n => by rw [h.2 x fun z => n (z ▸ hp)]; exact e⟩
  by_cases z : p = P
  · rw [z]; exact h.1
  · obtain ⟨ps, e, r⟩ := t p q
    exact ⟨ps, by rw [h.2 p z]; exact e, r⟩
end
/-! ### all, any: the forms one uses -/
theorem gx_by {c : Bool} {J : It} {g : TG} {tt : TT} {te : TE} {vs : List Nat} {σ : L2.St} {Q : VK} {H2 : Hp} (n : Nat) (Pv : Nat → Hp → Prop) (h0 : Pv 0 H2) (hgo : ∀ i H, i < n → Pv i H → J.go i H) (hstop : ∀ H, Pv n H → J.stop n H)
    (hs : ∀ i x H H', i < n → Pv i H → J.yld i H x H' → g x (wipe σ vs) H' fun σ2 H2 => wipe σ2 vs = wipe σ vs ∧ tt σ2 H2 fun b H3 => if b = true then te σ2 H3 fun y H4 => ∃ k, GxL.TB y k ∧ if k = c then Pv (i + 1) H4 else Q (.bl (!c)) H4 else Pv (i + 1) H3)
    (hd : ∀ H, Pv n H → Q (.bl c) H) : ∃ W : Nat → Nat → Hp → Prop, (∃ m, W 0 m H2) ∧ GxL.GTurn c J g tt te vs σ Q W := by
  refine ⟨fun i m H => m = n - i ∧ i ≤ n ∧ Pv i H, ⟨n, by simp, Nat.zero_le _, h0⟩, ?_⟩
  rintro i m H ⟨rfl, hi, p⟩
  by_cases hlt : i < n
  · exact .inr ⟨hgo i H hlt p, Pv (i + 1), fun H' p' => ⟨n - (i + 1), by omega, rfl, hlt, p'⟩, fun x H' y => hs i x H H' hlt p y⟩
  · have e : i = n := by omega
    subst e
    exact .inl ⟨hstop H p, hd H p⟩
/-- over a list -/
theorem gx_list {K : PySem.W.Frag} {a : Addr} {xs : List V} {c : Bool} {g : TG} {tt : TT} {te : TE} {vs : List Nat} {σ : L2.St} {Q : VK} {H2 : Hp} (Pv : Nat → Hp → Prop) (h0 : Pv 0 H2) (hl : ∀ i H, i ≤ xs.length → Pv i H → SqL K H a xs)
    (hs : ∀ i x H, xs[i]? = some x → Pv i H → g x (wipe σ vs) H fun σ2 H2 => wipe σ2 vs = wipe σ vs ∧ tt σ2 H2 fun b H3 => if b = true then te σ2 H3 fun y H4 => ∃ k, GxL.TB y k ∧ if k = c then Pv (i + 1) H4 else Q (.bl (!c)) H4 else Pv (i + 1) H3)
    (hd : ∀ H, Pv xs.length H → Q (.bl c) H) : ∃ W : Nat → Nat → Hp → Prop, (∃ m, W 0 m H2) ∧ GxL.GTurn c (Itl K a) g tt te vs σ Q W := by
  refine gx_by xs.length Pv h0 (fun i H hi p => ⟨xs, xs[i], hl i H (Nat.le_of_lt hi) p, by simp [hi]⟩) (fun H p => ⟨xs, hl _ H (Nat.le_refl _) p, Nat.le_refl _⟩) (fun i x H H' hi p y => ?_) hd
  obtain ⟨e, y⟩ := y
  subst e
  exact hs i x _ (y xs (hl i _ (Nat.le_of_lt hi) p)) p
/-- over a tuple -/
theorem gx_tup {K : PySem.W.Frag} {a : Addr} {xs : List V} {c : Bool} {g : TG} {tt : TT} {te : TE} {vs : List Nat} {σ : L2.St} {Q : VK} {H2 : Hp} (Pv : Nat → Hp → Prop) (h0 : Pv 0 H2) (hl : ∀ i H, i ≤ xs.length → Pv i H → SqT K H a xs)
    (hs : ∀ i x H, xs[i]? = some x → Pv i H → g x (wipe σ vs) H fun σ2 H2 => wipe σ2 vs = wipe σ vs ∧ tt σ2 H2 fun b H3 => if b = true then te σ2 H3 fun y H4 => ∃ k, GxL.TB y k ∧ if k = c then Pv (i + 1) H4 else Q (.bl (!c)) H4 else Pv (i + 1) H3)
    (hd : ∀ H, Pv xs.length H → Q (.bl c) H) : ∃ W : Nat → Nat → Hp → Prop, (∃ m, W 0 m H2) ∧ GxL.GTurn c (Itt K a) g tt te vs σ Q W := by
  refine gx_by xs.length Pv h0 (fun i H hi p => ⟨xs, xs[i], hl i H (Nat.le_of_lt hi) p, by simp [hi]⟩) (fun H p => ⟨xs, hl _ H (Nat.le_refl _) p, Nat.le_refl _⟩) (fun i x H H' hi p y => ?_) hd
  obtain ⟨e, y⟩ := y
  subst e
  exact hs i x _ (y xs (hl i _ (Nat.le_of_lt hi) p)) p
/-- over the signs of a text -/
theorem gx_str {x : Str} {c : Bool} {g : TG} {tt : TT} {te : TE} {vs : List Nat} {σ : L2.St} {Q : VK} {H2 : Hp} (Pv : Nat → Hp → Prop) (h0 : Pv 0 H2)
    (hs : ∀ i s H, x.cps[i]? = some s → Pv i H → g (.str ⟨#[s]⟩) (wipe σ vs) H fun σ2 H2 => wipe σ2 vs = wipe σ vs ∧ tt σ2 H2 fun b H3 => if b = true then te σ2 H3 fun y H4 => ∃ k, GxL.TB y k ∧ if k = c then Pv (i + 1) H4 else Q (.bl (!c)) H4 else Pv (i + 1) H3)
    (hd : ∀ H, Pv x.cps.size H → Q (.bl c) H) : ∃ W : Nat → Nat → Hp → Prop, (∃ m, W 0 m H2) ∧ GxL.GTurn c (Its x) g tt te vs σ Q W := by
  refine gx_by x.cps.size Pv h0 (fun i H hi p => hi) (fun H p => Nat.le_refl _) (fun i v H H' hi p y => ?_) hd
  obtain ⟨rfl, s, e, rfl⟩ := y
  exact hs i s _ e p
/-- a test of every item by a Bool, nothing changed but the tables: all(f(x) for x in xs), any(..) -/
def allB (c : Bool) {α : Type} (f : α → Bool) (xs : List α) : Bool := if c = true then xs.all f else xs.any f
/-! ### a def whose code object is known -/
section
variable {P : Program} {w : World} {K : PySem.W.Frag} {mg : Str → Option Value} {base : Heap}
theorem fun_okC {x qual : Str} {st : Stmt} {f cc : Addr} {fd : FuncData} {N ps : List Str} {k : Nat} {sp : Sp} (F : Fun K x qual st f fd) (hc : fd.code = .ref cc) (S : FnScope N ps (defScope st)) (len : ∀ vs H Q E, sp vs H Q E → vs.length = ps.length)
    (hbody : ∀ (A : Around) (outer : List Env) (s : Shared) (H : Hp) (vs : List V) (Q : VK) (E : XK), Room k (A.deeper (envOfC qual (defScope st) s.heap.objs.size f (.ref cc))) → sp vs H Q E →
      ∃ t, PSs (cxOf CX0 P w K mg base N qual (defScope st) f (.ref cc) A outer s H E).nox (defBody st) t ∧ t { nx := fun _ H' => Q .non H', rt := Q } (start N vs) H) : FnOk P w K mg base CX0 (k + 1) f fd ps sp := by
  obtain ⟨oc, od, kV, doc, pm, an, cdv, ct, osl, rfl, lk, hcd⟩ := F.ex
  obtain rfl : cdv = .ref cc := hc
  refine fn_of lk hcd S len fun A outer s H vs Q E hr hsp => ?_
  obtain ⟨t, h, q⟩ := hbody A outer s H vs Q E hr hsp
  exact ⟨t, h.nox, q⟩
end
/-! ### the end: a top def's table is empty at the law's entry -/
def TabsOf (q : Program) (mg : Str → Option Value) (h : Heap) : Prop := ∀ d ∈ recsOf q, ∃ a o fd c P, mg d.name = some (.ref a) ∧ h.get? a = some o ∧ o.data = .func fd ∧ fd.code = .ref c ∧ h.IsCode c P #[] ∧ h.TableAt c P #[]
theorem tab_of {q : Program} {K : PySem.W.Frag} {mg : Str → Option Value} {h : Heap} {x : Str} {a c P : Addr} {oc : Value} {od : Option Addr} {osl : Array (Option Value)} {fd : FuncData} (T : TabsOf q mg h) (KX : K.In h) (hx : (recsOf q).any (fun d => d.name == x) = true)
    (hm : mg x = some (.ref a)) (lk : K.lookup a = some ⟨oc, od, .func fd, osl⟩) (hc : fd.code = .ref c) (hh : PySem.W.codeHdIn K c P = true) : h.get? P = some { cls := .none, data := .fields #[] } := by
  obtain ⟨d, hd, e⟩ := List.any_eq_true.mp hx
  have e : d.name = x := by simpa using e
  obtain ⟨a', o, fd', c', P', m1, m2, m3, m4, m5, m6⟩ := T d hd
  rw [e, hm] at m1
  cases m1
  rw [KX _ _ lk] at m2
  cases m2
  cases m3
  rw [hc] at m4
  cases m4
  obtain ⟨o1, vs, _, _, _, _, _, _, _, g1, g2, g3, g4, _⟩ := PySem.W.codeHd_of_K KX hh
  obtain ⟨⟨o2, vs2, f1, f2, f3, f4⟩, f5⟩ := m6
  rw [g1] at f1
  cases f1
  rw [g3] at f3
  cases f3
  rw [g4] at f4
  cases f4
  exact f5
theorem walk_ofG {l : PySem.W.OpenLaw} {n k : Nat} {q : Program} {loose : List Str} {XP : (Str → Option Value) → Heap → Prop} {YP : World → Heap → Prop} {d : DefRec} {K : Params → PySem.W.Frag} {CX : World → CXT} {x : Str}
    (hn : l.most = some n) (hn2 : n ≤ sizeLine) (hdf : d.params.defaults = []) (hr : Room k callerA) (hY : ∀ (w : World) (h : Heap), YP w h → (K w.params).In h)
    (F : ∀ (w : World) (mg : Str → Option Value) (fa : Addr) (h : Heap), TabsOf q mg h → YP w h → (K w.params).In h → h.Ns mainGlobals mg → mg d.name = some (.ref fa) → LamX.LawAtS l w (K w.params) (CX w) k n x mg fa h)
    (hCX : ∀ (w : World) (H : Hp) (s : Shared) (e : Value) (s' : Shared), CX w [] H s (fun _ _ _ => False) e s' → False) :
    PySem.W.WalkO q loose XP YP l.row.toRowW d [] (fun f vs => PySem.call f vs) := by
  refine Att.attach_callB hn hdf fun w s₀ s₁ mg mb fa o pm cd doc a vs ns G Y ho hd hcd hmg hobj hints hlen hbits hg => ?_
  have KX := hY w _ Y
  obtain ⟨fd, cs, sp, hT, nT, C, hb, hsp, hF⟩ := F w mg fa _ G.T.tab Y KX G.T.g hmg
  exact LamX.law_callTs KX G.T.g G.T.b G.T.builtins G.T.nolimit hg hT nT C G.T.bmain hobj hints (Nat.le_trans hlen hn2) hr hF hb (fun H hH hS => hsp H a ns hlen hbits hH hS) fun H e s' => hCX w H s₁ e s'
end Rg
namespace Rg
open PySem PySem.Spec PyProof.Rows L2
/-! ### x is True, x is not False: bools told by value -/
theorem op_isV {X : Cx} : OpR X (compareOp .Is) (fun x y H Q => ∃ a c, x = .bl a ∧ y = .bl c ∧ Q (.bl (decide (a = c))) H) := by
  intro pins s σ H x y v u Q I rx ry h
  obtain ⟨a, c, rfl, rfl, q⟩ := h
  cases rx
  cases ry
  by_cases e : a = c
  · subst e
    rw [decide_eq_true rfl] at q
    exact wpAny_is_self rfl ⟨.bl true, H, I, rfl, q⟩
  · rw [decide_eq_false e] at q
    exact wpAny_is_other rfl (fun z => e (by injection z)) ⟨.bl false, H, I, rfl, q⟩
theorem op_notV {X : Cx} : OpR X (compareOp .IsNot) (fun x y H Q => ∃ a c, x = .bl a ∧ y = .bl c ∧ Q (.bl (!decide (a = c))) H) := by
  intro pins s σ H x y v u Q I rx ry h
  obtain ⟨a, c, rfl, rfl, q⟩ := h
  cases rx
  cases ry
  by_cases e : a = c
  · subst e
    rw [decide_eq_true rfl] at q
    exact wpAny_isNot_self rfl ⟨.bl false, H, I, rfl, q⟩
  · rw [decide_eq_false e] at q
    exact wpAny_isNot_other rfl (fun z => e (by injection z)) ⟨.bl true, H, I, rfl, q⟩
theorem take_snoc {α : Type} {l : List α} {i : Nat} {c : α} (h : l[i]? = some c) : l.take (i + 1) = l.take i ++ [c] := by
  rw [List.take_succ, h]
  rfl
theorem atN {α : Type} {xs : List α} {z : Int} {j : Nat} {v : α} (e : z = (j : Int)) (h : xs[j]? = some v) : atI xs z = some v := by
  subst e
  exact atI_nat h
theorem S_at {l : List Nat} {i c : Nat} (h : (SX.S l).cps[i]? = some c) : l[i]? = some c := by simpa using h
/-! ### a loop over the signs of a text -/
theorem for_str {x : Str} {g : TG} {tb : TS} {D : Ends} {σ : L2.St} {H : Hp} (Pv : Nat → L2.St → Hp → Prop) (h0 : Pv 0 σ H)
    (hs : ∀ i s σ H, x.cps[i]? = some s → Pv i σ H → g (.str ⟨#[s]⟩) σ H fun σ2 H2 => tb { D with nx := Pv (i + 1), ct := Pv (i + 1), bk := D.nx } σ2 H2) (hd : ∀ σ H, Pv x.cps.size σ H → D.nx σ H) :
    ∃ W : Nat → Nat → L2.St → Hp → Prop, (∃ m, W 0 m σ H) ∧ ∀ i m σ H, W i m σ H →
      ((Its x).stop i H ∧ D.nx σ H) ∨ ((Its x).go i H ∧ ∃ N : L2.St → Hp → Prop, (∀ σ' H', N σ' H' → ∃ m', m' < m ∧ W (i + 1) m' σ' H') ∧ ∀ v H', (Its x).yld i H v H' → g v σ H' fun σ2 H2 => tb { D with nx := N, ct := N, bk := D.nx } σ2 H2) := by
  refine ⟨fun i m σ H => m = x.cps.size - i ∧ i ≤ x.cps.size ∧ Pv i σ H, ⟨x.cps.size, by simp, Nat.zero_le _, h0⟩, ?_⟩
  rintro i m σ H ⟨rfl, hi, p⟩
  by_cases hlt : i < x.cps.size
  · refine .inr ⟨hlt, Pv (i + 1), fun σ' H' p' => ⟨x.cps.size - (i + 1), by omega, rfl, hlt, p'⟩, fun v H' y => ?_⟩
    obtain ⟨rfl, s, e, rfl⟩ := y
    exact hs i s σ _ e p
  · have e : i = x.cps.size := by omega
    subst e
    exact .inl ⟨Nat.le_refl _, hd σ H p⟩
end Rg
namespace Rg
open PySem PySem.Spec PyProof.Rows L2
/-! ### t[lo:hi], the whole of t: t itself -/
section
variable {prog : Program} {w : World} {A : Around} {E : Value → Shared → Prop} {s : Shared}
theorem getItem_tuple_all {t sl : Addr} {items : Array Value} {vl vu : Value} {lo hi : Option Int} {Q : Value → Shared → Prop} (ht : IsTup s.heap t items) (hs : s.heap.IsSliceOf sl vl vu .none) (pl : IsPart vl lo) (pu : IsPart vu hi)
    (hw : HT.sIx items.size 0 lo = 0 ∧ HT.sIx items.size items.size hi = items.size) (h : Q (.ref t) s) : wpAny (model prog w) A (getItem (.ref t) (.ref sl)) Q E s := by
  obtain ⟨os, hos, hcs, hds⟩ := id hs
  have hTs : s.TypeIs (.ref sl) "slice" := ⟨os, hos, hcs⟩
  unfold getItem
  try with_reducible refine wpAny_holding ?_
  first | refine wpAny_bind (wpAny_pure ?_) | skip
  refine wpAny_bind (wpAny_sequenceKey ht.typeIs (by decide) ?_)
  refine wpAny_bind (wpAny_callSpecial?_slot (name := Str.ofString "__getitem__") ht.typeIs PyProof.Rows.slot_tuple_getitem
    (wpAny_call_entry PyProof.Rows.slot_tuple_getitem ht.typeIs entry_tuple_getitem ?_ (args_tuple_getitem _ _)))
  show wpAny _ _ (Builtin.Tuple.tupleItemsOf (.ref t) >>= _) _ _ s
  refine wpAny_bind (tupleItemsOf_ ht ?_)
  refine wpAny_bind (wpAny_typeOf hTs ?_)
  rw [if_pos (by decide)]
  refine wpAny_bind (HT.sliceApplied_gen hs pl pu ?_)
  have hyes : (((HT.sIx items.size 0 lo : Nat) : Int) == 0 && (1 : Int) == 1 && (HT.sIx items.size items.size hi - HT.sIx items.size 0 lo) == items.size) = true := by
    rw [hw.1, hw.2]
    simp
  show wpAny _ _ (if (((HT.sIx items.size 0 lo : Nat) : Int) == 0 && (1 : Int) == 1 && (HT.sIx items.size items.size hi - HT.sIx items.size 0 lo) == items.size) = true then _ else _) _ _ s
  rw [if_pos hyes]
  refine wpAny_bind (m := Builtin.Tuple.tupleIsExact _) ?_
  unfold Builtin.Tuple.tupleIsExact
  refine wpAny_bind (wpAny_typeOf ht.typeIs (wpAny_pure ?_))
  show wpAny _ _ (if ((Value.type "tuple" == Value.type "tuple") = true) then _ else _) _ _ s
  rw [if_pos (by decide)]
  refine wpAny_bind (wpAny_rule (wpAny_pure ?_))
  exact ⟨_, rfl, wpAny_pure h⟩
end
/-- the whole of a tuple, by values -/
def rSlTA (K : PySem.W.Frag) : V → Option Int → Option Int → Hp → VK → Prop := fun x lo hi H Q => ∃ a xs, x = .ref a ∧ SqT K H a xs ∧ HT.sIx xs.length 0 lo = 0 ∧ HT.sIx xs.length xs.length hi = xs.length ∧ Q (.ref a) H
theorem sl_tupA {X : Cx} : SlR X (rSlTA X.K) := by
  intro pins s σ H x v vl vu lo hi sl Q I rx hs pl pu h
  obtain ⟨a, xs, rfl, hx, h1, h2, q⟩ := h
  cases rx
  obtain ⟨its, r, ht, hz⟩ := I.tuple hx
  have hlen : its.toArray.size = xs.length := by rw [List.size_toArray]; exact r.length.symm
  refine ⟨"tuple", _, PyProof.Rows.slot_tuple_getitem.lookup, ht.typeIs, ?_⟩
  exact getItem_tuple_all ht hs pl pu (by rw [hlen]; exact ⟨h1, h2⟩) ⟨.ref a, H, I, rfl, q⟩
theorem ixN_at {n : Nat} {z : Int} {i : Nat} (e : z = i) (h : i < n) : ixN n z = some i := by
  subst e
  exact Evl.ixN_nat h
theorem pe_ixTK {X : Cx} {K : PySem.W.Frag} {a b : Expr} {pos : Pos} {ta tb : TE} (ha : PE X a ta) (hb : PE X b tb) (hs : PlainIx b) (hK : X.K = K := by rfl) : PE X (.Subscript a b pos) (tOp (rIxT K) ta tb) := by
  subst hK
  exact pe_ix ix_tup ha hb hs
theorem op_repTK {X : Cx} {K : PySem.W.Frag} (hK : X.K = K := by rfl) : OpR X (binaryOp .Mult) (rRepT K) := by
  subst hK
  exact op_repT
/-! ### what is kept -/
section
variable {K : PySem.W.Frag} {Ps : List Addr} {H H1 : Hp} {a : Addr} {xs : List V}
theorem sameT (e : Same H H1) (h : SqT K H a xs) : SqT K H1 a xs := by
  rcases h with (h | ⟨o, h⟩) | h
  · exact .inl (.inl (e _ _ h))
  · exact .inl (.inr ⟨o, e _ _ h⟩)
  · exact .inr h
theorem Tk.seqT (k : Tk Ps H H1) (t : Tab Ps H) (h : SqT K H a xs) : SqT K H1 a xs := by
  rcases h with (h | ⟨o, h⟩) | h
  · exact .inl (.inl (k.at t h))
  · exact .inl (.inr ⟨o, k.at t h⟩)
  · exact .inr h
theorem Tk.seqL (k : Tk Ps H H1) (t : Tab Ps H) (h : SqL K H a xs) : SqL K H1 a xs := by
  rcases h with (h | ⟨o, h⟩) | h
  · exact .inl (.inl (k.at t h))
  · exact .inl (.inr ⟨o, k.at t h⟩)
  · exact .inr h
/-- what was new is written again -/
theorem Tk.put {o u : HO} (k : Tk Ps H H1) (h : H a = none) (e : H1 a = some o) (n : ∀ ps, o ≠ .tbl ps := by intro _ z; cases z) : Tk Ps H (upd H1 a u) := ⟨k.tab.upd e n, fun b v eb nb => by
  rw [upd_ne (ne_of_none eb h)]
  exact k.kp b v eb nb⟩
theorem tyT (h : SqT K H a xs) : TyX K H (.ref a) (.type "tuple") := by
  rcases h with (h | ⟨o, h⟩) | ⟨o, its, n, e, c, _⟩
  · exact .base (.tup h)
  · exact .fTuple h
  · exact .kTuple e c
end
/-! ### all, any over zip -/
theorem gx_zipL {K : PySem.W.Frag} {a b : Addr} {xs ys : List V} {c : Bool} {g : TG} {tt : TT} {te : TE} {vs : List Nat} {σ : L2.St} {Q : VK} {H2 : Hp} (hl : ys.length ≤ xs.length) (Pv : Nat → Hp → Prop) (h0 : Pv 0 H2) (hq : ∀ i H, Pv i H → SqL K H a xs ∧ SqL K H b ys)
    (hs : ∀ i x y T H, xs[i]? = some x → ys[i]? = some y → Pv i H → H T = none → g (.ref T) (wipe σ vs) (upd H T (.tup [x, y])) fun σ2 H2 => wipe σ2 vs = wipe σ vs ∧ tt σ2 H2 fun b H3 => if b = true then te σ2 H3 fun y H4 => ∃ k, GxL.TB y k ∧ if k = c then Pv (i + 1) H4 else Q (.bl (!c)) H4 else Pv (i + 1) H3)
    (hd : ∀ H, Pv ys.length H → Q (.bl c) H) : ∃ W : Nat → Nat → Hp → Prop, (∃ m, W 0 m H2) ∧ GxL.GTurn c (Itz K a b) g tt te vs σ Q W := by
  refine gx_by ys.length Pv h0 (fun i H hi p => ?_) (fun H p => ⟨xs, ys, (hq _ H p).1, (hq _ H p).2, .inr (Nat.le_refl _)⟩) (fun i x H H' hi p y => ?_) hd
  · exact ⟨xs, ys, xs[i], ys[i], (hq i H p).1, (hq i H p).2, List.getElem?_eq_getElem (by omega), List.getElem?_eq_getElem hi⟩
  · obtain ⟨T, x', y', rfl, hT, rfl, f1, f2⟩ := y
    exact hs i x' y' T H (f1 xs (hq i H p).1) (f2 ys (hq i H p).2) p hT
theorem gx_zipT {K : PySem.W.Frag} {a b : Addr} {xs ys : List V} {c : Bool} {g : TG} {tt : TT} {te : TE} {vs : List Nat} {σ : L2.St} {Q : VK} {H2 : Hp} (hl : ys.length ≤ xs.length) (Pv : Nat → Hp → Prop) (h0 : Pv 0 H2) (hq : ∀ i H, Pv i H → SqT K H a xs ∧ SqT K H b ys)
    (hs : ∀ i x y T H, xs[i]? = some x → ys[i]? = some y → Pv i H → H T = none → g (.ref T) (wipe σ vs) (upd H T (.tup [x, y])) fun σ2 H2 => wipe σ2 vs = wipe σ vs ∧ tt σ2 H2 fun b H3 => if b = true then te σ2 H3 fun y H4 => ∃ k, GxL.TB y k ∧ if k = c then Pv (i + 1) H4 else Q (.bl (!c)) H4 else Pv (i + 1) H3)
    (hd : ∀ H, Pv ys.length H → Q (.bl c) H) : ∃ W : Nat → Nat → Hp → Prop, (∃ m, W 0 m H2) ∧ GxL.GTurn c (RZ.ItzT K a b) g tt te vs σ Q W := by
  refine gx_by ys.length Pv h0 (fun i H hi p => ?_) (fun H p => ⟨xs, ys, (hq _ H p).1, (hq _ H p).2, .inr (Nat.le_refl _)⟩) (fun i x H H' hi p y => ?_) hd
  · exact ⟨xs, ys, xs[i], ys[i], (hq i H p).1, (hq i H p).2, List.getElem?_eq_getElem (by omega), List.getElem?_eq_getElem hi⟩
  · obtain ⟨T, x', y', rfl, hT, rfl, f1, f2⟩ := y
    exact hs i x' y' T H (f1 xs (hq i H p).1) (f2 ys (hq i H p).2) p hT
end Rg
namespace K60
open PySem PySem.Spec PyProof.Rows L2 Rg
/-! ### books of rules, in values -/
def Rs : List Str := ["first", "after", "keep", "numbered", "told"]
def nm : List Str → Nat → List Str
  | [], _ => []
  | r :: t, n => if n % 2 = 1 then r :: nm t (n / 2) else nm t (n / 2)
def ord (B : List Str) : List Str := Rs.filter fun r => decide (r ∈ B)
/-- the weights of the first i rules that B has -/
def wts (B : List Str) (i : Nat) : List Int := ((List.range i).filter fun k => Rs[k]?.any fun r => decide (r ∈ B)).map fun k => (2 : Int) ^ k
def numB (B : List Str) : Int := (wts B 5).sum
theorem Rs_len : Rs.length = 5 := rfl
theorem Rs_nodup : Rs.Nodup := by decide +kernel
theorem nm_sub : ∀ {l : List Str} {n : Nat}, (nm l n).Sublist l
  | [], _ => .slnil
  | r :: t, n => by
    unfold nm
    split
    · exact nm_sub.cons_cons r
    · exact nm_sub.cons r
theorem filt_sub : ∀ {l B : List Str}, l.Nodup → B.Sublist l → (l.filter fun r => decide (r ∈ B)) = B
  | [], B, _, h => by
    cases h
    rfl
  | r :: t, B, hn, h => by
    have hn' := List.nodup_cons.mp hn
    cases h with
    | cons _ h =>
      have : r ∉ B := fun z => hn'.1 (h.subset z)
      rw [List.filter_cons, if_neg (by simpa using this)]
      exact filt_sub hn'.2 h
    | @cons_cons B' _ _ h =>
      rw [List.filter_cons, if_pos (by simp)]
      congr 1
      refine Eq.trans (List.filter_congr fun x hx => ?_) (filt_sub hn'.2 h)
      have : x ≠ r := fun z => hn'.1 (z ▸ hx)
      simp [this]
theorem ord_sub {B : List Str} (h : B.Sublist Rs) : ord B = B := filt_sub Rs_nodup h
theorem ord_subl {B : List Str} : (ord B).Sublist Rs := List.filter_sublist
theorem nm_take_s {l : List Str} {i n : Nat} {r : Str} (h : l[i]? = some r) : nm (l.take (i + 1)) n = nm (l.take i) n ++ if (n / 2 ^ i) % 2 = 1 then [r] else [] := by
  induction l generalizing i n with
  | nil => simp at h
  | cons a t ih =>
    cases i with
    | zero =>
      have : a = r := by simpa using h
      subst this
      simp only [List.take_succ_cons, List.take_zero, Nat.pow_zero, Nat.div_one]
      unfold nm
      split <;> simp [nm]
    | succ i =>
      have h' : t[i]? = some r := by simpa using h
      simp only [List.take_succ_cons]
      unfold nm
      rw [ih h', show n / 2 / 2 ^ i = n / 2 ^ (i + 1) by rw [Nat.div_div_eq_div_mul, Nat.pow_succ, Nat.mul_comm]]
      split <;> rfl
theorem wts_s {B : List Str} {i : Nat} {r : Str} (h : Rs[i]? = some r) : wts B (i + 1) = wts B i ++ if r ∈ B then [(2 : Int) ^ i] else [] := by
  unfold wts
  rw [List.range_succ, List.filter_append, List.map_append]
  congr 1
  by_cases z : r ∈ B
  · rw [if_pos z, List.filter_cons, if_pos (by rw [h]; simpa using z)]
    rfl
  · rw [if_neg z, List.filter_cons, if_neg (by rw [h]; simpa using z)]
    rfl
theorem wts_congr {B B' : List Str} {i : Nat} (h : ∀ r ∈ Rs, r ∈ B ↔ r ∈ B') : wts B i = wts B' i := by
  unfold wts
  congr 1
  refine List.filter_congr fun k _ => ?_
  cases q : Rs[k]? with
  | none => rfl
  | some r => exact decide_eq_decide.mpr (h r (List.mem_of_getElem? q))
theorem mem_ord {B : List Str} {r : Str} : r ∈ ord B ↔ r ∈ Rs ∧ r ∈ B := by
  unfold ord
  rw [List.mem_filter, decide_eq_true_eq]
theorem numB_ord {B : List Str} : numB (ord B) = numB B := by
  unfold numB
  rw [wts_congr fun r hr => ⟨fun h => (mem_ord.mp h).2, fun h => mem_ord.mpr ⟨hr, h⟩⟩]
theorem ord_congr {B B' : List Str} (h : ∀ r ∈ Rs, r ∈ B ↔ r ∈ B') : ord B = ord B' := List.filter_congr fun r hr => decide_eq_decide.mpr (h r hr)
theorem wts_len {B : List Str} {i : Nat} : (wts B i).length ≤ i := by
  unfold wts
  rw [List.length_map]
  exact Nat.le_trans (List.length_filter_le _ _) (by rw [List.length_range]; exact Nat.le_refl _)
theorem nm_len {l : List Str} {n : Nat} : (nm l n).length ≤ l.length := nm_sub.length_le
theorem nm_take_all {n : Nat} : nm (Rs.take 5) n = nm Rs n := rfl
/-- the written form -/
def txB (B : List Str) : Str := if B = [] then "none" else Txt.join " " B
theorem sp1 : TL.tl (" " : Str) = [32] := by decide +kernel
theorem no_sp : ∀ r ∈ Rs, 32 ∉ TL.tl r := by decide +kernel
theorem split_of {L : List Str} (h : L ≠ []) (hs : ∀ p ∈ L, 32 ∉ TL.tl p) : Txt.split (Txt.join " " L) " " = L := TL.split_join sp1 (by decide +kernel) h hs
/-- a list of names that is not a book's -/
theorem not_ord {L : List Str} (h : ¬ L.Sublist Rs) : ord L ≠ L := fun e => h (by rw [← e]; exact ord_subl)
theorem not_mem {L : List Str} {x : Str} (h : x ∈ L) (hx : x ∉ Rs) : ord L ≠ L := not_ord fun z => hx (z.subset h)
theorem not_nodup {L : List Str} (h : ¬ L.Nodup) : ord L ≠ L := not_ord fun z => h (z.nodup Rs_nodup)
/-- a text that is no book's: what its parts are -/
structure BadT (t : Str) (L : List Str) : Prop where
  ne : L ≠ []
  nsp : ∀ p ∈ L, 32 ∉ TL.tl p
  eq : t = Txt.join " " L
  nord : ord L ≠ L
  nnone : L ≠ [("none" : Str)]
  len : t.length ≤ 900
theorem BadT.split {t : Str} {L : List Str} (h : BadT t L) : Txt.split t " " = L := by rw [h.eq, split_of h.ne h.nsp]
theorem BadT.not {t : Str} {L : List Str} (h : BadT t L) : t ≠ "none" := fun e => h.nnone (by rw [← h.split, e]; decide +kernel)
theorem txB_split {B : List Str} (h : B.Sublist Rs) (hn : B ≠ []) : Txt.split (txB B) " " = B := by
  unfold txB
  rw [if_neg hn]
  exact split_of hn fun p hp => no_sp p (h.subset hp)
theorem txB_ne {B : List Str} (h : B.Sublist Rs) (hn : B ≠ []) : txB B ≠ "none" := fun e => by
  have := txB_split h hn
  rw [e] at this
  have e2 : Txt.split ("none" : Str) " " = [("none" : Str)] := by decide +kernel
  rw [e2] at this
  subst this
  exact absurd (h.subset (List.mem_singleton.mpr rfl)) (by decide +kernel)
end K60
namespace K60
open PySem PySem.Spec PyProof.Rows L2 Rg
def top (i : Nat) : Stmt := PySem.Challenge.pw_lotsandties_k60_one_letter.main.body.getD i (.Pass ⟨0, 0, 0, 0⟩)
abbrev s_with : Stmt := top 6
abbrev s_aged : Stmt := top 7
abbrev s_tie_start : Stmt := top 8
abbrev s_tie_letters : Stmt := top 9
abbrev s_make : Stmt := top 10
abbrev s_link : Stmt := top 11
abbrev s_drop : Stmt := top 12
abbrev s_move : Stmt := top 13
abbrev s_out_node : Stmt := top 14
abbrev s_keeps_mark : Stmt := top 15
abbrev s_out_entry : Stmt := top 16
abbrev s_agrees : Stmt := top 17
abbrev s_told : Stmt := top 18
abbrev s_tie_after : Stmt := top 20
abbrev s_tie_bad : Stmt := top 21
abbrev s_numbered_names : Stmt := top 29
abbrev s_Lfeed : Stmt := top 33
abbrev s_Lpick : Stmt := top 34
abbrev s_Lrules : Stmt := top 35
abbrev s_Lletters : Stmt := top 36
abbrev s_Lput : Stmt := top 37
abbrev s_Lelder : Stmt := top 38
abbrev s_Lout : Stmt := top 39
abbrev s_Lnamed : Stmt := top 40
abbrev s_Lafter : Stmt := top 41
abbrev s_Lbad : Stmt := top 42
abbrev s_Lnumber : Stmt := top 43
abbrev s_Lrow : Stmt := top 44
abbrev s_Lsame : Stmt := top 45
abbrev s_Ltruth : Stmt := top 46
abbrev s_Lstanding : Stmt := top 47
abbrev s_law : Stmt := top 48
abbrev s_RuleSet___init__ : Stmt := inClass (top 27) 1
abbrev s_RuleSet___contains__ : Stmt := inClass (top 27) 2
abbrev s_TieBook_of_number : Stmt := inClass (top 31) 2
theorem sc_with : FnScope ["row", "j", "what"] ["row", "j", "what"] (defScope s_with) := ⟨rfl, rfl, rfl, by decide +kernel, rfl, by decide +kernel, by decide +kernel⟩
theorem sc_aged : FnScope ["sign"] ["sign"] (defScope s_aged) := ⟨rfl, rfl, rfl, by decide +kernel, rfl, by decide +kernel, by decide +kernel⟩
theorem sc_tie_start : FnScope ["entries"] ["entries"] (defScope s_tie_start) := ⟨rfl, rfl, rfl, by decide +kernel, rfl, by decide +kernel, by decide +kernel⟩
theorem sc_tie_letters : GScope ["entries", "kind", "j", "i"] ["entries"] (defScope s_tie_letters) := ⟨rfl, rfl, rfl, by decide +kernel, rfl, by decide +kernel, by decide +kernel⟩
theorem sc_make : FnScope ["standing", "letter", "book", "alive", "ties", "record", "marks", "_", "mark", "aged"] ["standing", "letter", "book"] (defScope s_make) := ⟨rfl, rfl, rfl, by decide +kernel, rfl, by decide +kernel, by decide +kernel⟩
theorem sc_link : FnScope ["standing", "letter", "book", "alive", "ties", "record", "marks", "told"] ["standing", "letter", "book"] (defScope s_link) := ⟨rfl, rfl, rfl, by decide +kernel, rfl, by decide +kernel, by decide +kernel⟩
theorem sc_drop : FnScope ["standing", "letter", "book", "_", "ties", "record", "marks", "told", "left"] ["standing", "letter", "book"] (defScope s_drop) := ⟨rfl, rfl, rfl, by decide +kernel, rfl, by decide +kernel, by decide +kernel⟩
theorem sc_move : FnScope ["standing", "letter", "book", "alive", "ties", "record", "marks", "told", "i", "j"] ["standing", "letter", "book"] (defScope s_move) := ⟨rfl, rfl, rfl, by decide +kernel, rfl, by decide +kernel, by decide +kernel⟩
theorem sc_out_node : FnScope ["standing", "letter", "book", "alive", "ties", "_", "marks", "told"] ["standing", "letter", "book"] (defScope s_out_node) := ⟨rfl, rfl, rfl, by decide +kernel, rfl, by decide +kernel, by decide +kernel⟩
theorem sc_keeps_mark : FnScope ["standing", "j", "alive", "ties", "_", "marks", "kept", "tie", "mark"] ["standing", "j"] (defScope s_keeps_mark) := ⟨rfl, rfl, rfl, by decide +kernel, rfl, by decide +kernel, by decide +kernel⟩
theorem sc_out_entry : FnScope ["standing", "letter", "book", "alive", "ties", "record", "marks", "told", "j"] ["standing", "letter", "book"] (defScope s_out_entry) := ⟨rfl, rfl, rfl, by decide +kernel, rfl, by decide +kernel, by decide +kernel⟩
theorem sc_agrees : FnScope ["standing", "alive", "ties", "record", "marks", "_", "tie", "mark"] ["standing"] (defScope s_agrees) := ⟨rfl, rfl, rfl, by decide +kernel, rfl, by decide +kernel, by decide +kernel⟩
theorem sc_told : FnScope ["standing", "letter", "book", "alive", "ties", "record", "marks", "_"] ["standing", "letter", "book"] (defScope s_told) := ⟨rfl, rfl, rfl, by decide +kernel, rfl, by decide +kernel, by decide +kernel⟩
theorem sc_tie_after : FnScope ["standing", "letter", "book", "j", "move"] ["standing", "letter", "book"] (defScope s_tie_after) := ⟨rfl, rfl, rfl, by decide +kernel, rfl, by decide +kernel, by decide +kernel⟩
theorem sc_tie_bad : FnScope ["standing", "book", "_", "record", "marks", "told", "mark"] ["standing", "book"] (defScope s_tie_bad) := ⟨rfl, rfl, rfl, by decide +kernel, rfl, by decide +kernel, by decide +kernel⟩
theorem sc_numbered_names : FnScope ["number", "rules", "k", "rule"] ["number", "rules"] (defScope s_numbered_names) := ⟨rfl, rfl, rfl, by decide +kernel, rfl, by decide +kernel, by decide +kernel⟩
theorem sc_Lfeed : FnScope ["_law_script", "_law_feed_here", "_law_cell", "_law_rest", "_law_k"] ["_law_script"] (defScope s_Lfeed) := ⟨rfl, rfl, rfl, by decide +kernel, rfl, by decide +kernel, by decide +kernel⟩
theorem sc_Lpick : FnScope ["_law_feed_here", "_law_limit"] ["_law_feed_here", "_law_limit"] (defScope s_Lpick) := ⟨rfl, rfl, rfl, by decide +kernel, rfl, by decide +kernel, by decide +kernel⟩
theorem sc_Lrules : FnScope ["_law_number_here", "_law_rules_here", "_law_rest", "_law_name"] ["_law_number_here"] (defScope s_Lrules) := ⟨rfl, rfl, rfl, by decide +kernel, rfl, by decide +kernel, by decide +kernel⟩
theorem sc_Lletters : FnScope ["_law_entries", "_law_letters_here", "_law_kind", "_law_j", "_law_i"] ["_law_entries"] (defScope s_Lletters) := ⟨rfl, rfl, rfl, by decide +kernel, rfl, by decide +kernel, by decide +kernel⟩
theorem sc_Lput : FnScope ["_law_row_here", "_law_at", "_law_part", "_law_parts"] ["_law_row_here", "_law_at", "_law_part"] (defScope s_Lput) := ⟨rfl, rfl, rfl, by decide +kernel, rfl, by decide +kernel, by decide +kernel⟩
theorem sc_Lelder : FnScope ["_law_mark"] ["_law_mark"] (defScope s_Lelder) := ⟨rfl, rfl, rfl, by decide +kernel, rfl, by decide +kernel, by decide +kernel⟩
theorem sc_Lout : FnScope ["_law_standing_here", "_law_j", "_law_rules_here", "_law_alive", "_law_ties", "_law_record", "_law_marks", "_law_told", "_law_other", "_law_i"] ["_law_standing_here", "_law_j", "_law_rules_here"] (defScope s_Lout) := ⟨rfl, rfl, rfl, by decide +kernel, rfl, by decide +kernel, by decide +kernel⟩
theorem sc_Lnamed : FnScope ["_law_standing_here", "_law_letter", "_law_rules_here", "_law_alive", "_law_ties", "_law_record", "_law_marks", "_law_told", "_law_j", "_law_mark", "_law_left"] ["_law_standing_here", "_law_letter", "_law_rules_here"] (defScope s_Lnamed) := ⟨rfl, rfl, rfl, by decide +kernel, rfl, by decide +kernel, by decide +kernel⟩
theorem sc_Lafter : FnScope ["_law_standing_here", "_law_letter", "_law_rules_here", "_law_alive", "_law_ties", "_law_record", "_law_marks", "_law_told", "_law_due", "_law_j"] ["_law_standing_here", "_law_letter", "_law_rules_here"] (defScope s_Lafter) := ⟨rfl, rfl, rfl, by decide +kernel, rfl, by decide +kernel, by decide +kernel⟩
theorem sc_Lbad : FnScope ["_law_standing_here", "_law_rules_here", "_law_alive", "_law_ties", "_law_record", "_law_marks", "_law_told", "_law_mark"] ["_law_standing_here", "_law_rules_here"] (defScope s_Lbad) := ⟨rfl, rfl, rfl, by decide +kernel, rfl, by decide +kernel, by decide +kernel⟩
theorem sc_Lnumber : FnScope ["_law_actual", "_law_due"] ["_law_actual", "_law_due"] (defScope s_Lnumber) := ⟨rfl, rfl, rfl, by decide +kernel, rfl, by decide +kernel, by decide +kernel⟩
theorem sc_Lrow : FnScope ["_law_actual", "_law_due", "_law_k"] ["_law_actual", "_law_due"] (defScope s_Lrow) := ⟨rfl, rfl, rfl, by decide +kernel, rfl, by decide +kernel, by decide +kernel⟩
theorem sc_Lsame : FnScope ["_law_actual", "_law_due"] ["_law_actual", "_law_due"] (defScope s_Lsame) := ⟨rfl, rfl, rfl, by decide +kernel, rfl, by decide +kernel, by decide +kernel⟩
theorem sc_Ltruth : FnScope ["_law_actual", "_law_due"] ["_law_actual", "_law_due"] (defScope s_Ltruth) := ⟨rfl, rfl, rfl, by decide +kernel, rfl, by decide +kernel, by decide +kernel⟩
theorem sc_Lstanding : FnScope ["_law_feed_here", "_law_entries", "_law_alive", "_law_told", "_law_record", "_law_ties", "_law_marks", "_law_j", "_law_at"] ["_law_feed_here", "_law_entries"] (defScope s_Lstanding) := ⟨rfl, rfl, rfl, by decide +kernel, rfl, by decide +kernel, by decide +kernel⟩
theorem sc_law : FnScope ["_law_script", "_law_feed_here", "_law_entries", "_law_number_here", "_law_rules_here", "_law_book", "_law_standing_here", "_law_due", "_law_letters_here", "_law_k", "_law_reached", "_law_letter"] ["_law_script"] (defScope s_law) := ⟨rfl, rfl, rfl, by decide +kernel, rfl, by decide +kernel, by decide +kernel⟩
theorem sc_RuleSet___init__ : FnScope ["self", "names", "name", "rule", "k"] ["self", "names"] (defScope s_RuleSet___init__) := ⟨rfl, rfl, rfl, by decide +kernel, rfl, by decide +kernel, by decide +kernel⟩
theorem sc_RuleSet___contains__ : FnScope ["self", "name"] ["self", "name"] (defScope s_RuleSet___contains__) := ⟨rfl, rfl, rfl, by decide +kernel, rfl, by decide +kernel, by decide +kernel⟩
theorem sc_TieBook_of_number : FnScope ["number"] ["number"] (defScope s_TieBook_of_number) := ⟨rfl, rfl, rfl, by decide +kernel, rfl, by decide +kernel, by decide +kernel⟩

structure Tx (K : PySem.W.Frag) (mg : Str → Option Value) where
  f_with : Addr
  fd_with : FuncData
  F_with : Fun K "_with" "_with" s_with f_with fd_with
  mg_with : mg "_with" = some (.ref f_with)
  f_aged : Addr
  fd_aged : FuncData
  F_aged : Fun K "_aged" "_aged" s_aged f_aged fd_aged
  mg_aged : mg "_aged" = some (.ref f_aged)
  f_tie_start : Addr
  fd_tie_start : FuncData
  F_tie_start : Fun K "tie_start" "tie_start" s_tie_start f_tie_start fd_tie_start
  mg_tie_start : mg "tie_start" = some (.ref f_tie_start)
  f_tie_letters : Addr
  fd_tie_letters : FuncData
  F_tie_letters : Fun K "tie_letters" "tie_letters" s_tie_letters f_tie_letters fd_tie_letters
  mg_tie_letters : mg "tie_letters" = some (.ref f_tie_letters)
  f_make : Addr
  fd_make : FuncData
  F_make : Fun K "_make" "_make" s_make f_make fd_make
  mg_make : mg "_make" = some (.ref f_make)
  cc_make : Addr
  P_make : Addr
  code_make : fd_make.code = .ref cc_make
  ch_make : PySem.W.codeHdIn K cc_make P_make = true
  cn_make : K.lookup P_make = none
  f_link : Addr
  fd_link : FuncData
  F_link : Fun K "_link" "_link" s_link f_link fd_link
  mg_link : mg "_link" = some (.ref f_link)
  f_drop : Addr
  fd_drop : FuncData
  F_drop : Fun K "_drop" "_drop" s_drop f_drop fd_drop
  mg_drop : mg "_drop" = some (.ref f_drop)
  f_move : Addr
  fd_move : FuncData
  F_move : Fun K "_move" "_move" s_move f_move fd_move
  mg_move : mg "_move" = some (.ref f_move)
  f_out_node : Addr
  fd_out_node : FuncData
  F_out_node : Fun K "_out_node" "_out_node" s_out_node f_out_node fd_out_node
  mg_out_node : mg "_out_node" = some (.ref f_out_node)
  f_keeps_mark : Addr
  fd_keeps_mark : FuncData
  F_keeps_mark : Fun K "_keeps_mark" "_keeps_mark" s_keeps_mark f_keeps_mark fd_keeps_mark
  mg_keeps_mark : mg "_keeps_mark" = some (.ref f_keeps_mark)
  cc_keeps_mark : Addr
  P_keeps_mark : Addr
  code_keeps_mark : fd_keeps_mark.code = .ref cc_keeps_mark
  ch_keeps_mark : PySem.W.codeHdIn K cc_keeps_mark P_keeps_mark = true
  cn_keeps_mark : K.lookup P_keeps_mark = none
  f_out_entry : Addr
  fd_out_entry : FuncData
  F_out_entry : Fun K "_out_entry" "_out_entry" s_out_entry f_out_entry fd_out_entry
  mg_out_entry : mg "_out_entry" = some (.ref f_out_entry)
  f_agrees : Addr
  fd_agrees : FuncData
  F_agrees : Fun K "_agrees" "_agrees" s_agrees f_agrees fd_agrees
  mg_agrees : mg "_agrees" = some (.ref f_agrees)
  cc_agrees : Addr
  P_agrees : Addr
  code_agrees : fd_agrees.code = .ref cc_agrees
  ch_agrees : PySem.W.codeHdIn K cc_agrees P_agrees = true
  cn_agrees : K.lookup P_agrees = none
  f_told : Addr
  fd_told : FuncData
  F_told : Fun K "_told" "_told" s_told f_told fd_told
  mg_told : mg "_told" = some (.ref f_told)
  f_tie_after : Addr
  fd_tie_after : FuncData
  F_tie_after : Fun K "tie_after" "tie_after" s_tie_after f_tie_after fd_tie_after
  mg_tie_after : mg "tie_after" = some (.ref f_tie_after)
  cc_tie_after : Addr
  P_tie_after : Addr
  code_tie_after : fd_tie_after.code = .ref cc_tie_after
  ch_tie_after : PySem.W.codeHdIn K cc_tie_after P_tie_after = true
  cn_tie_after : K.lookup P_tie_after = none
  f_tie_bad : Addr
  fd_tie_bad : FuncData
  F_tie_bad : Fun K "tie_bad" "tie_bad" s_tie_bad f_tie_bad fd_tie_bad
  mg_tie_bad : mg "tie_bad" = some (.ref f_tie_bad)
  cc_tie_bad : Addr
  P_tie_bad : Addr
  code_tie_bad : fd_tie_bad.code = .ref cc_tie_bad
  ch_tie_bad : PySem.W.codeHdIn K cc_tie_bad P_tie_bad = true
  cn_tie_bad : K.lookup P_tie_bad = none
  f_numbered_names : Addr
  fd_numbered_names : FuncData
  F_numbered_names : Fun K "numbered_names" "numbered_names" s_numbered_names f_numbered_names fd_numbered_names
  mg_numbered_names : mg "numbered_names" = some (.ref f_numbered_names)
  f_Lfeed : Addr
  fd_Lfeed : FuncData
  F_Lfeed : Fun K "_law_feed" "_law_feed" s_Lfeed f_Lfeed fd_Lfeed
  mg_Lfeed : mg "_law_feed" = some (.ref f_Lfeed)
  f_Lpick : Addr
  fd_Lpick : FuncData
  F_Lpick : Fun K "_law_pick" "_law_pick" s_Lpick f_Lpick fd_Lpick
  mg_Lpick : mg "_law_pick" = some (.ref f_Lpick)
  f_Lrules : Addr
  fd_Lrules : FuncData
  F_Lrules : Fun K "_law_rules" "_law_rules" s_Lrules f_Lrules fd_Lrules
  mg_Lrules : mg "_law_rules" = some (.ref f_Lrules)
  f_Lletters : Addr
  fd_Lletters : FuncData
  F_Lletters : Fun K "_law_letters" "_law_letters" s_Lletters f_Lletters fd_Lletters
  mg_Lletters : mg "_law_letters" = some (.ref f_Lletters)
  f_Lput : Addr
  fd_Lput : FuncData
  F_Lput : Fun K "_law_put" "_law_put" s_Lput f_Lput fd_Lput
  mg_Lput : mg "_law_put" = some (.ref f_Lput)
  f_Lelder : Addr
  fd_Lelder : FuncData
  F_Lelder : Fun K "_law_elder" "_law_elder" s_Lelder f_Lelder fd_Lelder
  mg_Lelder : mg "_law_elder" = some (.ref f_Lelder)
  f_Lout : Addr
  fd_Lout : FuncData
  F_Lout : Fun K "_law_out" "_law_out" s_Lout f_Lout fd_Lout
  mg_Lout : mg "_law_out" = some (.ref f_Lout)
  f_Lnamed : Addr
  fd_Lnamed : FuncData
  F_Lnamed : Fun K "_law_named" "_law_named" s_Lnamed f_Lnamed fd_Lnamed
  mg_Lnamed : mg "_law_named" = some (.ref f_Lnamed)
  f_Lafter : Addr
  fd_Lafter : FuncData
  F_Lafter : Fun K "_law_after" "_law_after" s_Lafter f_Lafter fd_Lafter
  mg_Lafter : mg "_law_after" = some (.ref f_Lafter)
  f_Lbad : Addr
  fd_Lbad : FuncData
  F_Lbad : Fun K "_law_bad" "_law_bad" s_Lbad f_Lbad fd_Lbad
  mg_Lbad : mg "_law_bad" = some (.ref f_Lbad)
  f_Lnumber : Addr
  fd_Lnumber : FuncData
  F_Lnumber : Fun K "_law_number" "_law_number" s_Lnumber f_Lnumber fd_Lnumber
  mg_Lnumber : mg "_law_number" = some (.ref f_Lnumber)
  f_Lrow : Addr
  fd_Lrow : FuncData
  F_Lrow : Fun K "_law_row" "_law_row" s_Lrow f_Lrow fd_Lrow
  mg_Lrow : mg "_law_row" = some (.ref f_Lrow)
  f_Lsame : Addr
  fd_Lsame : FuncData
  F_Lsame : Fun K "_law_same" "_law_same" s_Lsame f_Lsame fd_Lsame
  mg_Lsame : mg "_law_same" = some (.ref f_Lsame)
  f_Ltruth : Addr
  fd_Ltruth : FuncData
  F_Ltruth : Fun K "_law_truth" "_law_truth" s_Ltruth f_Ltruth fd_Ltruth
  mg_Ltruth : mg "_law_truth" = some (.ref f_Ltruth)
  f_Lstanding : Addr
  fd_Lstanding : FuncData
  F_Lstanding : Fun K "_law_standing" "_law_standing" s_Lstanding f_Lstanding fd_Lstanding
  mg_Lstanding : mg "_law_standing" = some (.ref f_Lstanding)
  f_law : Addr
  fd_law : FuncData
  F_law : Fun K "law" "law" s_law f_law fd_law
  mg_law : mg "law" = some (.ref f_law)
  f_RuleSet___init__ : Addr
  fd_RuleSet___init__ : FuncData
  F_RuleSet___init__ : Fun K "__init__" "RuleSet.__init__" s_RuleSet___init__ f_RuleSet___init__ fd_RuleSet___init__
  f_RuleSet___contains__ : Addr
  fd_RuleSet___contains__ : FuncData
  F_RuleSet___contains__ : Fun K "__contains__" "RuleSet.__contains__" s_RuleSet___contains__ f_RuleSet___contains__ fd_RuleSet___contains__
  f_TieBook_of_number : Addr
  fd_TieBook_of_number : FuncData
  F_TieBook_of_number : Fun K "of_number" "TieBook.of_number" s_TieBook_of_number f_TieBook_of_number fd_TieBook_of_number
  C_TieBook : Addr
  mg_TieBook : mg "TieBook" = some (.ref C_TieBook)
  cl_TieBook : Cls K C_TieBook
  na_TieBook_names : NoAttr K C_TieBook "names"
  na_TieBook_number : NoAttr K C_TieBook "number"
  mc_TieBook : Value
  cr_TieBook : ClX.CRead K C_TieBook mc_TieBook
  tA_TieBook_RULES : Addr
  tt_TieBook_RULES : ∀ H : Hp, SqT K H tA_TieBook_RULES [.str "first", .str "after", .str "keep", .str "numbered", .str "told"]
  tv_TieBook_RULES : ClX.CVal K C_TieBook mc_TieBook "RULES" (.ref tA_TieBook_RULES) (.ref tA_TieBook_RULES)
  tc_TieBook_RULES : Con K C_TieBook "RULES" (.ref tA_TieBook_RULES) (.ref tA_TieBook_RULES)
  sm_TieBook_of_number : SMet K C_TieBook mc_TieBook "of_number" f_TieBook_of_number
  C_BadValue : Addr
  mg_BadValue : mg "BadValue" = some (.ref C_BadValue)
  be_BadValue : PySem.W.subIn K (.ref C_BadValue) (.type "BaseException") = some true
  te_BadValue : PySem.W.typeIn K (.ref C_BadValue) = some (.type "type")
  ie_BadValue : PySem.W.isClsIn K C_BadValue = true
  xe_BadValue : PySem.W.excIn K C_BadValue [.type "ValueError", .type "Exception", .type "BaseException", .type "object"] "ValueError.__new__" = true
  ke_BadValue : PySem.W.keepIn K (.ref C_BadValue) = true
  ec_BadValue : ExcC K C_BadValue
  c_UNRECORDED : ∃ t, mg "UNRECORDED" = some (.str "u" t)
  c_NONE : ∃ t, mg "NONE" = some (.str "-" t)
  c_NEW : ∃ t, mg "NEW" = some (.str "n" t)
  c_OLD : ∃ t, mg "OLD" = some (.str "o" t)
  gA_MOVES : Addr
  gg_MOVES : mg "MOVES" = some (.ref gA_MOVES)
  gd_MOVES_make : PySem.W.nsIn K gA_MOVES "make" = some (some (.ref f_make))
  gd_MOVES_link : PySem.W.nsIn K gA_MOVES "link" = some (some (.ref f_link))
  gd_MOVES_drop : PySem.W.nsIn K gA_MOVES "drop" = some (some (.ref f_drop))
  gd_MOVES_move : PySem.W.nsIn K gA_MOVES "move" = some (some (.ref f_move))
  gd_MOVES_out_node : PySem.W.nsIn K gA_MOVES "out_node" = some (some (.ref f_out_node))
  gd_MOVES_out_entry : PySem.W.nsIn K gA_MOVES "out_entry" = some (some (.ref f_out_entry))
  gd_MOVES_told : PySem.W.nsIn K gA_MOVES "told" = some (some (.ref f_told))
  mk_TieBook : Mk K C_TieBook f_RuleSet___init__
  bm_contains : Meth K C_TieBook "__contains__" f_RuleSet___contains__
  b_abs : mg "abs" = none
  b_all : mg "all" = none
  b_any : mg "any" = none
  b_bool : mg "bool" = none
  b_enumerate : mg "enumerate" = none
  b_int : mg "int" = none
  b_isinstance : mg "isinstance" = none
  b_len : mg "len" = none
  b_list : mg "list" = none
  b_range : mg "range" = none
  b_str : mg "str" = none
  b_sum : mg "sum" = none
  b_tuple : mg "tuple" = none
  b_zip : mg "zip" = none
/-- the written dicts, in a world -/
structure Tw {K : PySem.W.Frag} {mg : Str → Option Value} (T : Tx K mg) (w : World) : Prop where
  kd_MOVES : ∃ es n, KDict K w T.gA_MOVES es n
/-- the defs that make generators: their tables -/
structure TBs {K : PySem.W.Frag} {mg : Str → Option Value} (T : Tx K mg) (base : Heap) : Prop where
  t_make : LamX.TabB base mg T.cc_make T.P_make
  t_keeps_mark : LamX.TabB base mg T.cc_keeps_mark T.P_keeps_mark
  t_agrees : LamX.TabB base mg T.cc_agrees T.P_agrees
  t_tie_after : LamX.TabB base mg T.cc_tie_after T.P_tie_after
  t_tie_bad : LamX.TabB base mg T.cc_tie_bad T.P_tie_bad
def Tx.Ps {K : PySem.W.Frag} {mg : Str → Option Value} (T : Tx K mg) : List Addr := [T.P_make, T.P_keeps_mark, T.P_agrees, T.P_tie_after, T.P_tie_bad]
theorem Tx.in_make {K : PySem.W.Frag} {mg : Str → Option Value} (T : Tx K mg) : T.P_make ∈ T.Ps := by simp [Tx.Ps]
theorem Tx.in_keeps_mark {K : PySem.W.Frag} {mg : Str → Option Value} (T : Tx K mg) : T.P_keeps_mark ∈ T.Ps := by simp [Tx.Ps]
theorem Tx.in_agrees {K : PySem.W.Frag} {mg : Str → Option Value} (T : Tx K mg) : T.P_agrees ∈ T.Ps := by simp [Tx.Ps]
theorem Tx.in_tie_after {K : PySem.W.Frag} {mg : Str → Option Value} (T : Tx K mg) : T.P_tie_after ∈ T.Ps := by simp [Tx.Ps]
theorem Tx.in_tie_bad {K : PySem.W.Frag} {mg : Str → Option Value} (T : Tx K mg) : T.P_tie_bad ∈ T.Ps := by simp [Tx.Ps]

section
variable {P : Program} {w : World} {K : PySem.W.Frag} {mg : Str → Option Value} {base : Heap}
theorem b_with (T : Tx K mg) : Binds K T.fd_with ["row", "j", "what"] [] := T.F_with.binds (ps := ["row", "j", "what"]) fun _ _ _ _ _ _ us hl => match us, hl with | [_, _, _], _ => rfl
theorem b_aged (T : Tx K mg) : Binds K T.fd_aged ["sign"] [] := T.F_aged.binds (ps := ["sign"]) fun _ _ _ _ _ _ us hl => match us, hl with | [_], _ => rfl
theorem b_tie_start (T : Tx K mg) : Binds K T.fd_tie_start ["entries"] [] := T.F_tie_start.binds (ps := ["entries"]) fun _ _ _ _ _ _ us hl => match us, hl with | [_], _ => rfl
theorem b_tie_letters (T : Tx K mg) : Binds K T.fd_tie_letters ["entries"] [] := T.F_tie_letters.binds (ps := ["entries"]) fun _ _ _ _ _ _ us hl => match us, hl with | [_], _ => rfl
theorem b_make (T : Tx K mg) : Binds K T.fd_make ["standing", "letter", "book"] [] := T.F_make.binds (ps := ["standing", "letter", "book"]) fun _ _ _ _ _ _ us hl => match us, hl with | [_, _, _], _ => rfl
theorem b_link (T : Tx K mg) : Binds K T.fd_link ["standing", "letter", "book"] [] := T.F_link.binds (ps := ["standing", "letter", "book"]) fun _ _ _ _ _ _ us hl => match us, hl with | [_, _, _], _ => rfl
theorem b_drop (T : Tx K mg) : Binds K T.fd_drop ["standing", "letter", "book"] [] := T.F_drop.binds (ps := ["standing", "letter", "book"]) fun _ _ _ _ _ _ us hl => match us, hl with | [_, _, _], _ => rfl
theorem b_move (T : Tx K mg) : Binds K T.fd_move ["standing", "letter", "book"] [] := T.F_move.binds (ps := ["standing", "letter", "book"]) fun _ _ _ _ _ _ us hl => match us, hl with | [_, _, _], _ => rfl
theorem b_out_node (T : Tx K mg) : Binds K T.fd_out_node ["standing", "letter", "book"] [] := T.F_out_node.binds (ps := ["standing", "letter", "book"]) fun _ _ _ _ _ _ us hl => match us, hl with | [_, _, _], _ => rfl
theorem b_keeps_mark (T : Tx K mg) : Binds K T.fd_keeps_mark ["standing", "j"] [] := T.F_keeps_mark.binds (ps := ["standing", "j"]) fun _ _ _ _ _ _ us hl => match us, hl with | [_, _], _ => rfl
theorem b_out_entry (T : Tx K mg) : Binds K T.fd_out_entry ["standing", "letter", "book"] [] := T.F_out_entry.binds (ps := ["standing", "letter", "book"]) fun _ _ _ _ _ _ us hl => match us, hl with | [_, _, _], _ => rfl
theorem b_agrees (T : Tx K mg) : Binds K T.fd_agrees ["standing"] [] := T.F_agrees.binds (ps := ["standing"]) fun _ _ _ _ _ _ us hl => match us, hl with | [_], _ => rfl
theorem b_told (T : Tx K mg) : Binds K T.fd_told ["standing", "letter", "book"] [] := T.F_told.binds (ps := ["standing", "letter", "book"]) fun _ _ _ _ _ _ us hl => match us, hl with | [_, _, _], _ => rfl
theorem b_tie_after (T : Tx K mg) : Binds K T.fd_tie_after ["standing", "letter", "book"] [] := T.F_tie_after.binds (ps := ["standing", "letter", "book"]) fun _ _ _ _ _ _ us hl => match us, hl with | [_, _, _], _ => rfl
theorem b_tie_bad (T : Tx K mg) : Binds K T.fd_tie_bad ["standing", "book"] [] := T.F_tie_bad.binds (ps := ["standing", "book"]) fun _ _ _ _ _ _ us hl => match us, hl with | [_, _], _ => rfl
theorem b_numbered_names (T : Tx K mg) : Binds K T.fd_numbered_names ["number", "rules"] [] := T.F_numbered_names.binds (ps := ["number", "rules"]) fun _ _ _ _ _ _ us hl => match us, hl with | [_, _], _ => rfl
theorem b_Lfeed (T : Tx K mg) : Binds K T.fd_Lfeed ["_law_script"] [] := T.F_Lfeed.binds (ps := ["_law_script"]) fun _ _ _ _ _ _ us hl => match us, hl with | [_], _ => rfl
theorem b_Lpick (T : Tx K mg) : Binds K T.fd_Lpick ["_law_feed_here", "_law_limit"] [] := T.F_Lpick.binds (ps := ["_law_feed_here", "_law_limit"]) fun _ _ _ _ _ _ us hl => match us, hl with | [_, _], _ => rfl
theorem b_Lrules (T : Tx K mg) : Binds K T.fd_Lrules ["_law_number_here"] [] := T.F_Lrules.binds (ps := ["_law_number_here"]) fun _ _ _ _ _ _ us hl => match us, hl with | [_], _ => rfl
theorem b_Lletters (T : Tx K mg) : Binds K T.fd_Lletters ["_law_entries"] [] := T.F_Lletters.binds (ps := ["_law_entries"]) fun _ _ _ _ _ _ us hl => match us, hl with | [_], _ => rfl
theorem b_Lput (T : Tx K mg) : Binds K T.fd_Lput ["_law_row_here", "_law_at", "_law_part"] [] := T.F_Lput.binds (ps := ["_law_row_here", "_law_at", "_law_part"]) fun _ _ _ _ _ _ us hl => match us, hl with | [_, _, _], _ => rfl
theorem b_Lelder (T : Tx K mg) : Binds K T.fd_Lelder ["_law_mark"] [] := T.F_Lelder.binds (ps := ["_law_mark"]) fun _ _ _ _ _ _ us hl => match us, hl with | [_], _ => rfl
theorem b_Lout (T : Tx K mg) : Binds K T.fd_Lout ["_law_standing_here", "_law_j", "_law_rules_here"] [] := T.F_Lout.binds (ps := ["_law_standing_here", "_law_j", "_law_rules_here"]) fun _ _ _ _ _ _ us hl => match us, hl with | [_, _, _], _ => rfl
theorem b_Lnamed (T : Tx K mg) : Binds K T.fd_Lnamed ["_law_standing_here", "_law_letter", "_law_rules_here"] [] := T.F_Lnamed.binds (ps := ["_law_standing_here", "_law_letter", "_law_rules_here"]) fun _ _ _ _ _ _ us hl => match us, hl with | [_, _, _], _ => rfl
theorem b_Lafter (T : Tx K mg) : Binds K T.fd_Lafter ["_law_standing_here", "_law_letter", "_law_rules_here"] [] := T.F_Lafter.binds (ps := ["_law_standing_here", "_law_letter", "_law_rules_here"]) fun _ _ _ _ _ _ us hl => match us, hl with | [_, _, _], _ => rfl
theorem b_Lbad (T : Tx K mg) : Binds K T.fd_Lbad ["_law_standing_here", "_law_rules_here"] [] := T.F_Lbad.binds (ps := ["_law_standing_here", "_law_rules_here"]) fun _ _ _ _ _ _ us hl => match us, hl with | [_, _], _ => rfl
theorem b_Lnumber (T : Tx K mg) : Binds K T.fd_Lnumber ["_law_actual", "_law_due"] [] := T.F_Lnumber.binds (ps := ["_law_actual", "_law_due"]) fun _ _ _ _ _ _ us hl => match us, hl with | [_, _], _ => rfl
theorem b_Lrow (T : Tx K mg) : Binds K T.fd_Lrow ["_law_actual", "_law_due"] [] := T.F_Lrow.binds (ps := ["_law_actual", "_law_due"]) fun _ _ _ _ _ _ us hl => match us, hl with | [_, _], _ => rfl
theorem b_Lsame (T : Tx K mg) : Binds K T.fd_Lsame ["_law_actual", "_law_due"] [] := T.F_Lsame.binds (ps := ["_law_actual", "_law_due"]) fun _ _ _ _ _ _ us hl => match us, hl with | [_, _], _ => rfl
theorem b_Ltruth (T : Tx K mg) : Binds K T.fd_Ltruth ["_law_actual", "_law_due"] [] := T.F_Ltruth.binds (ps := ["_law_actual", "_law_due"]) fun _ _ _ _ _ _ us hl => match us, hl with | [_, _], _ => rfl
theorem b_Lstanding (T : Tx K mg) : Binds K T.fd_Lstanding ["_law_feed_here", "_law_entries"] [] := T.F_Lstanding.binds (ps := ["_law_feed_here", "_law_entries"]) fun _ _ _ _ _ _ us hl => match us, hl with | [_, _], _ => rfl
theorem b_law (T : Tx K mg) : Binds K T.fd_law ["_law_script"] [] := T.F_law.binds (ps := ["_law_script"]) fun _ _ _ _ _ _ us hl => match us, hl with | [_], _ => rfl
theorem b_RuleSet___init__ (T : Tx K mg) : Binds K T.fd_RuleSet___init__ ["self", "names"] [] := T.F_RuleSet___init__.binds (ps := ["self", "names"]) fun _ _ _ _ _ _ us hl => match us, hl with | [_, _], _ => rfl
theorem b_RuleSet___contains__ (T : Tx K mg) : Binds K T.fd_RuleSet___contains__ ["self", "name"] [] := T.F_RuleSet___contains__.binds (ps := ["self", "name"]) fun _ _ _ _ _ _ us hl => match us, hl with | [_, _], _ => rfl
theorem b_TieBook_of_number (T : Tx K mg) : Binds K T.fd_TieBook_of_number ["number"] [] := T.F_TieBook_of_number.binds (ps := ["number"]) fun _ _ _ _ _ _ us hl => match us, hl with | [_], _ => rfl
end
end K60
namespace K60
open PySem PySem.Spec PyProof.Rows L2 Rg
section
variable {P : Program} {w : World} {K : PySem.W.Frag} {mg : Str → Option Value} {base : Heap}
/-! ### _law_pick -/
def sp_Lpick : Sp := fun vs H Q _ => ∃ (p : Addr) (fs : List Int) (lim : Int), vs = [.ref p, .int lim] ∧ H p = some (.lst (fs.map V.int)) ∧ 0 < lim ∧
  ∀ (r : Int) (fs' : List Int), 0 ≤ r → r < lim → fs'.length ≤ fs.length → Q (.int r) (upd H p (.lst (fs'.map V.int)))
theorem ok_Lpick (T : Tx K mg) : FnOk P w K mg base CX0 1 T.f_Lpick T.fd_Lpick ["_law_feed_here", "_law_limit"] sp_Lpick := by
  refine T.F_Lpick.ok sc_Lpick (fun vs H Q E h => ?_) (fun cdv A outer s H vs Q E hr h => ?_)
  · obtain ⟨p, fs, lim, rfl, _⟩ := h
    rfl
  · obtain ⟨p, fs, lim, rfl, hp, hl, k⟩ := h
    refine ⟨_, (pss_cons (ps_if (pt_cmpR op_eq (pe_callB call_len_seq rfl T.b_len (by decide +kernel) (pa_cons (pv 0) pa_nil)) pe_int (nomark _))
        (pss_one (ps_ret pe_int))
        pss_nil)
      (pss_one (ps_ret (pe_op op_mod (pe_callTy call_int1 rfl T.b_int (by decide +kernel) (pa_cons (pe_bm PySem.F.plainAttrs_list PySem.F.slot_list_pop PySem.F.type_list_pop mt_popAt (pv 0) (pa_cons pe_int pa_nil)) pa_nil)) (pv 1))))), ?_⟩
    refine ⟨_, rfl, p, fs.map V.int, rfl, .inl (.inl (.inl hp)), rfl, _, rfl, ite2 (fun e => ?_) (fun e => ?_)⟩
    · have := k 0 fs (Int.le_refl _) hl (Nat.le_refl _)
      rw [upd_id hp] at this
      exact this
    · cases fs with
      | nil => exact absurd (decide_eq_true rfl) e
      | cons x r =>
        refine ⟨.ref p, rfl, .inl ⟨rfl, _, .inl (.inl hp)⟩, p, _, 0, 0, .int x, rfl, rfl, hp, by decide, by decide, ?_, rfl, .inl ⟨x, rfl, ?_⟩⟩
        · rw [List.length_map]; simp [seqIndex?]
        · refine ⟨.int lim, rfl, _, _, rfl, rfl, hl, ?_⟩
          exact k _ r (Int.emod_nonneg _ (by omega)) (Int.emod_lt_of_pos _ hl) (by simp)

/-! ### _law_feed -/
def sp_Lfeed (K : PySem.W.Frag) : Sp := fun vs H Q _ => ∃ (a : Addr) (ns : List Int), vs = [.ref a] ∧ SqL K H a (ns.map V.int) ∧ ns.length ≤ 63 ∧
  ∀ (H' : Hp) (p : Addr) (fs : List Int), Same H H' → H p = none → H' p = some (.lst (fs.map V.int)) → fs.length ≤ 5000 → Q (.ref p) H'
theorem ok_Lfeed (T : Tx K mg) : FnOk P w K mg base CX0 1 T.f_Lfeed T.fd_Lfeed ["_law_script"] (sp_Lfeed K) := by
  refine T.F_Lfeed.ok sc_Lfeed (fun vs H Q E h => ?_) (fun cdv A outer s H vs Q E hr h => ?_)
  · obtain ⟨_, _, rfl, _⟩ := h; rfl
  · obtain ⟨a, ns, rfl, hS, hlen, k⟩ := h
    refine ⟨_, (pss_cons (ps_set (i := 1) sc_Lfeed.nd rfl (.inl rfl) (pe_lst pa_nil))
      (pss_cons (ps_for PassesOwn.never rfl (pi_list (pv 0)) (pg_name (i := 2) sc_Lfeed.nd rfl (.inl rfl))
        (pss_cons (ps_set (i := 3) sc_Lfeed.nd rfl (.inl rfl) (pe_callB call_abs rfl T.b_abs (by decide +kernel) (pa_cons (pv 2) pa_nil)))
        (Evl.pss_cut (ps_if (pt_cmpR op_lt (pv 3) (pe_op op_pow pe_int pe_int) (nomark _))
          (pss_cons (ps_set (i := 3) sc_Lfeed.nd rfl (.inl rfl) (pe_op op_mod (pe_callTy call_int1 rfl T.b_int (by decide +kernel) (pa_cons (pe_op op_add (pe_op op_mul (pv 3) pe_int) pe_int) pa_nil)) pe_int))
          (pss_cons (ps_expr (pe_bm PySem.F.plainAttrs_list PySem.F.slot_list_append PySem.F.type_list_append mt_append (pv 1) (pa_cons (pe_op op_mod (pe_callTy call_int1 rfl T.b_int (by decide +kernel) (pa_cons (pe_op op_add (pe_op op_mul (pv 3) pe_int) pe_int) pa_nil)) pe_int) pa_nil)))
          (pss_one (ps_set (i := 3) sc_Lfeed.nd rfl (.inl rfl) pe_int))))
          pss_nil)
        (pss_one (ps_for PassesOwn.never rfl (pi_range1 rfl T.b_range (pa_cons pe_int pa_nil)) (pg_name (i := 4) sc_Lfeed.nd rfl (.inl rfl))
          (pss_one (ps_if (pt_cmpR op_gt (pv 3) pe_int (nomark _))
            (pss_cons (ps_expr (pe_bm PySem.F.plainAttrs_list PySem.F.slot_list_append PySem.F.type_list_append mt_append (pv 1) (pa_cons (pe_op op_mod (pe_callTy call_int1 rfl T.b_int (by decide +kernel) (pa_cons (pv 3) pa_nil)) pe_int) pa_nil)))
            (pss_one (ps_set (i := 3) sc_Lfeed.nd rfl (.inl rfl) (pe_op op_fdiv (pv 3) pe_int))))
            pss_nil)))))))
      (pss_one (ps_ret (pv 1))))), ?_⟩
    refine ⟨Nat.zero_le _, fun p np => ?_⟩
    have s0 : Same H (upd H p (.lst [])) := same_upd np
    have npa : ∀ H2, SqL K H2 a (ns.map V.int) → True := fun _ _ => trivial
    refine ⟨_, rfl, a, rfl, ⟨_, s0.seq hS⟩, for_list (K := K) (a := a) (xs := ns.map V.int) (fun i σ H2 => ∃ (fs : List Int) (v2 v3 v4 : Option V), σ = [some (.ref a), some (.ref p), v2, v3, v4] ∧ H2 = upd H p (.lst (fs.map V.int)) ∧ fs.length ≤ 61 * i)
      ⟨[], none, none, none, rfl, rfl, Nat.zero_le _⟩ (fun i σ H2 _ ⟨_, _, _, _, _, e, _⟩ => by rw [e]; exact (same_upd np).seq hS) ?_ ?_⟩
    · rintro i y σ H2 hi ⟨fs, v2, v3, v4, rfl, rfl, hl⟩
      have hil : i < 63 := by
        have := (List.getElem?_eq_some_iff.mp hi).1
        rw [List.length_map] at this
        omega
      obtain ⟨z, rfl⟩ : ∃ z, y = V.int z := by
        rw [List.getElem?_map] at hi
        cases e : ns[i]? with
        | none => rw [e] at hi; cases hi
        | some z => rw [e] at hi; exact ⟨z, (Option.some.inj hi).symm⟩
      refine ⟨_, rfl, z, rfl, ?_⟩
      refine ⟨fun σ' H' => ∃ (fs : List Int) (R : Int) (v4 : Option V), σ' = [some (.ref a), some (.ref p), some (.int z), some (.int R), v4] ∧ H' = upd H p (.lst (fs.map V.int)) ∧ 0 ≤ R ∧ fs.length ≤ 61 * i + 1, ?_, ?_⟩
      · have hz : 0 ≤ (if z < 0 then -z else z) := by split <;> omega
        refine ⟨_, rfl, _, _, rfl, rfl, ⟨by decide, by decide, by decide⟩, _, _, rfl, rfl, _, rfl, ite2 (fun e => ?_) (fun e => ?_)⟩
        · have e1 : (if z < 0 then -z else z) < 10 ^ 18 := of_decide_eq_true e
          refine ⟨_, rfl, _, _, rfl, rfl, .inl ⟨by omega, by omega⟩, _, _, rfl, rfl, .inl ⟨_, rfl, _, _, rfl, rfl, (by show (0 : Int) < _; decide), ?_⟩⟩
          refine ⟨.ref p, rfl, .inl ⟨rfl, _, .inl (.inl upd_same)⟩, _, rfl, _, _, rfl, rfl, .inr ⟨by decide, by decide⟩, _, _, rfl, rfl, .inl ⟨_, rfl, _, _, rfl, rfl, (by show (0 : Int) < _; decide), p, _, _, rfl, rfl, upd_same, ?_, ?_⟩⟩
          · rw [List.length_map]; exact Nat.lt_of_lt_of_le (Nat.lt_succ_of_le hl) (by unfold sizeLine; omega)
          · exact ⟨fs ++ [_], 0, v4, rfl, upd_app, Int.le_refl _, by rw [List.length_append]; simp; omega⟩
        · exact ⟨fs, _, v4, rfl, rfl, hz, by omega⟩
      · rintro σ' H' ⟨fs, R, v4, rfl, rfl, hR, hl⟩
        refine ⟨60, rfl, by decide, by decide, for_range (lo := 0) (n := 60) (fun j σ' H' => ∃ (fs : List Int) (R : Int) (v4 : Option V), σ' = [some (.ref a), some (.ref p), some (.int z), some (.int R), v4] ∧ H' = upd H p (.lst (fs.map V.int)) ∧ 0 ≤ R ∧ fs.length ≤ 61 * i + 1 + j)
          ⟨fs, R, v4, rfl, rfl, hR, hl⟩ ?_ ?_⟩
        · rintro j σ' H' hj ⟨fs, R, v4, rfl, rfl, hR, hl⟩
          refine ⟨_, rfl, _, _, rfl, rfl, _, rfl, ite2 (fun e => ?_) (fun e => ?_)⟩
          · refine ⟨.ref p, rfl, .inl ⟨rfl, _, .inl (.inl upd_same)⟩, _, rfl, .inl ⟨_, rfl, _, _, rfl, rfl, (by show (0 : Int) < _; decide), p, _, _, rfl, rfl, upd_same, ?_, ?_⟩⟩
            · rw [List.length_map]; exact Nat.lt_of_lt_of_le (Nat.lt_succ_of_le hl) (by unfold sizeLine; omega)
            · refine ⟨_, rfl, _, _, rfl, rfl, ⟨by decide, by decide⟩, fs ++ [_], _, _, rfl, upd_app, Int.ediv_nonneg hR (by decide), by rw [List.length_append]; simp; omega⟩
          · exact ⟨fs, R, _, rfl, rfl, hR, by omega⟩
        · rintro σ' H' ⟨fs, R, v4, rfl, rfl, hR, hl⟩
          exact ⟨fs, _, _, _, rfl, rfl, by omega⟩
    · rintro σ H2 ⟨fs, v2, v3, v4, rfl, rfl, hl⟩
      rw [List.length_map] at hl
      exact ⟨_, rfl, k _ p fs (same_upd np) np upd_same (by omega)⟩
end
end K60
namespace K60
open PySem PySem.Spec PyProof.Rows L2 Rg
theorem inV_str {r : Str} {B : List Str} : inV (.str r) (B.map V.str) = decide (r ∈ B) := by
  unfold inV
  rw [List.any_map, Bool.eq_iff_iff, List.any_eq_true, decide_eq_true_eq]
  constructor
  · rintro ⟨x, hx, e⟩
    have : x = r := by simpa [eqV] using e
    exact this ▸ hx
  · intro h
    exact ⟨r, h, by simp [eqV]⟩
theorem flat_str {B : List Str} : (B.map V.str).all flatV = true := by
  rw [List.all_map, List.all_eq_true]
  intro x _
  rfl
theorem str_at {l : List Str} {i : Nat} {x : V} (h : (l.map V.str)[i]? = some x) : ∃ r, x = .str r ∧ l[i]? = some r := by
  rw [List.getElem?_map] at h
  obtain ⟨r, h1, h2⟩ := Option.map_eq_some_iff.mp h
  exact ⟨r, h2.symm, h1⟩
/-- a list or a tuple of texts -/
def SqS (K : PySem.W.Frag) (H : Hp) (a : Addr) (B : List Str) : Prop := SqL K H a (B.map V.str) ∨ SqT K H a (B.map V.str)
/-- all but instances stay -/
def KI (H H' : Hp) : Prop := ∀ x o, H x = some o → (∀ C dx fs, o ≠ .ins C dx fs) → H' x = some o
theorem KI.refl {H : Hp} : KI H H := fun _ _ e _ => e
theorem KI.of {H H' : Hp} (s : Same H H') : KI H H' := fun _ _ e _ => s _ _ e
theorem KI.same {H H1 H' : Hp} (a : KI H H1) (s : Same H1 H') : KI H H' := fun x o e n => s _ _ (a x o e n)
theorem KI.fld {H H1 : Hp} {p C dx C' dx' : Addr} {fs gs : List (Str × V)} (a : KI H H1) (e : H1 p = some (.ins C dx fs)) : KI H (upd H1 p (.ins C' dx' gs)) := fun x o ex n => by
  have h1 := a x o ex n
  rw [upd_ne]
  · exact h1
  · intro z
    rw [z, e] at h1
    exact n _ _ _ (Option.some.inj h1).symm
theorem rd_ki {H H' : Hp} {a : Addr} {u : HO} (k : KI H H') (h : Rd H a u) (n : ∀ C dx fs, u ≠ .ins C dx fs) : Rd H' a u := by
  rcases h with h | ⟨o, h⟩
  · exact .inl (k _ _ h n)
  · exact .inr ⟨o, k _ _ h fun _ _ _ z => nomatch z⟩
theorem SqS.ki {K : PySem.W.Frag} {H H' : Hp} {a : Addr} {B : List Str} (k : KI H H') (h : SqS K H a B) : SqS K H' a B := by
  rcases h with (h | h) | (h | h)
  · exact .inl (.inl (rd_ki k h fun _ _ _ z => nomatch z))
  · exact .inl (.inr h)
  · exact .inr (.inl (rd_ki k h fun _ _ _ z => nomatch z))
  · exact .inr (.inr h)
theorem SqS.same {K : PySem.W.Frag} {H H' : Hp} {a : Addr} {B : List Str} (s : Same H H') (h : SqS K H a B) : SqS K H' a B := h.ki (.of s)
theorem SqL.ki {K : PySem.W.Frag} {H H' : Hp} {a : Addr} {xs : List V} (k : KI H H') (h : SqL K H a xs) : SqL K H' a xs := by
  rcases h with h | h
  · exact .inl (rd_ki k h fun _ _ _ z => nomatch z)
  · exact .inr h
theorem SqT.ki {K : PySem.W.Frag} {H H' : Hp} {a : Addr} {xs : List V} (k : KI H H') (h : SqT K H a xs) : SqT K H' a xs := by
  rcases h with h | h
  · exact .inl (rd_ki k h fun _ _ _ z => nomatch z)
  · exact .inr h
/-- a for over a list or a tuple of texts -/
def forR (g : TG) (tb : TS) (D : Ends) (σ : L2.St) (J : It) (H1 : Hp) : Prop := ∃ W : Nat → Nat → L2.St → Hp → Prop, (∃ m, W 0 m σ H1) ∧ ∀ i m σ H, W i m σ H →
  (J.stop i H ∧ D.nx σ H) ∨ (J.go i H ∧ ∃ N : L2.St → Hp → Prop, (∀ σ' H', N σ' H' → ∃ m', m' < m ∧ W (i + 1) m' σ' H') ∧ ∀ x H', J.yld i H x H' → g x σ H' fun σ2 H2 => tb { D with nx := N, ct := N, bk := D.nx } σ2 H2)
theorem for_seq {K : PySem.W.Frag} {a : Addr} {B : List Str} {g : TG} {tb : TS} {D : Ends} {σ : L2.St} {H : Hp} (hq : SqS K H a B) (Pv : Nat → L2.St → Hp → Prop) (h0 : Pv 0 σ H) (hk : ∀ i σ H', i ≤ B.length → Pv i σ H' → KI H H')
    (hs : ∀ i r σ H', B[i]? = some r → Pv i σ H' → g (.str r) σ H' fun σ2 H2 => tb { D with nx := Pv (i + 1), ct := Pv (i + 1), bk := D.nx } σ2 H2) (hd : ∀ σ H', Pv B.length σ H' → D.nx σ H') :
    ((∃ xs, SqL K H a xs) ∧ forR g tb D σ (Itl K a) H) ∨ ((∃ xs, SqT K H a xs) ∧ forR g tb D σ (Itt K a) H) := by
  rcases hq with q | q
  · refine .inl ⟨⟨_, q⟩, for_list (K := K) (a := a) (xs := B.map V.str) Pv h0 (fun i σ H' hi hp => SqL.ki (hk i σ H' (by rw [List.length_map] at hi; exact hi) hp) q) (fun i x σ H' hx hp => ?_) (fun σ H' hp => hd σ H' (by rw [List.length_map] at hp; exact hp))⟩
    obtain ⟨r, rfl, hr⟩ := str_at hx
    exact hs i r σ H' hr hp
  · refine .inr ⟨⟨_, q⟩, for_tup (K := K) (a := a) (xs := B.map V.str) Pv h0 (fun i σ H' hi hp => SqT.ki (hk i σ H' (by rw [List.length_map] at hi; exact hi) hp) q) (fun i x σ H' hx hp => ?_) (fun σ H' hp => hd σ H' (by rw [List.length_map] at hp; exact hp))⟩
    obtain ⟨r, rfl, hr⟩ := str_at hx
    exact hs i r σ H' hr hp
/-- what a comprehension with a test has made of the first i texts -/
structure PvS (H0 : Hp) (D : Addr) (l : List Str) (p : Str → Bool) (i : Nat) (H' : Hp) : Prop where
  same : Same H0 H'
  at_ : H' D = some (.lst (((l.take i).filter p).map V.str))
theorem PvS.start {H0 H1 : Hp} {D : Addr} {l : List Str} {p : Str → Bool} (s : Same H0 H1) (h : H1 D = none) : PvS H0 D l p 0 (upd H1 D (.lst [])) := ⟨s.trans (same_upd h), upd_same⟩
theorem PvS.yes {H0 H' : Hp} {D : Addr} {l : List Str} {p : Str → Bool} {i : Nat} {x : Str} (h : PvS H0 D l p i H') (n : H0 D = none) (hx : l[i]? = some x) (hp : p x = true) : PvS H0 D l p (i + 1) (upd H' D (.lst (((l.take i).filter p).map V.str ++ [.str x]))) := by
  refine ⟨fun b o e => ?_, ?_⟩
  · rw [upd_ne (ne_of_none e n)]
    exact h.same _ _ e
  · rw [upd_same, takeB hx, List.filter_append, List.map_append, List.filter_cons, if_pos hp]
    rfl
theorem PvS.no {H0 H' : Hp} {D : Addr} {l : List Str} {p : Str → Bool} {i : Nat} {x : Str} (h : PvS H0 D l p i H') (hx : l[i]? = some x) (hp : p x = false) : PvS H0 D l p (i + 1) H' := by
  refine ⟨h.same, ?_⟩
  rw [h.at_, takeB hx, List.filter_append, List.filter_cons, if_neg (by rw [hp]; exact Bool.false_ne_true), List.filter_nil, List.append_nil]
theorem PvS.grow {H0 H' H1 : Hp} {D : Addr} {l : List Str} {p : Str → Bool} {i : Nat} (h : PvS H0 D l p i H') (s : Same H' H1) : PvS H0 D l p i H1 := ⟨h.same.trans s, s _ _ h.at_⟩
theorem PvS.all {H0 H' : Hp} {D : Addr} {l : List Str} {p : Str → Bool} (h : PvS H0 D l p l.length H') : Same H0 H' ∧ H' D = some (.lst ((l.filter p).map V.str)) := by
  have := h.at_
  rw [List.take_length] at this
  exact ⟨h.same, this⟩
theorem PvS.len {l : List Str} {p : Str → Bool} {i : Nat} (h : l.length < 900) : (((l.take i).filter p).map V.str).length < sizeLine := by
  rw [List.length_map]
  have h1 := List.length_filter_le p (l.take i)
  have h2 : (l.take i).length ≤ l.length := by rw [List.length_take]; exact Nat.min_le_right _ _
  exact small1000 (by omega)
/-- a book -/
structure BookAt (C : Addr) (H : Hp) (a : Addr) (B : List Str) : Prop where
  ob : ∃ dx tn, H a = some (.ins C dx [("names", .ref tn), ("number", .int (numB B))]) ∧ H tn = some (.tup (B.map V.str))
theorem BookAt.same {C : Addr} {H H' : Hp} {a : Addr} {B : List Str} (s : Same H H') (h : BookAt C H a B) : BookAt C H' a B := by
  obtain ⟨dx, tn, h1, h2⟩ := h.ob
  exact ⟨dx, tn, s _ _ h1, s _ _ h2⟩
theorem wts_f {B : List Str} {i : Nat} : (wts B i).length < 900 + i := by
  have := wts_len (B := B) (i := i)
  omega
/-- the numbers of the first i rules that B has -/
structure PvW (H0 : Hp) (D : Addr) (B : List Str) (i : Nat) (H' : Hp) : Prop where
  same : Same H0 H'
  at_ : H' D = some (.lst ((wts B i).map V.int))
section
variable {P : Program} {w : World} {K : PySem.W.Frag} {mg : Str → Option Value} {base : Heap}
def sp_RuleSet_init (K : PySem.W.Frag) (C CV : Addr) : Sp := fun vs H Q E => ∃ (p dx q : Addr) (ns : List Str), vs = [.ref p, .ref q] ∧ H p = some (.ins C dx []) ∧ SqS K H q ns ∧ ns.length < 900 ∧ (∀ r ∈ ns, r.length ≤ 1000) ∧
  ((∀ r ∈ ns, r ∈ Rs) → ∀ H' tn, KI H H' → H' p = some (.ins C dx [("names", .ref tn), ("number", .int (numB ns))]) → H' tn = some (.tup ((ord ns).map V.str)) → (∀ x o, x ≠ p → H x = some o → H' x = some o) → Q .non H') ∧
  ((∃ r ∈ ns, r ∉ Rs) → ∀ H', Same H H' → E (.ref CV) none H')
theorem ok_RuleSet_init (T : Tx K mg) : FnOk P w K mg base (L2N.CX P w) 1 T.f_RuleSet___init__ T.fd_RuleSet___init__ ["self", "names"] (sp_RuleSet_init K T.C_TieBook T.C_BadValue) := by
  refine T.F_RuleSet___init__.okN sc_RuleSet___init__ (fun vs H Q E h => ?_) (fun cdv A outer s H vs Q E hr h => ?_)
  · obtain ⟨_, _, _, _, rfl, _⟩ := h; rfl
  · obtain ⟨p, dx, q, ns, rfl, hp, hq, hlen, hsz, k, kE⟩ := h
    refine ⟨_, (pss_cons (ps_for (passes_of rfl) rfl (pi_seq (pv 1)) (pg_name (i := 2) sc_RuleSet___init__.nd rfl (.inl rfl))
        (pss_one (ps_if (pt_cmpR op_notIn_seq (pv 2) (pe_con (pv 0) rfl) rfl)
          (pss_one (L2N.ps_raise rfl (L2N.takes_of rfl rfl rfl rfl) (pmk_own1N PySem.F.excBase_ValueError T.xe_BadValue T.mg_BadValue T.ke_BadValue (raises_own T.be_BadValue T.te_BadValue) rfl (pe_joined (.cons pe_str (.cons (pe_fmt (pv 2)) .nil))))))
          pss_nil)))
      (PSs.nox (pss_cons (ps_fld (pv 0) (pe_callTy call_tuple_of rfl T.b_tuple (by decide +kernel) (pa_cons (pe_lc rfl (own := [("rule", 3)]) (g := gName 3) (tt := _) sc_RuleSet___init__.nd (pi_tup (pe_con (pv 0) rfl)) (blkOk_by (N := ["self", "names", "name", "rule", "k"]) (sc := defScope s_RuleSet___init__) (by decide +kernel)) (fun _ _ _ _ _ => pg_name (i := 3) sc_RuleSet___init__.nd rfl (Or.inl rfl)) (fun _ _ _ _ _ => pts_one (pt_cmpR (op_inK (K := K)) (pv 3) (pv 1) rfl)) (fun _ _ _ _ _ => (pv 3))) pa_nil)) rfl)
      (pss_one (ps_fld (pv 0) (pe_callB (cr_sum rfl) rfl T.b_sum (by decide +kernel) (pa_cons (pe_lc rfl (own := [("k", 4), ("rule", 3)]) (g := _) (tt := _) sc_RuleSet___init__.nd (pi_enumT (by rfl) T.b_enumerate (pa_cons (pe_con (pv 0) rfl) pa_nil)) (blkOk_by (N := ["self", "names", "name", "rule", "k"]) (sc := defScope s_RuleSet___init__) (by decide +kernel)) (fun _ _ _ _ _ => (pg_tupK (K := K) (n := 2) rfl (pgs_cons (pg_name (i := 4) sc_RuleSet___init__.nd rfl (.inl rfl)) (pgs_cons (pg_name (i := 3) sc_RuleSet___init__.nd rfl (.inl rfl)) pgs_nil)))) (fun _ _ _ _ _ => pts_one (pt_cmpR (op_inK (K := K)) (pv 3) (pv 1) rfl)) (fun _ _ _ _ _ => (pe_op op_shl pe_int (pv 4)))) pa_nil)) rfl))))), ?_⟩
    have hR : ∀ H, SqT K H T.tA_TieBook_RULES (Rs.map V.str) := T.tt_TieBook_RULES
    have hfs : ∀ x : Str, x.length ≤ 1000 → (Str.empty ++ "no rule: ").length ≤ sizeLine ∧ (Str.empty ++ "no rule: " ++ x).length ≤ sizeLine := fun x hx => by
      have e : (Str.empty ++ ("no rule: " : Str)).length = 9 := by decide
      have h1 : 2000 ≤ sizeLine := by decide
      rw [strLen_append (x := Str.empty ++ "no rule: ")]
      omega
    -- the names that are none
    refine ⟨_, rfl, q, rfl, ?_⟩
    refine for_seq hq (fun i σ H' => ∃ u2 : Option V, σ = [some (.ref p), some (.ref q), u2, none, none] ∧ H' = H ∧ ∀ r ∈ ns.take i, r ∈ Rs) ⟨_, rfl, rfl, fun r h => by simp at h⟩ (fun i σ H' _ ⟨_, _, e, _⟩ => by rw [e]; exact .refl) ?_ ?_
    · rintro i r σ H' hr ⟨u2, rfl, rfl, hin⟩
      refine ⟨_, rfl, _, rfl, p, _, _, _, _, _, rfl, hp, T.cl_TieBook, T.tc_TieBook_RULES, rfl, _, _, rfl, .inr (hR _), rfl, flat_str, _, rfl, ?_⟩
      by_cases z : r ∈ Rs
      · rw [if_pos rfl, inV_str, decide_eq_true z]
        refine iteF ⟨_, rfl, rfl, fun x hx => ?_⟩
        rw [takeB hr] at hx
        rcases List.mem_append.mp hx with y | y
        · exact hin x y
        · rw [List.mem_singleton.mp y]; exact z
      · rw [if_pos rfl, inV_str, decide_eq_false z]
        have hm := List.mem_of_getElem? hr
        obtain ⟨f1, f2⟩ := hfs r (hsz r hm)
        refine iteT ⟨_, rfl, f1, _, rfl, .inl ⟨_, rfl, ?_, _, rfl, f2, ?_⟩⟩
        · have := hsz r hm
          have h1 : 2000 ≤ sizeLine := by decide
          omega
        · exact kE ⟨r, hm, z⟩ _ (Same.refl _)
    rintro σ H' ⟨u2, rfl, rfl, hin⟩
    rw [List.take_length] at hin
    -- the names
    refine ⟨_, rfl, p, _, _, _, _, _, rfl, hp, T.cl_TieBook, T.tc_TieBook_RULES, rfl, _, rfl, ⟨_, hR _⟩, fun D hD => ?_⟩
    refine lc_tup (K := K) (a := T.tA_TieBook_RULES) (xs := Rs.map V.str) (PvS H' D Rs fun r => decide (r ∈ ns)) (PvS.start (Same.refl _) hD) (fun _ _ _ _ => hR _) ?_ ?_
    · rintro i x H1 hx hP
      obtain ⟨r, rfl, hr⟩ := str_at hx
      refine ⟨rfl, ?_⟩
      refine ⟨_, rfl, _, rfl, q, _, rfl, hq.same hP.same, rfl, flat_str, _, rfl, ?_⟩
      rw [if_neg Bool.false_ne_true, inV_str]
      by_cases z : r ∈ ns
      · rw [decide_eq_true z]
        exact iteT ⟨_, rfl, _, hP.at_, PvS.len (by decide), hP.yes hD hr (decide_eq_true z)⟩
      · rw [decide_eq_false z]
        exact iteF (hP.no hr (decide_eq_false z))
    intro H1 hP
    obtain ⟨s1, e1⟩ := PvS.all (l := Rs) hP
    refine ⟨D, _, rfl, .inl ⟨.of e1, fun tn htn => ?_⟩⟩
    have s2 := same_upd (o := .tup ((Rs.filter fun r => decide (r ∈ ns)).map V.str)) htn
    have e2 : upd H1 tn (.tup ((Rs.filter fun r => decide (r ∈ ns)).map V.str)) tn = some (.tup ((ord ns).map V.str)) := upd_same
    generalize upd H1 tn (.tup ((Rs.filter fun r => decide (r ∈ ns)).map V.str)) = H2 at s2 e2 ⊢
    have s02 := s1.trans s2
    have hp2 := s02 _ _ hp
    refine ⟨_, rfl, p, T.C_TieBook, dx, _, rfl, hp2, T.cl_TieBook, T.na_TieBook_names, (by show 0 < 1000; decide), ?_⟩
    have hnt : tn ≠ p := fun z => by rw [z, hp2] at e2; cases e2
    have k3 : KI H' (upd H2 p (.ins T.C_TieBook dx (putF "names" (.ref tn) []))) := (KI.of s02).fld hp2
    have e3 : upd H2 p (.ins T.C_TieBook dx (putF "names" (.ref tn) [])) p = some (.ins T.C_TieBook dx [("names", .ref tn)]) := upd_same
    have f3 : upd H2 p (.ins T.C_TieBook dx (putF "names" (.ref tn) [])) tn = some (.tup ((ord ns).map V.str)) := by rw [upd_ne hnt]; exact e2
    have o3 : ∀ x o, x ≠ p → H' x = some o → upd H2 p (.ins T.C_TieBook dx (putF "names" (.ref tn) [])) x = some o := fun x o hx ex => by rw [upd_ne hx]; exact s02 _ _ ex
    generalize upd H2 p (.ins T.C_TieBook dx (putF "names" (.ref tn) [])) = H3 at k3 e3 f3 o3 ⊢
    -- the number
    refine ⟨_, rfl, p, _, _, _, _, _, rfl, e3, T.cl_TieBook, T.tc_TieBook_RULES, rfl, _, _, rfl, hR _, fun D2 hD2 => ?_⟩
    refine lc_it (walk_enumT (K := K) (a := T.tA_TieBook_RULES) (xs := Rs.map V.str)) (PvW H3 D2 ns) ⟨same_upd hD2, upd_same⟩ (fun _ _ _ _ => hR _) ?_ ?_
    · rintro i x H4 H5 hi hP2 ⟨TT, y, z, rfl, hTT, rfl, hy, hz⟩
      cases hy
      obtain ⟨r, rfl, hr⟩ := str_at hz
      have h12 : i < 5 := hi
      have s45 := same_upd (o := .tup [.int (i : Nat), .str r]) hTT
      refine ⟨TT, _, rfl, .of upd_same, rfl, ?_⟩
      refine ⟨_, _, rfl, _, _, rfl, rfl, rfl, ?_⟩
      refine ⟨_, rfl, _, rfl, q, _, rfl, (hq.ki k3).same (hP2.same.trans s45), rfl, flat_str, _, rfl, ?_⟩
      rw [if_neg Bool.false_ne_true, inV_str]
      by_cases z : r ∈ ns
      · rw [decide_eq_true z]
        refine iteT ⟨_, rfl, _, _, rfl, rfl, ⟨by omega, by omega, by decide⟩, (wts ns i).map V.int, s45 _ _ hP2.at_, ?_, ?_, ?_⟩
        · rw [List.length_map]; exact small1000 (by have := wts_len (B := ns) (i := i); omega)
        · intro b o e
          rw [upd_ne (ne_of_none e hD2)]
          exact s45 _ _ (hP2.same _ _ e)
        · rw [upd_same, wts_s hr, if_pos z, List.map_append]
          show some (HO.lst (_ ++ [V.int (1 * 2 ^ (i : Int).toNat)])) = _
          rw [Int.one_mul, Int.toNat_natCast]
          rfl
      · rw [decide_eq_false z]
        refine iteF ⟨fun b o e => s45 _ _ (hP2.same _ _ e), ?_⟩
        rw [wts_s hr, if_neg z, List.append_nil]
        exact s45 _ _ hP2.at_
    intro H4 hP2
    refine ⟨D2, _, rfl, .of hP2.at_, ?_⟩
    have e4 := hP2.same _ _ e3
    refine ⟨_, rfl, p, T.C_TieBook, dx, _, rfl, e4, T.cl_TieBook, T.na_TieBook_number, (by show 1 < 1000; decide), ?_⟩
    refine k hin _ tn (((k3.same hP2.same)).fld e4) upd_same ?_ fun x o hx ex => by rw [upd_ne hx]; exact hP2.same _ _ (o3 x o hx ex)
    rw [upd_ne hnt]
    exact hP2.same _ _ f3
/-! ### in, iter, text -/
def sp_contains (C : Addr) : Sp := fun vs H Q _ => ∃ (a : Addr) (B : List Str) (x : Str), vs = [.ref a, .str x] ∧ BookAt C H a B ∧ Q (.bl (decide (x ∈ B))) H
theorem ok_contains (T : Tx K mg) : FnOk P w K mg base CX0 1 T.f_RuleSet___contains__ T.fd_RuleSet___contains__ ["self", "name"] (sp_contains T.C_TieBook) := by
  refine T.F_RuleSet___contains__.ok sc_RuleSet___contains__ (fun vs H Q E h => ?_) (fun cdv A outer s H vs Q E hr h => ?_)
  · obtain ⟨_, _, _, rfl, _⟩ := h; rfl
  · obtain ⟨a, B, x, rfl, ⟨dx, tn, e1, e2⟩, k⟩ := h
    refine ⟨_, (pss_one (ps_ret (pe_cmpR op_in_seq (pv 1) (pe_fld (pv 0) rfl) rfl))), ?_⟩
    refine ⟨_, rfl, _, rfl, a, _, _, _, _, rfl, e1, T.cl_TieBook, T.na_TieBook_names, rfl, tn, _, rfl, .inr (.of e2), rfl, flat_str, ?_⟩
    rw [if_neg Bool.false_ne_true, inV_str]
    exact k
def sp_iter (C : Addr) : Nat → Sp := fun n vs H Q _ => ∃ (a : Addr) (B : List Str), vs = [.ref a] ∧ BookAt C H a B ∧ ∀ it tn, H it = none → n ≤ it → H tn = some (.tup (B.map V.str)) → Q (.ref it) (upd H it (ItTO tn it))
theorem join_size {B : List Str} (h : B.length ≤ 900) (hs : ∀ r ∈ B, r.length ≤ 1000) : (B.map (·.length)).sum + B.length * (" " : Str).length ≤ 16777216 := by
  have e : (" " : Str).length = 1 := by decide
  have : ∀ {B : List Str}, (∀ r ∈ B, r.length ≤ 1000) → (B.map (·.length)).sum ≤ B.length * 1000 := by
    intro B hs
    induction B with
    | nil => exact Nat.le_refl _
    | cons a t ih =>
      have h1 := hs a List.mem_cons_self
      have h2 := ih fun r hr => hs r (List.mem_cons_of_mem _ hr)
      rw [List.map_cons, List.sum_cons, List.length_cons]
      omega
  have := this hs
  rw [e]
  omega
theorem Rs_size : ∀ r ∈ Rs, r.length ≤ 10 := by decide +kernel
def sp_text (C : Addr) : Sp := fun vs H Q _ => ∃ (a : Addr) (B : List Str), vs = [.ref a] ∧ BookAt C H a B ∧ B.Sublist Rs ∧ Q (.str (txB B)) H
end
end K60
namespace K60
open PySem PySem.Spec PyProof.Rows L2 Rg
/-! ### lists of texts compared -/
def dT (l : List Str) : PyData := .list (l.map PyData.str)
theorem dpAllT {K : PySem.W.Frag} {H : Hp} : ∀ ns : List Str, DpAll K H (ns.map V.str) (ns.map PyData.str)
  | [] => .nil
  | n :: ns => .cons (.str n) (dpAllT ns)
theorem dpT {K : PySem.W.Frag} {H : Hp} {a : Addr} {ns : List Str} (h : H a = some (.lst (ns.map V.str))) : Dp K H (.ref a) (dT ns) := .lst (.of h) (dpAllT ns)
def okS (x : Str) : Bool := PyData.canLay0 (.str x)
theorem canT : ∀ ns : List Str, (∀ x ∈ ns, okS x = true) → PyData.canLayAll0 (ns.map PyData.str) = true
  | [], _ => rfl
  | n :: ns, h => by
    show (PyData.canLay0 (.str n) && PyData.canLayAll0 (ns.map PyData.str)) = true
    rw [canT ns fun x hx => h x (List.mem_cons_of_mem _ hx), show PyData.canLay0 (.str n) = true from h n List.mem_cons_self]
    rfl
theorem depT : ∀ ns : List Str, PyData.depthAll (ns.map PyData.str) = 0
  | [] => rfl
  | n :: ns => by
    show max (PyData.depth (.str n)) (PyData.depthAll (ns.map PyData.str)) = 0
    rw [depT ns]
    rfl
theorem shT (ns : List Str) (h : ∀ x ∈ ns, okS x = true) : SeqAt.shaped (dT ns) = true := by
  unfold SeqAt.shaped dT
  rw [Bool.and_eq_true]
  refine ⟨canT ns h, decide_eq_true ?_⟩
  show PyData.depthAll (ns.map PyData.str) + 1 ≤ 64
  rw [depT ns]
  decide
theorem eqvAllT : ∀ a b : List Str, PyData.eqvAll (a.map PyData.str) (b.map PyData.str) = decide (a = b)
  | [], [] => by simp [PyData.eqvAll]
  | [], _ :: _ => by simp [PyData.eqvAll]
  | _ :: _, [] => by simp [PyData.eqvAll]
  | x :: a, y :: b => by
    simp only [List.map_cons, PyData.eqvAll]
    rw [eqvAllT a b]
    by_cases h : x = y
    · subst h; simp [PyData.eqv]
    · simp [PyData.eqv, h]
theorem eqvT (a b : List Str) : PyData.eqv (dT a) (dT b) = decide (a = b) := by
  unfold dT
  simp only [PyData.eqv]
  exact eqvAllT a b
theorem Rs_ok : ∀ x ∈ Rs, okS x = true := by decide +kernel
theorem sub_ok {B : List Str} (h : B.Sublist Rs) : ∀ x ∈ B, okS x = true := fun x hx => Rs_ok x (h.subset hx)
theorem ixN_nat {n : Nat} {z : Int} {i : Nat} (e : z = i) (h : i < n) : ixN n z = some i := by
  subst e
  unfold ixN
  rw [if_pos (by omega), if_pos (by omega)]
  rfl
end K60
namespace K60
open PySem PySem.Spec PyProof.Rows L2 Rg
theorem book_made {K : PySem.W.Frag} {C CV : Addr} {H : Hp} {Q : VK} {E : XK} {q : Addr} {ns : List Str} (hq : SqS K H q ns) (hl : ns.length < 900) (hs : ∀ r ∈ ns, r.length ≤ 1000)
    (k : (∀ r ∈ ns, r ∈ Rs) → ∀ H' x, Same H H' → H x = none → BookAt C H' x (ord ns) → Q (.ref x) H') (kE : (∃ r ∈ ns, r ∉ Rs) → ∀ H', Same H H' → E (.ref CV) none H') :
    ∀ x dx, H x = none → H dx = none → dx ≠ x → sp_RuleSet_init K C CV [.ref x, .ref q] (upd (upd H dx (.own x)) x (.ins C dx [])) (fun v H2 => v = .non ∧ Q (.ref x) H2) E := fun x dx nx nd ne => by
  have s1 : Same H (upd H dx (.own x)) := same_upd nd
  have nx1 : upd H dx (.own x) x = none := by rw [upd_ne ne.symm]; exact nx
  have s2 : Same H (upd (upd H dx (.own x)) x (.ins C dx [])) := s1.trans (same_upd nx1)
  have e2 : upd (upd H dx (.own x)) x (.ins C dx []) x = some (.ins C dx []) := upd_same
  generalize upd (upd H dx (.own x)) x (.ins C dx []) = H2 at s2 e2 ⊢
  refine ⟨x, dx, q, ns, rfl, e2, hq.same s2, hl, hs, fun hin H' tn ki e1 e3 ho => ⟨rfl, k hin H' x (fun b o e => ho b o (ne_of_none e nx) (s2 _ _ e)) nx ⟨dx, tn, by rw [numB_ord]; exact e1, e3⟩⟩, fun hb H' sm => kE hb H' (s2.trans sm)⟩
theorem book_madeR {K : PySem.W.Frag} {C CV : Addr} {H : Hp} {R : Addr → Hp → Prop} {E : XK} {q : Addr} {ns : List Str} (hq : SqS K H q ns) (hl : ns.length < 900) (hs : ∀ r ∈ ns, r.length ≤ 1000)
    (k : (∀ r ∈ ns, r ∈ Rs) → ∀ H' x, Same H H' → H x = none → BookAt C H' x (ord ns) → R x H') (kE : (∃ r ∈ ns, r ∉ Rs) → ∀ H', Same H H' → E (.ref CV) none H') :
    ∀ x dx, H x = none → H dx = none → dx ≠ x → sp_RuleSet_init K C CV [.ref x, .ref q] (upd (upd H dx (.own x)) x (.ins C dx [])) (fun v H2 => v = .non ∧ R x H2) E := fun x dx nx nd ne => by
  have s1 : Same H (upd H dx (.own x)) := same_upd nd
  have nx1 : upd H dx (.own x) x = none := by rw [upd_ne ne.symm]; exact nx
  have s2 : Same H (upd (upd H dx (.own x)) x (.ins C dx [])) := s1.trans (same_upd nx1)
  have e2 : upd (upd H dx (.own x)) x (.ins C dx []) x = some (.ins C dx []) := upd_same
  generalize upd (upd H dx (.own x)) x (.ins C dx []) = H2 at s2 e2 ⊢
  refine ⟨x, dx, q, ns, rfl, e2, hq.same s2, hl, hs, fun hin H' tn ki e1 e3 ho => ⟨rfl, k hin H' x (fun b o e => ho b o (ne_of_none e nx) (s2 _ _ e)) nx ⟨dx, tn, by rw [numB_ord]; exact e1, e3⟩⟩, fun hb H' sm => kE hb H' (s2.trans sm)⟩
section
variable {P : Program} {w : World} {K : PySem.W.Frag} {mg : Str → Option Value} {base : Heap}
/-- the parts of a text -/
def partsT (t : Str) : List Str := if t = "none" then [] else Txt.split t " "
def sp_written (K : PySem.W.Frag) (CT : Addr) : Sp := fun vs H Q E => ∃ (t : Str) (q : Addr), vs = [.str t, .ref q] ∧ (∀ H, SqT K H q (Rs.map V.str)) ∧ t.length ≤ 5000 ∧ (partsT t).length < 900 ∧ (∀ x ∈ partsT t, okS x = true) ∧
  (ord (partsT t) = partsT t → ∀ H' p, Same H H' → H p = none → H' p = some (.lst ((partsT t).map V.str)) → Q (.ref p) H') ∧ (ord (partsT t) ≠ partsT t → ∀ H', Same H H' → E (.ref CT) none H')
def sp_numbered (K : PySem.W.Frag) (CV : Addr) : Sp := fun vs H Q E => ∃ (n : Int) (q : Addr), vs = [.int n, .ref q] ∧ (∀ H, SqT K H q (Rs.map V.str)) ∧
  (∀ m : Nat, n = m → m < 32 → ∀ H' p, Same H H' → H p = none → H' p = some (.lst ((nm Rs m).map V.str)) → Q (.ref p) H') ∧ (n < 0 ∨ 32 ≤ n → ∀ H', Same H H' → E (.ref CV) none H')
/-- the names of the first i numbers -/
structure PvN (H0 : Hp) (D : Addr) (m i : Nat) (H' : Hp) : Prop where
  same : Same H0 H'
  at_ : H' D = some (.lst ((nm (Rs.take i) m).map V.str))
theorem ok_numbered (T : Tx K mg) : FnOk P w K mg base (L2N.CX P w) 1 T.f_numbered_names T.fd_numbered_names ["number", "rules"] (sp_numbered K T.C_BadValue) := by
  refine T.F_numbered_names.okN sc_numbered_names (fun vs H Q E h => ?_) (fun cdv A outer s H vs Q E hr h => ?_)
  · obtain ⟨_, _, rfl, _⟩ := h; rfl
  · obtain ⟨n, q, rfl, hq, k, kE⟩ := h
    refine ⟨_, (pss_cons (ps_if (pt_not (pt_chain op_le op_lt pe_int (pv 0) (pe_op op_shl pe_int (pe_callB call_len_seq rfl T.b_len (by decide +kernel) (pa_cons (pv 1) pa_nil)))))
        (pss_one (L2N.ps_raise rfl (L2N.takes_of rfl rfl rfl rfl) (L2N.pmk_own PySem.F.excBase_ValueError T.xe_BadValue T.mg_BadValue T.ke_BadValue (raises_own T.be_BadValue T.te_BadValue) rfl)))
        pss_nil)
      (PSs.nox (pss_one (ps_ret (pe_lc rfl (own := [("k", 2), ("rule", 3)]) (g := _) (tt := _) sc_numbered_names.nd (pi_enumT (by rfl) T.b_enumerate (pa_cons (pv 1) pa_nil)) (blkOk_by (N := ["number", "rules", "k", "rule"]) (sc := defScope s_numbered_names) (by decide +kernel)) (fun _ _ _ _ _ => (pg_tupK (K := K) (n := 2) rfl (pgs_cons (pg_name (i := 2) sc_numbered_names.nd rfl (.inl rfl)) (pgs_cons (pg_name (i := 3) sc_numbered_names.nd rfl (.inl rfl)) pgs_nil)))) (fun _ _ _ _ _ => pts_one (pt_truthK (K := K) (pe_op op_and (pe_op op_shr (pv 0) (pv 2)) pe_int) (fun _ => rfl))) (fun _ _ _ _ _ => (pv 3))))))), ?_⟩
    refine ⟨_, rfl, _, _, rfl, rfl, _, rfl, ?_⟩
    by_cases h0 : 0 ≤ n
    rotate_left
    · rw [decide_eq_false h0]
      exact iteF ⟨_, rfl, iteT (kE (.inl (by omega)) _ (Same.refl _))⟩
    rw [decide_eq_true h0]
    refine iteT ⟨_, rfl, q, _, rfl, .inr (hq _), _, _, rfl, rfl, ⟨by rw [List.length_map, Rs_len]; decide, by rw [List.length_map, Rs_len]; decide, by decide⟩, _, _, rfl, rfl, _, rfl, ?_⟩
    rw [List.length_map, Rs_len]
    have e12 : (1 : Int) * 2 ^ ((5 : Nat) : Int).toNat = 32 := by decide
    rw [e12]
    by_cases h1 : n < 32
    rotate_left
    · rw [decide_eq_false h1]
      exact iteT (kE (.inr (by omega)) _ (Same.refl _))
    rw [decide_eq_true h1]
    obtain ⟨m, rfl⟩ : ∃ m : Nat, n = m := ⟨n.toNat, by omega⟩
    refine iteF ⟨_, rfl, q, _, rfl, hq _, fun D hD => ?_⟩
    refine lc_it (walk_enumT (K := K) (a := q) (xs := Rs.map V.str)) (PvN H D m) ⟨same_upd hD, upd_same⟩ (fun _ _ _ _ => hq _) ?_ ?_
    · rintro i x H4 H5 hi hP2 ⟨TT, y, z, rfl, hTT, rfl, hy, hz⟩
      cases hy
      obtain ⟨r, rfl, hr⟩ := str_at hz
      have h12 : i < 5 := hi
      have s45 := same_upd (o := .tup [.int (i : Nat), .str r]) hTT
      refine ⟨TT, _, rfl, .of upd_same, rfl, ?_⟩
      refine ⟨_, _, rfl, _, _, rfl, rfl, rfl, ?_⟩
      refine ⟨_, rfl, _, rfl, _, _, rfl, rfl, by omega, _, _, rfl, rfl, _, rfl, ?_⟩
      have eb : Builtin.bitAnd ((m : Int) / 2 ^ ((i : Int)).toNat) 1 = ((m / 2 ^ i % 2 : Nat) : Int) := by
        have h := Bits.bitAnd_mask (x := (m : Int) / 2 ^ ((i : Int)).toNat) 1 (Int.ediv_nonneg (by omega) (by rw [Int.toNat_natCast]; exact Int.le_of_lt (Int.pow_pos (by decide))))
        rw [show (2 : Int) ^ 1 - 1 = 1 from rfl, show (2 : Int) ^ 1 = 2 from rfl] at h
        rw [h, Int.toNat_natCast]
        simp
      rw [eb]
      by_cases z : m / 2 ^ i % 2 = 1
      · rw [z]
        refine iteT ⟨_, rfl, (nm (Rs.take i) m).map V.str, s45 _ _ hP2.at_, ?_, ?_, ?_⟩
        · rw [List.length_map]
          have h1 := nm_len (l := Rs.take i) (n := m)
          have h2 : (Rs.take i).length ≤ 5 := by rw [List.length_take, Rs_len]; exact Nat.min_le_right _ _
          exact small1000 (by omega)
        · intro b o e
          rw [upd_ne (ne_of_none e hD)]
          exact s45 _ _ (hP2.same _ _ e)
        · rw [upd_same, nm_take_s hr, if_pos z, List.map_append]
          rfl
      · have z0 : m / 2 ^ i % 2 = 0 := by omega
        rw [z0]
        refine iteF ⟨fun b o e => s45 _ _ (hP2.same _ _ e), ?_⟩
        rw [nm_take_s hr, if_neg z, List.append_nil]
        exact s45 _ _ hP2.at_
    intro H4 hP2
    exact k m rfl (by omega) H4 D hP2.same hD hP2.at_
def sp_read (CB CT : Addr) : Sp := fun vs H Q E => ∃ (t : Str), vs = [.str t] ∧ t.length ≤ 5000 ∧ (partsT t).length < 900 ∧ (∀ x ∈ partsT t, okS x = true) ∧
  (ord (partsT t) = partsT t → ∀ H' x, Same H H' → H x = none → BookAt CB H' x (partsT t) → Q (.ref x) H') ∧ (ord (partsT t) ≠ partsT t → ∀ H', Same H H' → E (.ref CT) none H')
def sp_of_number (CB CV : Addr) : Sp := fun vs H Q E => ∃ (n : Int), vs = [.int n] ∧ (∀ m : Nat, n = m → m < 32 → ∀ H' x, Same H H' → H x = none → BookAt CB H' x (nm Rs m) → Q (.ref x) H') ∧ (n < 0 ∨ 32 ≤ n → ∀ H', Same H H' → E (.ref CV) none H')
theorem ok_of_number (T : Tx K mg) : FnOk P w K mg base (L2N.CX P w) 3 T.f_TieBook_of_number T.fd_TieBook_of_number ["number"] (sp_of_number T.C_TieBook T.C_BadValue) := by
  refine T.F_TieBook_of_number.okN sc_TieBook_of_number (fun vs H Q E h => ?_) (fun cdv A outer s H vs Q E hr h => ?_)
  · obtain ⟨_, rfl, _⟩ := h; rfl
  · obtain ⟨n, rfl, k, kE⟩ := h
    have hr1 : Room 1 _ := hr.mono (by decide)
    refine ⟨_, (pss_one (ps_ret (pe_makeS T.mk_TieBook (ok_RuleSet_init T) hr rfl T.mg_TieBook (b_RuleSet___init__ T) (fun σ => L2N.passAt (L2N.takes_of rfl rfl rfl rfl) σ) (pa_cons (pe_callS (ok_numbered T) hr1 rfl T.mg_numbered_names T.F_numbered_names.kp (b_numbered_names T) (fun σ => L2N.passAt (L2N.takes_of rfl rfl rfl rfl) σ) (pa_cons (pv 0) (pa_cons (pe_cv T.mg_TieBook T.cr_TieBook ⟨_, T.tv_TieBook_RULES⟩) pa_nil))) pa_nil)))), ?_⟩
    refine ⟨_, rfl, n, T.tA_TieBook_RULES, rfl, T.tt_TieBook_RULES, fun m em hm H' p s1 np e1 => ?_, fun he H' s1 => kE he H' s1⟩
    have hs : (nm Rs m).Sublist Rs := nm_sub
    refine book_made (.inl (.of e1)) (by have := hs.length_le; rw [Rs_len] at this; omega) (fun r hr => by have := Rs_size r (hs.subset hr); omega) (fun _ H2 x s2 nx B => ?_) (fun ⟨r, hr, hn⟩ => absurd (hs.subset hr) hn)
    rw [ord_sub hs] at B
    exact k m em hm H2 x (s1.trans s2) (s1.free nx) B
def sp_full (CB : Addr) : Sp := fun vs H Q _ => vs = [] ∧ ∀ H' x, Same H H' → H x = none → BookAt CB H' x Rs → Q (.ref x) H'
theorem passL0 {X : Cx} (σ : L2.St) : PassesAt (L2N.CX X.prog X.w) X σ E0 := fun pins H s e s' I c => passLN pins σ H s e s' I c
def sp_or (CB : Addr) : Sp := fun vs H Q _ => ∃ (a b : Addr) (B D : List Str), vs = [.ref a, .ref b] ∧ BookAt CB H a B ∧ BookAt CB H b D ∧ ∀ H' x, Same H H' → H x = none → BookAt CB H' x (ord (B ++ D)) → Q (.ref x) H'
def sp_sub (CB : Addr) : Sp := fun vs H Q _ => ∃ (a b : Addr) (B D : List Str), vs = [.ref a, .ref b] ∧ BookAt CB H a B ∧ BookAt CB H b D ∧ B.Sublist Rs ∧ ∀ H' x, Same H H' → H x = none → BookAt CB H' x (B.filter fun r => decide (r ∉ D)) → Q (.ref x) H'
end
end K60
namespace Rg
open PySem PySem.Spec PyProof.Rows L2
section
variable {X : Cx} {CX : CXT} {k i : Nat} {f C : Addr} {fd : FuncData} {ps : List Str} {sp : Sp} {E : XK} {x : Str} {p pos : Pos} {e : Expr} {es : List Expr} {t : TA} {dvs : List V} {ds : List Value}
/-- a call through a slot that holds one of some defs -/
theorem pe_callFam {ι : Type} {g : ι → Addr} {gd : ι → FuncData} {gp : ι → Sp} (hv : PE X (.Name x p) (tVar i)) (F : ∀ j, FnOk X.prog X.w X.K X.mg X.base CX k (g j) (gd j) ps (gp j)) (hr : Room k X.A) (hk : ∀ j, PySem.W.keepIn X.K (.ref (g j)) = true) (hb : ∀ j, Binds X.K (gd j) ps ds) (hd : Vals dvs ds) (hx : Passes CX X E)
    (ha : PA X (e :: es) t) (he : starEach (e :: es) X.env = (false, eval e X.env) :: starEach es X.env := by rfl) (hpl : (backTo pos (starEach es X.env)).any (·.1) = false := by rfl) :
    PE X (.Call (.Name x p) (e :: es) [] pos) (fun σ H Q => ∃ j, σ[i]? = some (some (.ref (g j))) ∧ tCall (gp j) dvs E t σ H Q) := by
  refine ⟨fun pins s σ H Q I h => ?_⟩
  obtain ⟨j, hs, h⟩ := h
  refine wpAny_Call_Name_kw (thn (hv.run pins s σ H (fun v H1 => v = .ref (g j) ∧ H1 = H) I ⟨.ref (g j), hs, rfl, rfl⟩) fun u s1 ⟨v, H1, I1, r1, q1⟩ => ?_)
  obtain ⟨ev, eH⟩ := q1
  subst ev
  rw [eH] at I1
  obtain rfl : u = Value.ref (g j) := r1
  refine PySem.W.callWith_K (h₀ := X.base) I1.ok.mod.kin (hk j) (thn (ha.run pos pins s1 σ H _ I1 h) fun us s2 ⟨vs, H2, I2, r, q⟩ => ⟨I2.kIn, ?_⟩) he hpl
  exact run_fn (F j) hr (hb j) hd hx I2 r q
/-- C(..) through a slot that holds the class -/
theorem pe_makeV (hv : PE X (.Name x p) (tVar i)) (M : Mk X.K C f) (F : FnOk X.prog X.w X.K X.mg X.base CX k f fd ps sp) (hr : Room (k + 1) X.A) (hb : Binds X.K fd ps ds) (hd : Vals dvs ds) (hx : Passes CX X E)
    (ha : PA X (e :: es) t) (he : starEach (e :: es) X.env = (false, eval e X.env) :: starEach es X.env := by rfl) (hpl : (backTo pos (starEach es X.env)).any (·.1) = false := by rfl) :
    PE X (.Call (.Name x p) (e :: es) [] pos) (fun σ H Q => σ[i]? = some (some (.ref C)) ∧ tMake C sp dvs E t σ H Q) := by
  refine ⟨fun pins s σ H Q I h => ?_⟩
  obtain ⟨hs, h⟩ := h
  refine wpAny_Call_Name_kw (thn (hv.run pins s σ H (fun v H1 => v = .ref C ∧ H1 = H) I ⟨.ref C, hs, rfl, rfl⟩) fun u s1 ⟨v, H1, I1, r1, q1⟩ => ?_)
  obtain ⟨ev, eH⟩ := q1
  subst ev
  rw [eH] at I1
  obtain rfl : u = Value.ref C := r1
  refine PySem.W.callWith_K (h₀ := X.base) I1.ok.mod.kin M.kp (thn (ha.run pos pins s1 σ H _ I1 h) fun us s2 ⟨vs, H2, I2, r, q⟩ => ⟨I2.kIn, ?_⟩) he hpl
  exact run_make M F hr hb hd hx I2 r q
end
end Rg
namespace K60
open PySem PySem.Spec PyProof.Rows L2 Rg
/-- a comprehension that keeps some of l, i looked at -/
def PvG {α : Type} (f : α → V) (H0 : Hp) (D : Addr) (l : List α) (p : α → Bool) (i : Nat) (H' : Hp) : Prop := Same H0 H' ∧ H' D = some (.lst (((l.take i).filter p).map f))
theorem PvG.start {α : Type} {f : α → V} {H0 : Hp} {D : Addr} {l : List α} {p : α → Bool} (h : H0 D = none) : PvG f H0 D l p 0 (upd H0 D (.lst [])) := ⟨same_upd h, upd_same⟩
theorem take_getG {α : Type} {l : List α} {i : Nat} {x : α} (h : l[i]? = some x) : l.take (i + 1) = l.take i ++ [x] := by
  rw [List.take_add_one, h]
  rfl
theorem PvG.yes {α : Type} {f : α → V} {H0 H' H2 : Hp} {D : Addr} {l : List α} {p : α → Bool} {i : Nat} {x : α} (h : PvG f H0 D l p i H') (hD : H0 D = none) (S : Same H' H2) (hx : l[i]? = some x) (hl : l.length < 1000) (hp : p x = true) :
    ∃ acc, H2 D = some (.lst acc) ∧ acc.length < sizeLine ∧ PvG f H0 D l p (i + 1) (upd H2 D (.lst (acc ++ [f x]))) := by
  refine ⟨_, S _ _ h.2, ?_, fun a o z => ?_, ?_⟩
  · rw [List.length_map]
    have h1 := List.length_filter_le p (l.take i)
    have h2 := List.length_take_le i l
    have hi := (List.getElem?_eq_some_iff.mp hx).1
    exact lt_line (by omega)
  · rw [upd_ne (ne_of_none z hD)]
    exact S _ _ (h.1 _ _ z)
  · rw [upd_same, take_getG hx, List.filter_append, List.map_append, List.filter_cons, if_pos hp]
    rfl
theorem PvG.no {α : Type} {f : α → V} {H0 H' H2 : Hp} {D : Addr} {l : List α} {p : α → Bool} {i : Nat} {x : α} (h : PvG f H0 D l p i H') (S : Same H' H2) (hx : l[i]? = some x) (hp : p x = false) : PvG f H0 D l p (i + 1) H2 := by
  refine ⟨h.1.trans S, ?_⟩
  rw [take_getG hx, List.filter_append, List.filter_cons, if_neg (by rw [hp]; decide), List.filter_nil, List.append_nil]
  exact S _ _ h.2
theorem PvG.all {α : Type} {f : α → V} {H0 H' : Hp} {D : Addr} {l : List α} {p : α → Bool} {n : Nat} (h : PvG f H0 D l p n H') (e : n = l.length) : Same H0 H' ∧ H' D = some (.lst ((l.filter p).map f)) := by
  subst e
  have := h.2
  rw [List.take_length] at this
  exact ⟨h.1, this⟩
end K60
namespace Rg
open PySem PySem.Spec PyProof.Rows L2 CwR
/-! ### bodies where a token is out: str.replace of written texts -/
theorem fun_okT {x qual : Str} {st : Stmt} {f : Addr} {fd : FuncData} {N ps : List Str} {k : Nat} {sp : Sp} {P : Program} {w : World} {K : PySem.W.Frag} {mg : Str → Option Value} {base : Heap} (F : Fun K x qual st f fd) (S : FnScope N ps (defScope st)) (hnc : ∀ y ∈ (defScope st).names, y.2 ≠ .cell) (hps : 1 ≤ ps.length) (len : ∀ vs H Q E, sp vs H Q E → vs.length = ps.length)
    (hbody : ∀ (cdv : Value) (A : Around) (outer : List Env) (s : Shared) (H : Hp) (vs : List V) (Q : VK) (E : XK), Room k (A.deeper (envOfC qual (defScope st) s.heap.objs.size f cdv)) → sp vs H Q E →
      ∃ t, PSsT (cxOf CX0 P w K mg base N qual (defScope st) f cdv A outer s H E) (defBody st) t ∧ t { nx := fun _ H' => Q .non H', rt := Q } (start N vs) H) : FnOk P w K mg base CX0 (k + 1) f fd ps sp := by
  obtain ⟨oc, od, kV, doc, pm, an, cdv, ct, osl, e, lk, hcd⟩ := F.ex
  subst e
  exact fn_ofT lk hcd S hnc hps len fun A outer s H vs Q E hr hsp => hbody cdv A outer s H vs Q E hr hsp
section
variable {X : Cx}
theorem pst_set {i : Nat} {x : Str} {e : Expr} {te : TE} {pos pos' : Pos} (hN : X.N.Nodup) (hi : X.N[i]? = some x) (hx : Loc X.env.scope x) (he : PET X e te) (hs : swapsWith e (some (.Name x pos')) pos.line X.env = pure false := by rfl) (hf : X.fn x = true ∨ X.env.scope.names.lookup x = some .local := by first | exact .inl rfl | exact .inr rfl | assumption) :
    PST X (.Assign [.Name x pos'] e pos) (tAsg te (gName i)) := by
  intro pins s σ H D h0 I h
  refine wpAny_Assign_Name (thn (he pins s σ H _ h0 I h) fun v s1 ⟨y, H1, I1, r1, q1⟩ => ?_) hs
  exact store_ok I1 hN hi hx r1 (fun s2 I2 => ⟨_, H1, I2, q1⟩) hf
theorem pet_tup {es : List Expr} {t : TA} {pos : Pos} {x1 : Nat} (h : PAT X es t) : PET X (.Tuple es x1 pos) (tTup t) := by
  intro pins s σ H Q h0 I hq
  refine wpAny_Tuple_spliced (thn (h pos pins s σ H _ h0 I hq) fun us s1 ⟨xs, H1, I1, r, z, q⟩ => ⟨by rw [← r.length]; exact z, ?_⟩)
  have hf : H1 s1.heap.objs.size = none := I1.hok.fresh (Nat.le_refl _)
  refine ⟨.ref s1.heap.objs.size, upd H1 s1.heap.objs.size (.tup xs), I1.laid (t' := s1.toks) (fun b u e => Heap.get?_push_of_some _ e) (Nat.le_refl _) ?_, rfl, q _ hf⟩
  exact ⟨z, us, r, ⟨_, Heap.get?_push_size _ rfl, rfl, _, rfl⟩⟩
theorem psst_cut {st : Stmt} {rest : List Stmt} {t u : TS} (h1 : PST X st t) (h2 : PSsT X rest u) : PSsT X (st :: rest) (Evl.tCut t u) := by
  intro pins s σ H D h0 I h
  obtain ⟨Mid, hm, hu⟩ := h
  refine wpAny_execs_cons (wpAny_mono (PySem.wpAny_toks (h1 pins s σ H { D with nx := Mid } h0 I hm)) (fun f s1 q => ?_) fun _ _ x => x.2)
  obtain ⟨hk, q⟩ := q
  cases f with
  | next =>
    obtain ⟨σ', H', I', q⟩ := q
    exact h2 pins s1 σ' H' D (Nat.le_trans h0 hk) I' (hu σ' H' q)
  | ret v => exact q
  | brk => exact q
  | cont => exact q
end
end Rg
namespace Rg
open PySem PySem.Spec PyProof.Rows L2 GenW
/-! ### a generator def's body: if and for with a yield within -/
section
variable {M : Model} {A : Around} {R : GenEnd} {Y : Protocol} {n : Nat} {s₀ : Shared} {c : Code} {fs : List Frame} {s : Shared} {env : Env} {K : Flow → Sem PySem.Fin} {J : Value → Sem PySem.Fin} {gd : Bool → Bool} {lv : List Value → List Value}
theorem seg_If {test : Expr} {body orelse : List Stmt} {pos : Pos}
    (h : wpAny M (A.over c fs) (isTrue test env (eval test env)) (fun b s' => Seg M A R Y n s₀ c ((execs (if b = true then body else orelse) env).wrap K J gd lv) fs s') (fun x s' => Seg M A R Y n s₀ c (J x) fs s') s) :
    Seg M A R Y n s₀ c ((exec (.If test body orelse pos) env).wrap K J gd lv) fs s := by
  rw [exec_If]
  show Seg M A R Y n s₀ c (.at pos fun _ => (isTrue test env (eval test env) >>= fun b => if b = true then execs body env else execs orelse env).wrap K J gd lv) fs s
  refine seg_at ?_
  rw [Sem.bind_eq_wrap', Sem.wrap_wrap]
  refine seg_wrap (wpAny_mono h (fun b s' hb => ?_) fun _ _ x => x)
  cases b <;> exact hb
theorem seg_For {target iter : Expr} {body : List Stmt} {pos : Pos}
    (h : wpAny M (A.over c fs) (eval iter env) (fun x s₁ => wpAny M (A.over c fs) (pyIter x) (fun it s₂ =>
      ∀ p, Seg M A R Y n s₀ (.forLoop target it body [] env) (M.den (.forLoop target it body [] env))
        (.ret (fun r => ((match r with | .ok f => (.pure f : Sem Flow) | .error e => .raise e).onRaise (cameBack env)).wrap K J gd lv) none (gd false) (lv []) c p [] :: fs) s₂)
        (fun x s' => Seg M A R Y n s₀ c (J x) fs s') s₁) (fun x s' => Seg M A R Y n s₀ c (J x) fs s') s)
    (hs : ∀ x, foldedSetIterable iter env x = pure x := by intro _; rfl) :
    Seg M A R Y n s₀ c ((exec (.For target iter body [] pos) env).wrap K J gd lv) fs s := by
  rw [exec_For]
  show Seg M A R Y n s₀ c (.at pos fun _ => (eval iter env >>= fun v => foldedSetIterable iter env v >>= fun x => standAt iter.pos >>= fun _ => holding [x] (pyIter x) >>= fun it => runOwn (.forLoop target it body [] env) env).wrap K J gd lv) fs s
  refine seg_at ?_
  rw [Sem.bind_eq_wrap', Sem.wrap_wrap]
  refine seg_wrap (wpAny_mono h (fun v s1 h1 => ?_) fun _ _ x => x)
  show Seg M A R Y n s₀ c ((foldedSetIterable iter env v >>= fun x => standAt iter.pos >>= fun _ => holding [x] (pyIter x) >>= fun it => runOwn (.forLoop target it body [] env) env).wrap K J (fun g => gd (id g)) (fun l => lv (id l))) fs s1
  rw [hs v]
  show Seg M A R Y n s₀ c (.at iter.pos fun _ => (holding [v] (pyIter v) >>= fun it => runOwn (.forLoop target it body [] env) env).wrap K J (fun g => gd (id g)) (fun l => lv (id l))) fs s1
  refine seg_at ?_
  rw [Sem.bind_eq_wrap', Sem.wrap_wrap]
  refine seg_wrap (wpAny_holding (wpAny_mono h1 (fun it s2 h2 => ?_) fun _ _ x => x))
  exact seg_call h2
end
section
variable {prog : Program} {w : World} {A : Around} {R : GenEnd} {Y : Protocol} {n : Nat} {s₀ : Shared} {fs : List Frame} {s : Shared} {env : Env}
def noteG (env : Env) (e : Value) : Sem PySem.Fin := (do noteFrame e env; theTreesLotGoes e : Sem Unit).wrap (fun _ => .raise e) .raise id id
def turnG (target : Expr) (it : Value) (body : List Stmt) (env : Env) (f : Flow) : Sem PySem.Fin := match f with
  | .next => .pure (.again (.forLoop target it body [] env))
  | .cont => .pure (.again (.forLoop target it body [] env))
  | .brk => .pure (.done .next)
  | .ret v => .pure (.done (.ret v))
theorem seg_forLoop {target : Expr} {it : Value} {body : List Stmt}
    (h : wpAny (model prog w) (A.over (.forLoop target it body [] env) fs) (pyNext it) (fun r s' => match r with
        | none => Seg (model prog w) A R Y n s₀ (.forLoop target it body [] env) (.pure (.again (.block [] env))) fs s'
        | some v => wpAny (model prog w) (A.over (.forLoop target it body [] env) fs) (letOwnedTupleGo target it v) (fun _ s2 =>
            wpAny (model prog w) (A.over (.forLoop target it body [] env) fs) (assign target env v) (fun _ s3 =>
              Seg (model prog w) A R Y n s₀ (.forLoop target it body [] env) ((execs body env).wrap (turnG target it body env) (noteG env) id id) fs s3)
              (fun x s' => Seg (model prog w) A R Y n s₀ (.forLoop target it body [] env) (noteG env x) fs s') s2)
            (fun x s' => Seg (model prog w) A R Y n s₀ (.forLoop target it body [] env) (noteG env x) fs s') s')
      (fun x s' => Seg (model prog w) A R Y n s₀ (.forLoop target it body [] env) (noteG env x) fs s') s) :
    Seg (model prog w) A R Y n s₀ (.forLoop target it body [] env) ((model prog w).den (.forLoop target it body [] env)) fs s := by
  show Seg _ A R Y n s₀ _ ((forTurn target it body [] env).onRaise (fun x => do noteFrame x env; theTreesLotGoes x)) fs s
  unfold forTurn
  rw [Sem.onRaise_eq_wrap]
  have hN : (fun e => (do noteFrame e env; theTreesLotGoes e : Sem Unit).bind fun _ => (.raise e : Sem PySem.Fin)) = noteG env := funext fun e => by
    unfold noteG
    rw [Sem.bind_eq_wrap]
  rw [hN]
  show Seg _ A R Y n s₀ _ (.at target.pos fun _ => (((pyNext it).onRaise fun _ => standAt { target.pos with line := 0 }) >>= fun r => match r with
    | none => again (.block [] env)
    | some v => (letOwnedTupleGo target it v >>= fun _ => assign target env v >>= fun _ => execs body env >>= fun f => match f with
      | .next => again (.forLoop target it body [] env)
      | .cont => again (.forLoop target it body [] env)
      | .brk => pure (.done .next)
      | .ret v => pure (.done (.ret v)) : Sem PySem.Fin)).wrap .pure (noteG env) id id) fs s
  refine seg_at ?_
  rw [Sem.bind_eq_wrap', Sem.wrap_wrap, Sem.onRaise_eq_wrap, Sem.wrap_wrap]
  refine seg_wrap (wpAny_mono h (fun r s' hr => ?_) fun x s' hx => ?_)
  · cases r with
    | none => exact hr
    | some v =>
      show Seg _ A R Y n s₀ _ ((letOwnedTupleGo target it v >>= fun _ => assign target env v >>= fun _ => execs body env >>= fun f => match f with
        | .next => again (.forLoop target it body [] env)
        | .cont => again (.forLoop target it body [] env)
        | .brk => pure (.done .next)
        | .ret v => pure (.done (.ret v)) : Sem PySem.Fin).wrap .pure (noteG env) id id) fs s'
      rw [Sem.bind_eq_wrap', Sem.wrap_wrap]
      refine seg_wrap (wpAny_mono hr (fun _ s2 h2 => ?_) fun x s' hx => hx)
      show Seg _ A R Y n s₀ _ ((assign target env v >>= fun _ => execs body env >>= fun f => match f with
        | .next => again (.forLoop target it body [] env)
        | .cont => again (.forLoop target it body [] env)
        | .brk => pure (.done .next)
        | .ret v => pure (.done (.ret v)) : Sem PySem.Fin).wrap .pure (noteG env) id id) fs s2
      rw [Sem.bind_eq_wrap', Sem.wrap_wrap]
      refine seg_wrap (wpAny_mono h2 (fun _ s3 h3 => ?_) fun x s' hx => hx)
      show Seg _ A R Y n s₀ _ ((execs body env >>= fun f => match f with
        | .next => again (.forLoop target it body [] env)
        | .cont => again (.forLoop target it body [] env)
        | .brk => pure (.done .next)
        | .ret v => pure (.done (.ret v)) : Sem PySem.Fin).wrap .pure (noteG env) id id) fs s3
      rw [Sem.bind_eq_wrap', Sem.wrap_wrap]
      rw [Sem.wrap_congr (execs body env) _ _ (K' := turnG target it body env) (H' := noteG env) (fun f => by cases f <;> rfl) (fun e => by rfl)]
      exact h3
  · exact seg_at hx
end
section
variable {X : Cx} {st : Stmt} {rest : List Stmt}
def tGIf (c : TT) (ta tb : TGn) : TGn := fun D ys σ H => c σ H fun b H1 => if b = true then ta D ys σ H1 else tb D ys σ H1
theorem gs_if {test : Expr} {body orelse : List Stmt} {pos : Pos} {tc : TT} {ta tb : TGn} (hc : PT X test tc) (ha : GSs X body ta) (hb : GSs X orelse tb) : GS X (.If test body orelse pos) (tGIf tc ta tb) := by
  refine ⟨fun A S ip R n ys s₀ c fs K J gd lv s σ H D g hn k hI ht => ?_⟩
  refine seg_If ?_
  rw [g.over]
  obtain ⟨acc, cc, r, I⟩ := hI
  refine wpAny_mono (hc.run _ s σ H _ I ht) (fun b s' hb' => ?_) fun x s' hx => k.exc n s₀ x s' hx
  obtain ⟨H2, I2, q2⟩ := hb'
  cases b with
  | true =>
    rw [if_pos rfl] at q2
    exact ha.run A S ip R n ys s₀ c fs K J gd lv s' σ H2 D g hn k ⟨acc, cc, r, I2⟩ q2
  | false =>
    rw [if_neg Bool.false_ne_true] at q2
    exact hb.run A S ip R n ys s₀ c fs K J gd lv s' σ H2 D g hn k ⟨acc, cc, r, I2⟩ q2
/-- W: the invariant by the turn, a measure and what is out so far -/
def tGFor (wi : TI) (g : TG) (tb : TGn) : TGn := fun D ys σ H => wi σ H fun J H1 => ∃ W : Nat → Nat → List V → L2.St → Hp → Prop, (∃ m, W 0 m ys σ H1) ∧ ∀ i m ys σ H, W i m ys σ H →
  (J.stop i H ∧ D.nx ys σ H) ∨ (J.go i H ∧ ∃ N : List V → L2.St → Hp → Prop, (∀ ys' σ' H', N ys' σ' H' → ∃ m', m' < m ∧ W (i + 1) m' ys' σ' H') ∧ ∀ x H', J.yld i H x H' → g x σ H' fun σ2 H2 => tb { D with nx := N, ct := N, bk := D.nx } ys σ2 H2)
theorem gs_for {tg iter : Expr} {body : List Stmt} {wi : TI} {g : TG} {tb : TGn} {pos : Pos} (hp : PassesOwn (model X.prog X.w) X.A X.env X.xe) (hc : X.calm = true) (hi : PI X tg iter wi) (hg : PG X tg g) (hb : GSs X body tb)
    (hs : ∀ x, foldedSetIterable iter X.env x = pure x := by intro _; rfl) : GS X (.For tg iter body [] pos) (tGFor wi g tb) := by
  refine ⟨fun A S ip R n ys s₀ c fs K J gd lv s σ H D g0 hn k hI ht => ?_⟩
  refine seg_For ?_ hs
  rw [g0.over]
  obtain ⟨acc, cc, r, I⟩ := hI
  refine wpAny_mono (hi.run _ s σ H _ I ht) (fun v s1 h1 => ?_) fun x s' hx => k.exc n s₀ x s' hx
  refine wpAny_mono h1 (fun itv s2 h2 => ?_) fun x s' hx => k.exc n s₀ x s' hx
  obtain ⟨it, fp, tn, Ji, H2, e, I2, T, st2, f2, W, ⟨m0, w0⟩, turn⟩ := h2
  subst e
  intro p
  have gl := fun (kk : Result → Sem PySem.Fin) => gc_loop (k := kk) (c' := .forLoop tg (.ref it) body [] X.env) (l := lv []) (kp := []) (p := p) g0 rfl rfl
  have stat : ∀ {acc' : Array Value} {c' : Nat} {H' : Hp}, (∀ b ∈ fp, H' b = none) → ∀ b ∈ fp, FpOk X ((S, lstObj acc' c') :: ip) H' b := fun {acc' c' H'} hn b hb => by
    obtain ⟨_, q1, q2, q3, q4, q5⟩ := f2 b hb
    refine ⟨hn b hb, q1, q2, q3, q4, fun z hz => ?_⟩
    rcases List.mem_append.mp hz with hz | hz
    · exact q5 z (List.mem_append_left _ hz)
    · rcases List.mem_cons.mp hz with hz | hz
      · rw [hz]; exact q5 (S, lstObj acc cc) (List.mem_append_right _ List.mem_cons_self)
      · exact q5 z (List.mem_append_right _ (List.mem_cons_of_mem _ hz))
  have neS : ∀ b ∈ fp, b ≠ S := fun b hb z => (f2 b hb).2.2.2.2.2 (S, lstObj acc cc) (List.mem_append_right _ List.mem_cons_self) z.symm
  have ipS : ∀ h : Heap, ∀ q ∈ ip ++ pinsAt fp h, q.1 ≠ S := fun h q hq => (List.mem_append.mp hq).elim (g0.ip q) fun z => neS _ (of_pinsAt z).1
  have loop : ∀ (m i n : Nat) (ys : List V) (s₀ s : Shared) (σ : L2.St) (H : Hp), n + ys.length = sizeLine → W i m ys σ H → GI X S ip ys σ H s → tn i s.heap → (∀ b ∈ fp, H b = none) →
      Seg (model X.prog X.w) A R (GY X S) n s₀ (.forLoop tg (.ref it) body [] X.env) ((model X.prog X.w).den (.forLoop tg (.ref it) body [] X.env))
        (.ret (fun r => ((match r with | .ok f => (.pure f : Sem Flow) | .error e => .raise e).onRaise (cameBack X.env)).wrap K J gd lv) none (gd false) (lv []) c p [] :: fs) s := by
    intro m
    induction m using Nat.strongRecOn with
    | ind m ih =>
      intro i n ys s₀ s σ H hn w hI st fr
      have ee : ∀ (n : Nat) (s₀ : Shared) (x : Value) (s' : Shared), X.xe x s' → Seg (model X.prog X.w) A R (GY X S) n s₀ (.forLoop tg (.ref it) body [] X.env) (noteG X.env x)
          (.ret (fun r => ((match r with | .ok f => (.pure f : Sem Flow) | .error e => .raise e).onRaise (cameBack X.env)).wrap K J gd lv) none (gd false) (lv []) c p [] :: fs) s' := fun n s₀ x s' hx => by
        refine seg_wrap ?_
        rw [(gl _).over]
        refine wpAny_bind (wpAny_mono (hp x s' hx) (fun _ s'' hcb => wpAny_theTreesLotGoes ?_) fun y s'' hcb => ?_)
        · exact seg_leaf (.error x) (seg_cameBack g0 k hcb)
        · exact seg_leaf (.error y) (seg_cameBack g0 k hcb)
      refine seg_forLoop ?_
      rw [(gl _).over]
      obtain ⟨acc, cc, r, I⟩ := hI
      rcases turn i m ys σ H w with ⟨stop, qn⟩ | ⟨go, N, hN, step⟩
      · refine wpAny_mono (T.done X rfl rfl rfl hc i _ s σ H X.xe I (stat fr) st stop) (fun r' s4 hr => ?_) fun x s' hx => ee n s₀ x s' hx
        obtain ⟨hr, I4⟩ := hr
        subst hr
        refine seg_again rfl ?_
        exact seg_leaf (.ok .next) (k.ok n ys s₀ s4 .next hn ⟨σ, H, ⟨acc, cc, r, I4⟩, qn⟩)
      · refine wpAny_mono (T.item X rfl rfl rfl hc i _ s σ H X.xe I (stat fr) st go) (fun r' s4 hr => ?_) fun x s' hx => ee n s₀ x s' hx
        obtain ⟨u, hr, h4⟩ := hr
        subst hr
        refine wpAny_mono h4 (fun _ s5 h5 => ?_) fun x s' hx => ee n s₀ x s' hx
        obtain ⟨x, H5, I5, r5, y5, st5, fr5⟩ := h5
        have I5' := I5.pinned (stat fr5) (T.obj _ _ st5)
        refine wpAny_mono (hg.run _ s5 σ H5 x u _ I5' r5 (step x H5 y5)) (fun _ s6 h6 => ?_) fun x s' hx => ee n s₀ x s' hx
        obtain ⟨σ6, H6, I6, q6⟩ := h6
        have g2 : GC X S (ip ++ pinsAt fp s5.heap) A (.forLoop tg (.ref it) body [] X.env) (.ret (fun r => ((match r with | .ok f => (.pure f : Sem Flow) | .error e => .raise e).onRaise (cameBack X.env)).wrap K J gd lv) none (gd false) (lv []) c p [] :: fs) id := { gl _ with ip := ipS _ }
        refine hb.run A S (ip ++ pinsAt fp s5.heap) R n ys s₀ _ _ _ _ id id s6 σ6 H6 { D with nx := N, ct := N, bk := D.nx } g2 hn ⟨fun n' ys' s₀' s7 f hn' hs => ?_, fun n' s₀' x s7 hx => ee n' s₀' x s7 hx⟩ ⟨acc, cc, r, I6⟩ q6
        have again_ : ∀ {σ7 : L2.St} {H7 : Hp}, GI X S (ip ++ pinsAt fp s5.heap) ys' σ7 H7 s7 → N ys' σ7 H7 → Seg (model X.prog X.w) A R (GY X S) n' s₀' (.forLoop tg (.ref it) body [] X.env) (.pure (.again (.forLoop tg (.ref it) body [] X.env)))
            (.ret (fun r => ((match r with | .ok f => (.pure f : Sem Flow) | .error e => .raise e).onRaise (cameBack X.env)).wrap K J gd lv) none (gd false) (lv []) c p [] :: fs) s7 := fun {σ7 H7} hI7 n7 => by
          obtain ⟨acc7, c7, r7, I7⟩ := hI7
          obtain ⟨m', hm, w7⟩ := hN ys' σ7 H7 n7
          have I7' : Inv X (((S, lstObj acc7 c7) :: ip) ++ pinsAt fp s5.heap) σ7 H7 s7 := I7
          refine seg_again rfl (ih m' hm (i + 1) n' ys' s₀' s7 σ7 H7 hn' w7 ⟨acc7, c7, r7, I7'.unpinned⟩ ?_ fun b hb => ?_)
          · exact T.keep _ _ _ st5 fun b hb o e => (I7'.pin (b, o) (List.mem_append_right _ (List.mem_append_right _ (mem_pinsAt hb e)))).1
          · obtain ⟨o, e, d⟩ := T.obj _ _ st5 b hb
            exact (I7'.pin (b, o) (List.mem_append_right _ (List.mem_append_right _ (mem_pinsAt hb e)))).2.1
        have un_ : ∀ {σ7 : L2.St} {H7 : Hp}, GI X S (ip ++ pinsAt fp s5.heap) ys' σ7 H7 s7 → GI X S ip ys' σ7 H7 s7 := fun {σ7 H7} hI7 => by
          obtain ⟨acc7, c7, r7, I7⟩ := hI7
          have I7' : Inv X (((S, lstObj acc7 c7) :: ip) ++ pinsAt fp s5.heap) σ7 H7 s7 := I7
          exact ⟨acc7, c7, r7, I7'.unpinned⟩
        cases f with
        | next => obtain ⟨σ7, H7, I7, n7⟩ := hs; exact again_ I7 n7
        | cont => obtain ⟨σ7, H7, I7, n7⟩ := hs; exact again_ I7 n7
        | brk => obtain ⟨σ7, H7, I7, q7⟩ := hs; exact seg_leaf (.ok .next) (k.ok n' ys' s₀' s7 .next hn' ⟨σ7, H7, un_ I7, q7⟩)
        | ret v => obtain ⟨x7, σ7, H7, I7, r7, q7⟩ := hs; exact seg_leaf (.ok (.ret v)) (k.ok n' ys' s₀' s7 (.ret v) hn' ⟨x7, σ7, H7, un_ I7, r7, q7⟩)
  exact loop m0 0 n ys s₀ s2 σ H2 hn w0 ⟨acc, cc, r, I2⟩ st2 fun b hb => (f2 b hb).1
end
end Rg
namespace Rg
open PySem PySem.Spec PyProof.Rows L2
/-! ### tuple * n for any n from 1 on; any over a tuple of 0 and 1 -/
theorem tuple_mul1 (l : Addr) (items : Array Value) (n : Nat) (dd : Option Addr) (sl : Array (Option Value)) (u : Tok) :
    Meets (Builtin.«tuple.__mul__» ⟨[.ref l, .int 1 u], []⟩) (fun _ R s => s.heap.get? l = some { cls := .type "tuple", dict := dd, data := .seq items n, slots := sl } ∧ R (.ok (.ret (.ref l))) s) :=
  .of_wp fun prog w A R s h => by
    obtain ⟨hp, g, d, tk, os⟩ := s
    obtain ⟨hl, h⟩ := h
    have f1 := AutoSeq1.idx_int
    wp_walk using wpAny_loadPart' hl
    exact ⟨_, rfl, h⟩
def rRepA (K : PySem.W.Frag) : R2 := fun x y H Q => ∃ l k xs, x = .ref l ∧ y = .int k ∧ SqT K H l xs ∧ xs ≠ [] ∧ 1 ≤ k ∧ k ≤ 1000 ∧ xs.length ≤ 1000 ∧ ∀ H' p, Same H H' → SqT K H' p (List.replicate k.toNat xs).flatten → Q (.ref p) H'
theorem op_repA {X : Cx} : OpR X (binaryOp .Mult) (rRepA X.K) := by
  intro pins s σ H x y v u Q I rx ry h
  obtain ⟨l, k, xs, rfl, rfl, hT, hne, h1, h2, hz, q⟩ := h
  by_cases h3 : 2 ≤ k
  · exact op_repT pins s σ H _ _ v u Q I rx ry ⟨l, k, xs, rfl, rfl, hT, hne, h3, h2, hz, fun p n => q _ p (same_upd n) (.inl (.of upd_same))⟩
  obtain rfl : k = 1 := by omega
  cases rx
  obtain ⟨t, rfl⟩ := ry
  obtain ⟨its, r, ⟨⟨cls, dd, data, sl⟩, ho, hc, n, hd⟩, hs⟩ := I.tuple hT
  simp only at hc hd
  subst hc hd
  refine wpAny_binaryOp_repeat_ref (T := "tuple") (U := "int") (by decide) ⟨_, ho, rfl⟩ (fun s' => typeIs_int s' 1 t) noFill_tuple_mul F.fills_int_mul F.slot_int_rmul repeat_tuple F.slot_int_index.lookup
    (call_meets F.slot_int_rmul (typeIs_int s 1 t) F.entry_int_rmul (F.args_int_rmul_2 _ _) (int_rmul_tuple 1 t l its.toArray n dd sl)
      ⟨ho, rfl, ⟨_, ho, rfl⟩, call_meets F.slot_tuple_mul ⟨_, ho, rfl⟩ F.entry_tuple_mul (F.args_tuple_mul_2 _ _) (tuple_mul1 l its.toArray n dd sl t) ⟨ho, ?_⟩⟩)
  have e : (List.replicate (1 : Int).toNat xs).flatten = xs := by simp
  exact ⟨.ref l, H, I, rfl, q H l (Same.refl _) (by rw [e]; exact hT)⟩
theorem iter_anyT {prog : Program} {w : World} {A : Around} {E : Value → Shared → Prop} {s : Shared} {l : Addr} {items : Array Value} {Q : Value → Shared → Prop} (hl : s.heap.IsTuple l items)
    (h : ∀ s₂ : Shared, s₂ = { s with heap := s.heap.push { cls := .type "tuple_iterator", data := .fields #[.ref l, .int 0 0] } } →
      (s₂.heap.IsTupleIter s.heap.objs.size l 0 ∧ s₂.heap.IsTuple l items) → l ≠ s.heap.objs.size → Q (.ref s.heap.objs.size) s₂) : wpAny (model prog w) A (pyIter (.ref l)) Q E s := by
  have hlt : l < s.heap.objs.size := by obtain ⟨_, e, _⟩ := hl; exact Heap.lt_size e
  exact wpAny_pyIter_tuple hl (h _ rfl ⟨⟨_, Heap.get?_push_size _ rfl, rfl, rfl⟩, hl.push _⟩ (Nat.ne_of_lt hlt))
abbrev bit (b : Bool) : V := .int (if b = true then 1 else 0)
theorem truth_bits {prog : Program} {w : World} {A : Around} {bs : List Bool} {its : List Value} (e : Vals (bs.map bit) its) :
    TruthOf prog w A (fun i v => its.toArray[i]? = some v) (fun i => bs.getD i false) := fun i v s Q E hv hq => by
  have hv' : its[i]? = some v := by simpa using hv
  have hi := (List.getElem?_eq_some_iff.mp hv').1
  rw [← e.length, List.length_map] at hi
  obtain ⟨b, hb⟩ : ∃ b, bs[i]? = some b := ⟨_, List.getElem?_eq_getElem hi⟩
  obtain ⟨v2, e2, r⟩ := e.get (show (bs.map bit)[i]? = some (bit b) by rw [List.getElem?_map, hb]; rfl)
  obtain rfl : v2 = v := Option.some.inj (e2.symm.trans hv')
  obtain ⟨t, rfl⟩ := r
  have hg : bs.getD i false = b := by rw [List.getD_eq_getElem?_getD, hb] <;> rfl
  have hq' : Q (bs.getD i false) s := hq
  rw [hg] at hq'
  refine PySem.P.truthy_int ?_
  cases b <;> exact hq'
theorem cr_anyB {X : Cx} (hc : X.calm = true) : CallR X (.builtin "any") (fun vs H Q => ∃ (a : Addr) (bs : List Bool), vs = [V.ref a] ∧ SqT X.K H a (bs.map bit) ∧ Q (.bl (bs.any id)) H) := by
  intro pins s σ H vs us Q I r h
  obtain ⟨a, bs, rfl, hs, q⟩ := h
  obtain ⟨its, rv, hl, _⟩ := I.tuple hs
  rw [Vals.ref1 r]
  refine call_any_walk (iter_anyT (show s.heap.IsTuple a its.toArray from hl) fun s₂ e2 st hne => ?_)
  subst e2
  refine ⟨_, _, _, _, _, _, _, rfl, Walks.tuple (A := X.A.in1) (I.ok.hd hc) _ a hne its.toArray, st, truth_bits rv, fun h' tk hk => ?_⟩
  refine ⟨.bl _, H, I.kept fun b o eo => hk b o (fun hmem => ?_) (Heap.get?_push_of_some _ eo), ?_, q⟩
  · rcases List.mem_cons.mp hmem with e1 | hmem
    · exact absurd (e1 ▸ Heap.lt_size eo) (Nat.lt_irrefl _)
    · cases hmem
  · show Value.bool _ = Value.bool _
    rw [← L2.any_range, List.size_toArray, ← rv.length, List.length_map]
end Rg
namespace Rg
open PySem PySem.Spec PyProof.Rows L2
/-! ### a value that is a truth, the heap untouched -/
def PB (te : TE) (σ : L2.St) (H : Hp) (b : Bool) : Prop := ∀ Q : VK, Q (.bl b) H → te σ H Q
section
variable {ta tb : TE} {σ : L2.St} {H : Hp} {a b : Bool}
theorem PB.run {Q : VK} (h : PB ta σ H a) (k : Q (.bl a) H) : ta σ H Q := h Q k
theorem PB.and (h1 : PB ta σ H a) (h2 : a = true → PB tb σ H b) : PB (tAndV ta tb) σ H (a && b) := fun Q k => h1 _ (by
  refine ⟨_, rfl, ?_⟩
  cases a with
  | true => exact iteT (h2 rfl Q k)
  | false => exact iteF k)
theorem PB.or (h1 : PB ta σ H a) (h2 : a = false → PB tb σ H b) : PB (tOrV ta tb) σ H (a || b) := fun Q k => h1 _ (by
  refine ⟨_, rfl, ?_⟩
  cases a with
  | true => exact iteT k
  | false => exact iteF (h2 rfl Q k))
theorem PB.not (h : PB ta σ H a) : PB (tNotV ta) σ H (!a) := fun _ k => h _ ⟨_, rfl, k⟩
theorem PB.var {i : Nat} (h : σ[i]? = some (some (.bl a))) : PB (tVar i) σ H a := fun _ k => ⟨_, h, k⟩
theorem PB.eqC {i : Nat} {x y : Str} {p : Prop} [Decidable p] (h : σ[i]? = some (some (.str x))) (e : decide (V.str x = V.str y) = decide p) : PB (tOp rEq (tVar i) (tC (.str y))) σ H (decide p) := fun _ k => ⟨_, h, rfl, by rw [e]; exact k⟩
theorem PB.neC {i : Nat} {x y : Str} {p : Prop} [Decidable p] (h : σ[i]? = some (some (.str x))) (e : (!decide (V.str x = V.str y)) = decide p) : PB (tOp rNe (tVar i) (tC (.str y))) σ H (decide p) := fun _ k => ⟨_, h, rfl, by rw [e]; exact k⟩
theorem PB.eqS {te : TE} {x y : Str} {p : Prop} [Decidable p] (h : ∀ Q : VK, Q (.str x) H → te σ H Q) (e : decide (V.str x = V.str y) = decide p) : PB (tOp rEq te (tC (.str y))) σ H (decide p) := fun _ k => h _ ⟨rfl, by rw [e]; exact k⟩
theorem PB.neS {te : TE} {x y : Str} {p : Prop} [Decidable p] (h : ∀ Q : VK, Q (.str x) H → te σ H Q) (e : (!decide (V.str x = V.str y)) = decide p) : PB (tOp rNe te (tC (.str y))) σ H (decide p) := fun _ k => h _ ⟨rfl, by rw [e]; exact k⟩
theorem PB.of (h : PB ta σ H a) (e : a = b) : PB ta σ H b := e ▸ h
end
end Rg
namespace K60
open PySem PySem.Spec PyProof.Rows L2 Rg
/-! ### signs as numbers -/
def sgl : List Str := ["u", "-", "n", "o"]
def sg (n : Nat) : Str := sgl.getD n "z"
abbrev sv (n : Nat) : V := .str (sg n)
theorem sg_big {n : Nat} (h : 4 ≤ n) : sg n = "z" := by
  unfold sg
  rw [List.getD_eq_getElem?_getD, List.getElem?_eq_none (by show 4 ≤ n; exact h)]
  rfl
theorem sg_tab : ∀ n < 4, ∀ m < 4, sg n = sg m → n = m := by decide +kernel
theorem sg_z : ∀ m < 4, ("z" : Str) ≠ sg m := by decide +kernel
theorem sg_eq {n m : Nat} (h : m < 4) : sg n = sg m ↔ n = m := by
  refine ⟨fun e => ?_, fun e => by rw [e]⟩
  by_cases hn : n < 4
  · exact sg_tab n hn m h e
  · rw [sg_big (by omega)] at e
    exact absurd e (sg_z m h)
theorem sv_eq {n m : Nat} (h : m < 4) : V.str (sg n) = V.str (sg m) ↔ n = m := ⟨fun e => (sg_eq h).mp (by injection e), fun e => by rw [e]⟩
theorem dSg {n m : Nat} (h : m < 4) : decide (V.str (sg n) = V.str (sg m)) = decide (n = m) := decide_eq_decide.mpr (sv_eq h)
theorem nSg {n m : Nat} (h : m < 4) : (!decide (V.str (sg n) = V.str (sg m))) = decide (¬ n = m) := by
  rw [dSg h]
  by_cases e : n = m <;> simp [e]
theorem dS0 (n : Nat) : decide (V.str (sg n) = V.str "u") = decide (n = 0) := dSg (m := 0) (by decide)
theorem dS1 (n : Nat) : decide (V.str (sg n) = V.str "-") = decide (n = 1) := dSg (m := 1) (by decide)
theorem dS2 (n : Nat) : decide (V.str (sg n) = V.str "n") = decide (n = 2) := dSg (m := 2) (by decide)
theorem dS3 (n : Nat) : decide (V.str (sg n) = V.str "o") = decide (n = 3) := dSg (m := 3) (by decide)
theorem nS0 (n : Nat) : (!decide (V.str (sg n) = V.str "u")) = decide (¬ n = 0) := nSg (m := 0) (by decide)
theorem nS1 (n : Nat) : (!decide (V.str (sg n) = V.str "-")) = decide (¬ n = 1) := nSg (m := 1) (by decide)
theorem nS2 (n : Nat) : (!decide (V.str (sg n) = V.str "n")) = decide (¬ n = 2) := nSg (m := 2) (by decide)
theorem nS3 (n : Nat) : (!decide (V.str (sg n) = V.str "o")) = decide (¬ n = 3) := nSg (m := 3) (by decide)
theorem nSS (n m : Nat) (h : m < 4) : (!decide (V.str (sg n) = V.str (sg m))) = decide (¬ n = m) := nSg h
/-- membership in a row of signs -/
theorem inSg (n : Nat) : ∀ l : List Nat, (∀ m ∈ l, m < 4) → inV (sv n) (l.map sv) = decide (n ∈ l) := fun l h => by
  have e : l.map sv = (l.map sg).map V.str := by rw [List.map_map]; rfl
  rw [e, inV_str]
  refine decide_eq_decide.mpr ⟨fun q => ?_, fun q => List.mem_map.mpr ⟨n, q, rfl⟩⟩
  obtain ⟨m, hm, e⟩ := List.mem_map.mp q
  rw [(sg_eq (h m hm)).mp e.symm]
  exact hm
theorem iteS {b : Bool} {p : Prop} [Decidable p] {A B : Prop} (e : b = decide p) (h1 : p → A) (h2 : ¬ p → B) : if b = true then A else B := by
  subst e
  by_cases h : p
  · rw [if_pos (decide_eq_true h)]; exact h1 h
  · rw [if_neg (by simpa using h)]; exact h2 h
theorem casQ {Q : VK} {v v' : V} {H : Hp} (k : Q v H) (e : v = v') : Q v' H := e ▸ k
end K60
namespace K60
open PySem PySem.Spec PyProof.Rows L2 Rg
/-! ### slices and sums of tuples, whole or not -/
theorem catA {K : PySem.W.Frag} {H : Hp} {a b : Addr} {xs ys : List V} {Q : VK} (ha : SqT K H a xs) (hb : SqT K H b ys) (hz : xs.length + ys.length ≤ sizeLine) (k : ∀ H' p, Same H H' → SqT K H' p (xs ++ ys) → Q (.ref p) H') : rCatA K (.ref a) (.ref b) H Q :=
  ⟨a, b, xs, ys, rfl, rfl, ha, hb, hz, fun e => by subst e; exact k H b (Same.refl _) hb, fun _ e => by subst e; exact k H a (Same.refl _) (by rw [List.append_nil]; exact ha), fun _ _ p n => k _ p (same_upd n) (.inl (.of upd_same))⟩
theorem slA {K : PySem.W.Frag} {H : Hp} {a : Addr} {xs : List V} {lo hi : Option Int} {Q : VK} (hx : SqT K H a xs) (k : ∀ H' p, Same H H' → SqT K H' p (cutV xs lo hi) → Q (.ref p) H') : rSlA K (.ref a) lo hi H Q :=
  ⟨a, xs, rfl, hx, fun e => k H a (Same.refl _) (by unfold cutV; rw [e.1, e.2, List.drop_zero, Nat.sub_zero, List.take_length]; exact hx), fun _ p n => k _ p (same_upd n) (.inl (.of upd_same))⟩
theorem cut_take {l : List V} {j : Nat} (h : j ≤ l.length) : cutV l none (some (j : Int)) = l.take j := by
  unfold cutV
  rw [HT.sIx_none, HT.sIx_nat, List.drop_zero, Nat.sub_zero, Nat.min_eq_left h]
theorem cut_drop {l : List V} {j : Nat} (h : j ≤ l.length) : cutV l (some (j : Int)) none = l.drop j := by
  unfold cutV
  rw [HT.sIx_none, HT.sIx_nat, Nat.min_eq_left h, List.take_of_length_le (by rw [List.length_drop]; omega)]
theorem set_cut {l : List V} {j : Nat} {x : V} (h : j < l.length) : (cutV l none (some (j : Int)) ++ [x]) ++ cutV l (some ((j : Int) + 1)) none = l.set j x := by
  rw [cut_take (by omega), show ((j : Int) + 1) = ((j + 1 : Nat) : Int) from rfl, cut_drop (by omega), List.set_eq_take_append_cons_drop, if_pos h, List.append_assoc]
  rfl
theorem sz1 {n : Nat} {xs : List V} {x : V} (h : n ≤ 100) (g : xs.length ≤ n) : xs.length + [x].length ≤ sizeLine := by
  have : 101 ≤ sizeLine := by decide
  show xs.length + 1 ≤ sizeLine
  omega
/-! ### standings -/
abbrev bi (b : Bool) : V := .int (if b = true then 1 else 0)
structure Td where (al : Bool) (ti : List Bool) (re : Nat) (ma : List Nat) (to : Bool)
def TdAt (K : PySem.W.Frag) (H : Hp) (a : Addr) (t : Td) : Prop := ∃ ta ma, SqT K H a [bi t.al, .ref ta, sv t.re, .ref ma, bi t.to] ∧ SqT K H ta (t.ti.map bi) ∧ SqT K H ma (t.ma.map sv)
theorem TdAt.same {K : PySem.W.Frag} {H H' : Hp} {a : Addr} {t : Td} (h : TdAt K H a t) (s : Same H H') : TdAt K H' a t := let ⟨ta, ma, h1, h2, h3⟩ := h; ⟨ta, ma, sameT s h1, sameT s h2, sameT s h3⟩
theorem TdAt.tk {K : PySem.W.Frag} {Ps : List Addr} {H H' : Hp} {a : Addr} {t : Td} (h : TdAt K H a t) (tb : Tab Ps H) (s : Tk Ps H H') : TdAt K H' a t := let ⟨ta, ma, h1, h2, h3⟩ := h; ⟨ta, ma, s.seqT tb h1, s.seqT tb h2, s.seqT tb h3⟩
structure Wf (t : Td) (n : Nat) : Prop where (tl : t.ti.length = n) (ml : t.ma.length = n) (n8 : n ≤ 8) (n0 : 0 < n) (rl : t.re < 4) (mm : ∀ m ∈ t.ma, m < 4) (mp : ∀ m ∈ t.ma, 0 < m)
inductive Lt where
  | mk (j : Nat)
  | ln (j : Nat)
  | dr (j : Nat)
  | mv (i j : Nat)
  | on
  | oe (j : Nat)
  | td
def ltv : Lt → List V
  | .mk j => [.str "make", .int j]
  | .ln j => [.str "link", .int j]
  | .dr j => [.str "drop", .int j]
  | .mv i j => [.str "move", .int i, .int j]
  | .on => [.str "out_node"]
  | .oe j => [.str "out_entry", .int j]
  | .td => [.str "told"]
def Lt.inb : Lt → Nat → Prop
  | .mk j, n => j < n
  | .ln j, n => j < n
  | .dr j, n => j < n
  | .mv i j, n => i < n ∧ j < n ∧ i ≠ j
  | .on, _ => True
  | .oe j, n => j < n
  | .td, _ => True
def aged (m : Nat) : Nat := if m = 2 then 3 else m
def keptM (t : Td) : Bool := (t.ti.zip t.ma).any fun q => q.1 && decide (q.2 = 2)
def agreesM (t : Td) : Bool := decide (t.re = if t.al = true then 2 else 0) && (t.ti.zip t.ma).all fun q => decide (q.2 = if q.1 = true then 2 else 1)
def afterM (t : Td) (B : List Str) : Lt → Option Td
  | .mk j => if t.al = true ∨ (("after" : Str) ∈ B ∧ (t.ma.any fun m => decide (¬ m = 1)) = true) then none else some ⟨true, t.ti.set j true, aged t.re, t.ma.map aged, false⟩
  | .ln j => if t.al = false ∨ t.ti.getD j false = true then none else some ⟨t.al, t.ti.set j true, t.re, t.ma, t.to⟩
  | .dr j => if t.ti.getD j false = false then none else if (t.ti.set j false).any id = true then some ⟨true, t.ti.set j false, t.re, t.ma, t.to⟩ else some ⟨false, t.ti.set j false, t.re, t.ma, false⟩
  | .mv i j => if t.ti.getD i false = false ∨ t.ti.getD j false = true then none else some ⟨t.al, (t.ti.set i false).set j true, t.re, t.ma, t.to⟩
  | .on => some ⟨t.al, t.ti, if t.al = true then 2 else 0, t.ma, t.to⟩
  | .oe j => if t.ti.getD j false = true then (if ("first" : Str) ∈ B ∧ ¬ t.re = 2 then none else some ⟨t.al, t.ti, t.re, t.ma.set j 2, t.to⟩)
    else if ("keep" : Str) ∈ B ∧ t.al = true ∧ t.ma.getD j 0 = 2 ∧ keptM t = false then none else some ⟨t.al, t.ti, t.re, t.ma.set j 1, t.to⟩
  | .td => if ("told" : Str) ∈ B ∧ agreesM t = false then none else some ⟨t.al, t.ti, t.re, t.ma, t.al⟩
def badM (t : Td) (B : List Str) : Bool := (t.to && (decide (¬ t.re = 2) || decide (¬ 2 ∈ t.ma))) || (decide (¬ ("numbered" : Str) ∈ B) && (decide (¬ t.re = 0) && t.ma.any fun m => decide (¬ m = 1) && decide (¬ m = t.re)))
section
variable {P : Program} {w : World} {K : PySem.W.Frag} {mg : Str → Option Value} {base : Heap}
def sp_with (K : PySem.W.Frag) : Sp := fun vs H Q _ => ∃ (a : Addr) (l : List V) (j : Nat) (x : V), vs = [.ref a, .int j, x] ∧ SqT K H a l ∧ j < l.length ∧ l.length ≤ 100 ∧ ∀ H' p, Same H H' → SqT K H' p (l.set j x) → Q (.ref p) H'
theorem ok_with (T : Tx K mg) : FnOk P w K mg base CX0 1 T.f_with T.fd_with ["row", "j", "what"] (sp_with K) := by
  refine T.F_with.ok sc_with (fun vs H Q E h => ?_) (fun cdv A0 outer s H vs Q E hr h => ?_)
  · obtain ⟨_, _, _, _, rfl, _⟩ := h; rfl
  · obtain ⟨a, l, j, x, rfl, hl, hj, hn, k⟩ := h
    try dsimp only at k
    refine ⟨_, (pss_one (ps_ret (pe_op op_catA (pe_op op_catA (pe_slice L2.sl_tupA (pv 0) po_none (po_some (pv 1))) (pe_tup (pa_cons (pv 2) pa_nil))) (pe_slice L2.sl_tupA (pv 0) (po_some (pe_op op_add (pv 1) pe_int)) po_none)))), ?_⟩
    refine ⟨_, rfl, _, rfl, _, rfl, slA hl fun G1 p1 s1 h1 => ?_⟩
    refine ⟨_, rfl, by show 1 ≤ sizeLine; decide, ?_⟩
    (intro t n_t; generalize he_t : upd _ t _ = G2; obtain ⟨e_t, s_t, f_t⟩ := new_f he_t n_t; clear he_t)
    refine catA (sameT s_t h1) (.inl (.of e_t)) (sz1 hn (cutV_length _ _ _)) fun G3 p3 s3 h3 => ?_
    refine ⟨_, rfl, _, rfl, _, _, rfl, rfl, _, rfl, ?_⟩
    dsimp only [tNoPart]
    refine slA (sameT s3 (sameT s_t (sameT s1 hl))) fun G4 p4 s4 h4 => ?_
    refine catA (sameT s4 h3) h4 ?_ fun G5 p5 s5 h5 => ?_
    · have := cutV_length l none (some (j : Int))
      have := cutV_length l (some ((j : Int) + 1)) none
      have : 301 ≤ sizeLine := by decide
      rw [List.length_append]
      show _ + 1 + _ ≤ _
      omega
    rw [set_cut hj] at h5
    exact k _ _ (s1.trans (s_t.trans (s3.trans (s4.trans s5)))) h5
end
end K60
namespace K60
open PySem PySem.Spec PyProof.Rows L2 Rg
theorem pe_gs {X : Cx} {x z : Str} {p : Pos} (h : ∃ t, X.mg x = some (.str z t)) (hg : Gl X x := by rfl) (hdb : (x == ("__debug__" : Str)) = false := by decide) : PE X (.Name x p) (tC (.str z)) := by
  obtain ⟨t, e⟩ := h
  exact pe_glob (v := .str z) hg e ⟨t, rfl⟩ hdb
theorem tru_bi {K : PySem.W.Frag} {H : Hp} {b : Bool} : TruV K (bi b) H b := by cases b <;> rfl
theorem iteN {b : Bool} {A B : Prop} (h1 : b = false → A) (h2 : b = true → B) : if (!b) = true then A else B := by
  cases b
  · exact h1 rfl
  · exact h2 rfl
theorem iteO {b : Bool} {A B : Prop} (h1 : b = true → A) (h2 : b = false → B) : if b = true then A else B := by
  cases b
  · exact h2 rfl
  · exact h1 rfl
theorem getB {l : List Bool} {j : Nat} (h : j < l.length) : (l.map bi)[j]? = some (bi (l.getD j false)) := by
  rw [List.getElem?_map, List.getD_eq_getElem?_getD, List.getElem?_eq_getElem h]
  rfl
theorem getS {l : List Nat} {j : Nat} (h : j < l.length) : (l.map sv)[j]? = some (sv (l.getD j 0)) := by
  rw [List.getElem?_map, List.getD_eq_getElem?_getD, List.getElem?_eq_getElem h]
  rfl
theorem setB {K : PySem.W.Frag} {H : Hp} {p : Addr} {l : List Bool} {j : Nat} {c : Bool} (h : SqT K H p ((l.map bi).set j (bi c))) : SqT K H p ((l.set j c).map bi) := by
  rw [List.map_set]; exact h
theorem setS {K : PySem.W.Frag} {H : Hp} {p : Addr} {l : List Nat} {j c : Nat} (h : SqT K H p ((l.map sv).set j (sv c))) : SqT K H p ((l.set j c).map sv) := by
  rw [List.map_set]; exact h
theorem Td.ext_ {t u : Td} (h1 : t.al = u.al) (h2 : t.ti = u.ti) (h3 : t.re = u.re) (h4 : t.ma = u.ma) (h5 : t.to = u.to) : t = u := by
  cases t; cases u; cases h1; cases h2; cases h3; cases h4; cases h5; rfl
section
variable {P : Program} {w : World} {K : PySem.W.Frag} {mg : Str → Option Value} {base : Heap}
theorem ok_aged (T : Tx K mg) : FnOk P w K mg base CX0 1 T.f_aged T.fd_aged ["sign"] (fun vs H Q _ => ∃ m : Nat, vs = [sv m] ∧ Q (sv (aged m)) H) := by
  refine T.F_aged.ok sc_aged (fun vs H Q E h => ?_) (fun cdv A0 outer s H vs Q E hr h => ?_)
  · obtain ⟨_, rfl, _⟩ := h; rfl
  · obtain ⟨m, rfl, k⟩ := h
    try dsimp only at k
    refine ⟨_, (pss_one (ps_ret (pe_ifExp (pt_cmpR op_eq (pv 0) (pe_gs T.c_NEW) (nomark _)) (pe_gs T.c_OLD) (pv 0)))), ?_⟩
    refine ⟨_, rfl, rfl, _, rfl, ?_⟩
    refine iteS (dS2 _) (fun h => ?_) fun h => ?_
    · exact casQ k (by unfold aged; rw [if_pos h]; rfl)
    · exact ⟨_, rfl, casQ k (by unfold aged; rw [if_neg h])⟩
def ROd (K : PySem.W.Frag) (Ps : List Addr) (H : Hp) (Q : VK) : Option Td → Prop
  | none => ∀ H', Tk Ps H H' → Q .non H'
  | some t => ∀ H' x, Tk Ps H H' → TdAt K H' x t → Q (.ref x) H'
/-- a letter's step -/
def sp_step (K : PySem.W.Frag) (C : Addr) (Ps : List Addr) (is : Lt → Prop) : Sp := fun vs H Q _ => ∃ (L : Lt) (t : Td) (n : Nat) (N : List Str) (a l b : Addr), vs = [.ref a, .ref l, .ref b] ∧ is L ∧ TdAt K H a t ∧ SqT K H l (ltv L) ∧ BookAt C H b N ∧ Wf t n ∧ L.inb n ∧ Tab Ps H ∧ ROd K Ps H Q (afterM t N L)
theorem ok_out_node (T : Tx K mg) : FnOk P w K mg base CX0 1 T.f_out_node T.fd_out_node ["standing", "letter", "book"] (sp_step K T.C_TieBook T.Ps fun L => L = .on) := by
  refine T.F_out_node.ok sc_out_node (fun vs H Q E h => ?_) (fun cdv A0 outer s H vs Q E hr h => ?_)
  · obtain ⟨_, _, _, _, _, _, _, rfl, _⟩ := h; rfl
  · obtain ⟨L, t, n, N, a, l, b, rfl, rfl, ⟨ta, ma, e1, e2, e3⟩, hl, hb, wf, hi, tb, k⟩ := h
    try dsimp only at k
    refine ⟨_, (pss_cons (ps_asg (pv 0) (pg_tup rfl (pgs_cons (pg_name (i := 3) sc_out_node.nd rfl (.inl rfl)) (pgs_cons (pg_name (i := 4) sc_out_node.nd rfl (.inl rfl)) (pgs_cons (pg_name (i := 5) sc_out_node.nd rfl (.inl rfl)) (pgs_cons (pg_name (i := 6) sc_out_node.nd rfl (.inl rfl)) (pgs_cons (pg_name (i := 7) sc_out_node.nd rfl (.inl rfl)) pgs_nil)))))))
      (pss_one (ps_ret (pe_tup (pa_cons (pv 3) (pa_cons (pv 4) (pa_cons (pe_ifExp (pt_truth (pv 3) (fun _ => rfl)) (pe_gs T.c_NEW) (pe_gs T.c_UNRECORDED)) (pa_cons (pv 6) (pa_cons (pv 7) pa_nil))))))))), ?_⟩
    refine ⟨_, rfl, a, _, rfl, e1, rfl, _, _, rfl, _, _, rfl, _, _, rfl, _, _, rfl, _, _, rfl, rfl, ?_⟩
    ((try dsimp only); (first | (refine Rg.sg (σ' := [some (.ref a), some (.ref l), some (.ref b), some (bi t.al), some (.ref ta), some (sv t.re), some (.ref ma), some (bi t.to)]) ?_ ?_; focus exact rfl) | (refine Rg.sgG (σ' := [some (.ref a), some (.ref l), some (.ref b), some (bi t.al), some (.ref ta), some (sv t.re), some (.ref ma), some (bi t.to)]) ?_ ?_; focus exact rfl)))
    refine ⟨_, rfl, _, rfl, _, rfl, t.al, tru_bi, ?_⟩
    have k : ROd K T.Ps H Q (some ⟨t.al, t.ti, if t.al = true then 2 else 0, t.ma, t.to⟩) := k
    cases ha : t.al
    · rw [ha] at k
      refine iteF ⟨_, rfl, _, rfl, by show 5 ≤ sizeLine; decide, ?_⟩
      (intro x n_x; generalize he_x : upd _ x _ = H1; obtain ⟨e_x, s_x, f_x⟩ := new_f he_x n_x; clear he_x)
      exact k _ x (.of tb s_x) ⟨ta, ma, .inl (.of e_x), sameT s_x e2, sameT s_x e3⟩
    · rw [ha] at k
      refine iteT ⟨_, rfl, _, rfl, by show 5 ≤ sizeLine; decide, ?_⟩
      (intro x n_x; generalize he_x : upd _ x _ = H1; obtain ⟨e_x, s_x, f_x⟩ := new_f he_x n_x; clear he_x)
      exact k _ x (.of tb s_x) ⟨ta, ma, .inl (.of e_x), sameT s_x e2, sameT s_x e3⟩
theorem ok_link (T : Tx K mg) : FnOk P w K mg base CX0 2 T.f_link T.fd_link ["standing", "letter", "book"] (sp_step K T.C_TieBook T.Ps fun L => ∃ j, L = .ln j) := by
  refine T.F_link.ok sc_link (fun vs H Q E h => ?_) (fun cdv A0 outer s H vs Q E hr h => ?_)
  · obtain ⟨_, _, _, _, _, _, _, rfl, _⟩ := h; rfl
  · obtain ⟨L, t, n, N, a, l, b, rfl, ⟨j, rfl⟩, ⟨ta, ma, e1, e2, e3⟩, hl, hb, wf, hi, tb, k⟩ := h
    try dsimp only at k
    refine ⟨_, (pss_cons (ps_asg (pv 0) (pg_tup rfl (pgs_cons (pg_name (i := 3) sc_link.nd rfl (.inl rfl)) (pgs_cons (pg_name (i := 4) sc_link.nd rfl (.inl rfl)) (pgs_cons (pg_name (i := 5) sc_link.nd rfl (.inl rfl)) (pgs_cons (pg_name (i := 6) sc_link.nd rfl (.inl rfl)) (pgs_cons (pg_name (i := 7) sc_link.nd rfl (.inl rfl)) pgs_nil)))))))
      (pss_cons (ps_if (PW.pt (pw_or (pt_not (pt_truth (pv 3) (fun _ => rfl))) (pw_or1 (pt_truth (pe_ix ix_tup (pv 4) (pe_ix ix_tup (pv 1) pe_int (fun _ _ => rfl)) (fun _ _ => rfl)) (fun _ => rfl)))))
        (pss_one (ps_ret pe_non))
        pss_nil)
      (pss_one (ps_ret (pe_tup (pa_cons (pv 3) (pa_cons (pe_call (ok_with T) (hr.mono (by decide)) rfl T.mg_with T.F_with.kp (b_with T) .nil pass0 (pa_cons (pv 4) (pa_cons (pe_ix ix_tup (pv 1) pe_int (fun _ _ => rfl)) (pa_cons pe_int pa_nil)))) (pa_cons (pv 5) (pa_cons (pv 6) (pa_cons (pv 7) pa_nil)))))))))), ?_⟩
    refine ⟨_, rfl, a, _, rfl, e1, rfl, _, _, rfl, _, _, rfl, _, _, rfl, _, _, rfl, _, _, rfl, rfl, ?_⟩
    ((try dsimp only); (first | (refine Rg.sg (σ' := [some (.ref a), some (.ref l), some (.ref b), some (bi t.al), some (.ref ta), some (sv t.re), some (.ref ma), some (bi t.to)]) ?_ ?_; focus exact rfl) | (refine Rg.sgG (σ' := [some (.ref a), some (.ref l), some (.ref b), some (bi t.al), some (.ref ta), some (sv t.re), some (.ref ma), some (bi t.to)]) ?_ ?_; focus exact rfl)))
    have hi : j < n := hi
    have hj : j < t.ti.length := by rw [wf.tl]; exact hi
    have k : ROd K T.Ps H Q (if t.al = false ∨ t.ti.getD j false = true then none else some ⟨t.al, t.ti.set j true, t.re, t.ma, t.to⟩) := k
    refine ⟨_, rfl, t.al, tru_bi, ?_⟩
    refine iteN (fun c1 => ?_) fun c1 => ?_
    · rw [if_pos (.inl c1)] at k
      exact k H (.refl tb)
    refine ⟨_, rfl, _, rfl, l, _, 1, .int j, rfl, rfl, hl, atI_nat (j := 1) rfl, ta, _, j, bi (t.ti.getD j false), rfl, rfl, e2, atI_nat (j := j) (getB hj), _, tru_bi, ?_⟩
    refine iteO (fun c2 => ?_) fun c2 => ?_
    · rw [if_pos (.inr c2)] at k
      exact k H (.refl tb)
    rw [if_neg (fun z => z.elim (fun z => by rw [c1] at z; cases z) fun z => by rw [c2] at z; cases z)] at k
    refine ⟨_, rfl, _, rfl, _, rfl, l, _, 1, .int j, rfl, rfl, hl, atI_nat (j := 1) rfl, ta, _, j, bi true, rfl, e2, by rw [List.length_map]; exact hj, by rw [List.length_map, wf.tl]; exact Nat.le_trans wf.n8 (by decide), fun H1 p s1 hp => ?_⟩
    refine ⟨_, rfl, _, rfl, _, rfl, by show 5 ≤ sizeLine; decide, ?_⟩
    (intro x n_x; generalize he_x : upd _ x _ = H2; obtain ⟨e_x, s_x, f_x⟩ := new_f he_x n_x; clear he_x)
    exact k _ x (.of tb (s1.trans s_x)) ⟨p, ma, .inl (.of e_x), sameT s_x (setB hp), sameT (s1.trans s_x) e3⟩
end
end K60
namespace K60
open PySem PySem.Spec PyProof.Rows L2 Rg
section
variable {P : Program} {w : World} {K : PySem.W.Frag} {mg : Str → Option Value} {base : Heap}
theorem ok_move (T : Tx K mg) : FnOk P w K mg base CX0 2 T.f_move T.fd_move ["standing", "letter", "book"] (sp_step K T.C_TieBook T.Ps fun L => ∃ i j, L = .mv i j) := by
  refine T.F_move.ok sc_move (fun vs H Q E h => ?_) (fun cdv A0 outer s H vs Q E hr h => ?_)
  · obtain ⟨_, _, _, _, _, _, _, rfl, _⟩ := h; rfl
  · obtain ⟨L, t, n, N, a, l, b, rfl, ⟨i, j, rfl⟩, ⟨ta, ma, e1, e2, e3⟩, hl, hb, wf, hi, tb, k⟩ := h
    try dsimp only at k
    refine ⟨_, (pss_cons (ps_asg (pv 0) (pg_tup rfl (pgs_cons (pg_name (i := 3) sc_move.nd rfl (.inl rfl)) (pgs_cons (pg_name (i := 4) sc_move.nd rfl (.inl rfl)) (pgs_cons (pg_name (i := 5) sc_move.nd rfl (.inl rfl)) (pgs_cons (pg_name (i := 6) sc_move.nd rfl (.inl rfl)) (pgs_cons (pg_name (i := 7) sc_move.nd rfl (.inl rfl)) pgs_nil)))))))
      (pss_cons (ps_asg (pe_slice L2.sl_tupA (pv 1) (po_some pe_int) po_none) (pg_tup rfl (pgs_cons (pg_name (i := 8) sc_move.nd rfl (.inl rfl)) (pgs_cons (pg_name (i := 9) sc_move.nd rfl (.inl rfl)) pgs_nil))))
      (pss_cons (ps_if (PW.pt (pw_or (pt_not (pt_truth (pe_ix ix_tup (pv 4) (pv 8) (fun _ _ => rfl)) (fun _ => rfl))) (pw_or1 (pt_truth (pe_ix ix_tup (pv 4) (pv 9) (fun _ _ => rfl)) (fun _ => rfl)))))
        (pss_one (ps_ret pe_non))
        pss_nil)
      (pss_one (ps_ret (pe_tup (pa_cons (pv 3) (pa_cons (pe_call (ok_with T) (hr.mono (by decide)) rfl T.mg_with T.F_with.kp (b_with T) .nil pass0 (pa_cons (pe_call (ok_with T) (hr.mono (by decide)) rfl T.mg_with T.F_with.kp (b_with T) .nil pass0 (pa_cons (pv 4) (pa_cons (pv 8) (pa_cons pe_int pa_nil)))) (pa_cons (pv 9) (pa_cons pe_int pa_nil)))) (pa_cons (pv 5) (pa_cons (pv 6) (pa_cons (pv 7) pa_nil))))))))))), ?_⟩
    refine ⟨_, rfl, a, _, rfl, e1, rfl, _, _, rfl, _, _, rfl, _, _, rfl, _, _, rfl, _, _, rfl, rfl, ?_⟩
    ((try dsimp only); (first | (refine Rg.sg (σ' := [some (.ref a), some (.ref l), some (.ref b), some (bi t.al), some (.ref ta), some (sv t.re), some (.ref ma), some (bi t.to), none, none]) ?_ ?_; focus exact rfl) | (refine Rg.sgG (σ' := [some (.ref a), some (.ref l), some (.ref b), some (bi t.al), some (.ref ta), some (sv t.re), some (.ref ma), some (bi t.to), none, none]) ?_ ?_; focus exact rfl)))
    obtain ⟨hi, hj, -⟩ := (show i < n ∧ j < n ∧ i ≠ j from hi)
    have hi : i < t.ti.length := by rw [wf.tl]; exact hi
    have hj : j < t.ti.length := by rw [wf.tl]; exact hj
    have k : ROd K T.Ps H Q (if t.ti.getD i false = false ∨ t.ti.getD j false = true then none else some ⟨t.al, (t.ti.set i false).set j true, t.re, t.ma, t.to⟩) := k
    refine ⟨_, rfl, _, rfl, ?_⟩
    dsimp only [tNoPart]
    refine slA hl fun G1 p1 s1 h1 => ?_
    have h1 : SqT K G1 p1 [.int i, .int j] := h1
    refine ⟨p1, _, rfl, h1, rfl, _, _, rfl, _, _, rfl, rfl, ?_⟩
    ((try dsimp only); (first | (refine Rg.sg (σ' := [some (.ref a), some (.ref l), some (.ref b), some (bi t.al), some (.ref ta), some (sv t.re), some (.ref ma), some (bi t.to), some (.int i), some (.int j)]) ?_ ?_; focus exact rfl) | (refine Rg.sgG (σ' := [some (.ref a), some (.ref l), some (.ref b), some (bi t.al), some (.ref ta), some (sv t.re), some (.ref ma), some (bi t.to), some (.int i), some (.int j)]) ?_ ?_; focus exact rfl)))
    have tb1 := tb.same s1
    have e2 := sameT s1 e2
    refine ⟨_, rfl, _, rfl, ta, _, i, bi (t.ti.getD i false), rfl, rfl, e2, atI_nat (j := i) (getB hi), _, tru_bi, ?_⟩
    refine iteN (fun c1 => ?_) fun c1 => ?_
    · rw [if_pos (.inl c1)] at k
      exact k _ (.of tb s1)
    refine ⟨_, rfl, _, rfl, ta, _, j, bi (t.ti.getD j false), rfl, rfl, e2, atI_nat (j := j) (getB hj), _, tru_bi, ?_⟩
    refine iteO (fun c2 => ?_) fun c2 => ?_
    · rw [if_pos (.inr c2)] at k
      exact k _ (.of tb s1)
    rw [if_neg (fun z => z.elim (fun z => by rw [c1] at z; cases z) fun z => by rw [c2] at z; cases z)] at k
    refine ⟨_, rfl, _, rfl, _, rfl, ta, _, i, bi false, rfl, e2, by rw [List.length_map]; exact hi, by rw [List.length_map, wf.tl]; exact Nat.le_trans wf.n8 (by decide), fun H2 p2 s2 hp2 => ?_⟩
    refine ⟨_, rfl, p2, _, j, bi true, rfl, setB hp2, by rw [List.length_map, List.length_set]; exact hj, by rw [List.length_map, List.length_set, wf.tl]; exact Nat.le_trans wf.n8 (by decide), fun H3 p3 s3 hp3 => ?_⟩
    refine ⟨_, rfl, _, rfl, _, rfl, by show 5 ≤ sizeLine; decide, ?_⟩
    (intro x n_x; generalize he_x : upd _ x _ = H4; obtain ⟨e_x, s_x, f_x⟩ := new_f he_x n_x; clear he_x)
    exact k _ x (.of tb (((s1.trans s2).trans s3).trans s_x)) ⟨p3, ma, .inl (.of e_x), sameT s_x (setB hp3), sameT (((s1.trans s2).trans s3).trans s_x) e3⟩
end
end K60
namespace K60
open PySem PySem.Spec PyProof.Rows L2 Rg
section
variable {P : Program} {w : World} {K : PySem.W.Frag} {mg : Str → Option Value} {base : Heap}
theorem ok_drop (T : Tx K mg) : FnOk P w K mg base CX0 2 T.f_drop T.fd_drop ["standing", "letter", "book"] (sp_step K T.C_TieBook T.Ps fun L => ∃ j, L = .dr j) := by
  refine T.F_drop.ok sc_drop (fun vs H Q E h => ?_) (fun cdv A0 outer s H vs Q E hr h => ?_)
  · obtain ⟨_, _, _, _, _, _, _, rfl, _⟩ := h; rfl
  · obtain ⟨L, t, n, N, a, l, b, rfl, ⟨j, rfl⟩, ⟨ta, ma, e1, e2, e3⟩, hl, hb, wf, hi, tb, k⟩ := h
    try dsimp only at k
    refine ⟨_, (pss_cons (ps_asg (pv 0) (pg_tup rfl (pgs_cons (pg_name (i := 3) sc_drop.nd rfl (.inl rfl)) (pgs_cons (pg_name (i := 4) sc_drop.nd rfl (.inl rfl)) (pgs_cons (pg_name (i := 5) sc_drop.nd rfl (.inl rfl)) (pgs_cons (pg_name (i := 6) sc_drop.nd rfl (.inl rfl)) (pgs_cons (pg_name (i := 7) sc_drop.nd rfl (.inl rfl)) pgs_nil)))))))
      (pss_cons (ps_if (pt_not (pt_truth (pe_ix ix_tup (pv 4) (pe_ix ix_tup (pv 1) pe_int (fun _ _ => rfl)) (fun _ _ => rfl)) (fun _ => rfl)))
        (pss_one (ps_ret pe_non))
        pss_nil)
      (pss_cons (ps_set (i := 8) sc_drop.nd rfl (.inl rfl) (pe_call (ok_with T) (hr.mono (by decide)) rfl T.mg_with T.F_with.kp (b_with T) .nil pass0 (pa_cons (pv 4) (pa_cons (pe_ix ix_tup (pv 1) pe_int (fun _ _ => rfl)) (pa_cons pe_int pa_nil)))))
      (pss_one (ps_ret (pe_ifExp (pt_val (pe_callB (cr_anyB rfl) rfl T.b_any (by decide +kernel) (pa_cons (pv 8) pa_nil))) (pe_tup (pa_cons pe_int (pa_cons (pv 8) (pa_cons (pv 5) (pa_cons (pv 6) (pa_cons (pv 7) pa_nil)))))) (pe_tup (pa_cons pe_int (pa_cons (pv 8) (pa_cons (pv 5) (pa_cons (pv 6) (pa_cons pe_int pa_nil)))))))))))), ?_⟩
    refine ⟨_, rfl, a, _, rfl, e1, rfl, _, _, rfl, _, _, rfl, _, _, rfl, _, _, rfl, _, _, rfl, rfl, ?_⟩
    ((try dsimp only); (first | (refine Rg.sg (σ' := [some (.ref a), some (.ref l), some (.ref b), some (bi t.al), some (.ref ta), some (sv t.re), some (.ref ma), some (bi t.to), none]) ?_ ?_; focus exact rfl) | (refine Rg.sgG (σ' := [some (.ref a), some (.ref l), some (.ref b), some (bi t.al), some (.ref ta), some (sv t.re), some (.ref ma), some (bi t.to), none]) ?_ ?_; focus exact rfl)))
    have hi : j < n := hi
    have hj : j < t.ti.length := by rw [wf.tl]; exact hi
    have k : ROd K T.Ps H Q (if t.ti.getD j false = false then none else if (t.ti.set j false).any id = true then some ⟨true, t.ti.set j false, t.re, t.ma, t.to⟩ else some ⟨false, t.ti.set j false, t.re, t.ma, false⟩) := k
    refine ⟨_, rfl, _, rfl, l, _, 1, .int j, rfl, rfl, hl, atI_nat (j := 1) rfl, ta, _, j, bi (t.ti.getD j false), rfl, rfl, e2, atI_nat (j := j) (getB hj), _, tru_bi, ?_⟩
    refine iteN (fun c1 => ?_) fun c1 => ?_
    · rw [if_pos c1] at k
      exact k H (.refl tb)
    rw [if_neg (by rw [c1]; decide)] at k
    refine ⟨_, rfl, _, rfl, l, _, 1, .int j, rfl, rfl, hl, atI_nat (j := 1) rfl, ta, _, j, bi false, rfl, e2, by rw [List.length_map]; exact hj, by rw [List.length_map, wf.tl]; exact Nat.le_trans wf.n8 (by decide), fun H1 p s1 hp => ?_⟩
    ((try dsimp only); (first | (refine Rg.sg (σ' := [some (.ref a), some (.ref l), some (.ref b), some (bi t.al), some (.ref ta), some (sv t.re), some (.ref ma), some (bi t.to), some (.ref p)]) ?_ ?_; focus exact rfl) | (refine Rg.sgG (σ' := [some (.ref a), some (.ref l), some (.ref b), some (bi t.al), some (.ref ta), some (sv t.re), some (.ref ma), some (bi t.to), some (.ref p)]) ?_ ?_; focus exact rfl)))
    refine ⟨_, rfl, p, _, rfl, setB hp, _, rfl, ?_⟩
    refine iteO (fun c2 => ?_) fun c2 => ?_
    · rw [if_pos c2] at k
      refine ⟨_, rfl, _, rfl, _, rfl, _, rfl, by show 5 ≤ sizeLine; decide, ?_⟩
      (intro x n_x; generalize he_x : upd _ x _ = H2; obtain ⟨e_x, s_x, f_x⟩ := new_f he_x n_x; clear he_x)
      exact k _ x (.of tb (s1.trans s_x)) ⟨p, ma, .inl (.of e_x), sameT s_x (setB hp), sameT (s1.trans s_x) e3⟩
    · rw [if_neg (by rw [c2]; decide)] at k
      refine ⟨_, rfl, _, rfl, _, rfl, by show 5 ≤ sizeLine; decide, ?_⟩
      (intro x n_x; generalize he_x : upd _ x _ = H2; obtain ⟨e_x, s_x, f_x⟩ := new_f he_x n_x; clear he_x)
      exact k _ x (.of tb (s1.trans s_x)) ⟨p, ma, .inl (.of e_x), sameT s_x (setB hp), sameT (s1.trans s_x) e3⟩
theorem repB {n : Nat} {v : V} : (List.replicate (n : Int).toNat [v]).flatten = List.replicate n v := by
  rw [Int.toNat_natCast]
  induction n with
  | zero => rfl
  | succ n ih => rw [List.replicate_succ, List.flatten_cons, ih]; rfl
def startM (n : Nat) : Td := ⟨false, List.replicate n false, 0, List.replicate n 1, false⟩
theorem ok_tie_start (T : Tx K mg) : FnOk P w K mg base CX0 1 T.f_tie_start T.fd_tie_start ["entries"] (fun vs H Q _ => ∃ n : Nat, vs = [.int n] ∧ 0 < n ∧ n ≤ 8 ∧ ∀ H' x, Same H H' → TdAt K H' x (startM n) → Q (.ref x) H') := by
  refine T.F_tie_start.ok sc_tie_start (fun vs H Q E h => ?_) (fun cdv A0 outer s H vs Q E hr h => ?_)
  · obtain ⟨_, rfl, _⟩ := h; rfl
  · obtain ⟨n, rfl, h0, h8, k⟩ := h
    try dsimp only at k
    refine ⟨_, (pss_one (ps_ret (pe_tup (pa_cons pe_int (pa_cons (pe_op op_repA (pe_tup (pa_cons pe_int pa_nil)) (pv 0)) (pa_cons (pe_gs T.c_UNRECORDED) (pa_cons (pe_op op_repA (pe_tup (pa_cons (pe_gs T.c_NONE) pa_nil)) (pv 0)) (pa_cons pe_int pa_nil)))))))), ?_⟩
    refine ⟨by show 1 ≤ sizeLine; decide, ?_⟩
    (intro t1 n_t1; generalize he_t1 : upd _ t1 _ = H1; obtain ⟨e_t1, s_t1, f_t1⟩ := new_f he_t1 n_t1; clear he_t1)
    refine ⟨_, rfl, t1, n, _, rfl, rfl, .inl (.of e_t1), nofun, by omega, by omega, by show 1 ≤ 1000; decide, fun H2 p1 s1 h1 => ?_⟩
    refine ⟨by show 1 ≤ sizeLine; decide, ?_⟩
    (intro t2 n_t2; generalize he_t2 : upd _ t2 _ = H3; obtain ⟨e_t2, s_t2, f_t2⟩ := new_f he_t2 n_t2; clear he_t2)
    refine ⟨_, rfl, t2, n, _, rfl, rfl, .inl (.of e_t2), nofun, by omega, by omega, by show 1 ≤ 1000; decide, fun H4 p2 s2 h2 => ?_⟩
    refine ⟨by show 5 ≤ sizeLine; decide, ?_⟩
    (intro x n_x; generalize he_x : upd _ x _ = H5; obtain ⟨e_x, s_x, f_x⟩ := new_f he_x n_x; clear he_x)
    rw [repB] at h1 h2
    exact k H5 x ((s_t1.trans s1).trans ((s_t2.trans s2).trans s_x)) ⟨p1, p2, .inl (.of e_x), sameT (s_t2.trans (s2.trans s_x)) (by rw [show (startM n).ti = List.replicate n false from rfl, List.map_replicate]; exact h1), sameT s_x (by rw [show (startM n).ma = List.replicate n 1 from rfl, List.map_replicate]; exact h2)⟩
end
end K60
namespace K60
open PySem PySem.Spec PyProof.Rows L2 Rg
theorem inBook {C : Addr} {H : Hp} {b : Addr} {B : List Str} {z : Str} {f : Bool → Bool} {Q : VK} (h : BookAt C H b B) (k : Q (.bl (f (decide (z ∈ B)))) H) : rInOwn C (sp_contains C) f (.str z) (.ref b) H Q := by
  obtain ⟨dx, tn, e, _⟩ := h.ob
  exact ⟨b, dx, _, rfl, e, b, B, z, rfl, h, _, rfl, k⟩
theorem BookAt.tk {Ps : List Addr} {C : Addr} {H H' : Hp} {b : Addr} {N : List Str} (h : BookAt C H b N) (t : Tab Ps H) (k : Tk Ps H H') : BookAt C H' b N := ⟨let ⟨dx, tn, e1, e2⟩ := h.ob; ⟨dx, tn, k.at t e1, k.at t e2⟩⟩
theorem via {A : Prop} {R : Hp → Prop} (W : Hp → Prop) (h2 : (∀ G, W G → R G) → A) (h1 : ∀ G, W G → R G) : A := h2 h1
theorem gx_anyT {K : PySem.W.Frag} {Ps : List Addr} {P a : Addr} {α : Type} {l : List α} {fv : α → V} {f : α → Bool} {g : TG} {tt : TT} {te : TE} {vs : List Nat} {σ : L2.St} {Q : VK} {H H2 : Hp} (tb : Tab Ps H) (inP : P ∈ Ps) (hT : GxR.Tabbed P H H2) (hs : SqT K H a (l.map fv))
    (el : ∀ x ∈ l, ∀ H3, Tk Ps H H3 → ∀ (R : VK) (S : Hp → Prop), (∀ y H4, Tk Ps H H4 → GxL.TB y (f x) → R y H4) → g (fv x) (wipe σ vs) H3 fun σ2 H2 => wipe σ2 vs = wipe σ vs ∧ tt σ2 H2 fun b H3 => if b = true then te σ2 H3 R else S H3)
    (kQ : ∀ H', Tk Ps H H' → Q (.bl (l.any f)) H') : ∃ W : Nat → Nat → Hp → Prop, (∃ m, W 0 m H2) ∧ GxL.GTurn false (Itt K a) g tt te vs σ Q W := by
  refine gx_tup (K := K) (a := a) (xs := l.map fv) (fun i H3 => Tk Ps H H3 ∧ (l.take i).any f = false) ⟨Tk.tabbed tb inP hT, by simp⟩ (fun i H3 _ p => p.1.seqT tb hs) (fun i x H3 hx p => ?_) (fun H3 p => ?_)
  · rw [List.getElem?_map] at hx
    obtain ⟨z, hz, rfl⟩ := Option.map_eq_some_iff.mp hx
    refine el z (List.mem_of_getElem? hz) H3 p.1 _ _ fun y H4 k4 t => ⟨f z, t, ?_⟩
    cases e : f z
    · rw [if_pos rfl]
      exact ⟨k4, by rw [take_snoc hz, List.any_append, p.2, List.any_cons, e]; rfl⟩
    · rw [if_neg (by decide)]
      have q := kQ H4 k4
      rw [List.any_eq_true.mpr ⟨z, List.mem_of_getElem? hz, e⟩] at q
      exact q
  · have h := p.2
    rw [List.length_map, List.take_length] at h
    have q := kQ H3 p.1
    rw [h] at q
    exact q
section
variable {P : Program} {w : World} {K : PySem.W.Frag} {mg : Str → Option Value} {base : Heap}
theorem ok_make (T : Tx K mg) (B : TBs T base) : FnOk P w K mg base CX0 4 T.f_make T.fd_make ["standing", "letter", "book"] (sp_step K T.C_TieBook T.Ps fun L => ∃ j, L = .mk j) := by
  refine fun_okC T.F_make T.code_make sc_make (fun vs H Q E h => ?_) (fun A0 outer s H vs Q E hr h => ?_)
  · obtain ⟨_, _, _, _, _, _, _, rfl, _⟩ := h; rfl
  · obtain ⟨L, t, n, N, a, l, b, rfl, ⟨j, rfl⟩, ⟨ta, ma, e1, e2, e3⟩, hl, hb, wf, hi, tb, k⟩ := h
    try dsimp only at k
    refine ⟨_, (pss_cons (ps_asg (pv 0) (pg_tup rfl (pgs_cons (pg_name (i := 3) sc_make.nd rfl (.inl rfl)) (pgs_cons (pg_name (i := 4) sc_make.nd rfl (.inl rfl)) (pgs_cons (pg_name (i := 5) sc_make.nd rfl (.inl rfl)) (pgs_cons (pg_name (i := 6) sc_make.nd rfl (.inl rfl)) (pgs_cons (pg_name (i := 7) sc_make.nd rfl (.inl rfl)) pgs_nil)))))))
      (pss_cons (ps_if (PW.pt (pw_or (pt_truth (pv 3) (fun _ => rfl)) (pw_or1 (PW.pt (pw_and (pt_cmpR (op_inOwn T.bm_contains (ok_contains T) (hr.mono (by decide)) (b_RuleSet___contains__ T)) pe_str (pv 2) rfl) (pw_and1 (pt_val (GxL.pe_anyG (k := 0) (own := [("mark", 8)]) (g := _) (tt := tYes) (hr.mono (by decide)) rfl T.b_any B.t_make rfl (GxL.gsc_by (by decide +kernel)) (blkOk_by (N := ["standing", "letter", "book", "alive", "ties", "record", "marks", "_", "mark", "aged"]) (sc := defScope s_make) (by decide +kernel)) sc_make.nd (pi_tup (pv 6))
      (fun _ _ _ _ _ => pg_name (i := 8) sc_make.nd rfl (.inl rfl)) (fun _ _ _ _ _ _ => pts_nil) (fun _ _ _ _ _ _ => pe_cmpR op_ne (pv 8) (pe_gs T.c_NONE) (nomark _))))))))))
        (pss_one (ps_ret pe_non))
        pss_nil)
      (pss_cons (ps_set (i := 9) sc_make.nd rfl (.inl rfl) (pe_callTy call_tuple_of rfl T.b_tuple (by decide +kernel) (pa_cons (pe_lc rfl (own := [("mark", 8)]) (g := gName 8) (tt := tYes) sc_make.nd (pi_tup (pv 6)) (blkOk_by (N := ["standing", "letter", "book", "alive", "ties", "record", "marks", "_", "mark", "aged"]) (sc := defScope s_make) (by decide +kernel)) (fun _ _ _ _ _ => pg_name (i := 8) sc_make.nd rfl (Or.inl rfl)) (fun _ _ _ _ _ => pts_nil) (fun _ _ _ _ _ => (pe_call (ok_aged T) (hr.mono (by decide)) rfl T.mg_aged T.F_aged.kp (b_aged T) .nil pass0 (pa_cons (pv 8) pa_nil)))) pa_nil)))
      (pss_one (ps_ret (pe_tup (pa_cons pe_int (pa_cons (pe_call (ok_with T) (hr.mono (by decide)) rfl T.mg_with T.F_with.kp (b_with T) .nil pass0 (pa_cons (pv 4) (pa_cons (pe_ix ix_tup (pv 1) pe_int (fun _ _ => rfl)) (pa_cons pe_int pa_nil)))) (pa_cons (pe_call (ok_aged T) (hr.mono (by decide)) rfl T.mg_aged T.F_aged.kp (b_aged T) .nil pass0 (pa_cons (pv 5) pa_nil)) (pa_cons (pv 9) (pa_cons pe_int pa_nil))))))))))), ?_⟩
    refine ⟨_, rfl, a, _, rfl, e1, rfl, _, _, rfl, _, _, rfl, _, _, rfl, _, _, rfl, _, _, rfl, rfl, ?_⟩
    ((try dsimp only); (first | (refine Rg.sg (σ' := [some (.ref a), some (.ref l), some (.ref b), some (bi t.al), some (.ref ta), some (sv t.re), some (.ref ma), some (bi t.to), none, none]) ?_ ?_; focus exact rfl) | (refine Rg.sgG (σ' := [some (.ref a), some (.ref l), some (.ref b), some (bi t.al), some (.ref ta), some (sv t.re), some (.ref ma), some (bi t.to), none, none]) ?_ ?_; focus exact rfl)))
    have hi : j < n := hi
    have hj : j < t.ti.length := by rw [wf.tl]; exact hi
    have k : ROd K T.Ps H Q (if t.al = true ∨ (("after" : Str) ∈ N ∧ (t.ma.any fun m => decide (¬ m = 1)) = true) then none else some ⟨true, t.ti.set j true, aged t.re, t.ma.map aged, false⟩) := k
    refine ⟨_, rfl, t.al, tru_bi, ?_⟩
    refine iteO (fun c1 => ?_) fun c1 => ?_
    · refine iteT ?_
      rw [if_pos (.inl c1)] at k
      exact k H (.refl tb)
    apply via (fun G => Tk T.Ps H G ∧ ¬ (("after" : Str) ∈ N ∧ (t.ma.any fun m => decide (¬ m = 1)) = true))
    · intro REST
      refine ⟨_, rfl, inBook hb ⟨_, rfl, ?_⟩⟩
      refine iteS (p := ("after" : Str) ∈ N) rfl (fun h1 => ?_) fun h1 => ?_
      · refine ⟨_, rfl, ma, rfl, ⟨_, e3⟩, tb _ T.in_make, fun H2 hT => gx_anyT tb T.in_make hT e3 (f := fun m => decide (¬ m = 1)) (fun m hm H3 k3 R S hR => ⟨rfl, yes_ ⟨_, rfl, rfl, hR _ _ k3 (.inl (congrArg V.bl (nS1 m)))⟩⟩) fun H' k' => ?_⟩
        refine ⟨_, rfl, ?_⟩
        refine iteO (fun c2 => ?_) fun c2 => ?_
        · rw [if_pos (.inr ⟨h1, c2⟩)] at k
          exact k H' k'
        · exact REST H' ⟨k', fun z => by rw [c2] at z; cases z.2⟩
      · exact REST H ⟨.refl tb, fun z => h1 z.1⟩
    rintro G ⟨kG, cG⟩
    rw [if_neg (fun z => z.elim (fun z => by rw [c1] at z; cases z) cG)] at k
    have e1 := kG.seqT tb e1
    have e2 := kG.seqT tb e2
    have e3 := kG.seqT tb e3
    have hl := kG.seqT tb hl
    refine ⟨_, rfl, ma, rfl, ⟨_, e3⟩, fun D hD => ?_⟩
    refine lc_tup (K := K) (a := ma) (xs := t.ma.map sv) (PvG (fun m => sv (aged m)) G D t.ma (fun _ => true)) (PvG.start hD) (fun j H' _ pv => sameT pv.1 e3) ?_ ?_
    · rintro i x H' hx pv
      rw [List.getElem?_map] at hx
      obtain ⟨m, hm, rfl⟩ := Option.map_eq_some_iff.mp hx
      exact ⟨rfl, yes_ ⟨_, rfl, m, rfl, pv.yes hD (Same.refl _) hm (by have := wf.ml; have := wf.n8; omega) rfl⟩⟩
    intro G1 pv
    rw [List.length_map] at pv
    obtain ⟨s1, d1⟩ := pv.all rfl
    rw [List.filter_eq_self.mpr (fun _ _ => rfl), show t.ma.map (fun m => sv (aged m)) = (t.ma.map aged).map sv by rw [List.map_map]; rfl] at d1
    refine ⟨D, _, rfl, .inl ⟨.of d1, fun x n_x => ?_⟩⟩
    (generalize he_x : upd _ x _ = G2; obtain ⟨e_x, s_x, f_x⟩ := new_f he_x n_x; clear he_x)
    ((try dsimp only); (first | (refine Rg.sg (σ' := [some (.ref a), some (.ref l), some (.ref b), some (bi t.al), some (.ref ta), some (sv t.re), some (.ref ma), some (bi t.to), none, some (.ref x)]) ?_ ?_; focus exact rfl) | (refine Rg.sgG (σ' := [some (.ref a), some (.ref l), some (.ref b), some (bi t.al), some (.ref ta), some (sv t.re), some (.ref ma), some (bi t.to), none, some (.ref x)]) ?_ ?_; focus exact rfl)))
    have s2 := s1.trans s_x
    have hl := sameT s2 hl
    have e2 := sameT s2 e2
    refine ⟨_, rfl, _, rfl, l, _, 1, .int j, rfl, rfl, hl, atI_nat (j := 1) rfl, ta, _, j, bi true, rfl, e2, by rw [List.length_map]; exact hj, by rw [List.length_map, wf.tl]; exact Nat.le_trans wf.n8 (by decide), fun G3 p s3 hp => ?_⟩
    refine ⟨_, rfl, t.re, rfl, _, rfl, by show 5 ≤ sizeLine; decide, ?_⟩
    (intro y n_y; generalize he_y : upd _ y _ = G4; obtain ⟨e_y, s_y, f_y⟩ := new_f he_y n_y; clear he_y)
    exact k _ y (((kG.same s2).same s3).same s_y) ⟨p, x, .inl (.of e_y), sameT s_y (setB hp), sameT (s3.trans s_y) (.inl (.of e_x))⟩
end
end K60
namespace K60
open PySem PySem.Spec PyProof.Rows L2 Rg
/-- a test of every pair of a tie and its mark -/
theorem gx_zip2 {K : PySem.W.Frag} {Ps : List Addr} {P a b : Addr} {ti : List Bool} {ma : List Nat} {c : Bool} {f : Bool × Nat → Bool} {g : TG} {tt : TT} {te : TE} {vs : List Nat} {σ : L2.St} {Q : VK} {H H2 : Hp} (len : ti.length = ma.length) (tb : Tab Ps H) (inP : P ∈ Ps) (hT : GxR.Tabbed P H H2) (h2 : SqT K H a (ti.map bi)) (h3 : SqT K H b (ma.map sv))
    (el : ∀ x m, ∀ H3 q, Tk Ps H H3 → H3 q = some (.tup [bi x, sv m]) → ∀ (R : VK) (S : Hp → Prop), (∀ y H4, Tk Ps H H4 → GxL.TB y (f (x, m)) → R y H4) → g (.ref q) (wipe σ vs) H3 fun σ2 H2 => wipe σ2 vs = wipe σ vs ∧ tt σ2 H2 fun b H3 => if b = true then te σ2 H3 R else S H3)
    (kQ : ∀ H', Tk Ps H H' → Q (.bl (Rg.allB c f (ti.zip ma))) H') : ∃ W : Nat → Nat → Hp → Prop, (∃ m, W 0 m H2) ∧ GxL.GTurn c (RZ.ItzT K a b) g tt te vs σ Q W := by
  have hz : (ti.zip ma).length = ma.length := by rw [List.length_zip, len, Nat.min_self]
  refine gx_zipT (K := K) (a := a) (b := b) (xs := ti.map bi) (ys := ma.map sv) (by rw [List.length_map, List.length_map, len]; exact Nat.le_refl _) (fun i H3 => Tk Ps H H3 ∧ Rg.allB c f ((ti.zip ma).take i) = c) ⟨Tk.tabbed tb inP hT, by cases c <;> rfl⟩ (fun i H3 p => ⟨p.1.seqT tb h2, p.1.seqT tb h3⟩) (fun i x y q H3 hx hy p hq => ?_) (fun H3 p => ?_)
  · rw [List.getElem?_map] at hx hy
    obtain ⟨x, hx2, rfl⟩ := Option.map_eq_some_iff.mp hx
    obtain ⟨m, hm, rfl⟩ := Option.map_eq_some_iff.mp hy
    have hzi : (ti.zip ma)[i]? = some (x, m) := by rw [List.getElem?_zip_eq_some]; exact ⟨hx2, hm⟩
    refine el x m _ q (p.1.new hq) upd_same _ _ fun y H4 k4 t => ⟨f (x, m), t, ?_⟩
    by_cases e : f (x, m) = c
    · rw [if_pos e]
      refine ⟨k4, ?_⟩
      have p2 := p.2
      rw [take_snoc hzi]
      unfold Rg.allB at p2 ⊢
      cases c
      · rw [if_neg (by decide)] at p2 ⊢
        rw [List.any_append, p2, List.any_cons, e]
        rfl
      · rw [if_pos rfl] at p2 ⊢
        rw [List.all_append, p2, List.all_cons, e]
        rfl
    · rw [if_neg e]
      have q := kQ H4 k4
      have mem := List.mem_of_getElem? hzi
      have e2 : Rg.allB c f (ti.zip ma) = !c := by
        unfold Rg.allB
        cases c
        · rw [if_neg (by decide)]
          exact List.any_eq_true.mpr ⟨_, mem, by simpa using e⟩
        · rw [if_pos rfl]
          exact List.all_eq_false.mpr ⟨_, mem, e⟩
      rw [e2] at q
      exact q
  · have h := p.2
    rw [List.length_map, ← hz, List.take_length] at h
    have q := kQ H3 p.1
    rw [h] at q
    exact q
theorem pe_andTK {X : Cx} {K : PySem.W.Frag} {a b : Expr} {rest : List Expr} {pos : Pos} {ta tb : TE} (ha : PE X a ta) (hb : PE X (.BoolOp .And (b :: rest) pos) tb) (hK : X.K = K := by rfl) : PE X (.BoolOp .And (a :: b :: rest) pos) (tAndT K ta tb) := by
  subst hK
  exact pe_andT ha hb
theorem TB.tru {K : PySem.W.Frag} {H : Hp} {v : V} {k : Bool} (h : GxL.TB v k) : TruV K v H k := by
  rcases h with rfl | ⟨i, rfl, e⟩
  · exact rfl
  · exact e
theorem TB.bi {b : Bool} : GxL.TB (bi b) b := .inr ⟨_, rfl, by cases b <;> rfl⟩
def keepsM (t : Td) (j : Nat) : Bool := t.al && (decide (t.ma.getD j 0 = 2) && !keptM t)
section
variable {P : Program} {w : World} {K : PySem.W.Frag} {mg : Str → Option Value} {base : Heap}
theorem ok_keeps_mark (T : Tx K mg) (B : TBs T base) : FnOk P w K mg base CX0 4 T.f_keeps_mark T.fd_keeps_mark ["standing", "j"] (fun vs H Q _ => ∃ (t : Td) (n j : Nat) (a : Addr), vs = [.ref a, .int j] ∧ TdAt K H a t ∧ Wf t n ∧ j < n ∧ Tab T.Ps H ∧ ∀ v H', Tk T.Ps H H' → GxL.TB v (keepsM t j) → Q v H') := by
  refine fun_okC T.F_keeps_mark T.code_keeps_mark sc_keeps_mark (fun vs H Q E h => ?_) (fun A0 outer s H vs Q E hr h => ?_)
  · obtain ⟨_, _, _, _, rfl, _⟩ := h; rfl
  · obtain ⟨t, n, j, a, rfl, ⟨ta, ma, e1, e2, e3⟩, wf, hj, tb, k⟩ := h
    try dsimp only at k
    refine ⟨_, (pss_cons (ps_asg (pv 0) (pg_tup rfl (pgs_cons (pg_name (i := 2) sc_keeps_mark.nd rfl (.inl rfl)) (pgs_cons (pg_name (i := 3) sc_keeps_mark.nd rfl (.inl rfl)) (pgs_cons (pg_name (i := 4) sc_keeps_mark.nd rfl (.inl rfl)) (pgs_cons (pg_name (i := 5) sc_keeps_mark.nd rfl (.inl rfl)) (pgs_cons (pg_name (i := 4) sc_keeps_mark.nd rfl (.inl rfl)) pgs_nil)))))))
      (pss_cons (ps_set (i := 6) sc_keeps_mark.nd rfl (.inl rfl) (GxL.pe_anyG (k := 0) (own := [("tie", 7), ("mark", 8)]) (g := _) (tt := tYes) (hr.mono (by decide)) rfl T.b_any B.t_keeps_mark rfl (GxL.gsc_by (by decide +kernel)) (blkOk_by (N := ["standing", "j", "alive", "ties", "_", "marks", "kept", "tie", "mark"]) (sc := defScope s_keeps_mark) (by decide +kernel)) sc_keeps_mark.nd (RZ.pi_zipA rfl T.b_zip (pa_cons (pv 3) (pa_cons (pv 5) pa_nil)))
      (fun _ _ _ _ _ => pg_tupK (K := K) (n := 2) rfl (pgs_cons (pg_name (i := 7) sc_keeps_mark.nd rfl (.inl rfl)) (pgs_cons (pg_name (i := 8) sc_keeps_mark.nd rfl (.inl rfl)) pgs_nil))) (fun _ _ _ _ _ _ => pts_nil) (fun _ _ _ _ _ _ => pe_andTK (K := K) (pv 7) (pe_one (pe_cmpR op_eq (pv 8) (pe_gs T.c_NEW) (nomark _))))))
      (pss_one (ps_ret (pe_andT (pv 2) (pe_and (pe_cmpR op_eq (pe_ix ix_tup (pv 5) (pv 1) (fun _ _ => rfl)) (pe_gs T.c_NEW) (nomark _)) (pe_one (pe_not (pv 6))))))))), ?_⟩
    refine ⟨_, rfl, a, _, rfl, e1, rfl, _, _, rfl, _, _, rfl, _, _, rfl, _, _, rfl, _, _, rfl, rfl, ?_⟩
    ((try dsimp only); (first | (refine Rg.sg (σ' := [some (.ref a), some (.int j), some (bi t.al), some (.ref ta), some (bi t.to), some (.ref ma), none, none, none]) ?_ ?_; focus exact rfl) | (refine Rg.sgG (σ' := [some (.ref a), some (.int j), some (bi t.al), some (.ref ta), some (bi t.to), some (.ref ma), none, none, none]) ?_ ?_; focus exact rfl)))
    refine ⟨_, rfl, _, rfl, ta, ma, _, _, rfl, .inr ⟨e2, e3, tb _ T.in_keeps_mark, fun H2 hT => gx_zip2 (f := fun q => q.1 && decide (q.2 = 2)) (by rw [wf.tl, wf.ml]) tb T.in_keeps_mark hT e2 e3 (fun x m H3 q k3 eq R S hR => ?_) fun H' k' => ?_⟩⟩
    · refine ⟨q, _, rfl, .of eq, rfl, _, _, rfl, _, _, rfl, rfl, rfl, yes_ ⟨_, rfl, x, tru_bi, ?_⟩⟩
      cases x
      · exact iteF (hR _ _ k3 TB.bi)
      · exact iteT ⟨_, rfl, rfl, hR _ _ k3 (.inl (congrArg V.bl (dS2 m)))⟩
    ((try dsimp only); (first | (refine Rg.sg (σ' := [some (.ref a), some (.int j), some (bi t.al), some (.ref ta), some (bi t.to), some (.ref ma), some (.bl (keptM t)), none, none]) ?_ ?_; focus exact rfl) | (refine Rg.sgG (σ' := [some (.ref a), some (.int j), some (bi t.al), some (.ref ta), some (bi t.to), some (.ref ma), some (.bl (keptM t)), none, none]) ?_ ?_; focus exact rfl)))
    have e3 := k'.seqT tb e3
    refine ⟨_, rfl, t.al, tru_bi, ?_⟩
    cases ha : t.al
    · exact iteF (k _ _ k' (by unfold keepsM; rw [ha]; exact TB.bi))
    refine iteT ⟨_, rfl, _, rfl, ma, _, j, sv (t.ma.getD j 0), rfl, rfl, e3, atI_nat (j := j) (getS (by rw [wf.ml]; exact hj)), rfl, _, rfl, ?_⟩
    refine iteS (dS2 _) (fun h => ?_) fun h => ?_
    · exact ⟨_, rfl, _, rfl, k _ _ k' (.inl (by unfold keepsM; rw [ha, decide_eq_true h]; rfl))⟩
    · exact k _ _ k' (.inl (by unfold keepsM; rw [ha, decide_eq_false h]; rfl))
theorem ok_agrees (T : Tx K mg) (B : TBs T base) : FnOk P w K mg base CX0 4 T.f_agrees T.fd_agrees ["standing"] (fun vs H Q _ => ∃ (t : Td) (n : Nat) (a : Addr), vs = [.ref a] ∧ TdAt K H a t ∧ Wf t n ∧ Tab T.Ps H ∧ ∀ H', Tk T.Ps H H' → Q (.bl (agreesM t)) H') := by
  refine fun_okC T.F_agrees T.code_agrees sc_agrees (fun vs H Q E h => ?_) (fun A0 outer s H vs Q E hr h => ?_)
  · obtain ⟨_, _, _, rfl, _⟩ := h; rfl
  · obtain ⟨t, n, a, rfl, ⟨ta, ma, e1, e2, e3⟩, wf, tb, k⟩ := h
    try dsimp only at k
    refine ⟨_, (pss_cons (ps_asg (pv 0) (pg_tup rfl (pgs_cons (pg_name (i := 1) sc_agrees.nd rfl (.inl rfl)) (pgs_cons (pg_name (i := 2) sc_agrees.nd rfl (.inl rfl)) (pgs_cons (pg_name (i := 3) sc_agrees.nd rfl (.inl rfl)) (pgs_cons (pg_name (i := 4) sc_agrees.nd rfl (.inl rfl)) (pgs_cons (pg_name (i := 5) sc_agrees.nd rfl (.inl rfl)) pgs_nil)))))))
      (pss_cons (ps_if (pt_cmpR op_ne (pv 3) (pe_ifExp (pt_truth (pv 1) (fun _ => rfl)) (pe_gs T.c_NEW) (pe_gs T.c_UNRECORDED)) (nomark _))
        (pss_one (ps_ret pe_bl))
        pss_nil)
      (pss_one (ps_ret (GxL.pe_allG (k := 0) (own := [("tie", 6), ("mark", 7)]) (g := _) (tt := tYes) (hr.mono (by decide)) rfl T.b_all B.t_agrees rfl (GxL.gsc_by (by decide +kernel)) (blkOk_by (N := ["standing", "alive", "ties", "record", "marks", "_", "tie", "mark"]) (sc := defScope s_agrees) (by decide +kernel)) sc_agrees.nd (RZ.pi_zipA rfl T.b_zip (pa_cons (pv 2) (pa_cons (pv 4) pa_nil)))
      (fun _ _ _ _ _ => pg_tupK (K := K) (n := 2) rfl (pgs_cons (pg_name (i := 6) sc_agrees.nd rfl (.inl rfl)) (pgs_cons (pg_name (i := 7) sc_agrees.nd rfl (.inl rfl)) pgs_nil))) (fun _ _ _ _ _ _ => pts_nil) (fun _ _ _ _ _ _ => pe_cmpR op_eq (pv 7) (pe_ifExp (pt_truthK (K := K) (pv 6) (fun _ => rfl)) (pe_gs T.c_NEW) (pe_gs T.c_NONE)) (nomark _))))))), ?_⟩
    refine ⟨_, rfl, a, _, rfl, e1, rfl, _, _, rfl, _, _, rfl, _, _, rfl, _, _, rfl, _, _, rfl, rfl, ?_⟩
    ((try dsimp only); (first | (refine Rg.sg (σ' := [some (.ref a), some (bi t.al), some (.ref ta), some (sv t.re), some (.ref ma), some (bi t.to), none, none]) ?_ ?_; focus exact rfl) | (refine Rg.sgG (σ' := [some (.ref a), some (bi t.al), some (.ref ta), some (sv t.re), some (.ref ma), some (bi t.to), none, none]) ?_ ?_; focus exact rfl)))
    apply via (fun G => G = H ∧ t.re = if t.al = true then 2 else 0)
    · intro REST
      refine ⟨_, rfl, _, rfl, t.al, tru_bi, ?_⟩
      refine iteO (fun ha => ?_) fun ha => ?_
      · refine ⟨rfl, _, rfl, ?_⟩
        refine iteS (nS2 _) (fun h => ?_) fun h => ?_
        · exact casQ (k H (.refl tb)) (by unfold agreesM; rw [decide_eq_false (by rw [ha]; exact h)]; rfl)
        · exact REST H ⟨rfl, by rw [ha]; exact Classical.not_not.mp h⟩
      · refine ⟨rfl, _, rfl, ?_⟩
        refine iteS (nS0 _) (fun h => ?_) fun h => ?_
        · exact casQ (k H (.refl tb)) (by unfold agreesM; rw [decide_eq_false (by rw [ha]; exact h)]; rfl)
        · exact REST H ⟨rfl, by rw [ha]; exact Classical.not_not.mp h⟩
    rintro G ⟨rfl, hre⟩
    refine ⟨_, rfl, _, rfl, ta, ma, _, _, rfl, .inr ⟨e2, e3, tb _ T.in_agrees, fun H2 hT => gx_zip2 (f := fun q => decide (q.2 = if q.1 = true then 2 else 1)) (by rw [wf.tl, wf.ml]) tb T.in_agrees hT e2 e3 (fun x m H3 q k3 eq R S hR => ?_) fun H' k' => ?_⟩⟩
    · refine ⟨q, _, rfl, .of eq, rfl, _, _, rfl, _, _, rfl, rfl, rfl, yes_ ⟨_, rfl, _, rfl, x, tru_bi, ?_⟩⟩
      cases x
      · exact iteF ⟨rfl, hR _ _ k3 (.inl (congrArg V.bl (dS1 m)))⟩
      · exact iteT ⟨rfl, hR _ _ k3 (.inl (congrArg V.bl (dS2 m)))⟩
    exact casQ (k H' k') (by unfold agreesM; rw [decide_eq_true hre]; rfl)
end
end K60
namespace K60
open PySem PySem.Spec PyProof.Rows L2 Rg
theorem keepsM_t {t : Td} {j : Nat} (h : keepsM t j = true) : t.al = true ∧ t.ma.getD j 0 = 2 ∧ keptM t = false := by
  unfold keepsM at h
  obtain ⟨h1, h2⟩ := Bool.and_eq_true_iff.mp h
  obtain ⟨h3, h4⟩ := Bool.and_eq_true_iff.mp h2
  exact ⟨h1, of_decide_eq_true h3, by simpa using h4⟩
theorem keepsM_f {t : Td} {j : Nat} (h : keepsM t j = false) (z : t.al = true ∧ t.ma.getD j 0 = 2 ∧ keptM t = false) : False := by
  unfold keepsM at h
  rw [z.1, decide_eq_true z.2.1, z.2.2] at h
  cases h
section
variable {P : Program} {w : World} {K : PySem.W.Frag} {mg : Str → Option Value} {base : Heap}
theorem ok_told (T : Tx K mg) (B : TBs T base) : FnOk P w K mg base CX0 5 T.f_told T.fd_told ["standing", "letter", "book"] (sp_step K T.C_TieBook T.Ps fun L => L = .td) := by
  refine T.F_told.ok sc_told (fun vs H Q E h => ?_) (fun cdv A0 outer s H vs Q E hr h => ?_)
  · obtain ⟨_, _, _, _, _, _, _, rfl, _⟩ := h; rfl
  · obtain ⟨L, t, n, N, a, l, b, rfl, rfl, ⟨ta, ma, e1, e2, e3⟩, hl, hb, wf, hi, tb, k⟩ := h
    try dsimp only at k
    refine ⟨_, (pss_cons (ps_asg (pv 0) (pg_tup rfl (pgs_cons (pg_name (i := 3) sc_told.nd rfl (.inl rfl)) (pgs_cons (pg_name (i := 4) sc_told.nd rfl (.inl rfl)) (pgs_cons (pg_name (i := 5) sc_told.nd rfl (.inl rfl)) (pgs_cons (pg_name (i := 6) sc_told.nd rfl (.inl rfl)) (pgs_cons (pg_name (i := 7) sc_told.nd rfl (.inl rfl)) pgs_nil)))))))
      (pss_cons (ps_if (PW.pt (pw_and (pt_cmpR (op_inOwn T.bm_contains (ok_contains T) (hr.mono (by decide)) (b_RuleSet___contains__ T)) pe_str (pv 2) rfl) (pw_and1 (pt_not (pt_val (pe_call (ok_agrees T B) (hr.mono (by decide)) rfl T.mg_agrees T.F_agrees.kp (b_agrees T) .nil pass0 (pa_cons (pv 0) pa_nil)))))))
        (pss_one (ps_ret pe_non))
        pss_nil)
      (pss_one (ps_ret (pe_tup (pa_cons (pv 3) (pa_cons (pv 4) (pa_cons (pv 5) (pa_cons (pv 6) (pa_cons (pv 3) pa_nil)))))))))), ?_⟩
    refine ⟨_, rfl, a, _, rfl, e1, rfl, _, _, rfl, _, _, rfl, _, _, rfl, _, _, rfl, _, _, rfl, rfl, ?_⟩
    ((try dsimp only); (first | (refine Rg.sg (σ' := [some (.ref a), some (.ref l), some (.ref b), some (bi t.al), some (.ref ta), some (sv t.re), some (.ref ma), some (bi t.to)]) ?_ ?_; focus exact rfl) | (refine Rg.sgG (σ' := [some (.ref a), some (.ref l), some (.ref b), some (bi t.al), some (.ref ta), some (sv t.re), some (.ref ma), some (bi t.to)]) ?_ ?_; focus exact rfl)))
    have k : ROd K T.Ps H Q (if ("told" : Str) ∈ N ∧ agreesM t = false then none else some ⟨t.al, t.ti, t.re, t.ma, t.al⟩) := k
    apply via (fun G => Tk T.Ps H G ∧ ¬ (("told" : Str) ∈ N ∧ agreesM t = false))
    · intro REST
      refine ⟨_, rfl, inBook hb ⟨_, rfl, ?_⟩⟩
      refine iteS (p := ("told" : Str) ∈ N) rfl (fun h1 => ?_) fun h1 => ?_
      · refine ⟨_, rfl, t, n, a, rfl, ⟨ta, ma, e1, e2, e3⟩, wf, tb, fun H' k' => ?_⟩
        refine ⟨_, rfl, iteN (fun c => ?_) fun c => ?_⟩
        · rw [if_pos ⟨h1, c⟩] at k
          exact k H' k'
        · exact REST H' ⟨k', fun z => by rw [c] at z; cases z.2⟩
      · exact REST H ⟨.refl tb, fun z => h1 z.1⟩
    rintro G ⟨kG, cG⟩
    rw [if_neg cG] at k
    refine ⟨_, rfl, _, rfl, _, rfl, _, rfl, _, rfl, by show 5 ≤ sizeLine; decide, ?_⟩
    (intro x n_x; generalize he_x : upd _ x _ = G2; obtain ⟨e_x, s_x, f_x⟩ := new_f he_x n_x; clear he_x)
    exact k _ x (kG.same s_x) ⟨ta, ma, .inl (.of e_x), sameT s_x (kG.seqT tb e2), sameT s_x (kG.seqT tb e3)⟩
theorem ok_out_entry (T : Tx K mg) (B : TBs T base) : FnOk P w K mg base CX0 5 T.f_out_entry T.fd_out_entry ["standing", "letter", "book"] (sp_step K T.C_TieBook T.Ps fun L => ∃ j, L = .oe j) := by
  refine T.F_out_entry.ok sc_out_entry (fun vs H Q E h => ?_) (fun cdv A0 outer s H vs Q E hr h => ?_)
  · obtain ⟨_, _, _, _, _, _, _, rfl, _⟩ := h; rfl
  · obtain ⟨L, t, n, N, a, l, b, rfl, ⟨j, rfl⟩, ⟨ta, ma, e1, e2, e3⟩, hl, hb, wf, hi, tb, k⟩ := h
    try dsimp only at k
    refine ⟨_, (pss_cons (ps_asg (pv 0) (pg_tup rfl (pgs_cons (pg_name (i := 3) sc_out_entry.nd rfl (.inl rfl)) (pgs_cons (pg_name (i := 4) sc_out_entry.nd rfl (.inl rfl)) (pgs_cons (pg_name (i := 5) sc_out_entry.nd rfl (.inl rfl)) (pgs_cons (pg_name (i := 6) sc_out_entry.nd rfl (.inl rfl)) (pgs_cons (pg_name (i := 7) sc_out_entry.nd rfl (.inl rfl)) pgs_nil)))))))
      (pss_cons (ps_set (i := 8) sc_out_entry.nd rfl (.inl rfl) (pe_ix ix_tup (pv 1) pe_int (fun _ _ => rfl)))
      (pss_cons (ps_if (pt_truth (pe_ix ix_tup (pv 4) (pv 8) (fun _ _ => rfl)) (fun _ => rfl))
        (pss_cons (ps_if (PW.pt (pw_and (pt_cmpR (op_inOwn T.bm_contains (ok_contains T) (hr.mono (by decide)) (b_RuleSet___contains__ T)) pe_str (pv 2) rfl) (pw_and1 (pt_cmpR op_ne (pv 5) (pe_gs T.c_NEW) (nomark _)))))
          (pss_one (ps_ret pe_non))
          pss_nil)
        (pss_one (ps_ret (pe_tup (pa_cons (pv 3) (pa_cons (pv 4) (pa_cons (pv 5) (pa_cons (pe_call (ok_with T) (hr.mono (by decide)) rfl T.mg_with T.F_with.kp (b_with T) .nil pass0 (pa_cons (pv 6) (pa_cons (pv 8) (pa_cons (pe_gs T.c_NEW) pa_nil)))) (pa_cons (pv 7) pa_nil)))))))))
        pss_nil)
      (pss_cons (ps_if (PW.pt (pw_and (pt_cmpR (op_inOwn T.bm_contains (ok_contains T) (hr.mono (by decide)) (b_RuleSet___contains__ T)) pe_str (pv 2) rfl) (pw_and1 (pt_truth (pe_call (ok_keeps_mark T B) (hr.mono (by decide)) rfl T.mg_keeps_mark T.F_keeps_mark.kp (b_keeps_mark T) .nil pass0 (pa_cons (pv 0) (pa_cons (pv 8) pa_nil))) (fun _ => rfl)))))
        (pss_one (ps_ret pe_non))
        pss_nil)
      (pss_one (ps_ret (pe_tup (pa_cons (pv 3) (pa_cons (pv 4) (pa_cons (pv 5) (pa_cons (pe_call (ok_with T) (hr.mono (by decide)) rfl T.mg_with T.F_with.kp (b_with T) .nil pass0 (pa_cons (pv 6) (pa_cons (pv 8) (pa_cons (pe_gs T.c_NONE) pa_nil)))) (pa_cons (pv 7) pa_nil)))))))))))), ?_⟩
    refine ⟨_, rfl, a, _, rfl, e1, rfl, _, _, rfl, _, _, rfl, _, _, rfl, _, _, rfl, _, _, rfl, rfl, ?_⟩
    ((try dsimp only); (first | (refine Rg.sg (σ' := [some (.ref a), some (.ref l), some (.ref b), some (bi t.al), some (.ref ta), some (sv t.re), some (.ref ma), some (bi t.to), none]) ?_ ?_; focus exact rfl) | (refine Rg.sgG (σ' := [some (.ref a), some (.ref l), some (.ref b), some (bi t.al), some (.ref ta), some (sv t.re), some (.ref ma), some (bi t.to), none]) ?_ ?_; focus exact rfl)))
    have hi : j < n := hi
    have hj : j < t.ti.length := by rw [wf.tl]; exact hi
    have hjm : j < t.ma.length := by rw [wf.ml]; exact hi
    have k : ROd K T.Ps H Q (if t.ti.getD j false = true then (if ("first" : Str) ∈ N ∧ ¬ t.re = 2 then none else some ⟨t.al, t.ti, t.re, t.ma.set j 2, t.to⟩)
        else if ("keep" : Str) ∈ N ∧ t.al = true ∧ t.ma.getD j 0 = 2 ∧ keptM t = false then none else some ⟨t.al, t.ti, t.re, t.ma.set j 1, t.to⟩) := k
    refine ⟨_, rfl, l, _, 1, .int j, rfl, rfl, hl, atI_nat (j := 1) rfl, ?_⟩
    ((try dsimp only); (first | (refine Rg.sg (σ' := [some (.ref a), some (.ref l), some (.ref b), some (bi t.al), some (.ref ta), some (sv t.re), some (.ref ma), some (bi t.to), some (.int j)]) ?_ ?_; focus exact rfl) | (refine Rg.sgG (σ' := [some (.ref a), some (.ref l), some (.ref b), some (bi t.al), some (.ref ta), some (sv t.re), some (.ref ma), some (bi t.to), some (.int j)]) ?_ ?_; focus exact rfl)))
    refine ⟨_, rfl, _, rfl, ta, _, j, bi (t.ti.getD j false), rfl, rfl, e2, atI_nat (j := j) (getB hj), _, tru_bi, ?_⟩
    refine iteO (fun c1 => ?_) fun c1 => ?_
    · rw [if_pos c1] at k
      apply via (fun G => G = H ∧ ¬ (("first" : Str) ∈ N ∧ ¬ t.re = 2))
      · intro REST
        refine ⟨_, rfl, inBook hb ⟨_, rfl, ?_⟩⟩
        refine iteS (p := ("first" : Str) ∈ N) rfl (fun h1 => ?_) fun h1 => ?_
        · refine ⟨_, rfl, rfl, _, rfl, ?_⟩
          refine iteS (nS2 _) (fun h => ?_) fun h => ?_
          · rw [if_pos ⟨h1, h⟩] at k
            exact k H (.refl tb)
          · exact REST H ⟨rfl, fun z => h z.2⟩
        · exact REST H ⟨rfl, fun z => h1 z.1⟩
      rintro G ⟨rfl, cG⟩
      rw [if_neg cG] at k
      refine ⟨_, rfl, _, rfl, _, rfl, _, rfl, _, rfl, ma, _, j, sv 2, rfl, e3, by rw [List.length_map]; exact hjm, by rw [List.length_map, wf.ml]; exact Nat.le_trans wf.n8 (by decide), fun H1 p s1 hp => ?_⟩
      refine ⟨_, rfl, by show 5 ≤ sizeLine; decide, ?_⟩
      (intro x n_x; generalize he_x : upd _ x _ = H2; obtain ⟨e_x, s_x, f_x⟩ := new_f he_x n_x; clear he_x)
      exact k _ x (.of tb (s1.trans s_x)) ⟨ta, p, .inl (.of e_x), sameT (s1.trans s_x) e2, sameT s_x (setS hp)⟩
    rw [if_neg (by rw [c1]; decide)] at k
    apply via (fun G => Tk T.Ps H G ∧ ¬ (("keep" : Str) ∈ N ∧ t.al = true ∧ t.ma.getD j 0 = 2 ∧ keptM t = false))
    · intro REST
      refine ⟨_, rfl, inBook hb ⟨_, rfl, ?_⟩⟩
      refine iteS (p := ("keep" : Str) ∈ N) rfl (fun h1 => ?_) fun h1 => ?_
      · refine ⟨_, rfl, _, rfl, t, n, j, a, rfl, ⟨ta, ma, e1, e2, e3⟩, wf, hi, tb, fun v H' k' tv => ?_⟩
        refine ⟨_, TB.tru tv, ?_⟩
        refine iteO (fun c => ?_) fun c => ?_
        · rw [if_pos ⟨h1, keepsM_t c⟩] at k
          exact k H' k'
        · exact REST H' ⟨k', fun z => keepsM_f c z.2⟩
      · exact REST H ⟨.refl tb, fun z => h1 z.1⟩
    rintro G ⟨kG, cG⟩
    rw [if_neg cG] at k
    refine ⟨_, rfl, _, rfl, _, rfl, _, rfl, _, rfl, ma, _, j, sv 1, rfl, kG.seqT tb e3, by rw [List.length_map]; exact hjm, by rw [List.length_map, wf.ml]; exact Nat.le_trans wf.n8 (by decide), fun H1 p s1 hp => ?_⟩
    refine ⟨_, rfl, by show 5 ≤ sizeLine; decide, ?_⟩
    (intro x n_x; generalize he_x : upd _ x _ = H2; obtain ⟨e_x, s_x, f_x⟩ := new_f he_x n_x; clear he_x)
    exact k _ x ((kG.same s1).same s_x) ⟨ta, p, .inl (.of e_x), sameT (s1.trans s_x) (kG.seqT tb e2), sameT s_x (setS hp)⟩
end
end K60
namespace K60
open PySem PySem.Spec PyProof.Rows L2 Rg
def kn : Fin 7 → Str
  | 0 => "make"
  | 1 => "link"
  | 2 => "drop"
  | 3 => "move"
  | 4 => "out_node"
  | 5 => "out_entry"
  | 6 => "told"
def isL : Fin 7 → Lt → Prop
  | 0 => fun L => ∃ j, L = .mk j
  | 1 => fun L => ∃ j, L = .ln j
  | 2 => fun L => ∃ j, L = .dr j
  | 3 => fun L => ∃ i j, L = .mv i j
  | 4 => fun L => L = .on
  | 5 => fun L => ∃ j, L = .oe j
  | 6 => fun L => L = .td
theorem lkind : ∀ L : Lt, ∃ i : Fin 7, isL i L ∧ (ltv L)[0]? = some (.str (kn i))
  | .mk j => ⟨0, ⟨j, rfl⟩, rfl⟩
  | .ln j => ⟨1, ⟨j, rfl⟩, rfl⟩
  | .dr j => ⟨2, ⟨j, rfl⟩, rfl⟩
  | .mv i j => ⟨3, ⟨i, j, rfl⟩, rfl⟩
  | .on => ⟨4, rfl, rfl⟩
  | .oe j => ⟨5, ⟨j, rfl⟩, rfl⟩
  | .td => ⟨6, rfl, rfl⟩
def Lt.ix : Lt → List Nat
  | .mk j => [j]
  | .ln j => [j]
  | .dr j => [j]
  | .mv i j => [i, j]
  | .on => []
  | .oe j => [j]
  | .td => []
theorem ltv_ix : ∀ L : Lt, cutV (ltv L) (some 1) none = L.ix.map fun n : Nat => V.int n
  | .mk _ => rfl
  | .ln _ => rfl
  | .dr _ => rfl
  | .mv _ _ => rfl
  | .on => rfl
  | .oe _ => rfl
  | .td => rfl
theorem Lt.ix_lt {n : Nat} : ∀ {L : Lt}, L.inb n → ∀ j ∈ L.ix, j < n
  | .mk _, h, j, hj => by rw [List.mem_singleton.mp hj]; exact h
  | .ln _, h, j, hj => by rw [List.mem_singleton.mp hj]; exact h
  | .dr _, h, j, hj => by rw [List.mem_singleton.mp hj]; exact h
  | .mv _ _, h, j, hj => by
    rcases List.mem_cons.mp hj with e | e
    · rw [e]; exact h.1
    · rw [List.mem_singleton.mp e]; exact h.2.1
  | .on, _, _, hj => nomatch hj
  | .oe _, h, j, hj => by rw [List.mem_singleton.mp hj]; exact h
  | .td, _, _, hj => nomatch hj
theorem ROd.tk {K : PySem.W.Frag} {Ps : List Addr} {H G : Hp} {Q : VK} {o : Option Td} (h : ROd K Ps H Q o) (k : Tk Ps H G) : ROd K Ps G Q o := by
  cases o with
  | none => exact fun H' k' => h H' (k.trans k')
  | some t => exact fun H' x k' => h H' x (k.trans k')
theorem flatS {l : List Nat} : (l.map sv).all flatV = true := by
  rw [show l.map sv = (l.map sg).map V.str by rw [List.map_map]; rfl]
  exact flat_str
theorem two_lt {r : Nat} (h : r < 4) : ∀ x ∈ [1, r], x < 4 := fun x hx => by
  rcases List.mem_cons.mp hx with e | e
  · rw [e]; decide
  · rw [List.mem_singleton.mp e]; exact h
theorem call_lenK {X : Cx} {K : PySem.W.Frag} (hK : X.K = K := by rfl) : CallR X (.builtin "len") (fun xs H Q => ∃ p ys, xs = [.ref p] ∧ (SqL K H p ys ∨ SqT K H p ys) ∧ Q (.int ys.length) H) := by
  subst hK
  exact call_len_seq
section
variable {P : Program} {w : World} {K : PySem.W.Frag} {mg : Str → Option Value} {base : Heap}
def sG (T : Tx K mg) : Fin 7 → Addr
  | 0 => T.f_make
  | 1 => T.f_link
  | 2 => T.f_drop
  | 3 => T.f_move
  | 4 => T.f_out_node
  | 5 => T.f_out_entry
  | 6 => T.f_told
def sGd (T : Tx K mg) : Fin 7 → FuncData
  | 0 => T.fd_make
  | 1 => T.fd_link
  | 2 => T.fd_drop
  | 3 => T.fd_move
  | 4 => T.fd_out_node
  | 5 => T.fd_out_entry
  | 6 => T.fd_told
theorem sF (T : Tx K mg) (B : TBs T base) : ∀ j : Fin 7, FnOk P w K mg base CX0 5 (sG T j) (sGd T j) ["standing", "letter", "book"] (sp_step K T.C_TieBook T.Ps (isL j))
  | 0 => (ok_make T B).mono (by decide)
  | 1 => (ok_link T).mono (by decide)
  | 2 => (ok_drop T).mono (by decide)
  | 3 => (ok_move T).mono (by decide)
  | 4 => (ok_out_node T).mono (by decide)
  | 5 => (ok_out_entry T B).mono (by decide)
  | 6 => (ok_told T B).mono (by decide)
theorem sK (T : Tx K mg) : ∀ j : Fin 7, PySem.W.keepIn K (.ref (sG T j)) = true
  | 0 => T.F_make.kp
  | 1 => T.F_link.kp
  | 2 => T.F_drop.kp
  | 3 => T.F_move.kp
  | 4 => T.F_out_node.kp
  | 5 => T.F_out_entry.kp
  | 6 => T.F_told.kp
theorem sB (T : Tx K mg) : ∀ j : Fin 7, Binds K (sGd T j) ["standing", "letter", "book"] []
  | 0 => b_make T
  | 1 => b_link T
  | 2 => b_drop T
  | 3 => b_move T
  | 4 => b_out_node T
  | 5 => b_out_entry T
  | 6 => b_told T
theorem sN (T : Tx K mg) : ∀ j : Fin 7, PySem.W.nsIn K T.gA_MOVES (kn j) = some (some (.ref (sG T j)))
  | 0 => T.gd_MOVES_make
  | 1 => T.gd_MOVES_link
  | 2 => T.gd_MOVES_drop
  | 3 => T.gd_MOVES_move
  | 4 => T.gd_MOVES_out_node
  | 5 => T.gd_MOVES_out_entry
  | 6 => T.gd_MOVES_told
theorem ok_tie_after (T : Tx K mg) (B : TBs T base) (W : Tw T w) : FnOk P w K mg base CX0 6 T.f_tie_after T.fd_tie_after ["standing", "letter", "book"] (sp_step K T.C_TieBook T.Ps fun _ => True) := by
  refine fun_okC T.F_tie_after T.code_tie_after sc_tie_after (fun vs H Q E h => ?_) (fun A0 outer s H vs Q E hr h => ?_)
  · obtain ⟨_, _, _, _, _, _, _, rfl, _⟩ := h; rfl
  · obtain ⟨L, t, n, N, a, l, b, rfl, -, ⟨ta, ma, e1, e2, e3⟩, hl, hb, wf, hi, tb, k⟩ := h
    try dsimp only at k
    refine ⟨_, (pss_cons (ps_if (pt_val (GxL.pe_anyG (k := 0) (own := [("j", 3)]) (g := _) (tt := tYes) (hr.mono (by decide)) rfl T.b_any B.t_tie_after rfl (GxL.gsc_by (by decide +kernel)) (blkOk_by (N := ["standing", "letter", "book", "j", "move"]) (sc := defScope s_tie_after) (by decide +kernel)) sc_tie_after.nd (pi_tup (pe_slice L2.sl_tupA (pv 1) (po_some pe_int) po_none))
      (fun _ _ _ _ _ => pg_name (i := 3) sc_tie_after.nd rfl (.inl rfl)) (fun _ _ _ _ _ _ => pts_nil) (fun _ _ _ _ _ _ => pe_cmpR op_ge (pv 3) (pe_callB (call_lenK (K := K)) rfl T.b_len (by decide +kernel) (pa_cons (pe_ixTK (K := K) (pv 0) pe_int (fun _ _ => rfl)) pa_nil)) (nomark _))))
        (pss_one (ps_ret pe_non))
        pss_nil)
      (pss_cons (ps_set (i := 4) sc_tie_after.nd rfl (.inl rfl) (pe_ix ix_kdict (pe_glob (v := .ref T.gA_MOVES) rfl T.gg_MOVES rfl) (pe_ix ix_tup (pv 1) pe_int (fun _ _ => rfl)) (fun _ _ => rfl)))
      (pss_one (ps_ret (pe_callFam (i := 4) (ι := Fin 7) (g := sG T) (gd := sGd T) (gp := fun j => sp_step K T.C_TieBook T.Ps (isL j)) (pv 4) (sF T B) (hr.mono (by decide)) (sK T) (sB T) .nil pass0 (pa_cons (pv 0) (pa_cons (pv 1) (pa_cons (pv 2) pa_nil)))))))), ?_⟩
    obtain ⟨es, nn, D⟩ := W.kd_MOVES
    obtain ⟨i, il, e0⟩ := lkind L
    refine ⟨_, rfl, _, rfl, ?_⟩
    dsimp only [tNoPart]
    refine slA hl fun G1 p1 s1 h1 => ?_
    rw [ltv_ix] at h1
    have tb1 := tb.same s1
    have e1' := sameT s1 e1
    have e2' := sameT s1 e2
    refine ⟨p1, rfl, ⟨_, h1⟩, tb1 _ T.in_tie_after, fun H2 hT => gx_anyT tb1 T.in_tie_after hT h1 (f := fun j => decide (n ≤ j)) (fun j hj H3 k3 R S hR => ⟨rfl, yes_ ⟨_, rfl, _, rfl, a, _, 1, .ref ta, rfl, rfl, k3.seqT tb1 e1', atI_nat (j := 1) rfl, ta, _, rfl, .inr (k3.seqT tb1 e2'), ?_⟩⟩) fun H' k' => ?_⟩
    · exact ⟨_, _, rfl, rfl, hR _ _ k3 (.inl (congrArg V.bl (by rw [List.length_map, wf.tl]; exact decide_eq_decide.mpr ⟨fun h => by omega, fun h => by omega⟩)))⟩
    have kG := (Tk.of tb s1).trans k'
    rw [List.any_eq_false.mpr (fun j hj => by have := Lt.ix_lt hi j hj; simp; omega)]
    refine ⟨_, rfl, iteF ?_⟩
    refine ⟨_, rfl, l, _, 0, .str (kn i), rfl, rfl, kG.seqT tb hl, atI_nat (j := 0) e0, T.gA_MOVES, kn i, .ref (sG T i), rfl, rfl, ⟨es, nn, _, D.at_, D.lit, sN T i, rfl⟩, ?_⟩
    exact ⟨i, rfl, _, rfl, _, rfl, _, rfl, L, t, n, N, a, l, b, rfl, il, TdAt.tk ⟨ta, ma, e1, e2, e3⟩ tb kG, kG.seqT tb hl, hb.tk tb kG, wf, hi, kG.tab, k.tk kG⟩
theorem ok_tie_bad (T : Tx K mg) (B : TBs T base) : FnOk P w K mg base CX0 4 T.f_tie_bad T.fd_tie_bad ["standing", "book"] (fun vs H Q _ => ∃ (t : Td) (n : Nat) (N : List Str) (a b : Addr), vs = [.ref a, .ref b] ∧ TdAt K H a t ∧ BookAt T.C_TieBook H b N ∧ Wf t n ∧ Tab T.Ps H ∧ ∀ H', Tk T.Ps H H' → Q (.bl (badM t N)) H') := by
  refine fun_okC T.F_tie_bad T.code_tie_bad sc_tie_bad (fun vs H Q E h => ?_) (fun A0 outer s H vs Q E hr h => ?_)
  · obtain ⟨_, _, _, _, _, rfl, _⟩ := h; rfl
  · obtain ⟨t, n, N, a, b, rfl, ⟨ta, ma, e1, e2, e3⟩, hb, wf, tb, k⟩ := h
    try dsimp only at k
    refine ⟨_, (pss_cons (ps_asg (pv 0) (pg_tup rfl (pgs_cons (pg_name (i := 2) sc_tie_bad.nd rfl (.inl rfl)) (pgs_cons (pg_name (i := 2) sc_tie_bad.nd rfl (.inl rfl)) (pgs_cons (pg_name (i := 3) sc_tie_bad.nd rfl (.inr rfl)) (pgs_cons (pg_name (i := 4) sc_tie_bad.nd rfl (.inl rfl)) (pgs_cons (pg_name (i := 5) sc_tie_bad.nd rfl (.inl rfl)) pgs_nil)))))))
      (pss_cons (ps_if (PW.pt (pw_and (pt_truth (pv 5) (fun _ => rfl)) (pw_and1 (PW.pt (pw_or (pt_cmpR op_ne (pv 3) (pe_gs T.c_NEW) (nomark _)) (pw_or1 (pt_cmpR op_notIn_seq (pe_gs T.c_NEW) (pv 4) rfl)))))))
        (pss_one (ps_ret pe_bl))
        pss_nil)
      (pss_cons (ps_if (PW.pt (pw_or (pt_cmpR (op_inOwn T.bm_contains (ok_contains T) (hr.mono (by decide)) (b_RuleSet___contains__ T)) pe_str (pv 1) rfl) (pw_or1 (pt_cmpR op_eq (pv 3) (pe_gs T.c_UNRECORDED) (nomark _)))))
        (pss_one (ps_ret pe_bl))
        pss_nil)
      (pss_one (ps_ret (GxL.pe_anyG (k := 0) (own := [("mark", 6)]) (g := _) (tt := tYes) (hr.mono (by decide)) rfl T.b_any B.t_tie_bad rfl (GxL.gsc_by (by decide +kernel)) (blkOk_by (N := ["standing", "book", "_", "record", "marks", "told", "mark"]) (sc := defScope s_tie_bad) (by decide +kernel)) sc_tie_bad.nd (pi_tup (pv 4))
      (fun _ _ _ _ _ => pg_name (i := 6) sc_tie_bad.nd rfl (.inl rfl)) (fun _ _ _ _ _ _ => pts_nil) (fun _ _ _ _ _ _ => pe_cmpR (op_notInK (K := K)) (pv 6) (pe_tup (pa_cons (pe_gs T.c_NONE) (pa_cons (pv 3) pa_nil))) rfl))))))), ?_⟩
    refine ⟨_, rfl, a, _, rfl, e1, rfl, _, _, rfl, _, _, rfl, _, _, rfl, _, _, rfl, _, _, rfl, rfl, ?_⟩
    ((try dsimp only); (first | (refine Rg.sg (σ' := [some (.ref a), some (.ref b), some (.ref ta), some (sv t.re), some (.ref ma), some (bi t.to), none]) ?_ ?_; focus exact rfl) | (refine Rg.sgG (σ' := [some (.ref a), some (.ref b), some (.ref ta), some (sv t.re), some (.ref ma), some (bi t.to), none]) ?_ ?_; focus exact rfl)))
    apply via (fun G => G = H ∧ (t.to && (decide (¬ t.re = 2) || decide (¬ 2 ∈ t.ma))) = false)
    · intro REST
      refine ⟨_, rfl, t.to, tru_bi, ?_⟩
      refine iteO (fun c1 => ?_) fun c1 => ?_
      · refine ⟨_, rfl, rfl, _, rfl, ?_⟩
        refine iteS (nS2 _) (fun h => ?_) fun h => ?_
        · exact iteT (casQ (k H (.refl tb)) (by unfold badM; rw [c1, decide_eq_true h]; rfl))
        refine ⟨_, rfl, ma, _, rfl, .inr e3, rfl, flatS, ?_⟩
        rw [if_pos rfl, show inV (V.str "n") (t.ma.map sv) = decide (2 ∈ t.ma) from inSg 2 t.ma wf.mm]
        refine ⟨_, rfl, iteN (fun c2 => ?_) fun c2 => ?_⟩
        · exact casQ (k H (.refl tb)) (by unfold badM; rw [c1, decide_eq_true (of_decide_eq_false c2)]; simp)
        · exact REST H ⟨rfl, by rw [decide_eq_false h, decide_eq_false (fun z => z (of_decide_eq_true c2))]; cases t.to <;> rfl⟩
      · exact iteF (REST H ⟨rfl, by rw [c1]; rfl⟩)
    rintro G ⟨rfl, c1⟩
    apply via (fun G' => G' = G ∧ ¬ ("numbered" : Str) ∈ N ∧ ¬ t.re = 0)
    · intro REST
      refine ⟨_, rfl, inBook hb ⟨_, rfl, ?_⟩⟩
      refine iteS (p := ("numbered" : Str) ∈ N) rfl (fun h1 => ?_) fun h1 => ?_
      · exact iteT (casQ (k G (.refl tb)) (by unfold badM; rw [c1, decide_eq_false (not_not_intro h1)]; rfl))
      refine ⟨_, rfl, rfl, _, rfl, ?_⟩
      refine iteS (dS0 _) (fun h2 => ?_) fun h2 => ?_
      · exact casQ (k G (.refl tb)) (by unfold badM; rw [c1, decide_eq_false (not_not_intro h2)]; simp)
      · exact REST G ⟨rfl, h1, h2⟩
    rintro G' ⟨rfl, h1, h2⟩
    refine ⟨_, rfl, ma, rfl, ⟨_, e3⟩, tb _ T.in_tie_bad, fun H2 hT => gx_anyT tb T.in_tie_bad hT e3 (f := fun m => decide (¬ m = 1) && decide (¬ m = t.re)) (fun m hm H3 k3 R S hR => ⟨rfl, yes_ ⟨_, rfl, _, rfl, by show 2 ≤ sizeLine; decide, ?_⟩⟩) fun H' k' => ?_⟩
    · (intro tp n_tp; generalize he_tp : upd _ tp _ = H4; obtain ⟨e_tp, s_tp, f_tp⟩ := new_f he_tp n_tp; clear he_tp)
      refine ⟨tp, _, rfl, .inr (.of e_tp), rfl, flatS (l := [1, t.re]), ?_⟩
      rw [if_pos rfl]
      refine hR _ _ (k3.same s_tp) (.inl (congrArg V.bl ?_))
      rw [show [V.str "-", sv t.re] = [1, t.re].map sv from rfl, inSg m [1, t.re] (two_lt wf.rl)]
      by_cases z1 : m = 1 <;> by_cases z2 : m = t.re <;> simp [z1, z2]
    exact casQ (k H' k') (by unfold badM; rw [c1, decide_eq_true h1, decide_eq_true h2]; rfl)
end
end K60
namespace K60
open PySem PySem.Spec PyProof.Rows L2 Rg
theorem gfor_it {J : It} {n : Nat} {G : Hp → Prop} {Y : Nat → Hp → V → Hp → Prop} (w : Walk J n G Y) {g : TG} {tb : TGn} {D : GEnds} {ys : List V} {σ : L2.St} {H : Hp} (Pv : Nat → List V → L2.St → Hp → Prop) (h0 : Pv 0 ys σ H) (hG : ∀ i ys σ H, i ≤ n → Pv i ys σ H → G H)
    (hs : ∀ i x ys σ H H', i < n → Pv i ys σ H → Y i H x H' → g x σ H' fun σ2 H2 => tb { D with nx := Pv (i + 1), ct := Pv (i + 1), bk := D.nx } ys σ2 H2) (hd : ∀ ys σ H, Pv n ys σ H → D.nx ys σ H) :
    ∃ W : Nat → Nat → List V → L2.St → Hp → Prop, (∃ m, W 0 m ys σ H) ∧ ∀ i m ys σ H, W i m ys σ H →
      (J.stop i H ∧ D.nx ys σ H) ∨ (J.go i H ∧ ∃ N : List V → L2.St → Hp → Prop, (∀ ys' σ' H', N ys' σ' H' → ∃ m', m' < m ∧ W (i + 1) m' ys' σ' H') ∧ ∀ x H', J.yld i H x H' → g x σ H' fun σ2 H2 => tb { D with nx := N, ct := N, bk := D.nx } ys σ2 H2) := by
  refine ⟨fun i m ys σ H => m = n - i ∧ i ≤ n ∧ Pv i ys σ H, ⟨n, by simp, Nat.zero_le _, h0⟩, ?_⟩
  rintro i m ys σ H ⟨rfl, hi, p⟩
  have q := hG i ys σ H hi p
  by_cases hlt : i < n
  · exact .inr ⟨w.goes i H hlt q, Pv (i + 1), fun ys' σ' H' p' => ⟨n - (i + 1), by omega, rfl, hlt, p'⟩, fun x H' y => hs i x ys σ H H' hlt p (w.yields i H x H' hlt q y)⟩
  · have e : i = n := by omega
    subst e
    exact .inl ⟨w.stops H q, hd ys σ H p⟩
theorem neI (i j : Nat) : (!decide (V.int (i : Int) = V.int (j : Int))) = decide (¬ i = j) := by
  rw [dec_iv]
  by_cases e : i = j
  · subst e; simp
  · have : ¬ (i : Int) = j := by omega
    simp [e, this]
theorem walk_r {n : Nat} : Walk (Itr 0 n) n (fun _ => True) (YFn fun i => V.int (i : Nat)) := by
  refine ⟨walk_range.goes, walk_range.stops, fun i H x H' hi g y => ?_⟩
  obtain ⟨h1, h2⟩ := walk_range.yields i H x H' hi g y
  exact ⟨h1, h2.trans (congrArg V.int (Int.zero_add _))⟩
/-- what is out so far -/
def OutAt (K : PySem.W.Frag) (H : Hp) (ys : List V) (Ls : List Lt) : Prop := ys.length = Ls.length ∧ ∀ (i : Nat) (L : Lt), Ls[i]? = some L → ∃ a, ys[i]? = some (V.ref a) ∧ SqT K H a (ltv L)
theorem OutAt.same {K : PySem.W.Frag} {H H' : Hp} {ys : List V} {Ls : List Lt} (h : OutAt K H ys Ls) (s : Same H H') : OutAt K H' ys Ls := ⟨h.1, fun i L e => let ⟨a, e2, q⟩ := h.2 i L e; ⟨a, e2, sameT s q⟩⟩
theorem OutAt.snoc {K : PySem.W.Frag} {H : Hp} {ys : List V} {Ls : List Lt} {a : Addr} {L : Lt} (h : OutAt K H ys Ls) (q : SqT K H a (ltv L)) : OutAt K H (ys ++ [V.ref a]) (Ls ++ [L]) := by
  refine ⟨by rw [List.length_append, List.length_append, h.1]; rfl, fun i L' e => ?_⟩
  by_cases hi : i < Ls.length
  · rw [List.getElem?_append_left hi] at e
    obtain ⟨b, e2, q2⟩ := h.2 i L' e
    exact ⟨b, by rw [List.getElem?_append_left (by rw [h.1]; exact hi)]; exact e2, q2⟩
  · rw [List.getElem?_append_right (by omega)] at e
    have e0 : i - Ls.length = 0 := by
      have := (List.getElem?_eq_some_iff.mp e).1
      simp only [List.length_cons, List.length_nil] at this
      omega
    rw [e0] at e
    obtain rfl : L = L' := Option.some.inj e
    exact ⟨a, by rw [List.getElem?_append_right (by rw [h.1]; omega), h.1, e0]; rfl, q⟩
def cs : List (Nat → Lt) := [.mk, .ln, .dr]
def preM (n i : Nat) : List Lt := (cs.take i).flatMap fun c => (List.range n).map c
def mvM (n i j : Nat) : List Lt := (List.range j).flatMap fun k => if i = k then [] else [.mv i k]
def mvsM (n i : Nat) : List Lt := (List.range i).flatMap fun k => mvM n k n
def lettersM (n : Nat) : List Lt := preM n 3 ++ mvsM n n ++ [.on] ++ (List.range n).map .oe ++ [.td]
theorem kin {i : Nat} {x : V} (h : [V.str "make", V.str "link", V.str "drop"][i]? = some x) : ∃ (c : Nat → Lt) (z : Str), x = .str z ∧ cs[i]? = some c ∧ ∀ j, ltv (c j) = [.str z, .int j] := by
  match i, h with
  | 0, h => exact ⟨.mk, "make", (Option.some.inj h).symm, rfl, fun _ => rfl⟩
  | 1, h => exact ⟨.ln, "link", (Option.some.inj h).symm, rfl, fun _ => rfl⟩
  | 2, h => exact ⟨.dr, "drop", (Option.some.inj h).symm, rfl, fun _ => rfl⟩
  | i + 3, h => cases h
theorem preM_s {n i : Nat} {c : Nat → Lt} (h : cs[i]? = some c) : preM n (i + 1) = preM n i ++ (List.range n).map c := by
  unfold preM
  rw [List.take_add_one, h, List.flatMap_append]
  simp
theorem mvM_s {n i j : Nat} : mvM n i (j + 1) = mvM n i j ++ if i = j then [] else [.mv i j] := by
  unfold mvM
  rw [List.range_succ, List.flatMap_append]
  simp
theorem mvsM_s {n i : Nat} : mvsM n (i + 1) = mvsM n i ++ mvM n i n := by
  unfold mvsM
  rw [List.range_succ, List.flatMap_append]
  simp
theorem mapR_s {c : Nat → Lt} {j : Nat} : (List.range (j + 1)).map c = (List.range j).map c ++ [c j] := by
  rw [List.range_succ, List.map_append]
  rfl
section
variable {P : Program} {w : World} {K : PySem.W.Frag} {mg : Str → Option Value} {base : Heap}
def sp_letters (K : PySem.W.Frag) : SpG := fun vs H Q E => ∃ n : Nat, vs = [.int n] ∧ n ≤ 8 ∧ ∀ H' ys, Same H H' → OutAt K H' ys (lettersM n) → Q ys H'
theorem ok_tie_letters (T : Tx K mg) : GFn P w K mg base 1 T.f_tie_letters T.fd_tie_letters ["entries"] (sp_letters K) := by
  obtain ⟨oc, od, kV, doc, pm, an, cdv, ct, osl, e, lk, hcd⟩ := T.F_tie_letters.ex
  rw [e] at lk ⊢
  refine gfn_of lk hcd sc_tie_letters (fun vs H Q E h => ?_) (fun A outer s H vs Q E pn hr h => ?_)
  · obtain ⟨_, rfl, _⟩ := h; rfl
  obtain ⟨n, rfl, h8, k⟩ := h
  refine ⟨_, (gss_cons (gs_for owns_gcx rfl (pi_tup (pe_tup (pa_cons pe_str (pa_cons pe_str (pa_cons pe_str pa_nil))))) (pg_name (i := 1) sc_tie_letters.nd rfl (.inl rfl))
      (gss_cons (gs_for owns_gcx rfl (pi_range1 rfl T.b_range (pa_cons (pv 0) pa_nil)) (pg_name (i := 2) sc_tie_letters.nd rfl (.inl rfl))
        (gss_cons (gs_yield (pe_tup (pa_cons (pv 1) (pa_cons (pv 2) pa_nil)))) gss_nil)) gss_nil))
    (gss_cons (gs_for owns_gcx rfl (pi_range1 rfl T.b_range (pa_cons (pv 0) pa_nil)) (pg_name (i := 3) sc_tie_letters.nd rfl (.inl rfl))
      (gss_cons (gs_for owns_gcx rfl (pi_range1 rfl T.b_range (pa_cons (pv 0) pa_nil)) (pg_name (i := 2) sc_tie_letters.nd rfl (.inl rfl))
        (gss_cons (gs_if (pt_cmpR op_ne (pv 3) (pv 2) (nomark _)) (gss_cons (gs_yield (pe_tup (pa_cons pe_str (pa_cons (pv 3) (pa_cons (pv 2) pa_nil))))) gss_nil) gss_nil) gss_nil)) gss_nil))
    (gss_cons (gs_yield (pe_tup (pa_cons pe_str pa_nil)))
    (gss_cons (gs_for owns_gcx rfl (pi_range1 rfl T.b_range (pa_cons (pv 0) pa_nil)) (pg_name (i := 2) sc_tie_letters.nd rfl (.inl rfl))
      (gss_cons (gs_yield (pe_tup (pa_cons pe_str (pa_cons (pv 2) pa_nil)))) gss_nil))
    (gss_cons (gs_yield (pe_tup (pa_cons pe_str pa_nil))) gss_nil))))), ?_⟩
  refine ⟨by show 3 ≤ sizeLine; decide, ?_⟩
  (intro tp n_tp; generalize he_tp : upd _ tp _ = H1; obtain ⟨e_tp, s_tp, f_tp⟩ := new_f he_tp n_tp; clear he_tp)
  have b1 : -(2 ^ 62 : Int) ≤ (n : Int) := by omega
  have b2 : (n : Int) < 2 ^ 62 := by omega
  refine ⟨tp, rfl, ⟨_, .inl (.of e_tp)⟩, gfor_it (walk_tup (K := K) (a := tp) (xs := [V.str "make", V.str "link", V.str "drop"])) (fun i ys σ H' => ∃ v1 v2 : Option V, σ = [some (.int n), v1, v2, none] ∧ Same H1 H' ∧ OutAt K H' ys (preM n i) ∧ ys.length ≤ 10 * i) ⟨none, none, rfl, Same.refl _, ⟨rfl, fun i L e => by cases e⟩, Nat.zero_le _⟩ (fun i ys σ H' _ ⟨_, _, _, s, _⟩ => .inl (.of (s _ _ e_tp))) ?_ ?_⟩
  · rintro i x ys σ Hx _ hi ⟨v1, v2, rfl, s1, O, hl⟩ ⟨rfl, hx⟩
    have hi : i < 3 := hi
    obtain ⟨c, z, rfl, hc, hv⟩ := kin hx
    ((try dsimp only); (first | (refine Rg.sg (σ' := [some (.int n), some (.str z), v2, none]) ?_ ?_; focus exact rfl) | (refine Rg.sgG (σ' := [some (.int n), some (.str z), v2, none]) ?_ ?_; focus exact rfl)))
    refine ⟨_, rfl, n, rfl, b1, b2, gfor_it walk_r (fun j ys σ H' => ∃ v2 : Option V, σ = [some (.int n), some (.str z), v2, none] ∧ Same H1 H' ∧ OutAt K H' ys (preM n i ++ (List.range j).map c) ∧ ys.length ≤ 10 * i + j) ⟨v2, rfl, s1, by rw [List.range_zero, List.map_nil, List.append_nil]; exact O, hl⟩ (fun _ _ _ _ _ _ => True.intro) ?_ ?_⟩
    · rintro j x ys σ Hy _ hj ⟨v2, rfl, s1, O, hl⟩ ⟨rfl, rfl⟩
      have hj : j < n := hj
      skip
      ((try dsimp only); (first | (refine Rg.sg (σ' := [some (.int n), some (.str z), some (.int j), none]) ?_ ?_; focus exact rfl) | (refine Rg.sgG (σ' := [some (.int n), some (.str z), some (.int j), none]) ?_ ?_; focus exact rfl)))
      refine ⟨lt_line (by omega), _, rfl, _, rfl, by show 2 ≤ sizeLine; decide, ?_⟩
      (intro q n_q; generalize he_q : upd _ q _ = Hq; obtain ⟨e_q, s_q, f_q⟩ := new_f he_q n_q; clear he_q)
      exact ⟨_, rfl, s1.trans s_q, by rw [mapR_s, ← List.append_assoc]; exact (O.same s_q).snoc (by rw [hv]; exact .inl (.of e_q)), by rw [List.length_append]; show _ + 1 ≤ _; omega⟩
    · rintro ys σ Hy ⟨v2, rfl, s1, O, hl⟩
      exact ⟨_, _, rfl, s1, by rw [preM_s hc]; exact O, by have hl : ys.length ≤ 10 * i + n := hl; omega⟩
  rintro ys σ Hx ⟨v1, v2, rfl, s1, O, hl⟩
  have hl : ys.length ≤ 30 := hl
  have O : OutAt K Hx ys (preM n 3) := O
  refine ⟨_, rfl, n, rfl, b1, b2, gfor_it walk_r (fun i ys σ H' => ∃ v2 v3 : Option V, σ = [some (.int n), v1, v2, v3] ∧ Same H1 H' ∧ OutAt K H' ys (preM n 3 ++ mvsM n i) ∧ ys.length ≤ 30 + 10 * i) ⟨v2, none, rfl, s1, by rw [show mvsM n 0 = [] from rfl, List.append_nil]; exact O, hl⟩ (fun _ _ _ _ _ _ => True.intro) ?_ ?_⟩
  · rintro i x ys σ Hy _ hi ⟨v2, v3, rfl, s1, O, hl⟩ ⟨rfl, rfl⟩
    have hi : i < n := hi
    skip
    ((try dsimp only); (first | (refine Rg.sg (σ' := [some (.int n), v1, v2, some (.int i)]) ?_ ?_; focus exact rfl) | (refine Rg.sgG (σ' := [some (.int n), v1, v2, some (.int i)]) ?_ ?_; focus exact rfl)))
    refine ⟨_, rfl, n, rfl, b1, b2, gfor_it walk_r (fun j ys σ H' => ∃ v2 : Option V, σ = [some (.int n), v1, v2, some (.int i)] ∧ Same H1 H' ∧ OutAt K H' ys (preM n 3 ++ mvsM n i ++ mvM n i j) ∧ ys.length ≤ 30 + 10 * i + j) ⟨v2, rfl, s1, by rw [show mvM n i 0 = [] from rfl, List.append_nil]; exact O, hl⟩ (fun _ _ _ _ _ _ => True.intro) ?_ ?_⟩
    · rintro j x ys σ Hz _ hj ⟨v2, rfl, s1, O, hl⟩ ⟨rfl, rfl⟩
      have hj : j < n := hj
      skip
      ((try dsimp only); (first | (refine Rg.sg (σ' := [some (.int n), v1, some (.int j), some (.int i)]) ?_ ?_; focus exact rfl) | (refine Rg.sgG (σ' := [some (.int n), v1, some (.int j), some (.int i)]) ?_ ?_; focus exact rfl)))
      refine ⟨_, rfl, _, rfl, rfl, _, rfl, ?_⟩
      refine iteS (p := ¬ i = j) (neI i j) (fun h => ?_) fun h => ?_
      · refine ⟨lt_line (by omega), _, rfl, _, rfl, by show 3 ≤ sizeLine; decide, ?_⟩
        (intro q n_q; generalize he_q : upd _ q _ = Hq; obtain ⟨e_q, s_q, f_q⟩ := new_f he_q n_q; clear he_q)
        exact ⟨_, rfl, s1.trans s_q, by rw [mvM_s, if_neg h, ← List.append_assoc]; exact (O.same s_q).snoc (.inl (.of e_q)), by rw [List.length_append]; show _ + 1 ≤ _; omega⟩
      · exact ⟨_, rfl, s1, by rw [mvM_s, if_pos (Classical.not_not.mp h), List.append_nil]; exact O, by omega⟩
    · rintro ys σ Hz ⟨v2, rfl, s1, O, hl⟩
      exact ⟨_, _, rfl, s1, by rw [mvsM_s, ← List.append_assoc]; exact O, by have hl : ys.length ≤ 30 + 10 * i + n := hl; omega⟩
  rintro ys σ Hy ⟨v2, v3, rfl, s2, O, hl⟩
  have hl : ys.length ≤ 30 + 10 * n := hl
  have O : OutAt K Hy ys (preM n 3 ++ mvsM n n) := O
  refine ⟨lt_line (by omega), by show 1 ≤ sizeLine; decide, ?_⟩
  (intro q1 n_q1; generalize he_q1 : upd _ q1 _ = Hq1; obtain ⟨e_q1, s_q1, f_q1⟩ := new_f he_q1 n_q1; clear he_q1)
  have O1 : OutAt K Hq1 (ys ++ [V.ref q1]) (preM n 3 ++ mvsM n n ++ [.on]) := (O.same s_q1).snoc (.inl (.of e_q1))
  have hl1 : (ys ++ [V.ref q1]).length ≤ 31 + 10 * n := by rw [List.length_append]; show _ + 1 ≤ _; omega
  generalize ys ++ [V.ref q1] = ys1 at O1 hl1 ⊢
  refine ⟨_, rfl, n, rfl, b1, b2, gfor_it walk_r (fun j ys σ H' => ∃ v2 : Option V, σ = [some (.int n), v1, v2, v3] ∧ Same H1 H' ∧ OutAt K H' ys (preM n 3 ++ mvsM n n ++ [.on] ++ (List.range j).map .oe) ∧ ys.length ≤ 31 + 10 * n + j) ⟨v2, rfl, s2.trans s_q1, by rw [List.range_zero, List.map_nil, List.append_nil]; exact O1, hl1⟩ (fun _ _ _ _ _ _ => True.intro) ?_ ?_⟩
  · rintro j x ys σ Hz _ hj ⟨v2, rfl, s1, O, hl⟩ ⟨rfl, rfl⟩
    have hj : j < n := hj
    skip
    ((try dsimp only); (first | (refine Rg.sg (σ' := [some (.int n), v1, some (.int j), v3]) ?_ ?_; focus exact rfl) | (refine Rg.sgG (σ' := [some (.int n), v1, some (.int j), v3]) ?_ ?_; focus exact rfl)))
    refine ⟨lt_line (by omega), _, rfl, by show 2 ≤ sizeLine; decide, ?_⟩
    (intro q n_q; generalize he_q : upd _ q _ = Hq; obtain ⟨e_q, s_q, f_q⟩ := new_f he_q n_q; clear he_q)
    exact ⟨_, rfl, s1.trans s_q, by rw [mapR_s, ← List.append_assoc]; exact (O.same s_q).snoc (.inl (.of e_q)), by rw [List.length_append]; show _ + 1 ≤ _; omega⟩
  rintro ys σ Hz ⟨v2, rfl, s3, O, hl⟩
  have hl : ys.length ≤ 31 + 10 * n + n := hl
  refine ⟨lt_line (by omega), by show 1 ≤ sizeLine; decide, ?_⟩
  (intro q n_q; generalize he_q : upd _ q _ = Hq; obtain ⟨e_q, s_q, f_q⟩ := new_f he_q n_q; clear he_q)
  exact k Hq _ (s_tp.trans (s3.trans s_q)) ((OutAt.same O s_q).snoc (.inl (.of e_q)))
end
end K60
namespace K60
open PySem PySem.Spec PyProof.Rows L2 Rg
theorem same_own {H H1 H2 : Hp} {p : Addr} (s : Same H H1) (n : H p = none) (k : Kp [p] H1 H2) : Same H H2 := fun a o e => k a o (s a o e) fun z => by
  rw [List.mem_singleton.mp z, n] at e
  cases e
theorem pow_nat (i : Nat) : ((2 : Int) ^ i) = ((2 ^ i : Nat) : Int) := by simp
theorem div_pow (n i : Nat) : ((n / 2 ^ i : Nat) : Int) / 2 = ((n / 2 ^ (i + 1) : Nat) : Int) := by
  rw [show ((n / 2 ^ i : Nat) : Int) / 2 = ((n / 2 ^ i / 2 : Nat) : Int) from rfl, Nat.div_div_eq_div_mul, Nat.pow_succ]
section
variable {P : Program} {w : World} {K : PySem.W.Frag} {mg : Str → Option Value} {base : Heap}
theorem ok_Lput (T : Tx K mg) : FnOk P w K mg base CX0 1 T.f_Lput T.fd_Lput ["_law_row_here", "_law_at", "_law_part"] (sp_with K) := by
  refine T.F_Lput.ok sc_Lput (fun vs H Q E h => ?_) (fun cdv A0 outer s H vs Q E hr h => ?_)
  · obtain ⟨_, _, _, _, rfl, _⟩ := h; rfl
  · obtain ⟨a, l, j, x, rfl, hl, hj, hn, k⟩ := h
    try dsimp only at k
    refine ⟨_, (pss_cons (ps_set (i := 3) sc_Lput.nd rfl (.inl rfl) (pe_callTy call_list_of rfl T.b_list (by decide +kernel) (pa_cons (pv 0) pa_nil)))
      (pss_cons (ps_asg (pv 2) (pg_sub (pv 3) (pv 1) set_list))
      (pss_one (ps_ret (pe_callTy call_tuple_of rfl T.b_tuple (by decide +kernel) (pa_cons (pv 3) pa_nil)))))), ?_⟩
    refine ⟨_, rfl, a, _, rfl, .inr hl, fun y n_y => ?_⟩
    (generalize he_y : upd _ y _ = H1; obtain ⟨e_y, s_y, f_y⟩ := new_f he_y n_y; clear he_y)
    ((try dsimp only); (first | (refine Rg.sg (σ' := [some (.ref a), some (.int j), some (x), some (.ref y)]) ?_ ?_; focus exact rfl) | (refine Rg.sgG (σ' := [some (.ref a), some (.int j), some (x), some (.ref y)]) ?_ ?_; focus exact rfl)))
    refine ⟨_, rfl, _, rfl, _, rfl, y, _, _, j, rfl, rfl, e_y, ixN_nat rfl hj, ?_⟩
    (generalize he_o : upd _ y _ = H2; obtain ⟨e_o, k_o, f_o⟩ := own_f he_o; clear he_o)
    refine ⟨_, rfl, y, _, rfl, .inl ⟨.of e_o, fun z n_z => ?_⟩⟩
    (generalize he_z : upd _ z _ = H3; obtain ⟨e_z, s_z, f_z⟩ := new_f he_z n_z; clear he_z)
    exact k H3 z ((same_own s_y n_y k_o).trans s_z) (.inl (.of e_z))
theorem ok_Lelder (T : Tx K mg) : FnOk P w K mg base CX0 1 T.f_Lelder T.fd_Lelder ["_law_mark"] (fun vs H Q _ => ∃ m : Nat, vs = [sv m] ∧ Q (sv (aged m)) H) := by
  refine T.F_Lelder.ok sc_Lelder (fun vs H Q E h => ?_) (fun cdv A0 outer s H vs Q E hr h => ?_)
  · obtain ⟨_, rfl, _⟩ := h; rfl
  · obtain ⟨m, rfl, k⟩ := h
    try dsimp only at k
    refine ⟨_, (pss_cons (ps_if (pt_cmpR op_eq (pv 0) pe_str (nomark _))
        (pss_one (ps_ret pe_str))
        pss_nil)
      (pss_one (ps_ret (pv 0)))), ?_⟩
    refine ⟨_, rfl, rfl, _, rfl, ?_⟩
    refine iteS (dS2 _) (fun h => ?_) fun h => ?_
    · exact casQ k (by unfold aged; rw [if_pos h]; rfl)
    · exact ⟨_, rfl, casQ k (by unfold aged; rw [if_neg h])⟩
theorem ok_Lrules (T : Tx K mg) : FnOk P w K mg base CX0 2 T.f_Lrules T.fd_Lrules ["_law_number_here"] (fun vs H Q _ => ∃ n : Nat, vs = [.int n] ∧ ∀ H' p, Same H H' → H p = none → H' p = some (.lst ((nm Rs n).map V.str)) → Q (.ref p) H') := by
  refine T.F_Lrules.ok sc_Lrules (fun vs H Q E h => ?_) (fun cdv A0 outer s H vs Q E hr h => ?_)
  · obtain ⟨_, rfl, _⟩ := h; rfl
  · obtain ⟨n, rfl, k⟩ := h
    try dsimp only at k
    refine ⟨_, (pss_cons (ps_set (i := 1) sc_Lrules.nd rfl (.inl rfl) (pe_lst pa_nil))
      (pss_cons (ps_set (i := 2) sc_Lrules.nd rfl (.inl rfl) (pv 0))
      (pss_cons (ps_for PassesOwn.never rfl (pi_list (pe_lst (pa_cons pe_str (pa_cons pe_str (pa_cons pe_str (pa_cons pe_str (pa_cons pe_str pa_nil))))))) (pg_name (i := 3) sc_Lrules.nd rfl (.inl rfl))
        (pss_cons (ps_if (pt_cmpR op_eq (pe_op op_mod (pe_callTy call_int1 rfl T.b_int (by decide +kernel) (pa_cons (pv 2) pa_nil)) pe_int) pe_int (nomark _))
          (pss_one (ps_expr (pe_bm PySem.F.plainAttrs_list PySem.F.slot_list_append PySem.F.type_list_append mt_append (pv 1) (pa_cons (pv 3) pa_nil))))
          pss_nil)
        (pss_one (ps_set (i := 2) sc_Lrules.nd rfl (.inl rfl) (pe_op op_fdiv (pv 2) pe_int)))))
      (pss_one (ps_ret (pv 1)))))), ?_⟩
    refine ⟨Nat.zero_le _, fun p np => ?_⟩
    have s0 := same_upd (o := .lst []) np
    have e0 : upd H p (.lst []) p = some (.lst []) := upd_same
    generalize upd H p (.lst []) = H0 at s0 e0 ⊢
    refine ⟨_, rfl, by show 5 ≤ sizeLine; decide, fun q nq => ⟨q, rfl, ⟨_, .of upd_same⟩, ?_⟩⟩
    obtain ⟨H1, hH1⟩ : ∃ H1, H1 = upd H0 q (.lst (Rs.map V.str)) := ⟨_, rfl⟩
    have s1 : Same H0 H1 := by rw [hH1]; exact same_upd nq
    have eq : H1 q = some (.lst (Rs.map V.str)) := by rw [hH1]; exact upd_same
    show ∃ W : Nat → Nat → L2.St → Hp → Prop, (∃ m, W 0 m _ (upd H0 q (.lst (Rs.map V.str)))) ∧ _
    rw [← hH1]
    have hpq : q ≠ p := fun z => by rw [z, e0] at nq; cases nq
    refine for_list (K := K) (a := q) (xs := Rs.map V.str) (fun i σ H' => ∃ u3 : Option V, σ = [some (.int n), some (.ref p), some (.int ((n / 2 ^ i : Nat) : Int)), u3] ∧ Same H H' ∧ H' p = some (.lst ((nm (Rs.take i) n).map V.str)) ∧ H' q = some (.lst (Rs.map V.str)))
      ⟨none, by rw [Nat.pow_zero, Nat.div_one]; rfl, s0.trans s1, s1 _ _ e0, eq⟩ (fun _ _ _ _ ⟨_, _, _, _, e⟩ => .of e) ?_ ?_
    · rintro i x σ H2 hx ⟨u3, rfl, s2, ep, eq2⟩
      obtain ⟨r, rfl, hr⟩ := str_at hx
      refine ⟨_, rfl, .inl ⟨_, rfl, _, _, rfl, rfl, (by show (0 : Int) < 2; decide), rfl, _, rfl, ?_⟩⟩
      rw [dec_iv]
      have em : ((n / 2 ^ i : Nat) : Int) % 2 = ((n / 2 ^ i % 2 : Nat) : Int) := rfl
      by_cases z : n / 2 ^ i % 2 = 1
      · rw [decide_eq_true (show ((n / 2 ^ i : Nat) : Int) % 2 = 1 by rw [em, z]; rfl)]
        refine iteT ⟨_, rfl, .inl ⟨rfl, _, .inl (.inl ep)⟩, _, rfl, p, _, _, rfl, rfl, ep, ?_, ?_⟩
        · rw [List.length_map]
          have h1 := nm_len (l := Rs.take i) (n := n)
          have h2 : (Rs.take i).length ≤ 5 := by rw [List.length_take, Rs_len]; exact Nat.min_le_right _ _
          exact small1000 (by omega)
        refine ⟨_, rfl, _, _, rfl, rfl, ⟨by decide, by decide⟩, _, by rw [← div_pow]; rfl, ?_, ?_, ?_⟩
        · intro b o e
          rw [upd_ne (ne_of_none e np)]
          exact s2 _ _ e
        · rw [upd_same, nm_take_s hr, if_pos z, List.map_append]
          rfl
        · rw [upd_ne hpq]; exact eq2
      · rw [decide_eq_false (show ¬ ((n / 2 ^ i : Nat) : Int) % 2 = 1 by rw [em]; omega)]
        refine iteF ⟨_, rfl, _, _, rfl, rfl, ⟨by decide, by decide⟩, _, by rw [← div_pow]; rfl, s2, ?_, eq2⟩
        rw [nm_take_s hr, if_neg z, List.append_nil]
        exact ep
    rintro σ H2 ⟨u3, rfl, s2, ep, _⟩
    exact ⟨_, rfl, k H2 p s2 np ep⟩
end
end K60
namespace K60
open PySem PySem.Spec PyProof.Rows L2 Rg
theorem OutAt.own {K : PySem.W.Frag} {H H' : Hp} {ys zs : List V} {Ls : List Lt} {p : Addr} (h : OutAt K H ys Ls) (s : Kp [p] H H') (ep : H p = some (.lst zs)) : OutAt K H' ys Ls := ⟨h.1, fun i L e => by
  obtain ⟨a, e2, q⟩ := h.2 i L e
  refine ⟨a, e2, ?_⟩
  rcases q with (q | ⟨o, q⟩) | q
  · exact .inl (.inl (s _ _ q fun z => by rw [List.mem_singleton.mp z, ep] at q; cases q))
  · exact .inl (.inr ⟨o, s _ _ q fun z => by rw [List.mem_singleton.mp z, ep] at q; cases q⟩)
  · exact .inr q⟩
/-- a list that is filled -/
structure Fil (K : PySem.W.Frag) (H H' : Hp) (lp : Addr) (Ls : List Lt) (b : Nat) : Prop where
  sm : Same H H'
  at_ : ∃ ys, H' lp = some (.lst ys) ∧ OutAt K H' ys Ls ∧ ys.length ≤ b
theorem Fil.same {K : PySem.W.Frag} {H H' H2 : Hp} {lp : Addr} {Ls : List Lt} {b : Nat} (h : Fil K H H' lp Ls b) (s : Same H' H2) : Fil K H H2 lp Ls b := ⟨h.sm.trans s, let ⟨ys, e, O, l⟩ := h.at_; ⟨ys, s _ _ e, O.same s, l⟩⟩
theorem Fil.put {K : PySem.W.Frag} {H H' : Hp} {lp q : Addr} {Ls : List Lt} {L : Lt} {b : Nat} {ys : List V} (n : H lp = none) (sm : Same H H') (e : H' lp = some (.lst ys)) (O : OutAt K H' ys Ls) (l : ys.length ≤ b) (hq : SqT K H' q (ltv L)) : Fil K H (upd H' lp (.lst (ys ++ [V.ref q]))) lp (Ls ++ [L]) (b + 1) := by
  obtain ⟨e2, k2, _⟩ := own_f (rfl : upd H' lp (.lst (ys ++ [V.ref q])) = _)
  exact ⟨same_own sm n k2, _, e2, (O.snoc hq).own k2 e, by rw [List.length_append]; show _ + 1 ≤ _; omega⟩
theorem Fil.to {K : PySem.W.Frag} {H H' : Hp} {lp : Addr} {Ls Ls' : List Lt} {b b' : Nat} (h : Fil K H H' lp Ls b) (e : Ls = Ls') (l : b ≤ b') : Fil K H H' lp Ls' b' := by
  subst e
  exact ⟨h.sm, let ⟨ys, e, O, l2⟩ := h.at_; ⟨ys, e, O, Nat.le_trans l2 l⟩⟩
section
variable {P : Program} {w : World} {K : PySem.W.Frag} {mg : Str → Option Value} {base : Heap}
theorem ok_Lletters (T : Tx K mg) : FnOk P w K mg base CX0 1 T.f_Lletters T.fd_Lletters ["_law_entries"] (fun vs H Q _ => ∃ n : Nat, vs = [.int n] ∧ n ≤ 8 ∧ ∀ H' p ys, Same H H' → H p = none → H' p = some (.lst ys) → OutAt K H' ys (lettersM n) → Q (.ref p) H') := by
  refine T.F_Lletters.ok sc_Lletters (fun vs H Q E h => ?_) (fun cdv A0 outer s H vs Q E hr h => ?_)
  · obtain ⟨_, rfl, _⟩ := h; rfl
  · obtain ⟨n, rfl, h8, k⟩ := h
    try dsimp only at k
    refine ⟨_, (pss_cons (ps_set (i := 1) sc_Lletters.nd rfl (.inl rfl) (pe_lst pa_nil))
      (pss_cons (ps_for PassesOwn.never rfl (pi_list (pe_lst (pa_cons pe_str (pa_cons pe_str (pa_cons pe_str pa_nil))))) (pg_name (i := 2) sc_Lletters.nd rfl (.inl rfl))
        (pss_one (ps_for PassesOwn.never rfl (pi_range1 rfl T.b_range (pa_cons (pv 0) pa_nil)) (pg_name (i := 3) sc_Lletters.nd rfl (.inl rfl))
          (pss_one (ps_expr (pe_bm PySem.F.plainAttrs_list PySem.F.slot_list_append PySem.F.type_list_append mt_append (pv 1) (pa_cons (pe_tup (pa_cons (pv 2) (pa_cons (pv 3) pa_nil))) pa_nil)))))))
      (pss_cons (ps_for PassesOwn.never rfl (pi_range1 rfl T.b_range (pa_cons (pv 0) pa_nil)) (pg_name (i := 4) sc_Lletters.nd rfl (.inl rfl))
        (pss_one (ps_for PassesOwn.never rfl (pi_range1 rfl T.b_range (pa_cons (pv 0) pa_nil)) (pg_name (i := 3) sc_Lletters.nd rfl (.inl rfl))
          (pss_one (ps_if (pt_cmpR op_ne (pv 4) (pv 3) (nomark _))
            (pss_one (ps_expr (pe_bm PySem.F.plainAttrs_list PySem.F.slot_list_append PySem.F.type_list_append mt_append (pv 1) (pa_cons (pe_tup (pa_cons pe_str (pa_cons (pv 4) (pa_cons (pv 3) pa_nil)))) pa_nil))))
            pss_nil)))))
      (pss_cons (ps_expr (pe_bm PySem.F.plainAttrs_list PySem.F.slot_list_append PySem.F.type_list_append mt_append (pv 1) (pa_cons (pe_tup (pa_cons pe_str pa_nil)) pa_nil)))
      (pss_cons (ps_for PassesOwn.never rfl (pi_range1 rfl T.b_range (pa_cons (pv 0) pa_nil)) (pg_name (i := 3) sc_Lletters.nd rfl (.inl rfl))
        (pss_one (ps_expr (pe_bm PySem.F.plainAttrs_list PySem.F.slot_list_append PySem.F.type_list_append mt_append (pv 1) (pa_cons (pe_tup (pa_cons pe_str (pa_cons (pv 3) pa_nil))) pa_nil)))))
      (pss_cons (ps_expr (pe_bm PySem.F.plainAttrs_list PySem.F.slot_list_append PySem.F.type_list_append mt_append (pv 1) (pa_cons (pe_tup (pa_cons pe_str pa_nil)) pa_nil)))
      (pss_one (ps_ret (pv 1))))))))), ?_⟩
    have b1 : -(2 ^ 62 : Int) ≤ (n : Int) := by omega
    have b2 : (n : Int) < 2 ^ 62 := by omega
    refine ⟨Nat.zero_le _, fun lp nlp => ?_⟩
    (generalize he_lp : upd _ lp _ = H0; obtain ⟨e_lp, s_lp, f_lp⟩ := new_f he_lp nlp; clear he_lp)
    have F : Fil K H H0 lp (preM n 0) 0 := ⟨s_lp, [], e_lp, ⟨rfl, fun i L e => by cases e⟩, Nat.le_refl _⟩
    refine ⟨by show 3 ≤ sizeLine; decide, ?_⟩
    (intro kp n_kp; generalize he_kp : upd _ kp _ = H1; obtain ⟨e_kp, s_kp, f_kp⟩ := new_f he_kp n_kp; clear he_kp)
    have nk : kp ≠ lp := fun z => by rw [z, e_lp] at n_kp; cases n_kp
    refine ⟨kp, rfl, ⟨_, .of e_kp⟩, for_list (K := K) (a := kp) (xs := [V.str "make", V.str "link", V.str "drop"]) (fun i σ H' => ∃ v1 v2 : Option V, σ = [some (.int n), some (.ref lp), v1, v2, none] ∧ Fil K H H' lp (preM n i) (10 * i) ∧ H' kp = some (.lst [V.str "make", V.str "link", V.str "drop"])) ⟨none, none, rfl, F.same s_kp, e_kp⟩ (fun _ _ _ _ ⟨_, _, _, _, e⟩ => .of e) ?_ ?_⟩
    · rintro i x σ Hx hx ⟨v1, v2, rfl, F, ek⟩
      have hi : i < 3 := (List.getElem?_eq_some_iff.mp hx).1
      obtain ⟨c, z, rfl, hc, hv⟩ := kin hx
      ((try dsimp only); (first | (refine Rg.sg (σ' := [some (.int n), some (.ref lp), some (.str z), v2, none]) ?_ ?_; focus exact rfl) | (refine Rg.sgG (σ' := [some (.int n), some (.ref lp), some (.str z), v2, none]) ?_ ?_; focus exact rfl)))
      refine ⟨_, rfl, n, rfl, b1, b2, for_it walk_r (fun j σ H' => ∃ v2 : Option V, σ = [some (.int n), some (.ref lp), some (.str z), v2, none] ∧ Fil K H H' lp (preM n i ++ (List.range j).map c) (10 * i + j) ∧ H' kp = some (.lst [V.str "make", V.str "link", V.str "drop"])) ⟨v2, rfl, F.to (by rw [List.range_zero, List.map_nil, List.append_nil]) (Nat.le_refl _), ek⟩ (fun _ _ _ _ _ => True.intro) ?_ ?_⟩
      · rintro j x σ Hy _ hj ⟨v2, rfl, F, ek⟩ ⟨rfl, rfl⟩
        have hj : j < n := hj
        skip
        ((try dsimp only); (first | (refine Rg.sg (σ' := [some (.int n), some (.ref lp), some (.str z), some (.int j), none]) ?_ ?_; focus exact rfl) | (refine Rg.sgG (σ' := [some (.int n), some (.ref lp), some (.str z), some (.int j), none]) ?_ ?_; focus exact rfl)))
        obtain ⟨ys, ey, O, hl⟩ := F.at_
        refine ⟨_, rfl, .inl ⟨rfl, _, .inl (.inl ey)⟩, _, rfl, _, rfl, by show 2 ≤ sizeLine; decide, ?_⟩
        (intro q n_q; generalize he_q : upd _ q _ = Hq; obtain ⟨e_q, s_q, f_q⟩ := new_f he_q n_q; clear he_q)
        refine ⟨lp, _, _, rfl, rfl, s_q _ _ ey, lt_line (by omega), ?_⟩
        have F := Fil.put nlp (F.sm.trans s_q) (s_q _ _ ey) (O.same s_q) hl (L := c j) (by rw [hv]; exact .inl (.of e_q))
        refine ⟨_, rfl, F.to (by rw [mapR_s, ← List.append_assoc]) (by omega), ?_⟩
        rw [upd_ne nk]
        exact s_q _ _ ek
      · rintro σ Hy ⟨v2, rfl, F, ek⟩
        exact ⟨_, _, rfl, F.to (by rw [preM_s hc]; rfl) (by show 10 * i + n ≤ _; omega), ek⟩
    rintro σ Hx ⟨v1, v2, rfl, F, -⟩
    have F : Fil K H Hx lp (preM n 3) 30 := F
    refine ⟨_, rfl, n, rfl, b1, b2, for_it walk_r (fun i σ H' => ∃ v2 v3 : Option V, σ = [some (.int n), some (.ref lp), v1, v2, v3] ∧ Fil K H H' lp (preM n 3 ++ mvsM n i) (30 + 10 * i)) ⟨v2, none, rfl, F.to (by rw [show mvsM n 0 = [] from rfl, List.append_nil]) (Nat.le_refl _)⟩ (fun _ _ _ _ _ => True.intro) ?_ ?_⟩
    · rintro i x σ Hy _ hi ⟨v2, v3, rfl, F⟩ ⟨rfl, rfl⟩
      have hi : i < n := hi
      skip
      ((try dsimp only); (first | (refine Rg.sg (σ' := [some (.int n), some (.ref lp), v1, v2, some (.int i)]) ?_ ?_; focus exact rfl) | (refine Rg.sgG (σ' := [some (.int n), some (.ref lp), v1, v2, some (.int i)]) ?_ ?_; focus exact rfl)))
      refine ⟨_, rfl, n, rfl, b1, b2, for_it walk_r (fun j σ H' => ∃ v2 : Option V, σ = [some (.int n), some (.ref lp), v1, v2, some (.int i)] ∧ Fil K H H' lp (preM n 3 ++ mvsM n i ++ mvM n i j) (30 + 10 * i + j)) ⟨v2, rfl, F.to (by rw [show mvM n i 0 = [] from rfl, List.append_nil]) (Nat.le_refl _)⟩ (fun _ _ _ _ _ => True.intro) ?_ ?_⟩
      · rintro j x σ Hz _ hj ⟨v2, rfl, F⟩ ⟨rfl, rfl⟩
        have hj : j < n := hj
        skip
        ((try dsimp only); (first | (refine Rg.sg (σ' := [some (.int n), some (.ref lp), v1, some (.int j), some (.int i)]) ?_ ?_; focus exact rfl) | (refine Rg.sgG (σ' := [some (.int n), some (.ref lp), v1, some (.int j), some (.int i)]) ?_ ?_; focus exact rfl)))
        refine ⟨_, rfl, _, rfl, rfl, _, rfl, ?_⟩
        refine iteS (neI i j) (fun h => ?_) fun h => ?_
        · obtain ⟨ys, ey, O, hl⟩ := F.at_
          refine ⟨_, rfl, .inl ⟨rfl, _, .inl (.inl ey)⟩, _, rfl, _, rfl, by show 3 ≤ sizeLine; decide, ?_⟩
          (intro q n_q; generalize he_q : upd _ q _ = Hq; obtain ⟨e_q, s_q, f_q⟩ := new_f he_q n_q; clear he_q)
          refine ⟨lp, _, _, rfl, rfl, s_q _ _ ey, lt_line (by omega), ?_⟩
          have F := Fil.put nlp (F.sm.trans s_q) (s_q _ _ ey) (O.same s_q) hl (L := .mv i j) (.inl (.of e_q))
          exact ⟨_, rfl, F.to (by rw [mvM_s, if_neg h, ← List.append_assoc]) (by omega)⟩
        · exact ⟨_, rfl, F.to (by rw [mvM_s, if_pos (Classical.not_not.mp h), List.append_nil]) (by omega)⟩
      · rintro σ Hz ⟨v2, rfl, F⟩
        exact ⟨_, _, rfl, F.to (by rw [mvsM_s, ← List.append_assoc]; rfl) (by show 30 + 10 * i + n ≤ _; omega)⟩
    rintro σ Hy ⟨v2, v3, rfl, F⟩
    have F : Fil K H Hy lp (preM n 3 ++ mvsM n n) (30 + 10 * n) := F
    obtain ⟨ys, ey, O, hl⟩ := F.at_
    refine ⟨_, rfl, .inl ⟨rfl, _, .inl (.inl ey)⟩, by show 1 ≤ sizeLine; decide, ?_⟩
    (intro q1 n_q1; generalize he_q1 : upd _ q1 _ = Hq1; obtain ⟨e_q1, s_q1, f_q1⟩ := new_f he_q1 n_q1; clear he_q1)
    refine ⟨lp, _, _, rfl, rfl, s_q1 _ _ ey, lt_line (by omega), ?_⟩
    have F := Fil.put nlp (F.sm.trans s_q1) (s_q1 _ _ ey) (O.same s_q1) hl (L := .on) (.inl (.of e_q1))
    generalize upd Hq1 lp _ = H2 at F ⊢
    refine ⟨_, rfl, n, rfl, b1, b2, for_it walk_r (fun j σ H' => ∃ v2 : Option V, σ = [some (.int n), some (.ref lp), v1, v2, v3] ∧ Fil K H H' lp (preM n 3 ++ mvsM n n ++ [.on] ++ (List.range j).map .oe) (30 + 10 * n + 1 + j)) ⟨v2, rfl, F.to (by rw [List.range_zero, List.map_nil, List.append_nil]) (Nat.le_refl _)⟩ (fun _ _ _ _ _ => True.intro) ?_ ?_⟩
    · rintro j x σ Hz _ hj ⟨v2, rfl, F⟩ ⟨rfl, rfl⟩
      have hj : j < n := hj
      skip
      ((try dsimp only); (first | (refine Rg.sg (σ' := [some (.int n), some (.ref lp), v1, some (.int j), v3]) ?_ ?_; focus exact rfl) | (refine Rg.sgG (σ' := [some (.int n), some (.ref lp), v1, some (.int j), v3]) ?_ ?_; focus exact rfl)))
      obtain ⟨ys, ey, O, hl⟩ := F.at_
      refine ⟨_, rfl, .inl ⟨rfl, _, .inl (.inl ey)⟩, _, rfl, by show 2 ≤ sizeLine; decide, ?_⟩
      (intro q n_q; generalize he_q : upd _ q _ = Hq; obtain ⟨e_q, s_q, f_q⟩ := new_f he_q n_q; clear he_q)
      refine ⟨lp, _, _, rfl, rfl, s_q _ _ ey, lt_line (by omega), ?_⟩
      have F := Fil.put nlp (F.sm.trans s_q) (s_q _ _ ey) (O.same s_q) hl (L := .oe j) (.inl (.of e_q))
      exact ⟨_, rfl, F.to (by rw [mapR_s, ← List.append_assoc]) (by omega)⟩
    rintro σ Hz ⟨v2, rfl, F⟩
    have F : Fil K H Hz lp (preM n 3 ++ mvsM n n ++ [.on] ++ (List.range n).map .oe) (30 + 10 * n + 1 + n) := F
    obtain ⟨ys, ey, O, hl⟩ := F.at_
    refine ⟨_, rfl, .inl ⟨rfl, _, .inl (.inl ey)⟩, by show 1 ≤ sizeLine; decide, ?_⟩
    (intro q3 n_q3; generalize he_q3 : upd _ q3 _ = Hq3; obtain ⟨e_q3, s_q3, f_q3⟩ := new_f he_q3 n_q3; clear he_q3)
    refine ⟨lp, _, _, rfl, rfl, s_q3 _ _ ey, lt_line (by omega), ?_⟩
    have F := Fil.put nlp (F.sm.trans s_q3) (s_q3 _ _ ey) (O.same s_q3) hl (L := .td) (.inl (.of e_q3))
    generalize upd Hq3 lp _ = H3 at F ⊢
    obtain ⟨ys', ey', O', -⟩ := F.at_
    exact ⟨_, rfl, k H3 lp ys' F.sm nlp ey' O'⟩
end
end K60
namespace K60
open PySem PySem.Spec PyProof.Rows L2 Rg
def ROs (K : PySem.W.Frag) (H : Hp) (Q : VK) : Option Td → Prop
  | none => ∀ H', Same H H' → Q .non H'
  | some t => ∀ H' x, Same H H' → TdAt K H' x t → Q (.ref x) H'
theorem ROs.same {K : PySem.W.Frag} {H G : Hp} {Q : VK} {o : Option Td} (h : ROs K H Q o) (k : Same H G) : ROs K G Q o := by
  cases o with
  | none => exact fun H' k' => h H' (k.trans k')
  | some t => exact fun H' x k' => h H' x (k.trans k')
abbrev NmAt (K : PySem.W.Frag) (H : Hp) (q : Addr) (B : List Str) : Prop := SqL K H q (B.map V.str)
theorem dNot_ {p : Prop} [Decidable p] : (!decide p) = decide (¬ p) := by by_cases h : p <;> simp [h]
theorem nmI {z : Str} {B : List Str} : (if false = true then !inV (.str z) (B.map V.str) else inV (.str z) (B.map V.str)) = decide (z ∈ B) := by
  rw [if_neg (by decide), inV_str]
theorem iteE {b c : Bool} {A B : Prop} (e : b = c) (h1 : c = true → A) (h2 : c = false → B) : if b = true then A else B := by
  subst e
  cases b
  · exact h2 rfl
  · exact h1 rfl
theorem bi1 (b : Bool) : decide (bi b = V.int 1) = b := by cases b <;> decide
theorem bi0 (b : Bool) : decide (bi b = V.int 0) = !b := by cases b <;> decide
theorem bz1 (b : Bool) : decide ((if b = true then 1 else 0 : Int) = 1) = b := by cases b <;> decide
section
variable {P : Program} {w : World} {K : PySem.W.Frag} {mg : Str → Option Value} {base : Heap}
theorem ok_Lout (T : Tx K mg) : FnOk P w K mg base CX0 2 T.f_Lout T.fd_Lout ["_law_standing_here", "_law_j", "_law_rules_here"] (fun vs H Q _ => ∃ (t : Td) (n j : Nat) (N : List Str) (a q : Addr), vs = [.ref a, .int j, .ref q] ∧ TdAt K H a t ∧ NmAt K H q N ∧ Wf t n ∧ j < n ∧ ROs K H Q (afterM t N (.oe j))) := by
  refine T.F_Lout.ok sc_Lout (fun vs H Q E h => ?_) (fun cdv A0 outer s H vs Q E hr h => ?_)
  · obtain ⟨_, _, _, _, _, _, rfl, _⟩ := h; rfl
  · obtain ⟨t, n, j, N, a, q, rfl, ⟨ta, ma, e1, e2, e3⟩, hq, wf, hj, k⟩ := h
    try dsimp only at k
    refine ⟨_, (pss_cons (ps_asg (pv 0) (pg_tup rfl (pgs_cons (pg_name (i := 3) sc_Lout.nd rfl (.inl rfl)) (pgs_cons (pg_name (i := 4) sc_Lout.nd rfl (.inl rfl)) (pgs_cons (pg_name (i := 5) sc_Lout.nd rfl (.inl rfl)) (pgs_cons (pg_name (i := 6) sc_Lout.nd rfl (.inl rfl)) (pgs_cons (pg_name (i := 7) sc_Lout.nd rfl (.inl rfl)) pgs_nil)))))))
      (pss_cons (ps_if (pt_cmpR op_eq (pe_ix ix_tup (pv 4) (pv 1) (fun _ _ => rfl)) pe_int (nomark _))
        (pss_cons (ps_if (PW.pt (pw_and (pt_cmpR op_in_seq pe_str (pv 2) rfl) (pw_and1 (pt_cmpR op_ne (pv 5) pe_str (nomark _)))))
          (pss_one (ps_ret pe_non))
          pss_nil)
        (pss_one (ps_ret (pe_tup (pa_cons (pv 3) (pa_cons (pv 4) (pa_cons (pv 5) (pa_cons (pe_call (ok_Lput T) (hr.mono (by decide)) rfl T.mg_Lput T.F_Lput.kp (b_Lput T) .nil pass0 (pa_cons (pv 6) (pa_cons (pv 1) (pa_cons pe_str pa_nil)))) (pa_cons (pv 7) pa_nil)))))))))
        pss_nil)
      (pss_cons (ps_if (PW.pt (pw_and (pt_cmpR op_in_seq pe_str (pv 2) rfl) (pw_and (pt_cmpR op_eq (pv 3) pe_int (nomark _)) (pw_and1 (pt_cmpR op_eq (pe_ix ix_tup (pv 6) (pv 1) (fun _ _ => rfl)) pe_str (nomark _))))))
        (pss_cons (ps_set (i := 8) sc_Lout.nd rfl (.inl rfl) pe_bl)
        (pss_cons (ps_for PassesOwn.never rfl (pi_range1 rfl T.b_range (pa_cons (pe_callB call_len_seq rfl T.b_len (by decide +kernel) (pa_cons (pv 4) pa_nil)) pa_nil)) (pg_name (i := 9) sc_Lout.nd rfl (.inl rfl))
          (pss_one (ps_if (PW.pt (pw_and (pt_cmpR op_eq (pe_ix ix_tup (pv 4) (pv 9) (fun _ _ => rfl)) pe_int (nomark _)) (pw_and1 (pt_cmpR op_eq (pe_ix ix_tup (pv 6) (pv 9) (fun _ _ => rfl)) pe_str (nomark _)))))
            (pss_one (ps_set (i := 8) sc_Lout.nd rfl (.inl rfl) pe_bl))
            pss_nil)))
        (pss_one (ps_if (pt_not (pt_val (pv 8)))
          (pss_one (ps_ret pe_non))
          pss_nil))))
        pss_nil)
      (pss_one (ps_ret (pe_tup (pa_cons (pv 3) (pa_cons (pv 4) (pa_cons (pv 5) (pa_cons (pe_call (ok_Lput T) (hr.mono (by decide)) rfl T.mg_Lput T.F_Lput.kp (b_Lput T) .nil pass0 (pa_cons (pv 6) (pa_cons (pv 1) (pa_cons pe_str pa_nil)))) (pa_cons (pv 7) pa_nil))))))))))), ?_⟩
    refine ⟨_, rfl, a, _, rfl, e1, rfl, _, _, rfl, _, _, rfl, _, _, rfl, _, _, rfl, _, _, rfl, rfl, ?_⟩
    ((try dsimp only); (first | (refine Rg.sg (σ' := [some (.ref a), some (.int j), some (.ref q), some (bi t.al), some (.ref ta), some (sv t.re), some (.ref ma), some (bi t.to), none, none]) ?_ ?_; focus exact rfl) | (refine Rg.sgG (σ' := [some (.ref a), some (.int j), some (.ref q), some (bi t.al), some (.ref ta), some (sv t.re), some (.ref ma), some (bi t.to), none, none]) ?_ ?_; focus exact rfl)))
    have hi := hj
    have hj : j < t.ti.length := by rw [wf.tl]; exact hi
    have hjm : j < t.ma.length := by rw [wf.ml]; exact hi
    have k : ROs K H Q (if t.ti.getD j false = true then (if ("first" : Str) ∈ N ∧ ¬ t.re = 2 then none else some ⟨t.al, t.ti, t.re, t.ma.set j 2, t.to⟩)
        else if ("keep" : Str) ∈ N ∧ t.al = true ∧ t.ma.getD j 0 = 2 ∧ keptM t = false then none else some ⟨t.al, t.ti, t.re, t.ma.set j 1, t.to⟩) := k
    refine ⟨_, rfl, _, rfl, ta, _, j, bi (t.ti.getD j false), rfl, rfl, e2, atI_nat (j := j) (getB hj), rfl, _, rfl, ?_⟩
    refine iteE (bi1 _) (fun c1 => ?_) fun c1 => ?_
    · rw [if_pos c1] at k
      apply via (fun G => G = H ∧ ¬ (("first" : Str) ∈ N ∧ ¬ t.re = 2))
      · intro REST
        refine ⟨_, rfl, q, _, rfl, .inl hq, rfl, flat_str, ?_⟩
        rw [nmI]
        refine ⟨_, rfl, ?_⟩
        refine iteS (p := ("first" : Str) ∈ N) rfl (fun h1 => ?_) fun h1 => ?_
        · refine ⟨_, rfl, rfl, _, rfl, ?_⟩
          refine iteS (nS2 _) (fun h => ?_) fun h => ?_
          · rw [if_pos ⟨h1, h⟩] at k
            exact k H (Same.refl _)
          · exact REST H ⟨rfl, fun z => h z.2⟩
        · exact iteF (REST H ⟨rfl, fun z => h1 z.1⟩)
      rintro G ⟨rfl, cG⟩
      rw [if_neg cG] at k
      refine ⟨_, rfl, _, rfl, _, rfl, _, rfl, _, rfl, ma, _, j, sv 2, rfl, e3, by rw [List.length_map]; exact hjm, by rw [List.length_map, wf.ml]; exact Nat.le_trans wf.n8 (by decide), fun H1 p s1 hp => ?_⟩
      refine ⟨_, rfl, by show 5 ≤ sizeLine; decide, ?_⟩
      (intro x n_x; generalize he_x : upd _ x _ = H2; obtain ⟨e_x, s_x, f_x⟩ := new_f he_x n_x; clear he_x)
      exact k _ x (s1.trans s_x) ⟨ta, p, .inl (.of e_x), sameT (s1.trans s_x) e2, sameT s_x (setS hp)⟩
    rw [if_neg (by rw [c1]; decide)] at k
    refine ⟨_, rfl, q, _, rfl, .inl hq, rfl, flat_str, ?_⟩
    rw [nmI]
    refine ⟨_, rfl, ?_⟩
    refine iteS (p := ("keep" : Str) ∈ N) rfl (fun h1 => ?_) fun h1 => ?_
    · refine ⟨_, rfl, rfl, _, rfl, ?_⟩
      refine iteE (bi1 _) (fun c2 => ?_) fun c2 => ?_
      · refine ⟨_, rfl, _, rfl, ma, _, j, sv (t.ma.getD j 0), rfl, rfl, e3, atI_nat (j := j) (getS hjm), rfl, _, rfl, ?_⟩
        refine iteS (dS2 _) (fun h3 => ?_) fun h3 => ?_
        · ((try dsimp only); (first | (refine Rg.sg (σ' := [some (.ref a), some (.int j), some (.ref q), some (bi t.al), some (.ref ta), some (sv t.re), some (.ref ma), some (bi t.to), some (.bl false), none]) ?_ ?_; focus exact rfl) | (refine Rg.sgG (σ' := [some (.ref a), some (.int j), some (.ref q), some (bi t.al), some (.ref ta), some (sv t.re), some (.ref ma), some (bi t.to), some (.bl false), none]) ?_ ?_; focus exact rfl)))
          refine ⟨_, rfl, ta, _, rfl, .inr e2, n, (by rw [List.length_map, wf.tl]), by have := wf.n8; omega, by have := wf.n8; omega, for_it walk_r (fun i σ H' => H' = H ∧ ∃ v9 : Option V, σ = [some (.ref a), some (.int j), some (.ref q), some (bi t.al), some (.ref ta), some (sv t.re), some (.ref ma), some (bi t.to), some (.bl (((t.ti.zip t.ma).take i).any fun q => q.1 && decide (q.2 = 2))), v9]) ⟨rfl, none, rfl⟩ (fun _ _ _ _ _ => True.intro) ?_ ?_⟩
          · rintro i x σ Hy _ hi2 ⟨rfl, v9, rfl⟩ ⟨rfl, rfl⟩
            have hi2 : i < n := hi2
            have hit : i < t.ti.length := by rw [wf.tl]; exact hi2
            have him : i < t.ma.length := by rw [wf.ml]; exact hi2
            have ez : (t.ti.zip t.ma)[i]? = some (t.ti.getD i false, t.ma.getD i 0) := by
              rw [List.getElem?_zip_eq_some, List.getD_eq_getElem?_getD, List.getD_eq_getElem?_getD, List.getElem?_eq_getElem hit, List.getElem?_eq_getElem him]
              exact ⟨rfl, rfl⟩
            have es : ((t.ti.zip t.ma).take (i + 1)).any (fun q => q.1 && decide (q.2 = 2)) = (((t.ti.zip t.ma).take i).any (fun q => q.1 && decide (q.2 = 2)) || (t.ti.getD i false && decide (t.ma.getD i 0 = 2))) := by
              rw [take_snoc ez, List.any_append]
              simp
            ((try dsimp only); (first | (refine Rg.sg (σ' := [some (.ref a), some (.int j), some (.ref q), some (bi t.al), some (.ref ta), some (sv t.re), some (.ref ma), some (bi t.to), some (.bl (((t.ti.zip t.ma).take i).any fun q => q.1 && decide (q.2 = 2))), some (.int i)]) ?_ ?_; focus exact rfl) | (refine Rg.sgG (σ' := [some (.ref a), some (.int j), some (.ref q), some (bi t.al), some (.ref ta), some (sv t.re), some (.ref ma), some (bi t.to), some (.bl (((t.ti.zip t.ma).take i).any fun q => q.1 && decide (q.2 = 2))), some (.int i)]) ?_ ?_; focus exact rfl)))
            refine ⟨_, rfl, _, rfl, ta, _, i, bi (t.ti.getD i false), rfl, rfl, e2, atI_nat (j := i) (getB hit), rfl, _, rfl, ?_⟩
            refine iteE (bi1 _) (fun c4 => ?_) fun c4 => ?_
            · refine ⟨_, rfl, _, rfl, ma, _, i, sv (t.ma.getD i 0), rfl, rfl, e3, atI_nat (j := i) (getS him), rfl, _, rfl, ?_⟩
              refine iteS (dS2 _) (fun h5 => ?_) fun h5 => ?_
              · exact ⟨rfl, _, by rw [es, c4, decide_eq_true h5, Bool.true_and, Bool.or_true]; rfl⟩
              · exact ⟨rfl, _, by rw [es, c4, decide_eq_false h5, Bool.true_and, Bool.or_false]⟩
            · exact iteF ⟨rfl, _, by rw [es, c4, Bool.false_and, Bool.or_false]⟩
          rintro σ Hy ⟨rfl, v9, rfl⟩
          have ek : ((t.ti.zip t.ma).take n).any (fun q => q.1 && decide (q.2 = 2)) = keptM t := by
            rw [List.take_of_length_le (by rw [List.length_zip, wf.tl, wf.ml]; omega)]
            rfl
          have ek : ((t.ti.zip t.ma).take (n : Int).toNat).any (fun q => q.1 && decide (q.2 = 2)) = keptM t := ek
          rw [ek]
          ((try dsimp only); (first | (refine Rg.sg (σ' := [some (.ref a), some (.int j), some (.ref q), some (bi t.al), some (.ref ta), some (sv t.re), some (.ref ma), some (bi t.to), some (.bl (keptM t)), v9]) ?_ ?_; focus exact rfl) | (refine Rg.sgG (σ' := [some (.ref a), some (.int j), some (.ref q), some (bi t.al), some (.ref ta), some (sv t.re), some (.ref ma), some (bi t.to), some (.bl (keptM t)), v9]) ?_ ?_; focus exact rfl)))
          refine ⟨_, rfl, _, rfl, iteN (fun c5 => ?_) fun c5 => ?_⟩
          · rw [if_pos ⟨h1, c2, h3, c5⟩] at k
            exact k _ (Same.refl _)
          · rw [if_neg (fun z => by rw [c5] at z; cases z.2.2.2)] at k
            refine ⟨_, rfl, _, rfl, _, rfl, _, rfl, _, rfl, ma, _, j, sv 1, rfl, e3, by rw [List.length_map]; exact hjm, by rw [List.length_map, wf.ml]; exact Nat.le_trans wf.n8 (by decide), fun H1 p s1 hp => ?_⟩
            refine ⟨_, rfl, by show 5 ≤ sizeLine; decide, ?_⟩
            (intro x n_x; generalize he_x : upd _ x _ = H2; obtain ⟨e_x, s_x, f_x⟩ := new_f he_x n_x; clear he_x)
            exact k _ x (s1.trans s_x) ⟨ta, p, .inl (.of e_x), sameT (s1.trans s_x) e2, sameT s_x (setS hp)⟩
        · rw [if_neg (fun z => h3 z.2.2.1)] at k
          refine ⟨_, rfl, _, rfl, _, rfl, _, rfl, _, rfl, ma, _, j, sv 1, rfl, e3, by rw [List.length_map]; exact hjm, by rw [List.length_map, wf.ml]; exact Nat.le_trans wf.n8 (by decide), fun H1 p s1 hp => ?_⟩
          refine ⟨_, rfl, by show 5 ≤ sizeLine; decide, ?_⟩
          (intro x n_x; generalize he_x : upd _ x _ = H2; obtain ⟨e_x, s_x, f_x⟩ := new_f he_x n_x; clear he_x)
          exact k _ x (s1.trans s_x) ⟨ta, p, .inl (.of e_x), sameT (s1.trans s_x) e2, sameT s_x (setS hp)⟩
      · refine iteF ?_
        rw [if_neg (fun z => by rw [c2] at z; cases z.2.1)] at k
        refine ⟨_, rfl, _, rfl, _, rfl, _, rfl, _, rfl, ma, _, j, sv 1, rfl, e3, by rw [List.length_map]; exact hjm, by rw [List.length_map, wf.ml]; exact Nat.le_trans wf.n8 (by decide), fun H1 p s1 hp => ?_⟩
        refine ⟨_, rfl, by show 5 ≤ sizeLine; decide, ?_⟩
        (intro x n_x; generalize he_x : upd _ x _ = H2; obtain ⟨e_x, s_x, f_x⟩ := new_f he_x n_x; clear he_x)
        exact k _ x (s1.trans s_x) ⟨ta, p, .inl (.of e_x), sameT (s1.trans s_x) e2, sameT s_x (setS hp)⟩
    · refine iteF ?_
      rw [if_neg (fun z => h1 z.1)] at k
      refine ⟨_, rfl, _, rfl, _, rfl, _, rfl, _, rfl, ma, _, j, sv 1, rfl, e3, by rw [List.length_map]; exact hjm, by rw [List.length_map, wf.ml]; exact Nat.le_trans wf.n8 (by decide), fun H1 p s1 hp => ?_⟩
      refine ⟨_, rfl, by show 5 ≤ sizeLine; decide, ?_⟩
      (intro x n_x; generalize he_x : upd _ x _ = H2; obtain ⟨e_x, s_x, f_x⟩ := new_f he_x n_x; clear he_x)
      exact k _ x (s1.trans s_x) ⟨ta, p, .inl (.of e_x), sameT (s1.trans s_x) e2, sameT s_x (setS hp)⟩
end
end K60
namespace K60
open PySem PySem.Spec PyProof.Rows L2 Rg
def Lt.nmd : Lt → Prop
  | .mk _ => True
  | .ln _ => True
  | .dr _ => True
  | .mv _ _ => True
  | _ => False
theorem mk_eq (l : List Nat) : decide (l.map sg = (l.map fun _ => 1).map sg) = !(l.any fun m => decide (¬ m = 1)) := by
  induction l with
  | nil => rfl
  | cons m l ih =>
    rw [List.any_cons, Bool.not_or, ← ih, List.map_cons, List.map_cons, List.map_cons]
    by_cases h : m = 1
    · subst h
      by_cases h2 : l.map sg = (l.map fun _ => 1).map sg <;> simp [h2]
    · have h3 : ¬ sg m = sg 1 := fun e => h ((sg_eq (by decide)).mp e)
      rw [decide_eq_false (fun z => h3 (by injection z))]
      simp [h]
theorem inB (l : List Bool) : (if false = true then !inV (.int 1) (l.map bi) else inV (.int 1) (l.map bi)) = l.any id := by
  rw [if_neg (by decide)]
  unfold inV
  rw [List.any_map]
  congr 1
  funext b
  cases b <;> decide
theorem flatB {l : List Bool} : (l.map bi).all flatV = true := by
  rw [List.all_map]
  exact List.all_eq_true.mpr fun b _ => rfl
def dS (s : List Nat) : PyData := .tuple ((s.map sg).map PyData.str)
theorem sS_map (s : List Nat) : s.map sv = (s.map sg).map V.str := by rw [List.map_map]; rfl
theorem dpS {K : PySem.W.Frag} {H : Hp} {a : Addr} {s : List Nat} (h : SqT K H a (s.map sv)) : Dp K H (.ref a) (dS s) := .tup (show SqT K H a ((s.map sg).map V.str) by rw [← sS_map]; exact h) (dpAllT _)
theorem okS_sg (n : Nat) : okS (sg n) = true := by
  by_cases h : n < 4
  · exact (show ∀ n < 4, okS (sg n) = true by decide +kernel) n h
  · rw [sg_big (by omega)]; decide +kernel
theorem shS (s : List Nat) : SeqAt.shaped (dS s) = true := by
  have h := shT (s.map sg) fun x hx => by obtain ⟨n, _, rfl⟩ := List.mem_map.mp hx; exact okS_sg n
  exact h
theorem eqS (s t : List Nat) : PyData.eqv (dS s) (dS t) = decide (s.map sg = t.map sg) := eqvAllT _ _
section
variable {P : Program} {w : World} {K : PySem.W.Frag} {mg : Str → Option Value} {base : Heap}
theorem ok_Lnamed (T : Tx K mg) : FnOk P w K mg base CX0 2 T.f_Lnamed T.fd_Lnamed ["_law_standing_here", "_law_letter", "_law_rules_here"] (fun vs H Q _ => ∃ (L : Lt) (t : Td) (n : Nat) (N : List Str) (a l q : Addr), vs = [.ref a, .ref l, .ref q] ∧ L.nmd ∧ TdAt K H a t ∧ SqT K H l (ltv L) ∧ NmAt K H q N ∧ Wf t n ∧ L.inb n ∧ ROs K H Q (afterM t N L)) := by
  refine T.F_Lnamed.ok sc_Lnamed (fun vs H Q E h => ?_) (fun cdv A0 outer s H vs Q E hr h => ?_)
  · obtain ⟨_, _, _, _, _, _, _, rfl, _⟩ := h; rfl
  · obtain ⟨L, t, n, N, a, l, q, rfl, nl, ⟨ta, ma, e1, e2, e3⟩, hl, hq, wf, hi, k⟩ := h
    try dsimp only at k
    refine ⟨_, (pss_cons (ps_asg (pv 0) (pg_tup rfl (pgs_cons (pg_name (i := 3) sc_Lnamed.nd rfl (.inl rfl)) (pgs_cons (pg_name (i := 4) sc_Lnamed.nd rfl (.inl rfl)) (pgs_cons (pg_name (i := 5) sc_Lnamed.nd rfl (.inl rfl)) (pgs_cons (pg_name (i := 6) sc_Lnamed.nd rfl (.inl rfl)) (pgs_cons (pg_name (i := 7) sc_Lnamed.nd rfl (.inl rfl)) pgs_nil)))))))
      (pss_cons (ps_set (i := 8) sc_Lnamed.nd rfl (.inl rfl) (pe_ix ix_tup (pv 1) (pe_op op_sub (pe_callB call_len_seq rfl T.b_len (by decide +kernel) (pa_cons (pv 1) pa_nil)) pe_int) (fun _ _ => rfl)))
      (pss_cons (ps_if (pt_cmpR op_eq (pe_ix ix_tup (pv 1) pe_int (fun _ _ => rfl)) pe_str (nomark _))
        (pss_cons (ps_if (PW.pt (pw_or (pt_cmpR op_eq (pv 3) pe_int (nomark _)) (pw_or1 (PW.pt (pw_and (pt_cmpR op_in_seq pe_str (pv 2) rfl) (pw_and1 (pt_cmpR (op_neD hr.units) (pv 6) (pe_callTy call_tuple_of rfl T.b_tuple (by decide +kernel) (pa_cons (pe_lc rfl (own := [("_law_mark", 9)]) (g := gName 9) (tt := tYes) sc_Lnamed.nd (pi_tup (pv 6)) (blkOk_by (N := ["_law_standing_here", "_law_letter", "_law_rules_here", "_law_alive", "_law_ties", "_law_record", "_law_marks", "_law_told", "_law_j", "_law_mark", "_law_left"]) (sc := defScope s_Lnamed) (by decide +kernel)) (fun _ _ _ _ _ => pg_name (i := 9) sc_Lnamed.nd rfl (Or.inl rfl)) (fun _ _ _ _ _ => pts_nil) (fun _ _ _ _ _ => pe_str)) pa_nil)) (nomark _))))))))
          (pss_one (ps_ret pe_non))
          pss_nil)
        (pss_one (ps_ret (pe_tup (pa_cons pe_int (pa_cons (pe_call (ok_Lput T) (hr.mono (by decide)) rfl T.mg_Lput T.F_Lput.kp (b_Lput T) .nil pass0 (pa_cons (pv 4) (pa_cons (pv 8) (pa_cons pe_int pa_nil)))) (pa_cons (pe_call (ok_Lelder T) (hr.mono (by decide)) rfl T.mg_Lelder T.F_Lelder.kp (b_Lelder T) .nil pass0 (pa_cons (pv 5) pa_nil)) (pa_cons (pe_callTy call_tuple_of rfl T.b_tuple (by decide +kernel) (pa_cons (pe_lc rfl (own := [("_law_mark", 9)]) (g := gName 9) (tt := tYes) sc_Lnamed.nd (pi_tup (pv 6)) (blkOk_by (N := ["_law_standing_here", "_law_letter", "_law_rules_here", "_law_alive", "_law_ties", "_law_record", "_law_marks", "_law_told", "_law_j", "_law_mark", "_law_left"]) (sc := defScope s_Lnamed) (by decide +kernel)) (fun _ _ _ _ _ => pg_name (i := 9) sc_Lnamed.nd rfl (Or.inl rfl)) (fun _ _ _ _ _ => pts_nil) (fun _ _ _ _ _ => (pe_call (ok_Lelder T) (hr.mono (by decide)) rfl T.mg_Lelder T.F_Lelder.kp (b_Lelder T) .nil pass0 (pa_cons (pv 9) pa_nil)))) pa_nil)) (pa_cons pe_int pa_nil)))))))))
        pss_nil)
      (pss_cons (ps_if (pt_cmpR op_eq (pe_ix ix_tup (pv 1) pe_int (fun _ _ => rfl)) pe_str (nomark _))
        (pss_cons (ps_if (PW.pt (pw_or (pt_cmpR op_eq (pv 3) pe_int (nomark _)) (pw_or1 (pt_cmpR op_eq (pe_ix ix_tup (pv 4) (pv 8) (fun _ _ => rfl)) pe_int (nomark _)))))
          (pss_one (ps_ret pe_non))
          pss_nil)
        (pss_one (ps_ret (pe_tup (pa_cons pe_int (pa_cons (pe_call (ok_Lput T) (hr.mono (by decide)) rfl T.mg_Lput T.F_Lput.kp (b_Lput T) .nil pass0 (pa_cons (pv 4) (pa_cons (pv 8) (pa_cons pe_int pa_nil)))) (pa_cons (pv 5) (pa_cons (pv 6) (pa_cons (pv 7) pa_nil)))))))))
        pss_nil)
      (pss_cons (ps_if (pt_cmpR op_eq (pe_ix ix_tup (pv 1) pe_int (fun _ _ => rfl)) pe_str (nomark _))
        (pss_cons (ps_if (PW.pt (pw_or (pt_cmpR op_eq (pe_ix ix_tup (pv 4) (pe_ix ix_tup (pv 1) pe_int (fun _ _ => rfl)) (fun _ _ => rfl)) pe_int (nomark _)) (pw_or1 (pt_cmpR op_eq (pe_ix ix_tup (pv 4) (pv 8) (fun _ _ => rfl)) pe_int (nomark _)))))
          (pss_one (ps_ret pe_non))
          pss_nil)
        (pss_one (ps_ret (pe_tup (pa_cons (pv 3) (pa_cons (pe_call (ok_Lput T) (hr.mono (by decide)) rfl T.mg_Lput T.F_Lput.kp (b_Lput T) .nil pass0 (pa_cons (pe_call (ok_Lput T) (hr.mono (by decide)) rfl T.mg_Lput T.F_Lput.kp (b_Lput T) .nil pass0 (pa_cons (pv 4) (pa_cons (pe_ix ix_tup (pv 1) pe_int (fun _ _ => rfl)) (pa_cons pe_int pa_nil)))) (pa_cons (pv 8) (pa_cons pe_int pa_nil)))) (pa_cons (pv 5) (pa_cons (pv 6) (pa_cons (pv 7) pa_nil)))))))))
        pss_nil)
      (pss_cons (ps_if (pt_cmpR op_eq (pe_ix ix_tup (pv 4) (pv 8) (fun _ _ => rfl)) pe_int (nomark _))
        (pss_one (ps_ret pe_non))
        pss_nil)
      (pss_cons (ps_set (i := 10) sc_Lnamed.nd rfl (.inl rfl) (pe_call (ok_Lput T) (hr.mono (by decide)) rfl T.mg_Lput T.F_Lput.kp (b_Lput T) .nil pass0 (pa_cons (pv 4) (pa_cons (pv 8) (pa_cons pe_int pa_nil)))))
      (pss_cons (ps_if (pt_cmpR op_in_seq pe_int (pv 10) rfl)
        (pss_one (ps_ret (pe_tup (pa_cons pe_int (pa_cons (pv 10) (pa_cons (pv 5) (pa_cons (pv 6) (pa_cons (pv 7) pa_nil))))))))
        pss_nil)
      (pss_one (ps_ret (pe_tup (pa_cons pe_int (pa_cons (pv 10) (pa_cons (pv 5) (pa_cons (pv 6) (pa_cons pe_int pa_nil)))))))))))))))), ?_⟩
    refine ⟨_, rfl, a, _, rfl, e1, rfl, _, _, rfl, _, _, rfl, _, _, rfl, _, _, rfl, _, _, rfl, rfl, ?_⟩
    ((try dsimp only); (first | (refine Rg.sg (σ' := [some (.ref a), some (.ref l), some (.ref q), some (bi t.al), some (.ref ta), some (sv t.re), some (.ref ma), some (bi t.to), none, none, none]) ?_ ?_; focus exact rfl) | (refine Rg.sgG (σ' := [some (.ref a), some (.ref l), some (.ref q), some (bi t.al), some (.ref ta), some (sv t.re), some (.ref ma), some (bi t.to), none, none, none]) ?_ ?_; focus exact rfl)))
    cases L with
    | on => exact nl.elim
    | oe _ => exact nl.elim
    | td => exact nl.elim
    | mk j =>
      have hi : j < n := hi
      have hj : j < t.ti.length := by rw [wf.tl]; exact hi
      have hl : SqT K H l [.str "make", .int j] := hl
      refine ⟨_, rfl, _, rfl, l, _, rfl, .inr hl, _, _, rfl, rfl, l, _, _, .int j, rfl, rfl, hl, at_of (j := 1) (by show (((2 : Nat) : Int) - 1) = ((1 : Nat) : Int); decide) rfl, ?_⟩
    
      ((try dsimp only); (first | (refine Rg.sg (σ' := [some (.ref a), some (.ref l), some (.ref q), some (bi t.al), some (.ref ta), some (sv t.re), some (.ref ma), some (bi t.to), some (.int j), none, none]) ?_ ?_; focus exact rfl) | (refine Rg.sgG (σ' := [some (.ref a), some (.ref l), some (.ref q), some (bi t.al), some (.ref ta), some (sv t.re), some (.ref ma), some (bi t.to), some (.int j), none, none]) ?_ ?_; focus exact rfl)))
      refine ⟨_, rfl, l, _, 0, .str "make", rfl, rfl, hl, atI_nat (j := 0) rfl, rfl, _, rfl, ?_⟩
      refine wTb (by decide +kernel) ?_
      have k : ROs K H Q (if t.al = true ∨ (("after" : Str) ∈ N ∧ (t.ma.any fun m => decide (¬ m = 1)) = true) then none else some ⟨true, t.ti.set j true, aged t.re, t.ma.map aged, false⟩) := k
      refine ⟨_, rfl, rfl, _, rfl, ?_⟩
      refine iteE (bi1 _) (fun c1 => ?_) fun c1 => ?_
      · refine iteT ?_
        rw [if_pos (.inl c1)] at k
        exact k H (Same.refl _)
      apply via (fun G => Same H G ∧ ¬ (("after" : Str) ∈ N ∧ (t.ma.any fun m => decide (¬ m = 1)) = true))
      · intro REST
        refine ⟨_, rfl, q, _, rfl, .inl hq, rfl, flat_str, ?_⟩
        rw [nmI]
        refine ⟨_, rfl, ?_⟩
        refine iteS (p := ("after" : Str) ∈ N) rfl (fun h1 => ?_) fun h1 => ?_
        · refine ⟨_, rfl, _, rfl, ma, rfl, ⟨_, e3⟩, fun D hD => ?_⟩
          refine lc_tup (K := K) (a := ma) (xs := t.ma.map sv) (PvG (fun m => sv (1)) H D t.ma (fun _ => true)) (PvG.start hD) (fun j H' _ pv => sameT pv.1 e3) ?_ ?_
          · rintro i x H' hx pv
            rw [List.getElem?_map] at hx
            obtain ⟨m, hm, rfl⟩ := Option.map_eq_some_iff.mp hx
            exact ⟨rfl, yes_ (pv.yes hD (Same.refl _) hm (by have := wf.ml; have := wf.n8; omega) rfl)⟩
          intro G1 pv
          rw [List.length_map] at pv
          obtain ⟨s1, d1⟩ := pv.all rfl
          rw [List.filter_eq_self.mpr (fun _ _ => rfl), show t.ma.map (fun m => sv (1)) = (t.ma.map fun m => 1).map sv by rw [List.map_map]; rfl] at d1
          refine ⟨D, _, rfl, .inl ⟨.of d1, fun x n_x => ?_⟩⟩
          (generalize he_x : upd _ x _ = G2; obtain ⟨e_x, s_x, f_x⟩ := new_f he_x n_x; clear he_x)
          have s2 := s1.trans s_x
          refine ⟨_, _, dpS (sameT s2 e3), dpS (s := t.ma.map fun _ => 1) (.inl (.of e_x)), shS _, shS _, _, rfl, ?_⟩
          rw [eqS, mk_eq, Bool.not_not]
          refine iteO (fun c2 => ?_) fun c2 => ?_
          · rw [if_pos (.inr ⟨h1, c2⟩)] at k
            exact k _ s2
          · exact REST _ ⟨s2, fun z => by rw [c2] at z; cases z.2⟩
        · exact iteF (REST H ⟨Same.refl _, fun z => h1 z.1⟩)
      rintro G ⟨sG, cG⟩
      rw [if_neg (fun z => z.elim (fun z => by rw [c1] at z; cases z) cG)] at k
      have e2 := sameT sG e2
      have e3 := sameT sG e3
      refine ⟨_, rfl, _, rfl, ta, _, j, bi true, rfl, e2, by rw [List.length_map]; exact hj, by rw [List.length_map, wf.tl]; exact Nat.le_trans wf.n8 (by decide), fun G0 p s3 hp => ?_⟩
      have e3 := sameT s3 e3
      refine ⟨_, rfl, t.re, rfl, _, rfl, ma, rfl, ⟨_, e3⟩, fun D hD => ?_⟩
      refine lc_tup (K := K) (a := ma) (xs := t.ma.map sv) (PvG (fun m => sv (aged m)) G0 D t.ma (fun _ => true)) (PvG.start hD) (fun j H' _ pv => sameT pv.1 e3) ?_ ?_
      · rintro i x H' hx pv
        rw [List.getElem?_map] at hx
        obtain ⟨m, hm, rfl⟩ := Option.map_eq_some_iff.mp hx
        exact ⟨rfl, yes_ ⟨_, rfl, m, rfl, pv.yes hD (Same.refl _) hm (by have := wf.ml; have := wf.n8; omega) rfl⟩⟩
      intro G1 pv
      rw [List.length_map] at pv
      obtain ⟨s1, d1⟩ := pv.all rfl
      rw [List.filter_eq_self.mpr (fun _ _ => rfl), show t.ma.map (fun m => sv (aged m)) = (t.ma.map fun m => aged m).map sv by rw [List.map_map]; rfl] at d1
      refine ⟨D, _, rfl, .inl ⟨.of d1, fun x n_x => ?_⟩⟩
      (generalize he_x : upd _ x _ = G2; obtain ⟨e_x, s_x, f_x⟩ := new_f he_x n_x; clear he_x)
      have s2 := s1.trans s_x
      refine ⟨by show 5 ≤ sizeLine; decide, ?_⟩
      (intro y n_y; generalize he_y : upd _ y _ = G4; obtain ⟨e_y, s_y, f_y⟩ := new_f he_y n_y; clear he_y)
      exact k _ y (sG.trans (s3.trans (s2.trans s_y))) ⟨p, x, .inl (.of e_y), sameT (s2.trans s_y) (setB hp), .inl (.of (s_y _ _ e_x))⟩
    | ln j =>
      have hi := hi
      have hj : j < t.ti.length := by rw [wf.tl]; exact hi
      have hl : SqT K H l [.str "link", .int j] := hl
      refine ⟨_, rfl, _, rfl, l, _, rfl, .inr hl, _, _, rfl, rfl, l, _, _, .int j, rfl, rfl, hl, at_of (j := 1) (by show (((2 : Nat) : Int) - 1) = ((1 : Nat) : Int); decide) rfl, ?_⟩
      ((try dsimp only); (first | (refine Rg.sg (σ' := [some (.ref a), some (.ref l), some (.ref q), some (bi t.al), some (.ref ta), some (sv t.re), some (.ref ma), some (bi t.to), some (.int j), none, none]) ?_ ?_; focus exact rfl) | (refine Rg.sgG (σ' := [some (.ref a), some (.ref l), some (.ref q), some (bi t.al), some (.ref ta), some (sv t.re), some (.ref ma), some (bi t.to), some (.int j), none, none]) ?_ ?_; focus exact rfl)))
      refine ⟨_, rfl, l, _, 0, .str "link", rfl, rfl, hl, atI_nat (j := 0) rfl, rfl, _, rfl, ?_⟩
      refine wFb (by decide +kernel) ?_
      refine ⟨_, rfl, l, _, 0, .str "link", rfl, rfl, hl, atI_nat (j := 0) rfl, rfl, _, rfl, ?_⟩
      refine wTb (by decide +kernel) ?_
      have k : ROs K H Q (if t.al = false ∨ t.ti.getD j false = true then none else some ⟨t.al, t.ti.set j true, t.re, t.ma, t.to⟩) := k
      refine ⟨_, rfl, rfl, _, rfl, ?_⟩
      refine iteE (bi0 _) (fun c1 => ?_) fun c1 => ?_
      · refine iteT ?_
        rw [if_pos (.inl (by simpa using c1))] at k
        exact k H (Same.refl _)
      have c1 : t.al = true := by simpa using c1
      refine ⟨_, rfl, _, rfl, ta, _, j, bi (t.ti.getD j false), rfl, rfl, e2, atI_nat (j := j) (getB hj), rfl, _, rfl, ?_⟩
      refine iteE (bi1 _) (fun c2 => ?_) fun c2 => ?_
      · rw [if_pos (.inr c2)] at k
        exact k H (Same.refl _)
      rw [if_neg (fun z => z.elim (fun z => by rw [c1] at z; cases z) fun z => by rw [c2] at z; cases z)] at k
      refine ⟨_, rfl, _, rfl, ta, _, j, bi true, rfl, e2, by rw [List.length_map]; exact hj, by rw [List.length_map, wf.tl]; exact Nat.le_trans wf.n8 (by decide), fun H1 p s1 hp => ?_⟩
      refine ⟨_, rfl, _, rfl, _, rfl, by show 5 ≤ sizeLine; decide, ?_⟩
      (intro x n_x; generalize he_x : upd _ x _ = H2; obtain ⟨e_x, s_x, f_x⟩ := new_f he_x n_x; clear he_x)
      exact k _ x (s1.trans s_x) ⟨p, ma, by rw [c1]; exact .inl (.of e_x), sameT s_x (setB hp), sameT (s1.trans s_x) e3⟩
    | mv i j =>
      have hi := hi
      have hj : j < t.ti.length := by rw [wf.tl]; exact hi.2.1
      have hii : i < t.ti.length := by rw [wf.tl]; exact hi.1
      have hl : SqT K H l [.str "move", .int i, .int j] := hl
      refine ⟨_, rfl, _, rfl, l, _, rfl, .inr hl, _, _, rfl, rfl, l, _, _, .int j, rfl, rfl, hl, at_of (j := 2) (by show (((3 : Nat) : Int) - 1) = ((2 : Nat) : Int); decide) rfl, ?_⟩
      ((try dsimp only); (first | (refine Rg.sg (σ' := [some (.ref a), some (.ref l), some (.ref q), some (bi t.al), some (.ref ta), some (sv t.re), some (.ref ma), some (bi t.to), some (.int j), none, none]) ?_ ?_; focus exact rfl) | (refine Rg.sgG (σ' := [some (.ref a), some (.ref l), some (.ref q), some (bi t.al), some (.ref ta), some (sv t.re), some (.ref ma), some (bi t.to), some (.int j), none, none]) ?_ ?_; focus exact rfl)))
      refine ⟨_, rfl, l, _, 0, .str "move", rfl, rfl, hl, atI_nat (j := 0) rfl, rfl, _, rfl, ?_⟩
      refine wFb (by decide +kernel) ?_
      refine ⟨_, rfl, l, _, 0, .str "move", rfl, rfl, hl, atI_nat (j := 0) rfl, rfl, _, rfl, ?_⟩
      refine wFb (by decide +kernel) ?_
      refine ⟨_, rfl, l, _, 0, .str "move", rfl, rfl, hl, atI_nat (j := 0) rfl, rfl, _, rfl, ?_⟩
      refine wTb (by decide +kernel) ?_
      have k : ROs K H Q (if t.ti.getD i false = false ∨ t.ti.getD j false = true then none else some ⟨t.al, (t.ti.set i false).set j true, t.re, t.ma, t.to⟩) := k
      refine ⟨_, rfl, _, rfl, l, _, 1, .int i, rfl, rfl, hl, atI_nat (j := 1) rfl, ta, _, i, bi (t.ti.getD i false), rfl, rfl, e2, atI_nat (j := i) (getB hii), rfl, _, rfl, ?_⟩
      refine iteE (bi0 _) (fun c1 => ?_) fun c1 => ?_
      · refine iteT ?_
        rw [if_pos (.inl (by simpa using c1))] at k
        exact k H (Same.refl _)
      refine ⟨_, rfl, _, rfl, ta, _, j, bi (t.ti.getD j false), rfl, rfl, e2, atI_nat (j := j) (getB hj), rfl, _, rfl, ?_⟩
      refine iteE (bi1 _) (fun c2 => ?_) fun c2 => ?_
      · rw [if_pos (.inr c2)] at k
        exact k H (Same.refl _)
      rw [if_neg (fun z => z.elim (fun z => by rw [z] at c1; cases c1) fun z => by rw [c2] at z; cases z)] at k
      refine ⟨_, rfl, _, rfl, _, rfl, l, _, 1, .int i, rfl, rfl, hl, atI_nat (j := 1) rfl, ta, _, i, bi false, rfl, e2, by rw [List.length_map]; exact hii, by rw [List.length_map, wf.tl]; exact Nat.le_trans wf.n8 (by decide), fun H2 p2 s2 hp2 => ?_⟩
      refine ⟨_, rfl, p2, _, j, bi true, rfl, setB hp2, by rw [List.length_map, List.length_set]; exact hj, by rw [List.length_map, List.length_set, wf.tl]; exact Nat.le_trans wf.n8 (by decide), fun H3 p3 s3 hp3 => ?_⟩
      refine ⟨_, rfl, _, rfl, _, rfl, by show 5 ≤ sizeLine; decide, ?_⟩
      (intro x n_x; generalize he_x : upd _ x _ = H4; obtain ⟨e_x, s_x, f_x⟩ := new_f he_x n_x; clear he_x)
      exact k _ x ((s2.trans s3).trans s_x) ⟨p3, ma, .inl (.of e_x), sameT s_x (setB hp3), sameT ((s2.trans s3).trans s_x) e3⟩
    | dr j =>
      have hi := hi
      have hj : j < t.ti.length := by rw [wf.tl]; exact hi
      have hl : SqT K H l [.str "drop", .int j] := hl
      refine ⟨_, rfl, _, rfl, l, _, rfl, .inr hl, _, _, rfl, rfl, l, _, _, .int j, rfl, rfl, hl, at_of (j := 1) (by show (((2 : Nat) : Int) - 1) = ((1 : Nat) : Int); decide) rfl, ?_⟩
      ((try dsimp only); (first | (refine Rg.sg (σ' := [some (.ref a), some (.ref l), some (.ref q), some (bi t.al), some (.ref ta), some (sv t.re), some (.ref ma), some (bi t.to), some (.int j), none, none]) ?_ ?_; focus exact rfl) | (refine Rg.sgG (σ' := [some (.ref a), some (.ref l), some (.ref q), some (bi t.al), some (.ref ta), some (sv t.re), some (.ref ma), some (bi t.to), some (.int j), none, none]) ?_ ?_; focus exact rfl)))
      refine ⟨_, rfl, l, _, 0, .str "drop", rfl, rfl, hl, atI_nat (j := 0) rfl, rfl, _, rfl, ?_⟩
      refine wFb (by decide +kernel) ?_
      refine ⟨_, rfl, l, _, 0, .str "drop", rfl, rfl, hl, atI_nat (j := 0) rfl, rfl, _, rfl, ?_⟩
      refine wFb (by decide +kernel) ?_
      refine ⟨_, rfl, l, _, 0, .str "drop", rfl, rfl, hl, atI_nat (j := 0) rfl, rfl, _, rfl, ?_⟩
      refine wFb (by decide +kernel) ?_
      have k : ROs K H Q (if t.ti.getD j false = false then none else if (t.ti.set j false).any id = true then some ⟨true, t.ti.set j false, t.re, t.ma, t.to⟩ else some ⟨false, t.ti.set j false, t.re, t.ma, false⟩) := k
      refine ⟨_, rfl, _, rfl, ta, _, j, bi (t.ti.getD j false), rfl, rfl, e2, atI_nat (j := j) (getB hj), rfl, _, rfl, ?_⟩
      refine iteE (bi0 _) (fun c1 => ?_) fun c1 => ?_
      · rw [if_pos (by simpa using c1)] at k
        exact k H (Same.refl _)
      rw [if_neg (fun z => by rw [z] at c1; cases c1)] at k
      refine ⟨_, rfl, _, rfl, ta, _, j, bi false, rfl, e2, by rw [List.length_map]; exact hj, by rw [List.length_map, wf.tl]; exact Nat.le_trans wf.n8 (by decide), fun H1 p s1 hp => ?_⟩
      have hp := setB hp
      ((try dsimp only); (first | (refine Rg.sg (σ' := [some (.ref a), some (.ref l), some (.ref q), some (bi t.al), some (.ref ta), some (sv t.re), some (.ref ma), some (bi t.to), some (.int j), none, some (.ref p)]) ?_ ?_; focus exact rfl) | (refine Rg.sgG (σ' := [some (.ref a), some (.ref l), some (.ref q), some (bi t.al), some (.ref ta), some (sv t.re), some (.ref ma), some (bi t.to), some (.int j), none, some (.ref p)]) ?_ ?_; focus exact rfl)))
      refine ⟨_, rfl, p, _, rfl, .inr hp, rfl, flatB, ?_⟩
      rw [inB]
      refine ⟨_, rfl, iteO (fun c2 => ?_) fun c2 => ?_⟩
      · rw [if_pos c2] at k
        refine ⟨_, rfl, _, rfl, _, rfl, _, rfl, by show 5 ≤ sizeLine; decide, ?_⟩
        (intro x n_x; generalize he_x : upd _ x _ = H2; obtain ⟨e_x, s_x, f_x⟩ := new_f he_x n_x; clear he_x)
        exact k _ x (s1.trans s_x) ⟨p, ma, .inl (.of e_x), sameT s_x hp, sameT (s1.trans s_x) e3⟩
      · rw [if_neg (by rw [c2]; decide)] at k
        refine ⟨_, rfl, _, rfl, _, rfl, by show 5 ≤ sizeLine; decide, ?_⟩
        (intro x n_x; generalize he_x : upd _ x _ = H2; obtain ⟨e_x, s_x, f_x⟩ := new_f he_x n_x; clear he_x)
        exact k _ x (s1.trans s_x) ⟨p, ma, .inl (.of e_x), sameT s_x hp, sameT (s1.trans s_x) e3⟩
end
end K60
namespace K60
open PySem PySem.Spec PyProof.Rows L2 Rg
theorem tl1 (m : Nat) (b : Bool) : (!decide (V.bl (decide (V.str (sg m) = V.str "n")) = V.bl (decide (bi b = V.int 1)))) = (decide (m = 2) != b) := by
  rw [dS2, bi1]
  cases decide (m = 2) <;> cases b <;> decide
section
variable {P : Program} {w : World} {K : PySem.W.Frag} {mg : Str → Option Value} {base : Heap}
theorem ok_Lafter (T : Tx K mg) : FnOk P w K mg base CX0 3 T.f_Lafter T.fd_Lafter ["_law_standing_here", "_law_letter", "_law_rules_here"] (fun vs H Q _ => ∃ (L : Lt) (t : Td) (n : Nat) (N : List Str) (a l q : Addr), vs = [.ref a, .ref l, .ref q] ∧ TdAt K H a t ∧ SqT K H l (ltv L) ∧ NmAt K H q N ∧ Wf t n ∧ L.inb n ∧ ROs K H Q (afterM t N L)) := by
  refine T.F_Lafter.ok sc_Lafter (fun vs H Q E h => ?_) (fun cdv A0 outer s H vs Q E hr h => ?_)
  · obtain ⟨_, _, _, _, _, _, _, rfl, _⟩ := h; rfl
  · obtain ⟨L, t, n, N, a, l, q, rfl, ⟨ta, ma, e1, e2, e3⟩, hl, hq, wf, hi, k⟩ := h
    try dsimp only at k
    refine ⟨_, (pss_cons (ps_asg (pv 0) (pg_tup rfl (pgs_cons (pg_name (i := 3) sc_Lafter.nd rfl (.inl rfl)) (pgs_cons (pg_name (i := 4) sc_Lafter.nd rfl (.inl rfl)) (pgs_cons (pg_name (i := 5) sc_Lafter.nd rfl (.inl rfl)) (pgs_cons (pg_name (i := 6) sc_Lafter.nd rfl (.inl rfl)) (pgs_cons (pg_name (i := 7) sc_Lafter.nd rfl (.inl rfl)) pgs_nil)))))))
      (pss_cons (ps_if (pt_cmpR op_eq (pe_ix ix_tup (pv 1) pe_int (fun _ _ => rfl)) pe_str (nomark _))
        (pss_one (ps_ret (pe_call (ok_Lout T) (hr.mono (by decide)) rfl T.mg_Lout T.F_Lout.kp (b_Lout T) .nil pass0 (pa_cons (pv 0) (pa_cons (pe_ix ix_tup (pv 1) pe_int (fun _ _ => rfl)) (pa_cons (pv 2) pa_nil))))))
        pss_nil)
      (pss_cons (ps_set (i := 8) sc_Lafter.nd rfl (.inl rfl) pe_str)
      (pss_cons (ps_if (pt_cmpR op_eq (pv 3) pe_int (nomark _))
        (pss_one (ps_set (i := 8) sc_Lafter.nd rfl (.inl rfl) pe_str))
        pss_nil)
      (pss_cons (ps_if (pt_cmpR op_eq (pe_ix ix_tup (pv 1) pe_int (fun _ _ => rfl)) pe_str (nomark _))
        (pss_one (ps_ret (pe_tup (pa_cons (pv 3) (pa_cons (pv 4) (pa_cons (pv 8) (pa_cons (pv 6) (pa_cons (pv 7) pa_nil))))))))
        pss_nil)
      (pss_cons (ps_if (pt_cmpR op_ne (pe_ix ix_tup (pv 1) pe_int (fun _ _ => rfl)) pe_str (nomark _))
        (pss_one (ps_ret (pe_call (ok_Lnamed T) (hr.mono (by decide)) rfl T.mg_Lnamed T.F_Lnamed.kp (b_Lnamed T) .nil pass0 (pa_cons (pv 0) (pa_cons (pv 1) (pa_cons (pv 2) pa_nil))))))
        pss_nil)
      (pss_cons (ps_if (pt_cmpR op_in_seq pe_str (pv 2) rfl)
        (pss_cons (ps_if (pt_cmpR op_ne (pv 5) (pv 8) (nomark _))
          (pss_one (ps_ret pe_non))
          pss_nil)
        (pss_one (ps_for PassesOwn.never rfl (pi_range1 rfl T.b_range (pa_cons (pe_callB call_len_seq rfl T.b_len (by decide +kernel) (pa_cons (pv 4) pa_nil)) pa_nil)) (pg_name (i := 9) sc_Lafter.nd rfl (.inl rfl))
          (pss_one (ps_if (PW.pt (pw_or (pt_cmpR op_ne (pe_cmpR op_eq (pe_ix ix_tup (pv 6) (pv 9) (fun _ _ => rfl)) pe_str (nomark _)) (pe_cmpR op_eq (pe_ix ix_tup (pv 4) (pv 9) (fun _ _ => rfl)) pe_int (nomark _)) (nomark _)) (pw_or1 (pt_cmpR op_eq (pe_ix ix_tup (pv 6) (pv 9) (fun _ _ => rfl)) pe_str (nomark _)))))
            (pss_one (ps_ret pe_non))
            pss_nil)))))
        pss_nil)
      (pss_one (ps_ret (pe_tup (pa_cons (pv 3) (pa_cons (pv 4) (pa_cons (pv 5) (pa_cons (pv 6) (pa_cons (pv 3) pa_nil))))))))))))))), ?_⟩
    refine ⟨_, rfl, a, _, rfl, e1, rfl, _, _, rfl, _, _, rfl, _, _, rfl, _, _, rfl, _, _, rfl, rfl, ?_⟩
    ((try dsimp only); (first | (refine Rg.sg (σ' := [some (.ref a), some (.ref l), some (.ref q), some (bi t.al), some (.ref ta), some (sv t.re), some (.ref ma), some (bi t.to), none, none]) ?_ ?_; focus exact rfl) | (refine Rg.sgG (σ' := [some (.ref a), some (.ref l), some (.ref q), some (bi t.al), some (.ref ta), some (sv t.re), some (.ref ma), some (bi t.to), none, none]) ?_ ?_; focus exact rfl)))
    cases L with
    | oe j =>
      have hl : SqT K H l [.str "out_entry", .int j] := hl
      refine ⟨_, rfl, l, _, 0, .str "out_entry", rfl, rfl, hl, atI_nat (j := 0) rfl, rfl, _, rfl, ?_⟩
      refine wTb (by decide +kernel) ?_
      exact ⟨_, rfl, _, rfl, l, _, 1, .int j, rfl, rfl, hl, atI_nat (j := 1) rfl, _, rfl, t, n, j, N, a, q, rfl, ⟨ta, ma, e1, e2, e3⟩, hq, wf, hi, k⟩
    | mk j =>
      have hl : SqT K H l [.str "make", .int j] := hl
      refine ⟨_, rfl, l, _, 0, .str "make", rfl, rfl, hl, atI_nat (j := 0) rfl, rfl, _, rfl, ?_⟩
      refine wFb (by decide +kernel) ?_
      refine ⟨_, rfl, rfl, _, rfl, ?_⟩
      refine iteE (bi1 _) (fun ca => ?_) fun ca => ?_
      · ((try dsimp only); (first | (refine Rg.sg (σ' := [some (.ref a), some (.ref l), some (.ref q), some (bi t.al), some (.ref ta), some (sv t.re), some (.ref ma), some (bi t.to), some (sv 2), none]) ?_ ?_; focus exact rfl) | (refine Rg.sgG (σ' := [some (.ref a), some (.ref l), some (.ref q), some (bi t.al), some (.ref ta), some (sv t.re), some (.ref ma), some (bi t.to), some (sv 2), none]) ?_ ?_; focus exact rfl)))
        refine ⟨_, rfl, l, _, 0, .str "make", rfl, rfl, hl, atI_nat (j := 0) rfl, rfl, _, rfl, ?_⟩
        refine wFb (by decide +kernel) ?_
        refine ⟨_, rfl, l, _, 0, .str "make", rfl, rfl, hl, atI_nat (j := 0) rfl, rfl, _, rfl, ?_⟩
        refine wTb (by decide +kernel) ?_
        exact ⟨_, rfl, _, rfl, _, rfl, .mk j, t, n, N, a, l, q, rfl, True.intro, ⟨ta, ma, e1, e2, e3⟩, hl, hq, wf, hi, k⟩
      · skip
        refine ⟨_, rfl, l, _, 0, .str "make", rfl, rfl, hl, atI_nat (j := 0) rfl, rfl, _, rfl, ?_⟩
        refine wFb (by decide +kernel) ?_
        refine ⟨_, rfl, l, _, 0, .str "make", rfl, rfl, hl, atI_nat (j := 0) rfl, rfl, _, rfl, ?_⟩
        refine wTb (by decide +kernel) ?_
        exact ⟨_, rfl, _, rfl, _, rfl, .mk j, t, n, N, a, l, q, rfl, True.intro, ⟨ta, ma, e1, e2, e3⟩, hl, hq, wf, hi, k⟩
    | ln j =>
      have hl : SqT K H l [.str "link", .int j] := hl
      refine ⟨_, rfl, l, _, 0, .str "link", rfl, rfl, hl, atI_nat (j := 0) rfl, rfl, _, rfl, ?_⟩
      refine wFb (by decide +kernel) ?_
      refine ⟨_, rfl, rfl, _, rfl, ?_⟩
      refine iteE (bi1 _) (fun ca => ?_) fun ca => ?_
      · ((try dsimp only); (first | (refine Rg.sg (σ' := [some (.ref a), some (.ref l), some (.ref q), some (bi t.al), some (.ref ta), some (sv t.re), some (.ref ma), some (bi t.to), some (sv 2), none]) ?_ ?_; focus exact rfl) | (refine Rg.sgG (σ' := [some (.ref a), some (.ref l), some (.ref q), some (bi t.al), some (.ref ta), some (sv t.re), some (.ref ma), some (bi t.to), some (sv 2), none]) ?_ ?_; focus exact rfl)))
        refine ⟨_, rfl, l, _, 0, .str "link", rfl, rfl, hl, atI_nat (j := 0) rfl, rfl, _, rfl, ?_⟩
        refine wFb (by decide +kernel) ?_
        refine ⟨_, rfl, l, _, 0, .str "link", rfl, rfl, hl, atI_nat (j := 0) rfl, rfl, _, rfl, ?_⟩
        refine wTb (by decide +kernel) ?_
        exact ⟨_, rfl, _, rfl, _, rfl, .ln j, t, n, N, a, l, q, rfl, True.intro, ⟨ta, ma, e1, e2, e3⟩, hl, hq, wf, hi, k⟩
      · skip
        refine ⟨_, rfl, l, _, 0, .str "link", rfl, rfl, hl, atI_nat (j := 0) rfl, rfl, _, rfl, ?_⟩
        refine wFb (by decide +kernel) ?_
        refine ⟨_, rfl, l, _, 0, .str "link", rfl, rfl, hl, atI_nat (j := 0) rfl, rfl, _, rfl, ?_⟩
        refine wTb (by decide +kernel) ?_
        exact ⟨_, rfl, _, rfl, _, rfl, .ln j, t, n, N, a, l, q, rfl, True.intro, ⟨ta, ma, e1, e2, e3⟩, hl, hq, wf, hi, k⟩
    | dr j =>
      have hl : SqT K H l [.str "drop", .int j] := hl
      refine ⟨_, rfl, l, _, 0, .str "drop", rfl, rfl, hl, atI_nat (j := 0) rfl, rfl, _, rfl, ?_⟩
      refine wFb (by decide +kernel) ?_
      refine ⟨_, rfl, rfl, _, rfl, ?_⟩
      refine iteE (bi1 _) (fun ca => ?_) fun ca => ?_
      · ((try dsimp only); (first | (refine Rg.sg (σ' := [some (.ref a), some (.ref l), some (.ref q), some (bi t.al), some (.ref ta), some (sv t.re), some (.ref ma), some (bi t.to), some (sv 2), none]) ?_ ?_; focus exact rfl) | (refine Rg.sgG (σ' := [some (.ref a), some (.ref l), some (.ref q), some (bi t.al), some (.ref ta), some (sv t.re), some (.ref ma), some (bi t.to), some (sv 2), none]) ?_ ?_; focus exact rfl)))
        refine ⟨_, rfl, l, _, 0, .str "drop", rfl, rfl, hl, atI_nat (j := 0) rfl, rfl, _, rfl, ?_⟩
        refine wFb (by decide +kernel) ?_
        refine ⟨_, rfl, l, _, 0, .str "drop", rfl, rfl, hl, atI_nat (j := 0) rfl, rfl, _, rfl, ?_⟩
        refine wTb (by decide +kernel) ?_
        exact ⟨_, rfl, _, rfl, _, rfl, .dr j, t, n, N, a, l, q, rfl, True.intro, ⟨ta, ma, e1, e2, e3⟩, hl, hq, wf, hi, k⟩
      · skip
        refine ⟨_, rfl, l, _, 0, .str "drop", rfl, rfl, hl, atI_nat (j := 0) rfl, rfl, _, rfl, ?_⟩
        refine wFb (by decide +kernel) ?_
        refine ⟨_, rfl, l, _, 0, .str "drop", rfl, rfl, hl, atI_nat (j := 0) rfl, rfl, _, rfl, ?_⟩
        refine wTb (by decide +kernel) ?_
        exact ⟨_, rfl, _, rfl, _, rfl, .dr j, t, n, N, a, l, q, rfl, True.intro, ⟨ta, ma, e1, e2, e3⟩, hl, hq, wf, hi, k⟩
    | mv i j =>
      have hl : SqT K H l [.str "move", .int i, .int j] := hl
      refine ⟨_, rfl, l, _, 0, .str "move", rfl, rfl, hl, atI_nat (j := 0) rfl, rfl, _, rfl, ?_⟩
      refine wFb (by decide +kernel) ?_
      refine ⟨_, rfl, rfl, _, rfl, ?_⟩
      refine iteE (bi1 _) (fun ca => ?_) fun ca => ?_
      · ((try dsimp only); (first | (refine Rg.sg (σ' := [some (.ref a), some (.ref l), some (.ref q), some (bi t.al), some (.ref ta), some (sv t.re), some (.ref ma), some (bi t.to), some (sv 2), none]) ?_ ?_; focus exact rfl) | (refine Rg.sgG (σ' := [some (.ref a), some (.ref l), some (.ref q), some (bi t.al), some (.ref ta), some (sv t.re), some (.ref ma), some (bi t.to), some (sv 2), none]) ?_ ?_; focus exact rfl)))
        refine ⟨_, rfl, l, _, 0, .str "move", rfl, rfl, hl, atI_nat (j := 0) rfl, rfl, _, rfl, ?_⟩
        refine wFb (by decide +kernel) ?_
        refine ⟨_, rfl, l, _, 0, .str "move", rfl, rfl, hl, atI_nat (j := 0) rfl, rfl, _, rfl, ?_⟩
        refine wTb (by decide +kernel) ?_
        exact ⟨_, rfl, _, rfl, _, rfl, .mv i j, t, n, N, a, l, q, rfl, True.intro, ⟨ta, ma, e1, e2, e3⟩, hl, hq, wf, hi, k⟩
      · skip
        refine ⟨_, rfl, l, _, 0, .str "move", rfl, rfl, hl, atI_nat (j := 0) rfl, rfl, _, rfl, ?_⟩
        refine wFb (by decide +kernel) ?_
        refine ⟨_, rfl, l, _, 0, .str "move", rfl, rfl, hl, atI_nat (j := 0) rfl, rfl, _, rfl, ?_⟩
        refine wTb (by decide +kernel) ?_
        exact ⟨_, rfl, _, rfl, _, rfl, .mv i j, t, n, N, a, l, q, rfl, True.intro, ⟨ta, ma, e1, e2, e3⟩, hl, hq, wf, hi, k⟩
    | on =>
      have hl : SqT K H l [.str "out_node"] := hl
      refine ⟨_, rfl, l, _, 0, .str "out_node", rfl, rfl, hl, atI_nat (j := 0) rfl, rfl, _, rfl, ?_⟩
      refine wFb (by decide +kernel) ?_
      refine ⟨_, rfl, rfl, _, rfl, ?_⟩
      refine iteE (bi1 _) (fun ca => ?_) fun ca => ?_
      · ((try dsimp only); (first | (refine Rg.sg (σ' := [some (.ref a), some (.ref l), some (.ref q), some (bi t.al), some (.ref ta), some (sv t.re), some (.ref ma), some (bi t.to), some (sv 2), none]) ?_ ?_; focus exact rfl) | (refine Rg.sgG (σ' := [some (.ref a), some (.ref l), some (.ref q), some (bi t.al), some (.ref ta), some (sv t.re), some (.ref ma), some (bi t.to), some (sv 2), none]) ?_ ?_; focus exact rfl)))
        refine ⟨_, rfl, l, _, 0, .str "out_node", rfl, rfl, hl, atI_nat (j := 0) rfl, rfl, _, rfl, ?_⟩
        refine wTb (by decide +kernel) ?_
        have k : ROs K H Q (some ⟨t.al, t.ti, if t.al = true then 2 else 0, t.ma, t.to⟩) := k
        rw [show (if t.al = true then 2 else 0 : Nat) = 2 by rw [ca]; rfl] at k
        refine ⟨_, rfl, _, rfl, _, rfl, _, rfl, _, rfl, by show 5 ≤ sizeLine; decide, ?_⟩
        (intro x n_x; generalize he_x : upd _ x _ = H1; obtain ⟨e_x, s_x, f_x⟩ := new_f he_x n_x; clear he_x)
        exact k _ x s_x ⟨ta, ma, .inl (.of e_x), sameT s_x e2, sameT s_x e3⟩
      · skip
        refine ⟨_, rfl, l, _, 0, .str "out_node", rfl, rfl, hl, atI_nat (j := 0) rfl, rfl, _, rfl, ?_⟩
        refine wTb (by decide +kernel) ?_
        have k : ROs K H Q (some ⟨t.al, t.ti, if t.al = true then 2 else 0, t.ma, t.to⟩) := k
        rw [show (if t.al = true then 2 else 0 : Nat) = 0 by rw [ca]; rfl] at k
        refine ⟨_, rfl, _, rfl, _, rfl, _, rfl, _, rfl, by show 5 ≤ sizeLine; decide, ?_⟩
        (intro x n_x; generalize he_x : upd _ x _ = H1; obtain ⟨e_x, s_x, f_x⟩ := new_f he_x n_x; clear he_x)
        exact k _ x s_x ⟨ta, ma, .inl (.of e_x), sameT s_x e2, sameT s_x e3⟩
    | td =>
      have hl : SqT K H l [.str "told"] := hl
      refine ⟨_, rfl, l, _, 0, .str "told", rfl, rfl, hl, atI_nat (j := 0) rfl, rfl, _, rfl, ?_⟩
      refine wFb (by decide +kernel) ?_
      refine ⟨_, rfl, rfl, _, rfl, ?_⟩
      refine iteE (bi1 _) (fun ca => ?_) fun ca => ?_
      · ((try dsimp only); (first | (refine Rg.sg (σ' := [some (.ref a), some (.ref l), some (.ref q), some (bi t.al), some (.ref ta), some (sv t.re), some (.ref ma), some (bi t.to), some (sv 2), none]) ?_ ?_; focus exact rfl) | (refine Rg.sgG (σ' := [some (.ref a), some (.ref l), some (.ref q), some (bi t.al), some (.ref ta), some (sv t.re), some (.ref ma), some (bi t.to), some (sv 2), none]) ?_ ?_; focus exact rfl)))
        refine ⟨_, rfl, l, _, 0, .str "told", rfl, rfl, hl, atI_nat (j := 0) rfl, rfl, _, rfl, ?_⟩
        refine wFb (by decide +kernel) ?_
        refine ⟨_, rfl, l, _, 0, .str "told", rfl, rfl, hl, atI_nat (j := 0) rfl, rfl, _, rfl, ?_⟩
        refine wFb (by decide +kernel) ?_
        have k : ROs K H Q (if ("told" : Str) ∈ N ∧ agreesM t = false then none else some ⟨t.al, t.ti, t.re, t.ma, t.al⟩) := k
        refine ⟨_, rfl, q, _, rfl, .inl hq, rfl, flat_str, ?_⟩
        rw [nmI]
        refine ⟨_, rfl, ?_⟩
        refine iteS (p := ("told" : Str) ∈ N) rfl (fun h1 => ?_) fun h1 => ?_
        · refine ⟨_, rfl, _, rfl, rfl, _, rfl, ?_⟩
          refine iteS (nSS t.re 2 (by decide)) (fun h2 => ?_) fun h2 => ?_
          · rw [if_pos ⟨h1, by unfold agreesM; rw [decide_eq_false (by rw [ca]; exact h2)]; rfl⟩] at k
            exact k H (Same.refl _)
          have hre : t.re = if t.al = true then 2 else 0 := by rw [ca]; exact Classical.not_not.mp h2
          refine ⟨_, rfl, ta, _, rfl, .inr e2, n, (by rw [List.length_map, wf.tl]), by have := wf.n8; omega, by have := wf.n8; omega, for_it walk_r (fun i σ H' => H' = H ∧ (∃ v9 : Option V, σ = [some (.ref a), some (.ref l), some (.ref q), some (bi t.al), some (.ref ta), some (sv t.re), some (.ref ma), some (bi t.to), some (sv 2), v9]) ∧ ((t.ti.zip t.ma).take i).all (fun q => decide (q.2 = if q.1 = true then 2 else 1)) = true) ⟨rfl, ⟨none, rfl⟩, rfl⟩ (fun _ _ _ _ _ => True.intro) ?_ ?_⟩
          · rintro i x σ Hy _ hi2 ⟨rfl, ⟨v9, rfl⟩, hall⟩ ⟨rfl, rfl⟩
            have hi2 : i < n := hi2
            have hit : i < t.ti.length := by rw [wf.tl]; exact hi2
            have him : i < t.ma.length := by rw [wf.ml]; exact hi2
            have ez : (t.ti.zip t.ma)[i]? = some (t.ti.getD i false, t.ma.getD i 0) := by
              rw [List.getElem?_zip_eq_some, List.getD_eq_getElem?_getD, List.getD_eq_getElem?_getD, List.getElem?_eq_getElem hit, List.getElem?_eq_getElem him]
              exact ⟨rfl, rfl⟩
            have hm : t.ma.getD i 0 ∈ t.ma := by rw [List.getD_eq_getElem?_getD, List.getElem?_eq_getElem him]; exact List.getElem_mem him
            have m4 := wf.mm _ hm
            have m0 := wf.mp _ hm
            have bad : ¬ (t.ma.getD i 0 = if t.ti.getD i false = true then 2 else 1) → agreesM t = false := fun z => by
              unfold agreesM
              rw [List.all_eq_false.mpr ⟨_, List.mem_of_getElem? ez, by rw [decide_eq_false z]; decide⟩, Bool.and_false]
            ((try dsimp only); (first | (refine Rg.sg (σ' := [some (.ref a), some (.ref l), some (.ref q), some (bi t.al), some (.ref ta), some (sv t.re), some (.ref ma), some (bi t.to), some (sv 2), some (.int i)]) ?_ ?_; focus exact rfl) | (refine Rg.sgG (σ' := [some (.ref a), some (.ref l), some (.ref q), some (bi t.al), some (.ref ta), some (sv t.re), some (.ref ma), some (bi t.to), some (sv 2), some (.int i)]) ?_ ?_; focus exact rfl)))
            refine ⟨_, rfl, _, rfl, ma, _, i, sv (t.ma.getD i 0), rfl, rfl, e3, atI_nat (j := i) (getS him), rfl, _, rfl, _, rfl, ta, _, i, bi (t.ti.getD i false), rfl, rfl, e2, atI_nat (j := i) (getB hit), rfl, rfl, _, rfl, ?_⟩
            refine iteE (tl1 _ _) (fun c4 => ?_) fun c4 => ?_
            · refine iteT ?_
              rw [if_pos ⟨h1, bad (fun z => by rw [z] at c4; cases h : t.ti.getD i false <;> rw [h] at c4 <;> exact absurd c4 (by decide))⟩] at k
              exact k _ (Same.refl _)
            refine ⟨_, rfl, _, rfl, ma, _, i, sv (t.ma.getD i 0), rfl, rfl, e3, atI_nat (j := i) (getS him), rfl, _, rfl, ?_⟩
            refine iteS (dS3 _) (fun h5 => ?_) fun h5 => ?_
            · rw [if_pos ⟨h1, bad (fun z => by rw [h5] at z c4; cases h : t.ti.getD i false <;> rw [h] at z c4 <;> exact absurd z (by decide))⟩] at k
              exact k _ (Same.refl _)
            · refine ⟨rfl, ⟨_, rfl⟩, ?_⟩
              rw [take_snoc ez, List.all_append, hall, Bool.true_and, List.all_cons, List.all_nil, Bool.and_true]
              refine decide_eq_true ?_
              show t.ma.getD i 0 = if t.ti.getD i false = true then 2 else 1
              cases h : t.ti.getD i false <;> rw [h] at c4
              · have : ¬ t.ma.getD i 0 = 2 := fun z => by rw [z] at c4; cases c4
                rw [if_neg (by decide)]
                omega
              · have : t.ma.getD i 0 = 2 := by
                  by_cases z : t.ma.getD i 0 = 2
                  · exact z
                  · rw [decide_eq_false z] at c4; cases c4
                rw [if_pos rfl]
                exact this
          rintro σ Hy ⟨rfl, ⟨v9, rfl⟩, hall⟩
          have hall : ((t.ti.zip t.ma).take n).all (fun q => decide (q.2 = if q.1 = true then 2 else 1)) = true := hall
          rw [List.take_of_length_le (by rw [List.length_zip, wf.tl, wf.ml]; omega)] at hall
          rw [if_neg (fun z => by have := z.2; unfold agreesM at this; rw [decide_eq_true hre, hall] at this; cases this)] at k
          refine ⟨_, rfl, _, rfl, _, rfl, _, rfl, _, rfl, by show 5 ≤ sizeLine; decide, ?_⟩
          (intro x n_x; generalize he_x : upd _ x _ = H1; obtain ⟨e_x, s_x, f_x⟩ := new_f he_x n_x; clear he_x)
          exact k _ x s_x ⟨ta, ma, .inl (.of e_x), sameT s_x e2, sameT s_x e3⟩
        · rw [if_neg (fun z => h1 z.1)] at k
          refine ⟨_, rfl, _, rfl, _, rfl, _, rfl, _, rfl, by show 5 ≤ sizeLine; decide, ?_⟩
          (intro x n_x; generalize he_x : upd _ x _ = H1; obtain ⟨e_x, s_x, f_x⟩ := new_f he_x n_x; clear he_x)
          exact k _ x s_x ⟨ta, ma, .inl (.of e_x), sameT s_x e2, sameT s_x e3⟩
      · skip
        refine ⟨_, rfl, l, _, 0, .str "told", rfl, rfl, hl, atI_nat (j := 0) rfl, rfl, _, rfl, ?_⟩
        refine wFb (by decide +kernel) ?_
        refine ⟨_, rfl, l, _, 0, .str "told", rfl, rfl, hl, atI_nat (j := 0) rfl, rfl, _, rfl, ?_⟩
        refine wFb (by decide +kernel) ?_
        have k : ROs K H Q (if ("told" : Str) ∈ N ∧ agreesM t = false then none else some ⟨t.al, t.ti, t.re, t.ma, t.al⟩) := k
        refine ⟨_, rfl, q, _, rfl, .inl hq, rfl, flat_str, ?_⟩
        rw [nmI]
        refine ⟨_, rfl, ?_⟩
        refine iteS (p := ("told" : Str) ∈ N) rfl (fun h1 => ?_) fun h1 => ?_
        · refine ⟨_, rfl, _, rfl, rfl, _, rfl, ?_⟩
          refine iteS (nSS t.re 0 (by decide)) (fun h2 => ?_) fun h2 => ?_
          · rw [if_pos ⟨h1, by unfold agreesM; rw [decide_eq_false (by rw [ca]; exact h2)]; rfl⟩] at k
            exact k H (Same.refl _)
          have hre : t.re = if t.al = true then 2 else 0 := by rw [ca]; exact Classical.not_not.mp h2
          refine ⟨_, rfl, ta, _, rfl, .inr e2, n, (by rw [List.length_map, wf.tl]), by have := wf.n8; omega, by have := wf.n8; omega, for_it walk_r (fun i σ H' => H' = H ∧ (∃ v9 : Option V, σ = [some (.ref a), some (.ref l), some (.ref q), some (bi t.al), some (.ref ta), some (sv t.re), some (.ref ma), some (bi t.to), some (sv 0), v9]) ∧ ((t.ti.zip t.ma).take i).all (fun q => decide (q.2 = if q.1 = true then 2 else 1)) = true) ⟨rfl, ⟨none, rfl⟩, rfl⟩ (fun _ _ _ _ _ => True.intro) ?_ ?_⟩
          · rintro i x σ Hy _ hi2 ⟨rfl, ⟨v9, rfl⟩, hall⟩ ⟨rfl, rfl⟩
            have hi2 : i < n := hi2
            have hit : i < t.ti.length := by rw [wf.tl]; exact hi2
            have him : i < t.ma.length := by rw [wf.ml]; exact hi2
            have ez : (t.ti.zip t.ma)[i]? = some (t.ti.getD i false, t.ma.getD i 0) := by
              rw [List.getElem?_zip_eq_some, List.getD_eq_getElem?_getD, List.getD_eq_getElem?_getD, List.getElem?_eq_getElem hit, List.getElem?_eq_getElem him]
              exact ⟨rfl, rfl⟩
            have hm : t.ma.getD i 0 ∈ t.ma := by rw [List.getD_eq_getElem?_getD, List.getElem?_eq_getElem him]; exact List.getElem_mem him
            have m4 := wf.mm _ hm
            have m0 := wf.mp _ hm
            have bad : ¬ (t.ma.getD i 0 = if t.ti.getD i false = true then 2 else 1) → agreesM t = false := fun z => by
              unfold agreesM
              rw [List.all_eq_false.mpr ⟨_, List.mem_of_getElem? ez, by rw [decide_eq_false z]; decide⟩, Bool.and_false]
            ((try dsimp only); (first | (refine Rg.sg (σ' := [some (.ref a), some (.ref l), some (.ref q), some (bi t.al), some (.ref ta), some (sv t.re), some (.ref ma), some (bi t.to), some (sv 0), some (.int i)]) ?_ ?_; focus exact rfl) | (refine Rg.sgG (σ' := [some (.ref a), some (.ref l), some (.ref q), some (bi t.al), some (.ref ta), some (sv t.re), some (.ref ma), some (bi t.to), some (sv 0), some (.int i)]) ?_ ?_; focus exact rfl)))
            refine ⟨_, rfl, _, rfl, ma, _, i, sv (t.ma.getD i 0), rfl, rfl, e3, atI_nat (j := i) (getS him), rfl, _, rfl, _, rfl, ta, _, i, bi (t.ti.getD i false), rfl, rfl, e2, atI_nat (j := i) (getB hit), rfl, rfl, _, rfl, ?_⟩
            refine iteE (tl1 _ _) (fun c4 => ?_) fun c4 => ?_
            · refine iteT ?_
              rw [if_pos ⟨h1, bad (fun z => by rw [z] at c4; cases h : t.ti.getD i false <;> rw [h] at c4 <;> exact absurd c4 (by decide))⟩] at k
              exact k _ (Same.refl _)
            refine ⟨_, rfl, _, rfl, ma, _, i, sv (t.ma.getD i 0), rfl, rfl, e3, atI_nat (j := i) (getS him), rfl, _, rfl, ?_⟩
            refine iteS (dS3 _) (fun h5 => ?_) fun h5 => ?_
            · rw [if_pos ⟨h1, bad (fun z => by rw [h5] at z c4; cases h : t.ti.getD i false <;> rw [h] at z c4 <;> exact absurd z (by decide))⟩] at k
              exact k _ (Same.refl _)
            · refine ⟨rfl, ⟨_, rfl⟩, ?_⟩
              rw [take_snoc ez, List.all_append, hall, Bool.true_and, List.all_cons, List.all_nil, Bool.and_true]
              refine decide_eq_true ?_
              show t.ma.getD i 0 = if t.ti.getD i false = true then 2 else 1
              cases h : t.ti.getD i false <;> rw [h] at c4
              · have : ¬ t.ma.getD i 0 = 2 := fun z => by rw [z] at c4; cases c4
                rw [if_neg (by decide)]
                omega
              · have : t.ma.getD i 0 = 2 := by
                  by_cases z : t.ma.getD i 0 = 2
                  · exact z
                  · rw [decide_eq_false z] at c4; cases c4
                rw [if_pos rfl]
                exact this
          rintro σ Hy ⟨rfl, ⟨v9, rfl⟩, hall⟩
          have hall : ((t.ti.zip t.ma).take n).all (fun q => decide (q.2 = if q.1 = true then 2 else 1)) = true := hall
          rw [List.take_of_length_le (by rw [List.length_zip, wf.tl, wf.ml]; omega)] at hall
          rw [if_neg (fun z => by have := z.2; unfold agreesM at this; rw [decide_eq_true hre, hall] at this; cases this)] at k
          refine ⟨_, rfl, _, rfl, _, rfl, _, rfl, _, rfl, by show 5 ≤ sizeLine; decide, ?_⟩
          (intro x n_x; generalize he_x : upd _ x _ = H1; obtain ⟨e_x, s_x, f_x⟩ := new_f he_x n_x; clear he_x)
          exact k _ x s_x ⟨ta, ma, .inl (.of e_x), sameT s_x e2, sameT s_x e3⟩
        · rw [if_neg (fun z => h1 z.1)] at k
          refine ⟨_, rfl, _, rfl, _, rfl, _, rfl, _, rfl, by show 5 ≤ sizeLine; decide, ?_⟩
          (intro x n_x; generalize he_x : upd _ x _ = H1; obtain ⟨e_x, s_x, f_x⟩ := new_f he_x n_x; clear he_x)
          exact k _ x s_x ⟨ta, ma, .inl (.of e_x), sameT s_x e2, sameT s_x e3⟩
end
end K60
namespace K60
open PySem PySem.Spec PyProof.Rows L2 Rg
section
variable {P : Program} {w : World} {K : PySem.W.Frag} {mg : Str → Option Value} {base : Heap}
theorem ok_Lbad (T : Tx K mg) : FnOk P w K mg base CX0 1 T.f_Lbad T.fd_Lbad ["_law_standing_here", "_law_rules_here"] (fun vs H Q _ => ∃ (t : Td) (n : Nat) (N : List Str) (a q : Addr), vs = [.ref a, .ref q] ∧ TdAt K H a t ∧ NmAt K H q N ∧ Wf t n ∧ Q (.bl (badM t N)) H) := by
  refine T.F_Lbad.ok sc_Lbad (fun vs H Q E h => ?_) (fun cdv A0 outer s H vs Q E hr h => ?_)
  · obtain ⟨_, _, _, _, _, rfl, _⟩ := h; rfl
  · obtain ⟨t, n, N, a, q, rfl, ⟨ta, ma, e1, e2, e3⟩, hq, wf, k⟩ := h
    try dsimp only at k
    refine ⟨_, (pss_cons (ps_asg (pv 0) (pg_tup rfl (pgs_cons (pg_name (i := 2) sc_Lbad.nd rfl (.inl rfl)) (pgs_cons (pg_name (i := 3) sc_Lbad.nd rfl (.inl rfl)) (pgs_cons (pg_name (i := 4) sc_Lbad.nd rfl (.inl rfl)) (pgs_cons (pg_name (i := 5) sc_Lbad.nd rfl (.inl rfl)) (pgs_cons (pg_name (i := 6) sc_Lbad.nd rfl (.inl rfl)) pgs_nil)))))))
      (pss_cons (ps_if (PW.pt (pw_and (pt_cmpR op_eq (pv 6) pe_int (nomark _)) (pw_and1 (PW.pt (pw_or (pt_cmpR op_ne (pv 4) pe_str (nomark _)) (pw_or1 (pt_cmpR op_notIn_seq pe_str (pv 5) rfl)))))))
        (pss_one (ps_ret pe_bl))
        pss_nil)
      (pss_cons (ps_if (PW.pt (pw_or (pt_cmpR op_in_seq pe_str (pv 1) rfl) (pw_or1 (pt_cmpR op_eq (pv 4) pe_str (nomark _)))))
        (pss_one (ps_ret pe_bl))
        pss_nil)
      (pss_cons (ps_for PassesOwn.never rfl (pi_tup (pv 5)) (pg_name (i := 7) sc_Lbad.nd rfl (.inl rfl))
        (pss_one (ps_if (PW.pt (pw_and (pt_cmpR op_ne (pv 7) pe_str (nomark _)) (pw_and1 (pt_cmpR op_ne (pv 7) (pv 4) (nomark _)))))
          (pss_one (ps_ret pe_bl))
          pss_nil)))
      (pss_one (ps_ret pe_bl)))))), ?_⟩
    refine ⟨_, rfl, a, _, rfl, e1, rfl, _, _, rfl, _, _, rfl, _, _, rfl, _, _, rfl, _, _, rfl, rfl, ?_⟩
    ((try dsimp only); (first | (refine Rg.sg (σ' := [some (.ref a), some (.ref q), some (bi t.al), some (.ref ta), some (sv t.re), some (.ref ma), some (bi t.to), none]) ?_ ?_; focus exact rfl) | (refine Rg.sgG (σ' := [some (.ref a), some (.ref q), some (bi t.al), some (.ref ta), some (sv t.re), some (.ref ma), some (bi t.to), none]) ?_ ?_; focus exact rfl)))
    apply via (fun G => G = H ∧ (t.to && (decide (¬ t.re = 2) || decide (¬ 2 ∈ t.ma))) = false)
    · intro REST
      refine ⟨_, rfl, rfl, _, rfl, ?_⟩
      refine iteE (bi1 _) (fun c1 => ?_) fun c1 => ?_
      · refine ⟨_, rfl, rfl, _, rfl, ?_⟩
        refine iteS (nS2 _) (fun h => ?_) fun h => ?_
        · exact iteT (casQ k (by unfold badM; rw [c1, decide_eq_true h]; rfl))
        refine ⟨_, rfl, ma, _, rfl, .inr e3, rfl, flatS, ?_⟩
        rw [if_pos rfl, show inV (V.str "n") (t.ma.map sv) = decide (2 ∈ t.ma) from inSg 2 t.ma wf.mm]
        refine ⟨_, rfl, iteN (fun c2 => ?_) fun c2 => ?_⟩
        · exact casQ k (by unfold badM; rw [c1, decide_eq_true (of_decide_eq_false c2)]; simp)
        · exact REST H ⟨rfl, by rw [decide_eq_false h, decide_eq_false (fun z => z (of_decide_eq_true c2))]; cases t.to <;> rfl⟩
      · exact iteF (REST H ⟨rfl, by rw [c1]; rfl⟩)
    rintro G ⟨rfl, c1⟩
    apply via (fun G' => G' = G ∧ ¬ ("numbered" : Str) ∈ N ∧ ¬ t.re = 0)
    · intro REST
      refine ⟨_, rfl, q, _, rfl, .inl hq, rfl, flat_str, ?_⟩
      rw [nmI]
      refine ⟨_, rfl, ?_⟩
      refine iteS (p := ("numbered" : Str) ∈ N) rfl (fun h1 => ?_) fun h1 => ?_
      · exact iteT (casQ k (by unfold badM; rw [c1, decide_eq_false (not_not_intro h1)]; rfl))
      refine ⟨_, rfl, rfl, _, rfl, ?_⟩
      refine iteS (dS0 _) (fun h2 => ?_) fun h2 => ?_
      · exact casQ k (by unfold badM; rw [c1, decide_eq_false (not_not_intro h2)]; simp)
      · exact REST G ⟨rfl, h1, h2⟩
    rintro G' ⟨rfl, h1, h2⟩
    have eb : badM t N = t.ma.any fun m => decide (¬ m = 1) && decide (¬ m = t.re) := by unfold badM; rw [c1, decide_eq_true h1, decide_eq_true h2]; rfl
    refine ⟨_, rfl, ma, rfl, ⟨_, e3⟩, for_tup (K := K) (a := ma) (xs := t.ma.map sv) (fun i σ H' => H' = G' ∧ (∃ v7 : Option V, σ = [some (.ref a), some (.ref q), some (bi t.al), some (.ref ta), some (sv t.re), some (.ref ma), some (bi t.to), v7]) ∧ ((t.ma.take i).any fun m => decide (¬ m = 1) && decide (¬ m = t.re)) = false) ⟨rfl, ⟨none, rfl⟩, rfl⟩ (fun i σ H' _ p => by rw [p.1]; exact e3) ?_ ?_⟩
    · rintro i x σ Hy hx ⟨rfl, ⟨v7, rfl⟩, hall⟩
      rw [List.getElem?_map] at hx
      obtain ⟨m, hm, rfl⟩ := Option.map_eq_some_iff.mp hx
      ((try dsimp only); (first | (refine Rg.sg (σ' := [some (.ref a), some (.ref q), some (bi t.al), some (.ref ta), some (sv t.re), some (.ref ma), some (bi t.to), some (sv m)]) ?_ ?_; focus exact rfl) | (refine Rg.sgG (σ' := [some (.ref a), some (.ref q), some (bi t.al), some (.ref ta), some (sv t.re), some (.ref ma), some (bi t.to), some (sv m)]) ?_ ?_; focus exact rfl)))
      refine ⟨_, rfl, rfl, _, rfl, ?_⟩
      refine iteS (nS1 _) (fun h3 => ?_) fun h3 => ?_
      · refine ⟨_, rfl, _, rfl, rfl, _, rfl, ?_⟩
        refine iteS (nSS m t.re wf.rl) (fun h4 => ?_) fun h4 => ?_
        · exact casQ k (by rw [eb, List.any_eq_true.mpr ⟨m, List.mem_of_getElem? hm, by rw [decide_eq_true h3, decide_eq_true h4]; rfl⟩])
        · exact ⟨rfl, ⟨_, rfl⟩, by rw [take_snoc hm, List.any_append, hall, List.any_cons, decide_eq_false h4, Bool.and_false]; rfl⟩
      · exact iteF ⟨rfl, ⟨_, rfl⟩, by rw [take_snoc hm, List.any_append, hall, List.any_cons, decide_eq_false h3, Bool.false_and]; rfl⟩
    rintro σ Hy ⟨rfl, ⟨v7, rfl⟩, hall⟩
    rw [List.length_map, List.take_length] at hall
    exact casQ k (by rw [eb, hall])
theorem ok_Lnumber (T : Tx K mg) : FnOk P w K mg base CX0 1 T.f_Lnumber T.fd_Lnumber ["_law_actual", "_law_due"] (fun vs H Q _ => ∃ i : Int, vs = [.int i, .int i] ∧ Q (.bl true) H) := by
  refine T.F_Lnumber.ok sc_Lnumber (fun vs H Q E h => ?_) (fun cdv A0 outer s H vs Q E hr h => ?_)
  · obtain ⟨_, rfl, _⟩ := h; rfl
  · obtain ⟨i, rfl, k⟩ := h
    try dsimp only at k
    refine ⟨_, (pss_one (ps_ret (pe_and (pe_callB call_isi rfl T.b_isinstance (by decide +kernel) (pa_cons (pv 0) (pa_cons (pe_bltn (v := .ty "int") rfl T.b_int (by decide +kernel) rfl) pa_nil))) (pe_and (pe_not (pe_callB call_isi rfl T.b_isinstance (by decide +kernel) (pa_cons (pv 0) (pa_cons (pe_bltn (v := .ty "bool") rfl T.b_bool (by decide +kernel) rfl) pa_nil)))) (pe_one (pe_cmpR op_eq (pv 0) (pv 1) (nomark _))))))), ?_⟩
    refine ⟨_, rfl, _, _, _, _, true, rfl, .ty _, .base (.int _), kit_ty (by decide +kernel), _, rfl, iteT ?_⟩
    refine ⟨_, rfl, _, _, _, _, false, rfl, .ty _, .base (.int _), kit_ty (by decide +kernel), _, rfl, _, rfl, iteT ?_⟩
    exact ⟨_, rfl, _, rfl, rfl, casQ k (by rw [decide_eq_true rfl])⟩
theorem ok_Ltruth (T : Tx K mg) : FnOk P w K mg base CX0 1 T.f_Ltruth T.fd_Ltruth ["_law_actual", "_law_due"] (fun vs H Q _ => ∃ b : Bool, vs = [.bl b, .bl b] ∧ Q (.bl true) H) := by
  refine T.F_Ltruth.ok sc_Ltruth (fun vs H Q E h => ?_) (fun cdv A0 outer s H vs Q E hr h => ?_)
  · obtain ⟨_, rfl, _⟩ := h; rfl
  · obtain ⟨b, rfl, k⟩ := h
    try dsimp only at k
    refine ⟨_, (pss_one (ps_ret (pe_and (pe_callB call_isi rfl T.b_isinstance (by decide +kernel) (pa_cons (pv 0) (pa_cons (pe_bltn (v := .ty "bool") rfl T.b_bool (by decide +kernel) rfl) pa_nil))) (pe_one (pe_cmpR op_eq (pv 0) (pv 1) (nomark _)))))), ?_⟩
    refine ⟨_, rfl, _, _, _, _, true, rfl, .ty _, .base (.bl _), kit_ty (by decide +kernel), _, rfl, iteT ?_⟩
    exact ⟨_, rfl, _, rfl, rfl, casQ k (by rw [decide_eq_true rfl])⟩
theorem ok_Lrow (T : Tx K mg) : FnOk P w K mg base CX0 2 T.f_Lrow T.fd_Lrow ["_law_actual", "_law_due"] (fun vs H Q _ => ∃ (x y : Addr) (xs : List V), vs = [.ref x, .ref y] ∧ SqT K H x xs ∧ SqT K H y xs ∧ xs.length ≤ 900 ∧ (∀ v ∈ xs, (∃ z, v = .str z) ∨ ∃ i, v = .int i) ∧ Q (.bl true) H) := by
  refine T.F_Lrow.ok sc_Lrow (fun vs H Q E h => ?_) (fun cdv A0 outer s H vs Q E hr h => ?_)
  · obtain ⟨_, _, _, rfl, _⟩ := h; rfl
  · obtain ⟨x, y, xs, rfl, hx, hy, h9, hf, k⟩ := h
    try dsimp only at k
    refine ⟨_, (pss_cons (ps_if (PW.pt (pw_or (pt_not (pt_val (pe_callB call_isi rfl T.b_isinstance (by decide +kernel) (pa_cons (pv 0) (pa_cons (pe_bltn (v := .ty "tuple") rfl T.b_tuple (by decide +kernel) rfl) pa_nil))))) (pw_or1 (pt_cmpR op_ne (pe_callB call_len_seq rfl T.b_len (by decide +kernel) (pa_cons (pv 0) pa_nil)) (pe_callB call_len_seq rfl T.b_len (by decide +kernel) (pa_cons (pv 1) pa_nil)) (nomark _)))))
        (pss_one (ps_ret pe_bl))
        pss_nil)
      (pss_cons (ps_for PassesOwn.never rfl (pi_range1 rfl T.b_range (pa_cons (pe_callB call_len_seq rfl T.b_len (by decide +kernel) (pa_cons (pv 1) pa_nil)) pa_nil)) (pg_name (i := 2) sc_Lrow.nd rfl (.inl rfl))
        (pss_one (ps_if (pt_val (pe_callB call_isi rfl T.b_isinstance (by decide +kernel) (pa_cons (pe_ix ix_tup (pv 1) (pv 2) (fun _ _ => rfl)) (pa_cons (pe_bltn (v := .ty "str") rfl T.b_str (by decide +kernel) rfl) pa_nil))))
          (pss_one (ps_if (PW.pt (pw_or (pt_not (pt_val (pe_callB call_isi rfl T.b_isinstance (by decide +kernel) (pa_cons (pe_ix ix_tup (pv 0) (pv 2) (fun _ _ => rfl)) (pa_cons (pe_bltn (v := .ty "str") rfl T.b_str (by decide +kernel) rfl) pa_nil))))) (pw_or1 (pt_cmpR op_ne (pe_ix ix_tup (pv 0) (pv 2) (fun _ _ => rfl)) (pe_ix ix_tup (pv 1) (pv 2) (fun _ _ => rfl)) (nomark _)))))
            (pss_one (ps_ret pe_bl))
            pss_nil))
          (pss_one (ps_if (pt_not (pt_val (pe_call (ok_Lnumber T) (hr.mono (by decide)) rfl T.mg_Lnumber T.F_Lnumber.kp (b_Lnumber T) .nil pass0 (pa_cons (pe_ix ix_tup (pv 0) (pv 2) (fun _ _ => rfl)) (pa_cons (pe_ix ix_tup (pv 1) (pv 2) (fun _ _ => rfl)) pa_nil)))))
            (pss_one (ps_ret pe_bl))
            pss_nil)))))
      (pss_one (ps_ret pe_bl)))), ?_⟩
    refine ⟨_, rfl, _, _, _, _, true, rfl, .ty _, tyT hx, kit_ty (by decide +kernel), _, rfl, iteF ?_⟩
    refine ⟨_, rfl, x, _, rfl, .inr hx, _, rfl, y, _, rfl, .inr hy, rfl, _, rfl, ?_⟩
    refine wFb (by rw [decide_eq_true rfl]; rfl) ?_
    refine ⟨_, rfl, y, _, rfl, .inr hy, xs.length, rfl, by omega, by omega, for_it walk_r (fun i σ H' => H' = H ∧ ∃ v : Option V, σ = [some (.ref x), some (.ref y), v]) ⟨rfl, none, rfl⟩ (fun _ _ _ _ _ => True.intro) ?_ ?_⟩
    · rintro i z σ Hy _ hi ⟨rfl, v, rfl⟩ ⟨rfl, rfl⟩
      have hi : i < xs.length := hi
      have at_ := List.getElem?_eq_getElem hi
      ((try dsimp only); (first | (refine Rg.sg (σ' := [some (.ref x), some (.ref y), some (.int i)]) ?_ ?_; focus exact rfl) | (refine Rg.sgG (σ' := [some (.ref x), some (.ref y), some (.int i)]) ?_ ?_; focus exact rfl)))
      rcases hf _ (List.getElem_mem hi) with ⟨z, ez⟩ | ⟨w_, ez⟩
      · rw [ez] at at_
        refine ⟨_, rfl, _, rfl, y, _, i, .str z, rfl, rfl, hy, atI_nat (j := i) at_, _, _, _, _, true, rfl, .ty _, .base (.str _), kit_ty (by decide +kernel), _, rfl, iteT ?_⟩
        refine ⟨_, rfl, _, rfl, x, _, i, .str z, rfl, rfl, hx, atI_nat (j := i) at_, _, _, _, _, true, rfl, .ty _, .base (.str _), kit_ty (by decide +kernel), _, rfl, iteF ?_⟩
        refine ⟨_, rfl, _, rfl, x, _, i, .str z, rfl, rfl, hx, atI_nat (j := i) at_, _, rfl, _, rfl, y, _, i, .str z, rfl, rfl, hy, atI_nat (j := i) at_, rfl, _, rfl, ?_⟩
        exact wFb (by rw [decide_eq_true rfl]; rfl) ⟨rfl, _, rfl⟩
      · rw [ez] at at_
        refine ⟨_, rfl, _, rfl, y, _, i, .int w_, rfl, rfl, hy, atI_nat (j := i) at_, _, _, _, _, false, rfl, .ty _, .base (.int _), kit_ty (by decide +kernel), _, rfl, iteF ?_⟩
        refine ⟨_, rfl, _, rfl, x, _, i, .int w_, rfl, rfl, hx, atI_nat (j := i) at_, _, rfl, _, rfl, y, _, i, .int w_, rfl, rfl, hy, atI_nat (j := i) at_, w_, rfl, ?_⟩
        exact ⟨_, rfl, iteF ⟨rfl, _, rfl⟩⟩
    rintro σ Hy ⟨rfl, v, rfl⟩
    exact k
end
end K60
namespace K60
open PySem PySem.Spec PyProof.Rows L2 Rg
section
variable {P : Program} {w : World} {K : PySem.W.Frag} {mg : Str → Option Value} {base : Heap}
theorem ok_Lsame (T : Tx K mg) : FnOk P w K mg base CX0 3 T.f_Lsame T.fd_Lsame ["_law_actual", "_law_due"] (fun vs H Q _ => (vs = [.non, .non] ∧ Q (.bl true) H) ∨ ∃ (x y : Addr) (t : Td) (n : Nat), vs = [.ref x, .ref y] ∧ TdAt K H x t ∧ TdAt K H y t ∧ Wf t n ∧ Q (.bl true) H) := by
  refine T.F_Lsame.ok sc_Lsame (fun vs H Q E h => ?_) (fun cdv A0 outer s H vs Q E hr h => ?_)
  · rcases h with ⟨rfl, _⟩ | ⟨_, _, _, _, rfl, _⟩ <;> rfl
  · skip
    try dsimp only at k
    refine ⟨_, (pss_cons (ps_if (PW.pt (pw_or (pt_cmpR op_isN (pv 1) pe_non (nomark _)) (pw_or1 (pt_cmpR op_isN (pv 0) pe_non (nomark _)))))
        (pss_one (ps_ret (pe_and (pe_cmpR op_isN (pv 1) pe_non (nomark _)) (pe_one (pe_cmpR op_isN (pv 0) pe_non (nomark _))))))
        pss_nil)
      (pss_cons (ps_if (PW.pt (pw_or (pt_not (pt_val (pe_callB call_isi rfl T.b_isinstance (by decide +kernel) (pa_cons (pv 0) (pa_cons (pe_bltn (v := .ty "tuple") rfl T.b_tuple (by decide +kernel) rfl) pa_nil))))) (pw_or1 (pt_cmpR op_ne (pe_callB call_len_seq rfl T.b_len (by decide +kernel) (pa_cons (pv 0) pa_nil)) pe_int (nomark _)))))
        (pss_one (ps_ret pe_bl))
        pss_nil)
      (pss_cons (ps_if (PW.pt (pw_or (pt_not (pt_val (pe_call (ok_Lnumber T) (hr.mono (by decide)) rfl T.mg_Lnumber T.F_Lnumber.kp (b_Lnumber T) .nil pass0 (pa_cons (pe_ix ix_tup (pv 0) pe_int (fun _ _ => rfl)) (pa_cons (pe_ix ix_tup (pv 1) pe_int (fun _ _ => rfl)) pa_nil))))) (pw_or1 (pt_not (pt_val (pe_call (ok_Lnumber T) (hr.mono (by decide)) rfl T.mg_Lnumber T.F_Lnumber.kp (b_Lnumber T) .nil pass0 (pa_cons (pe_ix ix_tup (pv 0) pe_int (fun _ _ => rfl)) (pa_cons (pe_ix ix_tup (pv 1) pe_int (fun _ _ => rfl)) pa_nil))))))))
        (pss_one (ps_ret pe_bl))
        pss_nil)
      (pss_cons (ps_if (PW.pt (pw_or (pt_not (pt_val (pe_call (ok_Lrow T) (hr.mono (by decide)) rfl T.mg_Lrow T.F_Lrow.kp (b_Lrow T) .nil pass0 (pa_cons (pe_ix ix_tup (pv 0) pe_int (fun _ _ => rfl)) (pa_cons (pe_ix ix_tup (pv 1) pe_int (fun _ _ => rfl)) pa_nil))))) (pw_or1 (pt_not (pt_val (pe_call (ok_Lrow T) (hr.mono (by decide)) rfl T.mg_Lrow T.F_Lrow.kp (b_Lrow T) .nil pass0 (pa_cons (pe_ix ix_tup (pv 0) pe_int (fun _ _ => rfl)) (pa_cons (pe_ix ix_tup (pv 1) pe_int (fun _ _ => rfl)) pa_nil))))))))
        (pss_one (ps_ret pe_bl))
        pss_nil)
      (pss_one (ps_ret (pe_and (pe_callB call_isi rfl T.b_isinstance (by decide +kernel) (pa_cons (pe_ix ix_tup (pv 0) pe_int (fun _ _ => rfl)) (pa_cons (pe_bltn (v := .ty "str") rfl T.b_str (by decide +kernel) rfl) pa_nil))) (pe_one (pe_cmpR op_eq (pe_ix ix_tup (pv 0) pe_int (fun _ _ => rfl)) (pe_ix ix_tup (pv 1) pe_int (fun _ _ => rfl)) (nomark _)))))))))), ?_⟩
    rcases h with ⟨rfl, k⟩ | ⟨x, y, t, n, rfl, ⟨ta, ma, hx, h2, h3⟩, ⟨tb_, mb_, hy, g2, g3⟩, wf, k⟩
    · refine ⟨_, rfl, rfl, _, rfl, wTb (decide_eq_true rfl) ?_⟩
      exact ⟨_, rfl, rfl, _, rfl, iteT ⟨_, rfl, rfl, casQ k (by rw [decide_eq_true rfl])⟩⟩
    refine ⟨_, rfl, rfl, _, rfl, wFb (decide_eq_false nofun) ?_⟩
    refine ⟨_, rfl, rfl, _, rfl, wFb (decide_eq_false nofun) ?_⟩
    refine ⟨_, rfl, _, _, _, _, true, rfl, .ty _, tyT hx, kit_ty (by decide +kernel), _, rfl, iteF ?_⟩
    refine ⟨_, rfl, x, _, rfl, .inr hx, rfl, _, rfl, ?_⟩
    refine wFb (by show (!decide (V.int 5 = V.int 5)) = false; decide) ?_
    refine ⟨_, rfl, x, _, 0, bi t.al, rfl, rfl, hx, atI_nat (j := 0) rfl, _, rfl, y, _, 0, bi t.al, rfl, rfl, hy, atI_nat (j := 0) rfl, _, rfl, _, rfl, iteF ?_⟩
    refine ⟨_, rfl, x, _, 4, bi t.to, rfl, rfl, hx, atI_nat (j := 4) rfl, _, rfl, y, _, 4, bi t.to, rfl, rfl, hy, atI_nat (j := 4) rfl, _, rfl, _, rfl, iteF ?_⟩
    refine ⟨_, rfl, x, _, 1, .ref ta, rfl, rfl, hx, atI_nat (j := 1) rfl, _, rfl, y, _, 1, .ref tb_, rfl, rfl, hy, atI_nat (j := 1) rfl, ta, tb_, _, rfl, h2, g2, by rw [List.length_map, wf.tl]; exact Nat.le_trans wf.n8 (by decide), fun v hv => by obtain ⟨b, _, rfl⟩ := List.mem_map.mp hv; exact .inr ⟨_, rfl⟩, _, rfl, iteF ?_⟩
    refine ⟨_, rfl, x, _, 3, .ref ma, rfl, rfl, hx, atI_nat (j := 3) rfl, _, rfl, y, _, 3, .ref mb_, rfl, rfl, hy, atI_nat (j := 3) rfl, ma, mb_, _, rfl, h3, g3, by rw [List.length_map, wf.ml]; exact Nat.le_trans wf.n8 (by decide), fun v hv => by obtain ⟨b, _, rfl⟩ := List.mem_map.mp hv; exact .inl ⟨_, rfl⟩, _, rfl, iteF ?_⟩
    refine ⟨_, rfl, x, _, 2, sv t.re, rfl, rfl, hx, atI_nat (j := 2) rfl, _, _, _, _, true, rfl, .ty _, .base (.str _), kit_ty (by decide +kernel), _, rfl, iteT ?_⟩
    exact ⟨_, rfl, x, _, 2, sv t.re, rfl, rfl, hx, atI_nat (j := 2) rfl, _, rfl, y, _, 2, sv t.re, rfl, rfl, hy, atI_nat (j := 2) rfl, rfl, casQ k (by rw [decide_eq_true rfl])⟩
end
end K60
namespace K60
open PySem PySem.Spec PyProof.Rows L2 Rg
theorem bit_of {x : Int} (h0 : 0 ≤ x) (h1 : x < 2) : ∃ b : Bool, x = if b = true then 1 else 0 := by
  have : x = 0 ∨ x = 1 := by omega
  rcases this with rfl | rfl
  · exact ⟨false, rfl⟩
  · exact ⟨true, rfl⟩
theorem bit_mul (a b : Bool) : ((if a = true then 1 else 0 : Int) * if b = true then 1 else 0) = if (a && b) = true then 1 else 0 := by cases a <;> cases b <;> rfl
theorem uno_at {n : Int} (h0 : 0 ≤ n) (h3 : n < 3) : ∃ m c, m < 4 ∧ atI ("uno" : Str).cps.toList n = some c ∧ (⟨#[c]⟩ : Str) = sg m := by
  have : n = 0 ∨ n = 1 ∨ n = 2 := by omega
  rcases this with rfl | rfl | rfl
  · exact ⟨0, 117, by decide, by decide +kernel, by decide +kernel⟩
  · exact ⟨2, 110, by decide, by decide +kernel, by decide +kernel⟩
  · exact ⟨3, 111, by decide, by decide +kernel, by decide +kernel⟩
theorem mno_at {n : Int} (h0 : 0 ≤ n) (h3 : n < 3) : ∃ m c, (m < 4 ∧ 0 < m) ∧ atI ("-no" : Str).cps.toList n = some c ∧ (⟨#[c]⟩ : Str) = sg m := by
  have : n = 0 ∨ n = 1 ∨ n = 2 := by omega
  rcases this with rfl | rfl | rfl
  · exact ⟨1, 45, by decide, by decide +kernel, by decide +kernel⟩
  · exact ⟨2, 110, by decide, by decide +kernel, by decide +kernel⟩
  · exact ⟨3, 111, by decide, by decide +kernel, by decide +kernel⟩
theorem inBn (l : List Bool) : (if true = true then !inV (.int 1) (l.map bi) else inV (.int 1) (l.map bi)) = !l.any id := by
  rw [if_pos rfl]
  exact congrArg (!·) (inB l)
theorem kp_own {S : List Addr} {H H1 H2 : Hp} {q : Addr} (k : Kp S H H1) (n : H q = none) (k2 : Kp [q] H1 H2) : Kp S H H2 := fun a o e hs => k2 a o (k a o e hs) fun z => by
  rw [List.mem_singleton.mp z, n] at e
  cases e
section
variable {P : Program} {w : World} {K : PySem.W.Frag} {mg : Str → Option Value} {base : Heap}
theorem ok_Lstanding (T : Tx K mg) : FnOk P w K mg base CX0 2 T.f_Lstanding T.fd_Lstanding ["_law_feed_here", "_law_entries"] (fun vs H Q _ => ∃ (n : Nat) (p : Addr) (fs : List Int), vs = [.ref p, .int n] ∧ H p = some (.lst (fs.map V.int)) ∧ 0 < n ∧ n ≤ 8 ∧ ∀ (H' : Hp) (x : Addr) (t : Td) (fs' : List Int), Kp [p] H H' → H' p = some (.lst (fs'.map V.int)) → TdAt K H' x t → Wf t n → Q (.ref x) H') := by
  refine T.F_Lstanding.ok sc_Lstanding (fun vs H Q E h => ?_) (fun cdv A0 outer s H vs Q E hr h => ?_)
  · obtain ⟨_, _, _, rfl, _⟩ := h; rfl
  · obtain ⟨n, p, fs, rfl, ep, h0, h8, k⟩ := h
    try dsimp only at k
    refine ⟨_, (pss_cons (ps_set (i := 2) sc_Lstanding.nd rfl (.inl rfl) (pe_call (ok_Lpick T) (hr.mono (by decide)) rfl T.mg_Lpick T.F_Lpick.kp (b_Lpick T) .nil pass0 (pa_cons (pv 0) (pa_cons pe_int pa_nil))))
      (pss_cons (ps_set (i := 3) sc_Lstanding.nd rfl (.inl rfl) (pe_op op_mul (pv 2) (pe_call (ok_Lpick T) (hr.mono (by decide)) rfl T.mg_Lpick T.F_Lpick.kp (b_Lpick T) .nil pass0 (pa_cons (pv 0) (pa_cons pe_int pa_nil)))))
      (pss_cons (ps_set (i := 4) sc_Lstanding.nd rfl (.inl rfl) (pe_ix ix_str pe_str (pe_call (ok_Lpick T) (hr.mono (by decide)) rfl T.mg_Lpick T.F_Lpick.kp (b_Lpick T) .nil pass0 (pa_cons (pv 0) (pa_cons pe_int pa_nil))) (fun _ _ => rfl)))
      (pss_cons (ps_set (i := 5) sc_Lstanding.nd rfl (.inl rfl) (pe_lst pa_nil))
      (pss_cons (ps_set (i := 6) sc_Lstanding.nd rfl (.inl rfl) (pe_lst pa_nil))
      (pss_cons (ps_for PassesOwn.never rfl (pi_range1 rfl T.b_range (pa_cons (pv 1) pa_nil)) (pg_name (i := 7) sc_Lstanding.nd rfl (.inl rfl))
        (pss_cons (ps_expr (pe_bm PySem.F.plainAttrs_list PySem.F.slot_list_append PySem.F.type_list_append mt_append (pv 5) (pa_cons (pe_op op_mul (pv 2) (pe_call (ok_Lpick T) (hr.mono (by decide)) rfl T.mg_Lpick T.F_Lpick.kp (b_Lpick T) .nil pass0 (pa_cons (pv 0) (pa_cons pe_int pa_nil)))) pa_nil)))
        (pss_one (ps_expr (pe_bm PySem.F.plainAttrs_list PySem.F.slot_list_append PySem.F.type_list_append mt_append (pv 6) (pa_cons (pe_ix ix_str pe_str (pe_call (ok_Lpick T) (hr.mono (by decide)) rfl T.mg_Lpick T.F_Lpick.kp (b_Lpick T) .nil pass0 (pa_cons (pv 0) (pa_cons pe_int pa_nil))) (fun _ _ => rfl)) pa_nil))))))
      (pss_cons (ps_set (i := 8) sc_Lstanding.nd rfl (.inl rfl) (pe_call (ok_Lpick T) (hr.mono (by decide)) rfl T.mg_Lpick T.F_Lpick.kp (b_Lpick T) .nil pass0 (pa_cons (pv 0) (pa_cons (pv 1) pa_nil))))
      (pss_cons (ps_if (PW.pt (pw_and (pt_cmpR op_eq (pv 2) pe_int (nomark _)) (pw_and1 (pt_cmpR op_notIn_seq pe_int (pv 5) rfl))))
        (pss_one (ps_asg pe_int (pg_sub (pv 5) (pv 8) set_list)))
        pss_nil)
      (pss_one (ps_ret (pe_tup (pa_cons (pv 2) (pa_cons (pe_callTy call_tuple_of rfl T.b_tuple (by decide +kernel) (pa_cons (pv 5) pa_nil)) (pa_cons (pv 4) (pa_cons (pe_callTy call_tuple_of rfl T.b_tuple (by decide +kernel) (pa_cons (pv 6) pa_nil)) (pa_cons (pv 3) pa_nil)))))))))))))))), ?_⟩
    have b1 : -(2 ^ 62 : Int) ≤ (n : Int) := by omega
    have b2 : (n : Int) < 2 ^ 62 := by omega
    refine ⟨_, rfl, p, fs, 2, rfl, ep, by decide, fun x f1 x0 x1 _ => ?_⟩
    (generalize he_u1 : upd _ p _ = H1; obtain ⟨e_u1, k_u1, f_u1⟩ := own_f he_u1; clear he_u1)
    obtain ⟨al, rfl⟩ := bit_of x0 x1
    ((try dsimp only); (first | (refine Rg.sg (σ' := [some (.ref p), some (.int n), some (bi al), none, none, none, none, none, none]) ?_ ?_; focus exact rfl) | (refine Rg.sgG (σ' := [some (.ref p), some (.int n), some (bi al), none, none, none, none, none, none]) ?_ ?_; focus exact rfl)))
    refine ⟨_, rfl, _, rfl, p, f1, 2, rfl, e_u1, by decide, fun y f2 y0 y1 _ => ?_⟩
    (generalize he_u2 : upd _ p _ = H2; obtain ⟨e_u2, k_u2, f_u2⟩ := own_f he_u2; clear he_u2)
    obtain ⟨b0, rfl⟩ := bit_of y0 y1
    refine ⟨_, _, rfl, rfl, .inl ⟨by cases al <;> decide, by cases al <;> decide⟩, ?_⟩
    dsimp only
    rw [bit_mul]
    ((try dsimp only); (first | (refine Rg.sg (σ' := [some (.ref p), some (.int n), some (bi al), some (bi (al && b0)), none, none, none, none, none]) ?_ ?_; focus exact rfl) | (refine Rg.sgG (σ' := [some (.ref p), some (.int n), some (bi al), some (bi (al && b0)), none, none, none, none, none]) ?_ ?_; focus exact rfl)))
    refine ⟨_, rfl, p, f2, 3, rfl, e_u2, by decide, fun z f3 z0 z1 _ => ?_⟩
    (generalize he_u3 : upd _ p _ = H3; obtain ⟨e_u3, k_u3, f_u3⟩ := own_f he_u3; clear he_u3)
    obtain ⟨re, c0, hre, ec, es⟩ := uno_at z0 z1
    refine ⟨"uno", z, c0, rfl, rfl, by decide, ec, ?_⟩
    dsimp only
    rw [es]
    ((try dsimp only); (first | (refine Rg.sg (σ' := [some (.ref p), some (.int n), some (bi al), some (bi (al && b0)), some (sv re), none, none, none, none]) ?_ ?_; focus exact rfl) | (refine Rg.sgG (σ' := [some (.ref p), some (.int n), some (bi al), some (bi (al && b0)), some (sv re), none, none, none, none]) ?_ ?_; focus exact rfl)))
    refine ⟨Nat.zero_le _, fun tl n_tl => ?_⟩
    (generalize he_tl : upd _ tl _ = H4; obtain ⟨e_tl, s_tl, f_tl⟩ := new_f he_tl n_tl; clear he_tl)
    ((try dsimp only); (first | (refine Rg.sg (σ' := [some (.ref p), some (.int n), some (bi al), some (bi (al && b0)), some (sv re), some (.ref tl), none, none, none]) ?_ ?_; focus exact rfl) | (refine Rg.sgG (σ' := [some (.ref p), some (.int n), some (bi al), some (bi (al && b0)), some (sv re), some (.ref tl), none, none, none]) ?_ ?_; focus exact rfl)))
    refine ⟨Nat.zero_le _, fun ml n_ml => ?_⟩
    (generalize he_ml : upd _ ml _ = H5; obtain ⟨e_ml, s_ml, f_ml⟩ := new_f he_ml n_ml; clear he_ml)
    ((try dsimp only); (first | (refine Rg.sg (σ' := [some (.ref p), some (.int n), some (bi al), some (bi (al && b0)), some (sv re), some (.ref tl), some (.ref ml), none, none]) ?_ ?_; focus exact rfl) | (refine Rg.sgG (σ' := [some (.ref p), some (.int n), some (bi al), some (bi (al && b0)), some (sv re), some (.ref tl), some (.ref ml), none, none]) ?_ ?_; focus exact rfl)))
    have K3 : Kp [p] H H3 := (k_u1.trans k_u2).trans k_u3
    have ntp : tl ≠ p := fun z => by rw [z, e_u3] at n_tl; cases n_tl
    have nm3 := s_tl.free n_ml
    have nmp : ml ≠ p := fun z => by rw [z, e_u3] at nm3; cases nm3
    have nt : H tl = none := K3.free (by simp [ntp]) n_tl
    have nm : H ml = none := K3.free (by simp [nmp]) nm3
    have ntm : tl ≠ ml := fun z => by rw [← z, e_tl] at n_ml; cases n_ml
    refine ⟨_, rfl, n, rfl, b1, b2, for_it walk_r (fun i σ H' => ∃ (v7 : Option V) (fs : List Int) (ti : List Bool) (ma : List Nat), σ = [some (.ref p), some (.int n), some (bi al), some (bi (al && b0)), some (sv re), some (.ref tl), some (.ref ml), v7, none] ∧ Kp [p] H H' ∧ H' p = some (.lst (fs.map V.int)) ∧ H' tl = some (.lst (ti.map bi)) ∧ H' ml = some (.lst (ma.map sv)) ∧ ti.length = i ∧ ma.length = i ∧ ∀ m ∈ ma, m < 4 ∧ 0 < m) ⟨none, f3, [], [], rfl, (K3.same s_tl).same s_ml, s_ml _ _ (s_tl _ _ e_u3), s_ml _ _ e_tl, e_ml, rfl, rfl, fun m h => nomatch h⟩ (fun _ _ _ _ _ => True.intro) ?_ ?_⟩
    · rintro i x σ Hx _ hi ⟨v7, fs, ti, ma, rfl, kH, ep, et, em, lt, lm, hm⟩ ⟨rfl, rfl⟩
      have hi : i < n := hi
      skip
      ((try dsimp only); (first | (refine Rg.sg (σ' := [some (.ref p), some (.int n), some (bi al), some (bi (al && b0)), some (sv re), some (.ref tl), some (.ref ml), some (.int i), none]) ?_ ?_; focus exact rfl) | (refine Rg.sgG (σ' := [some (.ref p), some (.int n), some (bi al), some (bi (al && b0)), some (sv re), some (.ref tl), some (.ref ml), some (.int i), none]) ?_ ?_; focus exact rfl)))
      refine ⟨_, rfl, .inl ⟨rfl, _, .inl (.inl et)⟩, _, rfl, _, rfl, p, fs, 2, rfl, ep, by decide, fun y g1 y0 y1 _ => ?_⟩
      (generalize he_w1 : upd _ p _ = G1; obtain ⟨e_w1, k_w1, f_w1⟩ := own_f he_w1; clear he_w1)
      obtain ⟨b, rfl⟩ := bit_of y0 y1
      refine ⟨_, _, rfl, rfl, .inl ⟨by cases al <;> decide, by cases al <;> decide⟩, ?_⟩
      dsimp only
      rw [bit_mul]
      have et1 : G1 tl = some (.lst (ti.map bi)) := k_w1 _ _ et (by simp [ntp])
      have em1 : G1 ml = some (.lst (ma.map sv)) := k_w1 _ _ em (by simp [nmp])
      refine ⟨tl, _, _, rfl, rfl, et1, lt_line (by rw [List.length_map]; omega), ?_⟩
      (generalize he_w2 : upd _ tl _ = G2; obtain ⟨e_w2, k_w2, f_w2⟩ := own_f he_w2; clear he_w2)
      have ep2 : G2 p = some (.lst (g1.map V.int)) := k_w2 _ _ e_w1 (by simp [Ne.symm ntp])
      have em2 : G2 ml = some (.lst (ma.map sv)) := k_w2 _ _ em1 (by simp [Ne.symm ntm])
      refine ⟨_, rfl, .inl ⟨rfl, _, .inl (.inl em2)⟩, _, rfl, p, g1, 3, rfl, ep2, by decide, fun z g2 z0 z1 _ => ?_⟩
      (generalize he_w3 : upd _ p _ = G3; obtain ⟨e_w3, k_w3, f_w3⟩ := own_f he_w3; clear he_w3)
      obtain ⟨m, c1, hmm, ec, es⟩ := mno_at z0 z1
      refine ⟨"-no", z, c1, rfl, rfl, by decide, ec, ?_⟩
      dsimp only
      rw [es]
      have em3 : G3 ml = some (.lst (ma.map sv)) := k_w3 _ _ em2 (by simp [nmp])
      have et3 : G3 tl = some (.lst (ti.map bi ++ [bi (al && b)])) := k_w3 _ _ e_w2 (by simp [ntp])
      refine ⟨ml, _, _, rfl, rfl, em3, lt_line (by rw [List.length_map]; omega), ?_⟩
      (generalize he_w4 : upd _ ml _ = G4; obtain ⟨e_w4, k_w4, f_w4⟩ := own_f he_w4; clear he_w4)
      refine ⟨_, g2, ti ++ [al && b], ma ++ [m], rfl, kp_own ((kp_own (kH.trans k_w1) nt k_w2).trans k_w3) nm k_w4, k_w4 _ _ e_w3 (by simp [Ne.symm nmp]), ?_, ?_, by rw [List.length_append, lt]; rfl, by rw [List.length_append, lm]; rfl, fun m' h => ?_⟩
      · rw [List.map_append]
        exact k_w4 _ _ et3 (by simp [ntm])
      · rw [List.map_append]
        exact e_w4
      · rcases List.mem_append.mp h with h | h
        · exact hm m' h
        · rw [List.mem_singleton.mp h]; exact hmm
    rintro σ Hx ⟨v7, fs, ti, ma, rfl, kH, ep, et, em, lt, lm, hm⟩
    have lt : ti.length = n := lt
    have lm : ma.length = n := lm
    refine ⟨_, rfl, _, rfl, p, fs, n, rfl, ep, by omega, fun y g1 y0 y1 _ => ?_⟩
    (generalize he_w1 : upd _ p _ = G1; obtain ⟨e_w1, k_w1, f_w1⟩ := own_f he_w1; clear he_w1)
    have et1 : G1 tl = some (.lst (ti.map bi)) := k_w1 _ _ et (by simp [ntp])
    have em1 : G1 ml = some (.lst (ma.map sv)) := k_w1 _ _ em (by simp [nmp])
    ((try dsimp only); (first | (refine Rg.sg (σ' := [some (.ref p), some (.int n), some (bi al), some (bi (al && b0)), some (sv re), some (.ref tl), some (.ref ml), v7, some (.int y)]) ?_ ?_; focus exact rfl) | (refine Rg.sgG (σ' := [some (.ref p), some (.int n), some (bi al), some (bi (al && b0)), some (sv re), some (.ref tl), some (.ref ml), v7, some (.int y)]) ?_ ?_; focus exact rfl)))
    obtain ⟨m, rfl⟩ : ∃ m : Nat, y = m := ⟨y.toNat, by omega⟩
    have hm2 : m < ti.length := by omega
    apply via (fun G => Kp [p] H G ∧ G p = some (.lst (g1.map V.int)) ∧ G ml = some (.lst (ma.map sv)) ∧ ∃ ti' : List Bool, G tl = some (.lst (ti'.map bi)) ∧ ti'.length = n)
    · intro REST
      refine ⟨_, rfl, rfl, _, rfl, ?_⟩
      refine iteE (bi1 _) (fun c1 => ?_) fun c1 => ?_
      · refine ⟨_, rfl, tl, _, rfl, .inl (.of et1), rfl, flatB, ?_⟩
        rw [inBn]
        refine ⟨_, rfl, iteN (fun c2 => ?_) fun c2 => ?_⟩
        · refine ⟨_, rfl, _, rfl, tl, _, _, m, rfl, rfl, et1, ixN_nat rfl (by rw [List.length_map]; exact hm2), ?_⟩
          (generalize he_w5 : upd _ tl _ = G2; obtain ⟨e_w5, k_w5, f_w5⟩ := own_f he_w5; clear he_w5)
          exact REST G2 ⟨kp_own (kH.trans k_w1) nt k_w5, k_w5 _ _ e_w1 (by simp [Ne.symm ntp]), k_w5 _ _ em1 (by simp [Ne.symm ntm]), ti.set m true, by rw [List.map_set]; exact e_w5, by rw [List.length_set]; exact lt⟩
        · exact REST G1 ⟨kH.trans k_w1, e_w1, em1, ti, et1, lt⟩
      · exact iteF (REST G1 ⟨kH.trans k_w1, e_w1, em1, ti, et1, lt⟩)
    rintro G ⟨kG, epG, emG, ti', etG, ltG⟩
    refine ⟨_, rfl, _, rfl, tl, _, rfl, .inl ⟨.of etG, fun a1 n_a1 => ?_⟩⟩
    (generalize he_a1 : upd _ a1 _ = G3; obtain ⟨e_a1, s_a1, f_a1⟩ := new_f he_a1 n_a1; clear he_a1)
    refine ⟨_, rfl, _, rfl, ml, _, rfl, .inl ⟨.of (s_a1 _ _ emG), fun a2 n_a2 => ?_⟩⟩
    (generalize he_a2 : upd _ a2 _ = G4; obtain ⟨e_a2, s_a2, f_a2⟩ := new_f he_a2 n_a2; clear he_a2)
    refine ⟨_, rfl, by show 5 ≤ sizeLine; decide, ?_⟩
    (intro x n_x; generalize he_x : upd _ x _ = G5; obtain ⟨e_x, s_x, f_x⟩ := new_f he_x n_x; clear he_x)
    exact k G5 x ⟨al, ti', re, ma, al && b0⟩ g1 (((kG.same s_a1).same s_a2).same s_x) (s_x _ _ (s_a2 _ _ (s_a1 _ _ epG))) ⟨a1, a2, .inl (.of e_x), .inl (.of (s_x _ _ (s_a2 _ _ e_a1))), .inl (.of (s_x _ _ e_a2))⟩ ⟨ltG, lm, h8, h0, hre, fun m h => (hm m h).1, fun m h => (hm m h).2⟩
end
end K60
namespace K60
open PySem PySem.Spec PyProof.Rows L2 Rg
theorem letters_len {n : Nat} (h : n ≤ 8) : (lettersM n).length ≤ 200 := (show ∀ n < 9, (lettersM n).length ≤ 200 by decide +kernel) n (by omega)
theorem set_mem {α : Type} {l : List α} {j : Nat} {x m : α} (h : m ∈ l.set j x) : m ∈ l ∨ m = x := by
  rcases List.mem_or_eq_of_mem_set h with h | h
  · exact .inl h
  · exact .inr h
theorem aged_lt {m : Nat} (h : m < 4) : aged m < 4 := by unfold aged; split <;> omega
theorem aged_pos {m : Nat} (h : 0 < m) : 0 < aged m := by unfold aged; split <;> omega
theorem ifs {c : Prop} [Decidable c] {x t' : Td} (h : (if c then none else some x) = some t') : x = t' := by
  by_cases z : c
  · rw [if_pos z] at h; cases h
  · rw [if_neg z] at h; exact Option.some.inj h
theorem ifs2 {c : Prop} [Decidable c] {o : Option Td} {t' : Td} (h : (if c then none else o) = some t') : o = some t' := by
  by_cases z : c
  · rw [if_pos z] at h; cases h
  · rw [if_neg z] at h; exact h
theorem afterM_wf {t t' : Td} {n : Nat} {N : List Str} {L : Lt} (w : Wf t n) (h : afterM t N L = some t') : Wf t' n := by
  obtain ⟨tl, ml, n8, n0, rl, mm, mp⟩ := w
  cases L with
  | mk j =>
    obtain rfl := ifs (x := ⟨true, t.ti.set j true, aged t.re, t.ma.map aged, false⟩) h
    exact ⟨by rw [List.length_set]; exact tl, by rw [List.length_map]; exact ml, n8, n0, aged_lt rl, fun m hm => by obtain ⟨x, hx, rfl⟩ := List.mem_map.mp hm; exact aged_lt (mm x hx), fun m hm => by obtain ⟨x, hx, rfl⟩ := List.mem_map.mp hm; exact aged_pos (mp x hx)⟩
  | ln j =>
    obtain rfl := ifs (x := ⟨t.al, t.ti.set j true, t.re, t.ma, t.to⟩) h
    exact ⟨by rw [List.length_set]; exact tl, ml, n8, n0, rl, mm, mp⟩
  | dr j =>
    have h := ifs2 (o := if (t.ti.set j false).any id = true then some ⟨true, t.ti.set j false, t.re, t.ma, t.to⟩ else some ⟨false, t.ti.set j false, t.re, t.ma, false⟩) h
    by_cases z : (t.ti.set j false).any id = true
    · rw [if_pos z] at h
      obtain rfl := Option.some.inj h
      exact ⟨by rw [List.length_set]; exact tl, ml, n8, n0, rl, mm, mp⟩
    · rw [if_neg z] at h
      obtain rfl := Option.some.inj h
      exact ⟨by rw [List.length_set]; exact tl, ml, n8, n0, rl, mm, mp⟩
  | mv i j =>
    obtain rfl := ifs (x := ⟨t.al, (t.ti.set i false).set j true, t.re, t.ma, t.to⟩) h
    exact ⟨by rw [List.length_set, List.length_set]; exact tl, ml, n8, n0, rl, mm, mp⟩
  | on =>
    obtain rfl := Option.some.inj (show some (⟨t.al, t.ti, if t.al = true then 2 else 0, t.ma, t.to⟩ : Td) = some t' from h)
    exact ⟨tl, ml, n8, n0, by show (if t.al = true then 2 else 0) < 4; split <;> decide, mm, mp⟩
  | oe j =>
    have h : (if t.ti.getD j false = true then (if ("first" : Str) ∈ N ∧ ¬ t.re = 2 then none else some (⟨t.al, t.ti, t.re, t.ma.set j 2, t.to⟩ : Td))
      else if ("keep" : Str) ∈ N ∧ t.al = true ∧ t.ma.getD j 0 = 2 ∧ keptM t = false then none else some ⟨t.al, t.ti, t.re, t.ma.set j 1, t.to⟩) = some t' := h
    by_cases z : t.ti.getD j false = true
    · rw [if_pos z] at h
      obtain rfl := ifs h
      exact ⟨tl, by rw [List.length_set]; exact ml, n8, n0, rl, fun m hm => (set_mem hm).elim (mm m) fun h => by rw [h]; decide, fun m hm => (set_mem hm).elim (mp m) fun h => by rw [h]; decide⟩
    · rw [if_neg z] at h
      obtain rfl := ifs h
      exact ⟨tl, by rw [List.length_set]; exact ml, n8, n0, rl, fun m hm => (set_mem hm).elim (mm m) fun h => by rw [h]; decide, fun m hm => (set_mem hm).elim (mp m) fun h => by rw [h]; decide⟩
  | td =>
    obtain rfl := ifs (x := ⟨t.al, t.ti, t.re, t.ma, t.al⟩) h
    exact ⟨tl, ml, n8, n0, rl, mm, mp⟩
theorem startM_wf {n : Nat} (h0 : 0 < n) (h8 : n ≤ 8) : Wf (startM n) n := ⟨List.length_replicate .., List.length_replicate .., h8, h0, by show 0 < 4; decide, fun m h => by rw [List.eq_of_mem_replicate h]; decide, fun m h => by rw [List.eq_of_mem_replicate h]; decide⟩
theorem lettersM_inb {n : Nat} {L : Lt} (h : L ∈ lettersM n) : L.inb n := by
  unfold lettersM preM mvsM mvM at h
  simp only [List.mem_append, List.mem_flatMap, List.mem_map, List.mem_range, List.mem_singleton] at h
  rcases h with (((⟨c, hc, j, hj, rfl⟩ | ⟨i, hi, j, hj, h⟩) | rfl) | ⟨j, hj, rfl⟩) | rfl
  · have hc : c ∈ cs := List.mem_of_mem_take hc
    simp only [cs, List.mem_cons, List.not_mem_nil, or_false] at hc
    rcases hc with rfl | rfl | rfl <;> exact hj
  · split at h
    · cases h
    · rw [List.mem_singleton.mp h]
      exact ⟨hi, hj, by assumption⟩
  · exact True.intro
  · exact hj
  · exact True.intro
theorem ltv_flat : ∀ (L : Lt), (ltv L).length ≤ 900 ∧ ∀ v ∈ ltv L, (∃ z, v = .str z) ∨ ∃ i, v = .int i
  | .mk j => ⟨by show 2 ≤ 900; decide, by intro v h; simp only [ltv, List.mem_cons, List.not_mem_nil, or_false] at h; rcases h with rfl | rfl <;> first | exact .inl ⟨_, rfl⟩ | exact .inr ⟨_, rfl⟩⟩
  | .ln j => ⟨by show 2 ≤ 900; decide, by intro v h; simp only [ltv, List.mem_cons, List.not_mem_nil, or_false] at h; rcases h with rfl | rfl <;> first | exact .inl ⟨_, rfl⟩ | exact .inr ⟨_, rfl⟩⟩
  | .dr j => ⟨by show 2 ≤ 900; decide, by intro v h; simp only [ltv, List.mem_cons, List.not_mem_nil, or_false] at h; rcases h with rfl | rfl <;> first | exact .inl ⟨_, rfl⟩ | exact .inr ⟨_, rfl⟩⟩
  | .mv i j => ⟨by show 3 ≤ 900; decide, by intro v h; simp only [ltv, List.mem_cons, List.not_mem_nil, or_false] at h; rcases h with rfl | rfl | rfl <;> first | exact .inl ⟨_, rfl⟩ | exact .inr ⟨_, rfl⟩⟩
  | .on => ⟨by show 1 ≤ 900; decide, by intro v h; simp only [ltv, List.mem_cons, List.not_mem_nil, or_false] at h; subst h; exact .inl ⟨_, rfl⟩⟩
  | .oe j => ⟨by show 2 ≤ 900; decide, by intro v h; simp only [ltv, List.mem_cons, List.not_mem_nil, or_false] at h; rcases h with rfl | rfl <;> first | exact .inl ⟨_, rfl⟩ | exact .inr ⟨_, rfl⟩⟩
  | .td => ⟨by show 1 ≤ 900; decide, by intro v h; simp only [ltv, List.mem_cons, List.not_mem_nil, or_false] at h; subst h; exact .inl ⟨_, rfl⟩⟩
theorem OutAt.tk {K : PySem.W.Frag} {Ps : List Addr} {H H' : Hp} {ys : List V} {Ls : List Lt} (h : OutAt K H ys Ls) (t : Tab Ps H) (s : Tk Ps H H') : OutAt K H' ys Ls := ⟨h.1, fun i L e => let ⟨a, e2, q⟩ := h.2 i L e; ⟨a, e2, s.seqT t q⟩⟩
theorem tab_kp {Ps : List Addr} {H H' : Hp} {p : Addr} {ls : List V} (t : Tab Ps H) (k : Kp [p] H H') (e : H p = some (.lst ls)) : Tab Ps H' := fun P hP => by
  obtain ⟨ps, e1, r⟩ := t P hP
  refine ⟨ps, k _ _ e1 fun z => ?_, r⟩
  rw [List.mem_singleton.mp z, e] at e1
  cases e1
/-- what stands through the law -/
structure Wl (K : PySem.W.Frag) (Ps : List Addr) (C : Addr) (H : Hp) (a q b d e : Addr) (t : Td) (N : List Str) (Ls : List Lt) (ys zs : List V) : Prop where
  st : TdAt K H a t
  nm : NmAt K H q N
  bk : BookAt C H b N
  tb : Tab Ps H
  ed : H d = some (.lst ys)
  od : OutAt K H ys Ls
  ee : H e = some (.lst zs)
  oe : OutAt K H zs Ls
theorem Wl.tk {K : PySem.W.Frag} {Ps : List Addr} {C : Addr} {H H' : Hp} {a q b d e : Addr} {t : Td} {N : List Str} {Ls : List Lt} {ys zs : List V} (h : Wl K Ps C H a q b d e t N Ls ys zs) (k : Tk Ps H H') : Wl K Ps C H' a q b d e t N Ls ys zs := ⟨h.st.tk h.tb k, k.seqL h.tb h.nm, h.bk.tk h.tb k, k.tab, k.at h.tb h.ed, h.od.tk h.tb k, k.at h.tb h.ee, h.oe.tk h.tb k⟩
theorem Wl.same {K : PySem.W.Frag} {Ps : List Addr} {C : Addr} {H H' : Hp} {a q b d e : Addr} {t : Td} {N : List Str} {Ls : List Lt} {ys zs : List V} (h : Wl K Ps C H a q b d e t N Ls ys zs) (k : Same H H') : Wl K Ps C H' a q b d e t N Ls ys zs := h.tk (.of h.tb k)
theorem nd {x y : V} (e : x = y) : (!decide (x = y)) = false := by rw [decide_eq_true e]; rfl
theorem passG {X : Cx} : Passes (L2.CX X.prog X.w) X E0 := fun pins σ H s e s' I c => by
  obtain ⟨a, B, H', cls, d, _, _, _, _, _, _, _, w⟩ := c
  exact w.elim
section
variable {P : Program} {w : World} {K : PySem.W.Frag} {mg : Str → Option Value} {base : Heap}
def sp_law (K : PySem.W.Frag) (Ps : List Addr) : Sp := fun vs H Q _ => ∃ (a : Addr) (ns : List Int), vs = [.ref a] ∧ Tab Ps H ∧ SqL K H a (ns.map V.int) ∧ ns.length ≤ 63 ∧ ∀ H', Q (.bl true) H'
theorem ok_law (T : Tx K mg) (B : TBs T base) (W : Tw T w) : FnOk P w K mg base CX0 7 T.f_law T.fd_law ["_law_script"] (sp_law K T.Ps) := by
  refine T.F_law.ok sc_law (fun vs H Q E h => ?_) (fun cdv A0 outer s H vs Q E hr h => ?_)
  · obtain ⟨_, _, rfl, _⟩ := h; rfl
  · obtain ⟨a, ns, rfl, ht, hS, hlen, k⟩ := h
    try dsimp only at k
    refine ⟨_, (pss_cons (ps_set (i := 1) sc_law.nd rfl (.inl rfl) (pe_call (ok_Lfeed T) (hr.mono (by decide)) rfl T.mg_Lfeed T.F_Lfeed.kp (b_Lfeed T) .nil pass0 (pa_cons (pv 0) pa_nil)))
      (pss_cons (ps_set (i := 2) sc_law.nd rfl (.inl rfl) (pe_op op_add pe_int (pe_call (ok_Lpick T) (hr.mono (by decide)) rfl T.mg_Lpick T.F_Lpick.kp (b_Lpick T) .nil pass0 (pa_cons (pv 1) (pa_cons pe_int pa_nil)))))
      (pss_cons (ps_set (i := 3) sc_law.nd rfl (.inl rfl) (pe_call (ok_Lpick T) (hr.mono (by decide)) rfl T.mg_Lpick T.F_Lpick.kp (b_Lpick T) .nil pass0 (pa_cons (pv 1) (pa_cons pe_int pa_nil))))
      (pss_cons (ps_set (i := 4) sc_law.nd rfl (.inl rfl) (pe_call (ok_Lrules T) (hr.mono (by decide)) rfl T.mg_Lrules T.F_Lrules.kp (b_Lrules T) .nil pass0 (pa_cons (pv 3) pa_nil)))
      (pss_cons (ps_set (i := 5) sc_law.nd rfl (.inl rfl) (pe_smethS T.mg_TieBook T.cr_TieBook T.sm_TieBook_of_number (ok_of_number T) (hr.mono (by decide)) (b_TieBook_of_number T) passL0 (pa_cons (pv 3) pa_nil)))
      (pss_cons (ps_set (i := 6) sc_law.nd rfl (.inl rfl) (pe_call (ok_Lstanding T) (hr.mono (by decide)) rfl T.mg_Lstanding T.F_Lstanding.kp (b_Lstanding T) .nil pass0 (pa_cons (pv 1) (pa_cons (pv 2) pa_nil))))
      (pss_cons (ps_if (pt_not (pt_val (pe_call (ok_Lsame T) (hr.mono (by decide)) rfl T.mg_Lsame T.F_Lsame.kp (b_Lsame T) .nil pass0 (pa_cons (pe_call (ok_tie_start T) (hr.mono (by decide)) rfl T.mg_tie_start T.F_tie_start.kp (b_tie_start T) .nil pass0 (pa_cons (pv 2) pa_nil)) (pa_cons (pe_tup (pa_cons pe_int (pa_cons (pe_op op_repA (pe_tup (pa_cons pe_int pa_nil)) (pv 2)) (pa_cons pe_str (pa_cons (pe_op op_repA (pe_tup (pa_cons pe_str pa_nil)) (pv 2)) (pa_cons pe_int pa_nil)))))) pa_nil)))))
        (pss_one (ps_ret pe_bl))
        pss_nil)
      (pss_cons (ps_set (i := 7) sc_law.nd rfl (.inl rfl) (pe_call (ok_Lletters T) (hr.mono (by decide)) rfl T.mg_Lletters T.F_Lletters.kp (b_Lletters T) .nil pass0 (pa_cons (pv 2) pa_nil)))
      (pss_cons (ps_set (i := 8) sc_law.nd rfl (.inl rfl) (pe_listG (pgen_call (ok_tie_letters T) (hr.mono (by decide)) rfl T.mg_tie_letters T.F_tie_letters.kp (b_tie_letters T) .nil (pa_cons (pv 2) pa_nil)) passG (fun _ _ _ h => h.elim) (hr.mono (by decide)) rfl T.b_list (by decide +kernel)))
      (pss_cons (ps_if (pt_cmpR op_ne (pe_callB call_len_seq rfl T.b_len (by decide +kernel) (pa_cons (pv 8) pa_nil)) (pe_callB call_len_seq rfl T.b_len (by decide +kernel) (pa_cons (pv 7) pa_nil)) (nomark _))
        (pss_one (ps_ret pe_bl))
        pss_nil)
      (pss_cons (ps_for PassesOwn.never rfl (pi_range1 rfl T.b_range (pa_cons (pe_callB call_len_seq rfl T.b_len (by decide +kernel) (pa_cons (pv 7) pa_nil)) pa_nil)) (pg_name (i := 9) sc_law.nd rfl (.inl rfl))
        (pss_cons (ps_if (pt_not (pt_val (pe_call (ok_Lrow T) (hr.mono (by decide)) rfl T.mg_Lrow T.F_Lrow.kp (b_Lrow T) .nil pass0 (pa_cons (pe_ix ix_list (pv 8) (pv 9) (fun _ _ => rfl)) (pa_cons (pe_ix ix_list (pv 7) (pv 9) (fun _ _ => rfl)) pa_nil)))))
          (pss_one (ps_ret pe_bl))
          pss_nil)
        (pss_cons (ps_set (i := 10) sc_law.nd rfl (.inl rfl) (pe_call (ok_Lafter T) (hr.mono (by decide)) rfl T.mg_Lafter T.F_Lafter.kp (b_Lafter T) .nil pass0 (pa_cons (pv 6) (pa_cons (pe_ix ix_list (pv 7) (pv 9) (fun _ _ => rfl)) (pa_cons (pv 4) pa_nil)))))
        (pss_cons (ps_if (pt_not (pt_val (pe_call (ok_Lsame T) (hr.mono (by decide)) rfl T.mg_Lsame T.F_Lsame.kp (b_Lsame T) .nil pass0 (pa_cons (pe_call (ok_tie_after T B W) (hr.mono (by decide)) rfl T.mg_tie_after T.F_tie_after.kp (b_tie_after T) .nil pass0 (pa_cons (pv 6) (pa_cons (pe_ix ix_list (pv 7) (pv 9) (fun _ _ => rfl)) (pa_cons (pv 5) pa_nil)))) (pa_cons (pv 10) pa_nil)))))
          (pss_one (ps_ret pe_bl))
          pss_nil)
        (pss_one (ps_if (PW.pt (pw_and (pt_cmpR op_notN (pv 10) pe_non (nomark _)) (pw_and1 (pt_not (pt_val (pe_call (ok_Ltruth T) (hr.mono (by decide)) rfl T.mg_Ltruth T.F_Ltruth.kp (b_Ltruth T) .nil pass0 (pa_cons (pe_call (ok_tie_bad T B) (hr.mono (by decide)) rfl T.mg_tie_bad T.F_tie_bad.kp (b_tie_bad T) .nil pass0 (pa_cons (pv 10) (pa_cons (pv 5) pa_nil))) (pa_cons (pe_call (ok_Lbad T) (hr.mono (by decide)) rfl T.mg_Lbad T.F_Lbad.kp (b_Lbad T) .nil pass0 (pa_cons (pv 10) (pa_cons (pv 4) pa_nil))) pa_nil))))))))
          (pss_one (ps_ret pe_bl))
          pss_nil))))))
      (pss_cons (ps_for PassesOwn.never rfl (pi_list (pv 7)) (pg_name (i := 11) sc_law.nd rfl (.inl rfl))
        (pss_one (ps_if (pt_not (pt_val (pe_call (ok_Lsame T) (hr.mono (by decide)) rfl T.mg_Lsame T.F_Lsame.kp (b_Lsame T) .nil pass0 (pa_cons (pe_call (ok_tie_after T B W) (hr.mono (by decide)) rfl T.mg_tie_after T.F_tie_after.kp (b_tie_after T) .nil pass0 (pa_cons (pv 6) (pa_cons (pv 11) (pa_cons (pv 5) pa_nil)))) (pa_cons (pe_call (ok_Lafter T) (hr.mono (by decide)) rfl T.mg_Lafter T.F_Lafter.kp (b_Lafter T) .nil pass0 (pa_cons (pv 6) (pa_cons (pv 11) (pa_cons (pv 4) pa_nil)))) pa_nil)))))
          (pss_one (ps_ret pe_bl))
          pss_nil)))
      (pss_one (ps_ret (pe_call (ok_Ltruth T) (hr.mono (by decide)) rfl T.mg_Ltruth T.F_Ltruth.kp (b_Ltruth T) .nil pass0 (pa_cons (pe_call (ok_tie_bad T B) (hr.mono (by decide)) rfl T.mg_tie_bad T.F_tie_bad.kp (b_tie_bad T) .nil pass0 (pa_cons (pv 6) (pa_cons (pv 5) pa_nil))) (pa_cons (pe_call (ok_Lbad T) (hr.mono (by decide)) rfl T.mg_Lbad T.F_Lbad.kp (b_Lbad T) .nil pass0 (pa_cons (pv 6) (pa_cons (pv 4) pa_nil))) pa_nil))))))))))))))))), ?_⟩
    refine ⟨_, rfl, a, ns, rfl, hS, hlen, fun H1 p f1 S1 np ep hf => ?_⟩
    ((try dsimp only); (first | (refine Rg.sg (σ' := [some (.ref a), some (.ref p), none, none, none, none, none, none, none, none, none, none]) ?_ ?_; focus exact rfl) | (refine Rg.sgG (σ' := [some (.ref a), some (.ref p), none, none, none, none, none, none, none, none, none, none]) ?_ ?_; focus exact rfl)))
    refine ⟨_, rfl, p, f1, 8, rfl, ep, by decide, fun n0 f2 n0a n0b _ => ?_⟩
    (generalize he_y1 : upd _ p _ = H2; obtain ⟨e_y1, k_y1, f_y1⟩ := own_f he_y1; clear he_y1)
    refine ⟨_, _, rfl, rfl, ?_⟩
    obtain ⟨n, en⟩ : ∃ n : Nat, 1 + n0 = n := ⟨(1 + n0).toNat, by omega⟩
    have h0 : 0 < n := by omega
    have h8 : n ≤ 8 := by omega
    dsimp only
    rw [en]
    ((try dsimp only); (first | (refine Rg.sg (σ' := [some (.ref a), some (.ref p), some (.int n), none, none, none, none, none, none, none, none, none]) ?_ ?_; focus exact rfl) | (refine Rg.sgG (σ' := [some (.ref a), some (.ref p), some (.int n), none, none, none, none, none, none, none, none, none]) ?_ ?_; focus exact rfl)))
    refine ⟨_, rfl, p, f2, 32, rfl, e_y1, by decide, fun m0 f3 m0a m0b _ => ?_⟩
    (generalize he_y2 : upd _ p _ = H3; obtain ⟨e_y2, k_y2, f_y2⟩ := own_f he_y2; clear he_y2)
    obtain ⟨m, rfl⟩ : ∃ m : Nat, m0 = m := ⟨m0.toNat, by omega⟩
    ((try dsimp only); (first | (refine Rg.sg (σ' := [some (.ref a), some (.ref p), some (.int n), some (.int m), none, none, none, none, none, none, none, none]) ?_ ?_; focus exact rfl) | (refine Rg.sgG (σ' := [some (.ref a), some (.ref p), some (.int n), some (.int m), none, none, none, none, none, none, none, none]) ?_ ?_; focus exact rfl)))
    refine ⟨_, rfl, m, rfl, fun H4 q s4 nq eq => ?_⟩
    ((try dsimp only); (first | (refine Rg.sg (σ' := [some (.ref a), some (.ref p), some (.int n), some (.int m), some (.ref q), none, none, none, none, none, none, none]) ?_ ?_; focus exact rfl) | (refine Rg.sgG (σ' := [some (.ref a), some (.ref p), some (.int n), some (.int m), some (.ref q), none, none, none, none, none, none, none]) ?_ ?_; focus exact rfl)))
    refine ⟨_, rfl, m, rfl, fun m' em' hm' H5 b s5 nb hb => ?_, fun z => by omega⟩
    obtain rfl : m = m' := by omega
    ((try dsimp only); (first | (refine Rg.sg (σ' := [some (.ref a), some (.ref p), some (.int n), some (.int m), some (.ref q), some (.ref b), none, none, none, none, none, none]) ?_ ?_; focus exact rfl) | (refine Rg.sgG (σ' := [some (.ref a), some (.ref p), some (.int n), some (.int m), some (.ref q), some (.ref b), none, none, none, none, none, none]) ?_ ?_; focus exact rfl)))
    have ep5 : H5 p = some (.lst (f3.map V.int)) := s5 _ _ (s4 _ _ e_y2)
    refine ⟨_, rfl, _, rfl, n, p, f3, rfl, ep5, h0, h8, fun H6 sa t f4 k6 e6 hst wf => ?_⟩
    ((try dsimp only); (first | (refine Rg.sg (σ' := [some (.ref a), some (.ref p), some (.int n), some (.int m), some (.ref q), some (.ref b), some (.ref sa), none, none, none, none, none]) ?_ ?_; focus exact rfl) | (refine Rg.sgG (σ' := [some (.ref a), some (.ref p), some (.int n), some (.int m), some (.ref q), some (.ref b), some (.ref sa), none, none, none, none, none]) ?_ ?_; focus exact rfl)))
    have t5 : Tab T.Ps H5 := ((tab_kp (tab_kp (ht.same S1) k_y1 ep) k_y2 e_y1).same s4).same s5
    have t6 : Tab T.Ps H6 := tab_kp t5 k6 ep5
    have nq5 : NmAt K H6 q (nm Rs m) := .inl (.of (k6 _ _ (s5 _ _ eq) (fun z => by rw [List.mem_singleton.mp z] at nq; rw [e_y2] at nq; cases nq)))
    have hb6 : BookAt T.C_TieBook H6 b (nm Rs m) := ⟨let ⟨dx, tn, e1, e2⟩ := hb.ob; ⟨dx, tn, k6 _ _ e1 (fun z => by rw [List.mem_singleton.mp z, ep5] at e1; cases e1), k6 _ _ e2 (fun z => by rw [List.mem_singleton.mp z, ep5] at e2; cases e2)⟩⟩
    generalize nm Rs m = N at *
    refine ⟨_, rfl, n, rfl, h0, h8, fun H7 x7 s7 hx7 => ?_⟩
    refine ⟨by show 1 ≤ sizeLine; decide, ?_⟩
    (intro t1 n_t1; generalize he_t1 : upd _ t1 _ = H8; obtain ⟨e_t1, s_t1, f_t1⟩ := new_f he_t1 n_t1; clear he_t1)
    refine ⟨_, rfl, t1, n, _, rfl, rfl, .inl (.of e_t1), nofun, by omega, by omega, by show 1 ≤ 1000; decide, fun H9 p1 s9 h9 => ?_⟩
    refine ⟨by show 1 ≤ sizeLine; decide, ?_⟩
    (intro t2 n_t2; generalize he_t2 : upd _ t2 _ = H10; obtain ⟨e_t2, s_t2, f_t2⟩ := new_f he_t2 n_t2; clear he_t2)
    refine ⟨_, rfl, t2, n, _, rfl, rfl, .inl (.of e_t2), nofun, by omega, by omega, by show 1 ≤ 1000; decide, fun H11 p2 s11 h11 => ?_⟩
    refine ⟨by show 5 ≤ sizeLine; decide, ?_⟩
    (intro y12 n_y12; generalize he_y12 : upd _ y12 _ = H12; obtain ⟨e_y12, s_y12, f_y12⟩ := new_f he_y12 n_y12; clear he_y12)
    rw [repB] at h9 h11
    have hy : TdAt K H12 y12 (startM n) := ⟨p1, p2, .inl (.of e_y12), sameT (s_t2.trans (s11.trans s_y12)) (by rw [show (startM n).ti = List.replicate n false from rfl, List.map_replicate]; exact h9), sameT s_y12 (by rw [show (startM n).ma = List.replicate n 1 from rfl, List.map_replicate]; exact h11)⟩
    have s812 : Same H7 H12 := s_t1.trans (s9.trans (s_t2.trans (s11.trans s_y12)))
    refine .inr ⟨x7, y12, startM n, n, rfl, hx7.same s812, hy, startM_wf h0 h8, _, rfl, iteF ?_⟩
    refine ⟨_, rfl, n, rfl, h8, fun H13 d ys s13 nd_ ed O => ?_⟩
    ((try dsimp only); (first | (refine Rg.sg (σ' := [some (.ref a), some (.ref p), some (.int n), some (.int m), some (.ref q), some (.ref b), some (.ref sa), some (.ref d), none, none, none, none]) ?_ ?_; focus exact rfl) | (refine Rg.sgG (σ' := [some (.ref a), some (.ref p), some (.int n), some (.int m), some (.ref q), some (.ref b), some (.ref sa), some (.ref d), none, none, none, none]) ?_ ?_; focus exact rfl)))
    refine ⟨_, rfl, n, rfl, h8, fun H14 zs s14 Oz e n_e => ?_⟩
    (generalize he_e : upd _ e _ = H15; obtain ⟨e_e, s_e, f_e⟩ := new_f he_e n_e; clear he_e)
    ((try dsimp only); (first | (refine Rg.sg (σ' := [some (.ref a), some (.ref p), some (.int n), some (.int m), some (.ref q), some (.ref b), some (.ref sa), some (.ref d), some (.ref e), none, none, none]) ?_ ?_; focus exact rfl) | (refine Rg.sgG (σ' := [some (.ref a), some (.ref p), some (.int n), some (.int m), some (.ref q), some (.ref b), some (.ref sa), some (.ref d), some (.ref e), none, none, none]) ?_ ?_; focus exact rfl)))
    have s15 : Same H6 H15 := s7.trans (s812.trans (s13.trans (s14.trans s_e)))
    have L : Wl K T.Ps T.C_TieBook H15 sa q b d e t N (lettersM n) ys zs := ⟨hst.same s15, (Tk.of t6 s15).seqL t6 nq5, hb6.tk t6 (.of t6 s15), t6.same s15, s_e _ _ (s14 _ _ ed), (O.same s14).same s_e, e_e, Oz.same s_e⟩
    have ly : ys.length ≤ 200 := by rw [L.od.1]; exact letters_len h8
    refine ⟨_, rfl, e, _, rfl, .inl (.of L.ee), _, rfl, d, _, rfl, .inl (.of L.ed), rfl, _, rfl, ?_⟩
    refine wFb (nd (by rw [L.od.1, L.oe.1])) ?_
    refine ⟨_, rfl, d, _, rfl, .inl (.of L.ed), ys.length, rfl, by omega, by omega, for_it walk_r (fun i σ H' => (∃ v9 v10 : Option V, σ = [some (.ref a), some (.ref p), some (.int n), some (.int m), some (.ref q), some (.ref b), some (.ref sa), some (.ref d), some (.ref e), v9, v10, none]) ∧ Wl K T.Ps T.C_TieBook H' sa q b d e t N (lettersM n) ys zs) ⟨⟨none, none, rfl⟩, L⟩ (fun _ _ _ _ _ => True.intro) ?_ ?_⟩
    · rintro i x σ Hx _ hi ⟨⟨v9, v10, rfl⟩, L⟩ ⟨rfl, rfl⟩
      have hi : i < ys.length := hi
      rw [L.od.1] at hi
      have eL := List.getElem?_eq_getElem hi
      obtain ⟨ld, eld, qd⟩ := L.od.2 i _ eL
      obtain ⟨le, ele, qe⟩ := L.oe.2 i _ eL
      have inb := lettersM_inb (List.mem_of_getElem? eL)
      generalize (lettersM n)[i] = Lk at eL qd qe inb
      ((try dsimp only); (first | (refine Rg.sg (σ' := [some (.ref a), some (.ref p), some (.int n), some (.int m), some (.ref q), some (.ref b), some (.ref sa), some (.ref d), some (.ref e), some (.int i), v10, none]) ?_ ?_; focus exact rfl) | (refine Rg.sgG (σ' := [some (.ref a), some (.ref p), some (.int n), some (.int m), some (.ref q), some (.ref b), some (.ref sa), some (.ref d), some (.ref e), some (.int i), v10, none]) ?_ ?_; focus exact rfl)))
      refine ⟨_, rfl, _, rfl, e, _, i, .ref le, rfl, rfl, .of L.ee, atI_nat (j := i) ele, _, rfl, _, rfl, d, _, i, .ref ld, rfl, rfl, .of L.ed, atI_nat (j := i) eld, le, ld, ltv Lk, rfl, qe, qd, (ltv_flat Lk).1, (ltv_flat Lk).2, _, rfl, iteF ?_⟩
      refine ⟨_, rfl, _, rfl, _, rfl, d, _, i, .ref ld, rfl, rfl, .of L.ed, atI_nat (j := i) eld, _, rfl, Lk, t, n, N, sa, ld, q, rfl, L.st, qd, L.nm, wf, inb, ?_⟩
      cases ho : afterM t N Lk with
      | none =>
        intro Ha sa1
        have L := L.same sa1
        have qd := sameT sa1 qd
        ((try dsimp only); (first | (refine Rg.sg (σ' := [some (.ref a), some (.ref p), some (.int n), some (.int m), some (.ref q), some (.ref b), some (.ref sa), some (.ref d), some (.ref e), some (.int i), some .non, none]) ?_ ?_; focus exact rfl) | (refine Rg.sgG (σ' := [some (.ref a), some (.ref p), some (.int n), some (.int m), some (.ref q), some (.ref b), some (.ref sa), some (.ref d), some (.ref e), some (.int i), some .non, none]) ?_ ?_; focus exact rfl)))
        refine ⟨_, rfl, _, rfl, _, rfl, d, _, i, .ref ld, rfl, rfl, .of L.ed, atI_nat (j := i) eld, _, rfl, Lk, t, n, N, sa, ld, b, rfl, True.intro, L.st, qd, L.bk, wf, inb, L.tb, ?_⟩
        rw [ho]
        intro Hb kb
        refine ⟨_, rfl, .inl ⟨rfl, _, rfl, iteF ?_⟩⟩
        refine ⟨_, rfl, rfl, _, rfl, wFb (nd rfl) ?_⟩
        exact iteF ⟨⟨_, _, rfl⟩, L.tk kb⟩
      | some t' =>
        intro Ha y sa1 hy
        have wf' := afterM_wf wf ho
        have L := L.same sa1
        have qd := sameT sa1 qd
        ((try dsimp only); (first | (refine Rg.sg (σ' := [some (.ref a), some (.ref p), some (.int n), some (.int m), some (.ref q), some (.ref b), some (.ref sa), some (.ref d), some (.ref e), some (.int i), some (.ref y), none]) ?_ ?_; focus exact rfl) | (refine Rg.sgG (σ' := [some (.ref a), some (.ref p), some (.int n), some (.int m), some (.ref q), some (.ref b), some (.ref sa), some (.ref d), some (.ref e), some (.int i), some (.ref y), none]) ?_ ?_; focus exact rfl)))
        refine ⟨_, rfl, _, rfl, _, rfl, d, _, i, .ref ld, rfl, rfl, .of L.ed, atI_nat (j := i) eld, _, rfl, Lk, t, n, N, sa, ld, b, rfl, True.intro, L.st, qd, L.bk, wf, inb, L.tb, ?_⟩
        rw [ho]
        intro Hb z kb hz
        have hy := hy.tk L.tb kb
        have L := L.tk kb
        refine ⟨_, rfl, .inr ⟨z, y, t', n, rfl, hz, hy, wf', _, rfl, iteF ?_⟩⟩
        refine ⟨_, rfl, rfl, _, rfl, wTb (by rw [decide_eq_false nofun]; rfl) ?_⟩
        refine ⟨_, rfl, _, rfl, t', n, N, y, b, rfl, hy, L.bk, wf', L.tb, fun Hc kc => ?_⟩
        have hy := hy.tk L.tb kc
        have L := L.tk kc
        refine ⟨_, rfl, _, rfl, t', n, N, y, q, rfl, hy, L.nm, wf', badM t' N, rfl, _, rfl, iteF ?_⟩
        exact ⟨⟨_, _, rfl⟩, L⟩
    rintro σ Hx ⟨⟨v9, v10, rfl⟩, L⟩
    refine ⟨_, rfl, d, rfl, ⟨_, .of L.ed⟩, for_list (K := K) (a := d) (xs := ys) (fun i σ H' => (∃ v11 : Option V, σ = [some (.ref a), some (.ref p), some (.int n), some (.int m), some (.ref q), some (.ref b), some (.ref sa), some (.ref d), some (.ref e), v9, v10, v11]) ∧ Wl K T.Ps T.C_TieBook H' sa q b d e t N (lettersM n) ys zs) ⟨⟨none, rfl⟩, L⟩ (fun _ _ _ _ p => .of p.2.ed) ?_ ?_⟩
    · rintro i x σ Hx hx ⟨⟨v11, rfl⟩, L⟩
      have hi : i < (lettersM n).length := by rw [← L.od.1]; exact (List.getElem?_eq_some_iff.mp hx).1
      have eL := List.getElem?_eq_getElem hi
      obtain ⟨ld, eld, qd⟩ := L.od.2 i _ eL
      obtain rfl : V.ref ld = x := Option.some.inj (eld.symm.trans hx)
      have inb := lettersM_inb (List.mem_of_getElem? eL)
      generalize (lettersM n)[i] = Lk at eL qd inb
      ((try dsimp only); (first | (refine Rg.sg (σ' := [some (.ref a), some (.ref p), some (.int n), some (.int m), some (.ref q), some (.ref b), some (.ref sa), some (.ref d), some (.ref e), v9, v10, some (.ref ld)]) ?_ ?_; focus exact rfl) | (refine Rg.sgG (σ' := [some (.ref a), some (.ref p), some (.int n), some (.int m), some (.ref q), some (.ref b), some (.ref sa), some (.ref d), some (.ref e), v9, v10, some (.ref ld)]) ?_ ?_; focus exact rfl)))
      refine ⟨_, rfl, _, rfl, _, rfl, Lk, t, n, N, sa, ld, b, rfl, True.intro, L.st, qd, L.bk, wf, inb, L.tb, ?_⟩
      cases ho : afterM t N Lk with
      | none =>
        intro Hb kb
        have qd := kb.seqT L.tb qd
        have L := L.tk kb
        refine ⟨_, rfl, _, rfl, _, rfl, Lk, t, n, N, sa, ld, q, rfl, L.st, qd, L.nm, wf, inb, ?_⟩
        rw [ho]
        intro Ha sa1
        refine .inl ⟨rfl, _, rfl, iteF ?_⟩
        exact ⟨⟨_, rfl⟩, L.same sa1⟩
      | some t' =>
        intro Hb z kb hz
        have wf' := afterM_wf wf ho
        have qd := kb.seqT L.tb qd
        have L := L.tk kb
        refine ⟨_, rfl, _, rfl, _, rfl, Lk, t, n, N, sa, ld, q, rfl, L.st, qd, L.nm, wf, inb, ?_⟩
        rw [ho]
        intro Ha y sa1 hy
        refine .inr ⟨z, y, t', n, rfl, hz.same sa1, hy, wf', _, rfl, iteF ?_⟩
        exact ⟨⟨_, rfl⟩, L.same sa1⟩
    rintro σ Hy ⟨⟨v11, rfl⟩, L⟩
    refine ⟨_, rfl, _, rfl, t, n, N, sa, b, rfl, L.st, L.bk, wf, L.tb, fun Hc kc => ?_⟩
    have L := L.tk kc
    exact ⟨_, rfl, _, rfl, t, n, N, sa, q, rfl, L.st, L.nm, wf, badM t N, rfl, k _⟩
end
end K60
namespace K60
open PySem PySem.Spec PyProof.Rows L2 Rg
theorem law_binds {K : PySem.W.Frag} {mg : Str → Option Value} (T : Tx K mg) (s : Shared) (v : Value) : BindsTo s T.fd_law ⟨[v], []⟩ [("_law_script", v)] := by
  obtain ⟨oc, od, kV, doc, pm, an, cdv, ct, osl, e, lk, hcd⟩ := T.F_law.ex
  rw [e]
  exact .of_eq rfl
theorem fin_lk {K : PySem.W.Frag} {x qual : Str} {st : Stmt} {f : Addr} {fd : FuncData} (F : Fun K x qual st f fd) : ∃ (oc : Value) (od : Option Addr) (osl : Array (Option Value)), K.lookup f = some ⟨oc, od, .func fd, osl⟩ := by
  obtain ⟨oc, od, kV, doc, pm, an, cdv, ct, osl, e, lk, hcd⟩ := F.ex
  exact ⟨_, _, _, lk⟩
theorem fin_G {l : PySem.W.OpenLaw} {q : Program} {w : World} {K : PySem.W.Frag} {mg : Str → Option Value} {fa : Addr} {h : Heap} (z : ∃ T : Tx K mg, Tw T w) (hmg : mg "law" = some (.ref fa)) (KX : K.In h) (TT : Rg.TabsOf q mg h)
    (q_make : (recsOf q).any (fun d => d.name == "_make") = true) (q_keeps_mark : (recsOf q).any (fun d => d.name == "_keeps_mark") = true) (q_agrees : (recsOf q).any (fun d => d.name == "_agrees") = true) (q_tie_after : (recsOf q).any (fun d => d.name == "tie_after") = true) (q_tie_bad : (recsOf q).any (fun d => d.name == "tie_bad") = true) :
    LamX.LawAtS l w K L2.CX0 7 63 "_law_script" mg fa h := by
  obtain ⟨T, W⟩ := z
  have e : T.f_law = fa := Value.ref.inj (Option.some.inj (T.mg_law.symm.trans hmg))
  subst e
  have h_make : h.get? T.P_make = some { cls := .none, data := .fields #[] } := by
    obtain ⟨_, _, _, lk⟩ := fin_lk T.F_make
    exact Rg.tab_of TT KX q_make T.mg_make lk T.code_make T.ch_make
  have h_keeps_mark : h.get? T.P_keeps_mark = some { cls := .none, data := .fields #[] } := by
    obtain ⟨_, _, _, lk⟩ := fin_lk T.F_keeps_mark
    exact Rg.tab_of TT KX q_keeps_mark T.mg_keeps_mark lk T.code_keeps_mark T.ch_keeps_mark
  have h_agrees : h.get? T.P_agrees = some { cls := .none, data := .fields #[] } := by
    obtain ⟨_, _, _, lk⟩ := fin_lk T.F_agrees
    exact Rg.tab_of TT KX q_agrees T.mg_agrees lk T.code_agrees T.ch_agrees
  have h_tie_after : h.get? T.P_tie_after = some { cls := .none, data := .fields #[] } := by
    obtain ⟨_, _, _, lk⟩ := fin_lk T.F_tie_after
    exact Rg.tab_of TT KX q_tie_after T.mg_tie_after lk T.code_tie_after T.ch_tie_after
  have h_tie_bad : h.get? T.P_tie_bad = some { cls := .none, data := .fields #[] } := by
    obtain ⟨_, _, _, lk⟩ := fin_lk T.F_tie_bad
    exact Rg.tab_of TT KX q_tie_bad T.mg_tie_bad lk T.code_tie_bad T.ch_tie_bad
  refine ⟨T.fd_law, [(T.cc_make, T.P_make), (T.cc_keeps_mark, T.P_keeps_mark), (T.cc_agrees, T.P_agrees), (T.cc_tie_after, T.P_tie_after), (T.cc_tie_bad, T.P_tie_bad)], sp_law K T.Ps, List.forall_mem_cons.mpr ⟨h_make, List.forall_mem_cons.mpr ⟨h_keeps_mark, List.forall_mem_cons.mpr ⟨h_agrees, List.forall_mem_cons.mpr ⟨h_tie_after, List.forall_mem_cons.mpr ⟨h_tie_bad, fun _ z => nomatch z⟩⟩⟩⟩⟩, List.forall_mem_cons.mpr ⟨T.cn_make, List.forall_mem_cons.mpr ⟨T.cn_keeps_mark, List.forall_mem_cons.mpr ⟨T.cn_agrees, List.forall_mem_cons.mpr ⟨T.cn_tie_after, List.forall_mem_cons.mpr ⟨T.cn_tie_bad, fun _ z => nomatch z⟩⟩⟩⟩⟩, List.forall_mem_cons.mpr ⟨PySem.W.codeHd_of_K KX T.ch_make, List.forall_mem_cons.mpr ⟨PySem.W.codeHd_of_K KX T.ch_keeps_mark, List.forall_mem_cons.mpr ⟨PySem.W.codeHd_of_K KX T.ch_agrees, List.forall_mem_cons.mpr ⟨PySem.W.codeHd_of_K KX T.ch_tie_after, List.forall_mem_cons.mpr ⟨PySem.W.codeHd_of_K KX T.ch_tie_bad, fun _ z => nomatch z⟩⟩⟩⟩⟩, fun s v => law_binds T s v, fun H a ns hl _ hT hS => ⟨a, ns, rfl, ?_, hS, hl, fun _ => rfl⟩, fun base _ _ TB => ok_law T ⟨TB (T.cc_make, T.P_make) (by simp), TB (T.cc_keeps_mark, T.P_keeps_mark) (by simp), TB (T.cc_agrees, T.P_agrees) (by simp), TB (T.cc_tie_after, T.P_tie_after) (by simp), TB (T.cc_tie_bad, T.P_tie_bad) (by simp)⟩ W⟩
  exact List.forall_mem_cons.mpr ⟨⟨#[], hT (T.cc_make, T.P_make) (by simp), True.intro⟩, List.forall_mem_cons.mpr ⟨⟨#[], hT (T.cc_keeps_mark, T.P_keeps_mark) (by simp), True.intro⟩, List.forall_mem_cons.mpr ⟨⟨#[], hT (T.cc_agrees, T.P_agrees) (by simp), True.intro⟩, List.forall_mem_cons.mpr ⟨⟨#[], hT (T.cc_tie_after, T.P_tie_after) (by simp), True.intro⟩, List.forall_mem_cons.mpr ⟨⟨#[], hT (T.cc_tie_bad, T.P_tie_bad) (by simp), True.intro⟩, fun _ z => nomatch z⟩⟩⟩⟩⟩
theorem all_mk {w : World} {K : PySem.W.Frag} {h : Heap} {mg : Str → Option Value} (X : K.In h) (G : h.Ns mainGlobals mg)
    {a_with : Addr}
    {od_with an_with : Option Addr} {sl_with : Array (Option Value)} {oc_with kV_with dc_with pm_with cd_with ct_with : Value}
    (l_with : K.lookup a_with = some ⟨oc_with, od_with, .func (PySem.W.fnOf "_with" "_with" (defArgs s_with) (defBody s_with) (defScope s_with) .none kV_with dc_with pm_with an_with cd_with ct_with), sl_with⟩)
    (c_with : PySem.W.codeIn K cd_with "_with" = true)
    (k_with : PySem.W.keepIn K (.ref a_with) = true)
    (g_with : PySem.W.nsIn K mainGlobals "_with" = some (some (.ref a_with)))
    {a_aged : Addr}
    {od_aged an_aged : Option Addr} {sl_aged : Array (Option Value)} {oc_aged kV_aged dc_aged pm_aged cd_aged ct_aged : Value}
    (l_aged : K.lookup a_aged = some ⟨oc_aged, od_aged, .func (PySem.W.fnOf "_aged" "_aged" (defArgs s_aged) (defBody s_aged) (defScope s_aged) .none kV_aged dc_aged pm_aged an_aged cd_aged ct_aged), sl_aged⟩)
    (c_aged : PySem.W.codeIn K cd_aged "_aged" = true)
    (k_aged : PySem.W.keepIn K (.ref a_aged) = true)
    (g_aged : PySem.W.nsIn K mainGlobals "_aged" = some (some (.ref a_aged)))
    {a_tie_start : Addr}
    {od_tie_start an_tie_start : Option Addr} {sl_tie_start : Array (Option Value)} {oc_tie_start kV_tie_start dc_tie_start pm_tie_start cd_tie_start ct_tie_start : Value}
    (l_tie_start : K.lookup a_tie_start = some ⟨oc_tie_start, od_tie_start, .func (PySem.W.fnOf "tie_start" "tie_start" (defArgs s_tie_start) (defBody s_tie_start) (defScope s_tie_start) .none kV_tie_start dc_tie_start pm_tie_start an_tie_start cd_tie_start ct_tie_start), sl_tie_start⟩)
    (c_tie_start : PySem.W.codeIn K cd_tie_start "tie_start" = true)
    (k_tie_start : PySem.W.keepIn K (.ref a_tie_start) = true)
    (g_tie_start : PySem.W.nsIn K mainGlobals "tie_start" = some (some (.ref a_tie_start)))
    {a_tie_letters : Addr}
    {od_tie_letters an_tie_letters : Option Addr} {sl_tie_letters : Array (Option Value)} {oc_tie_letters kV_tie_letters dc_tie_letters pm_tie_letters cd_tie_letters ct_tie_letters : Value}
    (l_tie_letters : K.lookup a_tie_letters = some ⟨oc_tie_letters, od_tie_letters, .func (PySem.W.fnOf "tie_letters" "tie_letters" (defArgs s_tie_letters) (defBody s_tie_letters) (defScope s_tie_letters) .none kV_tie_letters dc_tie_letters pm_tie_letters an_tie_letters cd_tie_letters ct_tie_letters), sl_tie_letters⟩)
    (c_tie_letters : PySem.W.codeIn K cd_tie_letters "tie_letters" = true)
    (k_tie_letters : PySem.W.keepIn K (.ref a_tie_letters) = true)
    (g_tie_letters : PySem.W.nsIn K mainGlobals "tie_letters" = some (some (.ref a_tie_letters)))
    {a_make : Addr}
    {od_make an_make : Option Addr} {sl_make : Array (Option Value)} {oc_make kV_make dc_make pm_make cd_make ct_make : Value}
    (l_make : K.lookup a_make = some ⟨oc_make, od_make, .func (PySem.W.fnOf "_make" "_make" (defArgs s_make) (defBody s_make) (defScope s_make) .none kV_make dc_make pm_make an_make cd_make ct_make), sl_make⟩)
    (c_make : PySem.W.codeIn K cd_make "_make" = true)
    (k_make : PySem.W.keepIn K (.ref a_make) = true)
    (g_make : PySem.W.nsIn K mainGlobals "_make" = some (some (.ref a_make)))
    {ac_make : Addr}
    (cc1_make : cd_make = .ref ac_make)
    (ch1_make : PySem.W.codeHdIn K ac_make (He.tabOf K ac_make) = true)
    (cn1_make : K.lookup (He.tabOf K ac_make) = none)
    {a_link : Addr}
    {od_link an_link : Option Addr} {sl_link : Array (Option Value)} {oc_link kV_link dc_link pm_link cd_link ct_link : Value}
    (l_link : K.lookup a_link = some ⟨oc_link, od_link, .func (PySem.W.fnOf "_link" "_link" (defArgs s_link) (defBody s_link) (defScope s_link) .none kV_link dc_link pm_link an_link cd_link ct_link), sl_link⟩)
    (c_link : PySem.W.codeIn K cd_link "_link" = true)
    (k_link : PySem.W.keepIn K (.ref a_link) = true)
    (g_link : PySem.W.nsIn K mainGlobals "_link" = some (some (.ref a_link)))
    {a_drop : Addr}
    {od_drop an_drop : Option Addr} {sl_drop : Array (Option Value)} {oc_drop kV_drop dc_drop pm_drop cd_drop ct_drop : Value}
    (l_drop : K.lookup a_drop = some ⟨oc_drop, od_drop, .func (PySem.W.fnOf "_drop" "_drop" (defArgs s_drop) (defBody s_drop) (defScope s_drop) .none kV_drop dc_drop pm_drop an_drop cd_drop ct_drop), sl_drop⟩)
    (c_drop : PySem.W.codeIn K cd_drop "_drop" = true)
    (k_drop : PySem.W.keepIn K (.ref a_drop) = true)
    (g_drop : PySem.W.nsIn K mainGlobals "_drop" = some (some (.ref a_drop)))
    {a_move : Addr}
    {od_move an_move : Option Addr} {sl_move : Array (Option Value)} {oc_move kV_move dc_move pm_move cd_move ct_move : Value}
    (l_move : K.lookup a_move = some ⟨oc_move, od_move, .func (PySem.W.fnOf "_move" "_move" (defArgs s_move) (defBody s_move) (defScope s_move) .none kV_move dc_move pm_move an_move cd_move ct_move), sl_move⟩)
    (c_move : PySem.W.codeIn K cd_move "_move" = true)
    (k_move : PySem.W.keepIn K (.ref a_move) = true)
    (g_move : PySem.W.nsIn K mainGlobals "_move" = some (some (.ref a_move)))
    {a_out_node : Addr}
    {od_out_node an_out_node : Option Addr} {sl_out_node : Array (Option Value)} {oc_out_node kV_out_node dc_out_node pm_out_node cd_out_node ct_out_node : Value}
    (l_out_node : K.lookup a_out_node = some ⟨oc_out_node, od_out_node, .func (PySem.W.fnOf "_out_node" "_out_node" (defArgs s_out_node) (defBody s_out_node) (defScope s_out_node) .none kV_out_node dc_out_node pm_out_node an_out_node cd_out_node ct_out_node), sl_out_node⟩)
    (c_out_node : PySem.W.codeIn K cd_out_node "_out_node" = true)
    (k_out_node : PySem.W.keepIn K (.ref a_out_node) = true)
    (g_out_node : PySem.W.nsIn K mainGlobals "_out_node" = some (some (.ref a_out_node)))
    {a_keeps_mark : Addr}
    {od_keeps_mark an_keeps_mark : Option Addr} {sl_keeps_mark : Array (Option Value)} {oc_keeps_mark kV_keeps_mark dc_keeps_mark pm_keeps_mark cd_keeps_mark ct_keeps_mark : Value}
    (l_keeps_mark : K.lookup a_keeps_mark = some ⟨oc_keeps_mark, od_keeps_mark, .func (PySem.W.fnOf "_keeps_mark" "_keeps_mark" (defArgs s_keeps_mark) (defBody s_keeps_mark) (defScope s_keeps_mark) .none kV_keeps_mark dc_keeps_mark pm_keeps_mark an_keeps_mark cd_keeps_mark ct_keeps_mark), sl_keeps_mark⟩)
    (c_keeps_mark : PySem.W.codeIn K cd_keeps_mark "_keeps_mark" = true)
    (k_keeps_mark : PySem.W.keepIn K (.ref a_keeps_mark) = true)
    (g_keeps_mark : PySem.W.nsIn K mainGlobals "_keeps_mark" = some (some (.ref a_keeps_mark)))
    {ac_keeps_mark : Addr}
    (cc1_keeps_mark : cd_keeps_mark = .ref ac_keeps_mark)
    (ch1_keeps_mark : PySem.W.codeHdIn K ac_keeps_mark (He.tabOf K ac_keeps_mark) = true)
    (cn1_keeps_mark : K.lookup (He.tabOf K ac_keeps_mark) = none)
    {a_out_entry : Addr}
    {od_out_entry an_out_entry : Option Addr} {sl_out_entry : Array (Option Value)} {oc_out_entry kV_out_entry dc_out_entry pm_out_entry cd_out_entry ct_out_entry : Value}
    (l_out_entry : K.lookup a_out_entry = some ⟨oc_out_entry, od_out_entry, .func (PySem.W.fnOf "_out_entry" "_out_entry" (defArgs s_out_entry) (defBody s_out_entry) (defScope s_out_entry) .none kV_out_entry dc_out_entry pm_out_entry an_out_entry cd_out_entry ct_out_entry), sl_out_entry⟩)
    (c_out_entry : PySem.W.codeIn K cd_out_entry "_out_entry" = true)
    (k_out_entry : PySem.W.keepIn K (.ref a_out_entry) = true)
    (g_out_entry : PySem.W.nsIn K mainGlobals "_out_entry" = some (some (.ref a_out_entry)))
    {a_agrees : Addr}
    {od_agrees an_agrees : Option Addr} {sl_agrees : Array (Option Value)} {oc_agrees kV_agrees dc_agrees pm_agrees cd_agrees ct_agrees : Value}
    (l_agrees : K.lookup a_agrees = some ⟨oc_agrees, od_agrees, .func (PySem.W.fnOf "_agrees" "_agrees" (defArgs s_agrees) (defBody s_agrees) (defScope s_agrees) .none kV_agrees dc_agrees pm_agrees an_agrees cd_agrees ct_agrees), sl_agrees⟩)
    (c_agrees : PySem.W.codeIn K cd_agrees "_agrees" = true)
    (k_agrees : PySem.W.keepIn K (.ref a_agrees) = true)
    (g_agrees : PySem.W.nsIn K mainGlobals "_agrees" = some (some (.ref a_agrees)))
    {ac_agrees : Addr}
    (cc1_agrees : cd_agrees = .ref ac_agrees)
    (ch1_agrees : PySem.W.codeHdIn K ac_agrees (He.tabOf K ac_agrees) = true)
    (cn1_agrees : K.lookup (He.tabOf K ac_agrees) = none)
    {a_told : Addr}
    {od_told an_told : Option Addr} {sl_told : Array (Option Value)} {oc_told kV_told dc_told pm_told cd_told ct_told : Value}
    (l_told : K.lookup a_told = some ⟨oc_told, od_told, .func (PySem.W.fnOf "_told" "_told" (defArgs s_told) (defBody s_told) (defScope s_told) .none kV_told dc_told pm_told an_told cd_told ct_told), sl_told⟩)
    (c_told : PySem.W.codeIn K cd_told "_told" = true)
    (k_told : PySem.W.keepIn K (.ref a_told) = true)
    (g_told : PySem.W.nsIn K mainGlobals "_told" = some (some (.ref a_told)))
    {a_tie_after : Addr}
    {od_tie_after an_tie_after : Option Addr} {sl_tie_after : Array (Option Value)} {oc_tie_after kV_tie_after dc_tie_after pm_tie_after cd_tie_after ct_tie_after : Value}
    (l_tie_after : K.lookup a_tie_after = some ⟨oc_tie_after, od_tie_after, .func (PySem.W.fnOf "tie_after" "tie_after" (defArgs s_tie_after) (defBody s_tie_after) (defScope s_tie_after) .none kV_tie_after dc_tie_after pm_tie_after an_tie_after cd_tie_after ct_tie_after), sl_tie_after⟩)
    (c_tie_after : PySem.W.codeIn K cd_tie_after "tie_after" = true)
    (k_tie_after : PySem.W.keepIn K (.ref a_tie_after) = true)
    (g_tie_after : PySem.W.nsIn K mainGlobals "tie_after" = some (some (.ref a_tie_after)))
    {ac_tie_after : Addr}
    (cc1_tie_after : cd_tie_after = .ref ac_tie_after)
    (ch1_tie_after : PySem.W.codeHdIn K ac_tie_after (He.tabOf K ac_tie_after) = true)
    (cn1_tie_after : K.lookup (He.tabOf K ac_tie_after) = none)
    {a_tie_bad : Addr}
    {od_tie_bad an_tie_bad : Option Addr} {sl_tie_bad : Array (Option Value)} {oc_tie_bad kV_tie_bad dc_tie_bad pm_tie_bad cd_tie_bad ct_tie_bad : Value}
    (l_tie_bad : K.lookup a_tie_bad = some ⟨oc_tie_bad, od_tie_bad, .func (PySem.W.fnOf "tie_bad" "tie_bad" (defArgs s_tie_bad) (defBody s_tie_bad) (defScope s_tie_bad) .none kV_tie_bad dc_tie_bad pm_tie_bad an_tie_bad cd_tie_bad ct_tie_bad), sl_tie_bad⟩)
    (c_tie_bad : PySem.W.codeIn K cd_tie_bad "tie_bad" = true)
    (k_tie_bad : PySem.W.keepIn K (.ref a_tie_bad) = true)
    (g_tie_bad : PySem.W.nsIn K mainGlobals "tie_bad" = some (some (.ref a_tie_bad)))
    {ac_tie_bad : Addr}
    (cc1_tie_bad : cd_tie_bad = .ref ac_tie_bad)
    (ch1_tie_bad : PySem.W.codeHdIn K ac_tie_bad (He.tabOf K ac_tie_bad) = true)
    (cn1_tie_bad : K.lookup (He.tabOf K ac_tie_bad) = none)
    {a_numbered_names : Addr}
    {od_numbered_names an_numbered_names : Option Addr} {sl_numbered_names : Array (Option Value)} {oc_numbered_names kV_numbered_names dc_numbered_names pm_numbered_names cd_numbered_names ct_numbered_names : Value}
    (l_numbered_names : K.lookup a_numbered_names = some ⟨oc_numbered_names, od_numbered_names, .func (PySem.W.fnOf "numbered_names" "numbered_names" (defArgs s_numbered_names) (defBody s_numbered_names) (defScope s_numbered_names) .none kV_numbered_names dc_numbered_names pm_numbered_names an_numbered_names cd_numbered_names ct_numbered_names), sl_numbered_names⟩)
    (c_numbered_names : PySem.W.codeIn K cd_numbered_names "numbered_names" = true)
    (k_numbered_names : PySem.W.keepIn K (.ref a_numbered_names) = true)
    (g_numbered_names : PySem.W.nsIn K mainGlobals "numbered_names" = some (some (.ref a_numbered_names)))
    {a_Lfeed : Addr}
    {od_Lfeed an_Lfeed : Option Addr} {sl_Lfeed : Array (Option Value)} {oc_Lfeed kV_Lfeed dc_Lfeed pm_Lfeed cd_Lfeed ct_Lfeed : Value}
    (l_Lfeed : K.lookup a_Lfeed = some ⟨oc_Lfeed, od_Lfeed, .func (PySem.W.fnOf "_law_feed" "_law_feed" (defArgs s_Lfeed) (defBody s_Lfeed) (defScope s_Lfeed) .none kV_Lfeed dc_Lfeed pm_Lfeed an_Lfeed cd_Lfeed ct_Lfeed), sl_Lfeed⟩)
    (c_Lfeed : PySem.W.codeIn K cd_Lfeed "_law_feed" = true)
    (k_Lfeed : PySem.W.keepIn K (.ref a_Lfeed) = true)
    (g_Lfeed : PySem.W.nsIn K mainGlobals "_law_feed" = some (some (.ref a_Lfeed)))
    {a_Lpick : Addr}
    {od_Lpick an_Lpick : Option Addr} {sl_Lpick : Array (Option Value)} {oc_Lpick kV_Lpick dc_Lpick pm_Lpick cd_Lpick ct_Lpick : Value}
    (l_Lpick : K.lookup a_Lpick = some ⟨oc_Lpick, od_Lpick, .func (PySem.W.fnOf "_law_pick" "_law_pick" (defArgs s_Lpick) (defBody s_Lpick) (defScope s_Lpick) .none kV_Lpick dc_Lpick pm_Lpick an_Lpick cd_Lpick ct_Lpick), sl_Lpick⟩)
    (c_Lpick : PySem.W.codeIn K cd_Lpick "_law_pick" = true)
    (k_Lpick : PySem.W.keepIn K (.ref a_Lpick) = true)
    (g_Lpick : PySem.W.nsIn K mainGlobals "_law_pick" = some (some (.ref a_Lpick)))
    {a_Lrules : Addr}
    {od_Lrules an_Lrules : Option Addr} {sl_Lrules : Array (Option Value)} {oc_Lrules kV_Lrules dc_Lrules pm_Lrules cd_Lrules ct_Lrules : Value}
    (l_Lrules : K.lookup a_Lrules = some ⟨oc_Lrules, od_Lrules, .func (PySem.W.fnOf "_law_rules" "_law_rules" (defArgs s_Lrules) (defBody s_Lrules) (defScope s_Lrules) .none kV_Lrules dc_Lrules pm_Lrules an_Lrules cd_Lrules ct_Lrules), sl_Lrules⟩)
    (c_Lrules : PySem.W.codeIn K cd_Lrules "_law_rules" = true)
    (k_Lrules : PySem.W.keepIn K (.ref a_Lrules) = true)
    (g_Lrules : PySem.W.nsIn K mainGlobals "_law_rules" = some (some (.ref a_Lrules)))
    {a_Lletters : Addr}
    {od_Lletters an_Lletters : Option Addr} {sl_Lletters : Array (Option Value)} {oc_Lletters kV_Lletters dc_Lletters pm_Lletters cd_Lletters ct_Lletters : Value}
    (l_Lletters : K.lookup a_Lletters = some ⟨oc_Lletters, od_Lletters, .func (PySem.W.fnOf "_law_letters" "_law_letters" (defArgs s_Lletters) (defBody s_Lletters) (defScope s_Lletters) .none kV_Lletters dc_Lletters pm_Lletters an_Lletters cd_Lletters ct_Lletters), sl_Lletters⟩)
    (c_Lletters : PySem.W.codeIn K cd_Lletters "_law_letters" = true)
    (k_Lletters : PySem.W.keepIn K (.ref a_Lletters) = true)
    (g_Lletters : PySem.W.nsIn K mainGlobals "_law_letters" = some (some (.ref a_Lletters)))
    {a_Lput : Addr}
    {od_Lput an_Lput : Option Addr} {sl_Lput : Array (Option Value)} {oc_Lput kV_Lput dc_Lput pm_Lput cd_Lput ct_Lput : Value}
    (l_Lput : K.lookup a_Lput = some ⟨oc_Lput, od_Lput, .func (PySem.W.fnOf "_law_put" "_law_put" (defArgs s_Lput) (defBody s_Lput) (defScope s_Lput) .none kV_Lput dc_Lput pm_Lput an_Lput cd_Lput ct_Lput), sl_Lput⟩)
    (c_Lput : PySem.W.codeIn K cd_Lput "_law_put" = true)
    (k_Lput : PySem.W.keepIn K (.ref a_Lput) = true)
    (g_Lput : PySem.W.nsIn K mainGlobals "_law_put" = some (some (.ref a_Lput)))
    {a_Lelder : Addr}
    {od_Lelder an_Lelder : Option Addr} {sl_Lelder : Array (Option Value)} {oc_Lelder kV_Lelder dc_Lelder pm_Lelder cd_Lelder ct_Lelder : Value}
    (l_Lelder : K.lookup a_Lelder = some ⟨oc_Lelder, od_Lelder, .func (PySem.W.fnOf "_law_elder" "_law_elder" (defArgs s_Lelder) (defBody s_Lelder) (defScope s_Lelder) .none kV_Lelder dc_Lelder pm_Lelder an_Lelder cd_Lelder ct_Lelder), sl_Lelder⟩)
    (c_Lelder : PySem.W.codeIn K cd_Lelder "_law_elder" = true)
    (k_Lelder : PySem.W.keepIn K (.ref a_Lelder) = true)
    (g_Lelder : PySem.W.nsIn K mainGlobals "_law_elder" = some (some (.ref a_Lelder)))
    {a_Lout : Addr}
    {od_Lout an_Lout : Option Addr} {sl_Lout : Array (Option Value)} {oc_Lout kV_Lout dc_Lout pm_Lout cd_Lout ct_Lout : Value}
    (l_Lout : K.lookup a_Lout = some ⟨oc_Lout, od_Lout, .func (PySem.W.fnOf "_law_out" "_law_out" (defArgs s_Lout) (defBody s_Lout) (defScope s_Lout) .none kV_Lout dc_Lout pm_Lout an_Lout cd_Lout ct_Lout), sl_Lout⟩)
    (c_Lout : PySem.W.codeIn K cd_Lout "_law_out" = true)
    (k_Lout : PySem.W.keepIn K (.ref a_Lout) = true)
    (g_Lout : PySem.W.nsIn K mainGlobals "_law_out" = some (some (.ref a_Lout)))
    {a_Lnamed : Addr}
    {od_Lnamed an_Lnamed : Option Addr} {sl_Lnamed : Array (Option Value)} {oc_Lnamed kV_Lnamed dc_Lnamed pm_Lnamed cd_Lnamed ct_Lnamed : Value}
    (l_Lnamed : K.lookup a_Lnamed = some ⟨oc_Lnamed, od_Lnamed, .func (PySem.W.fnOf "_law_named" "_law_named" (defArgs s_Lnamed) (defBody s_Lnamed) (defScope s_Lnamed) .none kV_Lnamed dc_Lnamed pm_Lnamed an_Lnamed cd_Lnamed ct_Lnamed), sl_Lnamed⟩)
    (c_Lnamed : PySem.W.codeIn K cd_Lnamed "_law_named" = true)
    (k_Lnamed : PySem.W.keepIn K (.ref a_Lnamed) = true)
    (g_Lnamed : PySem.W.nsIn K mainGlobals "_law_named" = some (some (.ref a_Lnamed)))
    {a_Lafter : Addr}
    {od_Lafter an_Lafter : Option Addr} {sl_Lafter : Array (Option Value)} {oc_Lafter kV_Lafter dc_Lafter pm_Lafter cd_Lafter ct_Lafter : Value}
    (l_Lafter : K.lookup a_Lafter = some ⟨oc_Lafter, od_Lafter, .func (PySem.W.fnOf "_law_after" "_law_after" (defArgs s_Lafter) (defBody s_Lafter) (defScope s_Lafter) .none kV_Lafter dc_Lafter pm_Lafter an_Lafter cd_Lafter ct_Lafter), sl_Lafter⟩)
    (c_Lafter : PySem.W.codeIn K cd_Lafter "_law_after" = true)
    (k_Lafter : PySem.W.keepIn K (.ref a_Lafter) = true)
    (g_Lafter : PySem.W.nsIn K mainGlobals "_law_after" = some (some (.ref a_Lafter)))
    {a_Lbad : Addr}
    {od_Lbad an_Lbad : Option Addr} {sl_Lbad : Array (Option Value)} {oc_Lbad kV_Lbad dc_Lbad pm_Lbad cd_Lbad ct_Lbad : Value}
    (l_Lbad : K.lookup a_Lbad = some ⟨oc_Lbad, od_Lbad, .func (PySem.W.fnOf "_law_bad" "_law_bad" (defArgs s_Lbad) (defBody s_Lbad) (defScope s_Lbad) .none kV_Lbad dc_Lbad pm_Lbad an_Lbad cd_Lbad ct_Lbad), sl_Lbad⟩)
    (c_Lbad : PySem.W.codeIn K cd_Lbad "_law_bad" = true)
    (k_Lbad : PySem.W.keepIn K (.ref a_Lbad) = true)
    (g_Lbad : PySem.W.nsIn K mainGlobals "_law_bad" = some (some (.ref a_Lbad)))
    {a_Lnumber : Addr}
    {od_Lnumber an_Lnumber : Option Addr} {sl_Lnumber : Array (Option Value)} {oc_Lnumber kV_Lnumber dc_Lnumber pm_Lnumber cd_Lnumber ct_Lnumber : Value}
    (l_Lnumber : K.lookup a_Lnumber = some ⟨oc_Lnumber, od_Lnumber, .func (PySem.W.fnOf "_law_number" "_law_number" (defArgs s_Lnumber) (defBody s_Lnumber) (defScope s_Lnumber) .none kV_Lnumber dc_Lnumber pm_Lnumber an_Lnumber cd_Lnumber ct_Lnumber), sl_Lnumber⟩)
    (c_Lnumber : PySem.W.codeIn K cd_Lnumber "_law_number" = true)
    (k_Lnumber : PySem.W.keepIn K (.ref a_Lnumber) = true)
    (g_Lnumber : PySem.W.nsIn K mainGlobals "_law_number" = some (some (.ref a_Lnumber)))
    {a_Lrow : Addr}
    {od_Lrow an_Lrow : Option Addr} {sl_Lrow : Array (Option Value)} {oc_Lrow kV_Lrow dc_Lrow pm_Lrow cd_Lrow ct_Lrow : Value}
    (l_Lrow : K.lookup a_Lrow = some ⟨oc_Lrow, od_Lrow, .func (PySem.W.fnOf "_law_row" "_law_row" (defArgs s_Lrow) (defBody s_Lrow) (defScope s_Lrow) .none kV_Lrow dc_Lrow pm_Lrow an_Lrow cd_Lrow ct_Lrow), sl_Lrow⟩)
    (c_Lrow : PySem.W.codeIn K cd_Lrow "_law_row" = true)
    (k_Lrow : PySem.W.keepIn K (.ref a_Lrow) = true)
    (g_Lrow : PySem.W.nsIn K mainGlobals "_law_row" = some (some (.ref a_Lrow)))
    {a_Lsame : Addr}
    {od_Lsame an_Lsame : Option Addr} {sl_Lsame : Array (Option Value)} {oc_Lsame kV_Lsame dc_Lsame pm_Lsame cd_Lsame ct_Lsame : Value}
    (l_Lsame : K.lookup a_Lsame = some ⟨oc_Lsame, od_Lsame, .func (PySem.W.fnOf "_law_same" "_law_same" (defArgs s_Lsame) (defBody s_Lsame) (defScope s_Lsame) .none kV_Lsame dc_Lsame pm_Lsame an_Lsame cd_Lsame ct_Lsame), sl_Lsame⟩)
    (c_Lsame : PySem.W.codeIn K cd_Lsame "_law_same" = true)
    (k_Lsame : PySem.W.keepIn K (.ref a_Lsame) = true)
    (g_Lsame : PySem.W.nsIn K mainGlobals "_law_same" = some (some (.ref a_Lsame)))
    {a_Ltruth : Addr}
    {od_Ltruth an_Ltruth : Option Addr} {sl_Ltruth : Array (Option Value)} {oc_Ltruth kV_Ltruth dc_Ltruth pm_Ltruth cd_Ltruth ct_Ltruth : Value}
    (l_Ltruth : K.lookup a_Ltruth = some ⟨oc_Ltruth, od_Ltruth, .func (PySem.W.fnOf "_law_truth" "_law_truth" (defArgs s_Ltruth) (defBody s_Ltruth) (defScope s_Ltruth) .none kV_Ltruth dc_Ltruth pm_Ltruth an_Ltruth cd_Ltruth ct_Ltruth), sl_Ltruth⟩)
    (c_Ltruth : PySem.W.codeIn K cd_Ltruth "_law_truth" = true)
    (k_Ltruth : PySem.W.keepIn K (.ref a_Ltruth) = true)
    (g_Ltruth : PySem.W.nsIn K mainGlobals "_law_truth" = some (some (.ref a_Ltruth)))
    {a_Lstanding : Addr}
    {od_Lstanding an_Lstanding : Option Addr} {sl_Lstanding : Array (Option Value)} {oc_Lstanding kV_Lstanding dc_Lstanding pm_Lstanding cd_Lstanding ct_Lstanding : Value}
    (l_Lstanding : K.lookup a_Lstanding = some ⟨oc_Lstanding, od_Lstanding, .func (PySem.W.fnOf "_law_standing" "_law_standing" (defArgs s_Lstanding) (defBody s_Lstanding) (defScope s_Lstanding) .none kV_Lstanding dc_Lstanding pm_Lstanding an_Lstanding cd_Lstanding ct_Lstanding), sl_Lstanding⟩)
    (c_Lstanding : PySem.W.codeIn K cd_Lstanding "_law_standing" = true)
    (k_Lstanding : PySem.W.keepIn K (.ref a_Lstanding) = true)
    (g_Lstanding : PySem.W.nsIn K mainGlobals "_law_standing" = some (some (.ref a_Lstanding)))
    {a_law : Addr}
    {od_law an_law : Option Addr} {sl_law : Array (Option Value)} {oc_law kV_law dc_law pm_law cd_law ct_law : Value}
    (l_law : K.lookup a_law = some ⟨oc_law, od_law, .func (PySem.W.fnOf "law" "law" (defArgs s_law) (defBody s_law) (defScope s_law) .none kV_law dc_law pm_law an_law cd_law ct_law), sl_law⟩)
    (c_law : PySem.W.codeIn K cd_law "law" = true)
    (k_law : PySem.W.keepIn K (.ref a_law) = true)
    (g_law : PySem.W.nsIn K mainGlobals "law" = some (some (.ref a_law)))
    {a_RuleSet___init__ : Addr}
    {od_RuleSet___init__ an_RuleSet___init__ : Option Addr} {sl_RuleSet___init__ : Array (Option Value)} {oc_RuleSet___init__ kV_RuleSet___init__ dc_RuleSet___init__ pm_RuleSet___init__ cd_RuleSet___init__ ct_RuleSet___init__ : Value}
    (l_RuleSet___init__ : K.lookup a_RuleSet___init__ = some ⟨oc_RuleSet___init__, od_RuleSet___init__, .func (PySem.W.fnOf "__init__" "RuleSet.__init__" (defArgs s_RuleSet___init__) (defBody s_RuleSet___init__) (defScope s_RuleSet___init__) .none kV_RuleSet___init__ dc_RuleSet___init__ pm_RuleSet___init__ an_RuleSet___init__ cd_RuleSet___init__ ct_RuleSet___init__), sl_RuleSet___init__⟩)
    (c_RuleSet___init__ : PySem.W.codeIn K cd_RuleSet___init__ "RuleSet.__init__" = true)
    (k_RuleSet___init__ : PySem.W.keepIn K (.ref a_RuleSet___init__) = true)
    {a_RuleSet___contains__ : Addr}
    {od_RuleSet___contains__ an_RuleSet___contains__ : Option Addr} {sl_RuleSet___contains__ : Array (Option Value)} {oc_RuleSet___contains__ kV_RuleSet___contains__ dc_RuleSet___contains__ pm_RuleSet___contains__ cd_RuleSet___contains__ ct_RuleSet___contains__ : Value}
    (l_RuleSet___contains__ : K.lookup a_RuleSet___contains__ = some ⟨oc_RuleSet___contains__, od_RuleSet___contains__, .func (PySem.W.fnOf "__contains__" "RuleSet.__contains__" (defArgs s_RuleSet___contains__) (defBody s_RuleSet___contains__) (defScope s_RuleSet___contains__) .none kV_RuleSet___contains__ dc_RuleSet___contains__ pm_RuleSet___contains__ an_RuleSet___contains__ cd_RuleSet___contains__ ct_RuleSet___contains__), sl_RuleSet___contains__⟩)
    (c_RuleSet___contains__ : PySem.W.codeIn K cd_RuleSet___contains__ "RuleSet.__contains__" = true)
    (k_RuleSet___contains__ : PySem.W.keepIn K (.ref a_RuleSet___contains__) = true)
    {a_TieBook_of_number : Addr}
    {od_TieBook_of_number an_TieBook_of_number : Option Addr} {sl_TieBook_of_number : Array (Option Value)} {oc_TieBook_of_number kV_TieBook_of_number dc_TieBook_of_number pm_TieBook_of_number cd_TieBook_of_number ct_TieBook_of_number : Value}
    (l_TieBook_of_number : K.lookup a_TieBook_of_number = some ⟨oc_TieBook_of_number, od_TieBook_of_number, .func (PySem.W.fnOf "of_number" "TieBook.of_number" (defArgs s_TieBook_of_number) (defBody s_TieBook_of_number) (defScope s_TieBook_of_number) .none kV_TieBook_of_number dc_TieBook_of_number pm_TieBook_of_number an_TieBook_of_number cd_TieBook_of_number ct_TieBook_of_number), sl_TieBook_of_number⟩)
    (c_TieBook_of_number : PySem.W.codeIn K cd_TieBook_of_number "TieBook.of_number" = true)
    (k_TieBook_of_number : PySem.W.keepIn K (.ref a_TieBook_of_number) = true)
    {aC_TieBook : Addr}
    (g_TieBook : PySem.W.nsIn K mainGlobals "TieBook" = some (some (.ref aC_TieBook)))
    (pg_TieBook : PySem.W.plainGet K aC_TieBook Str.empty = true)
    (hd_TieBook : PySem.W.hasDictIn K aC_TieBook = true)
    (po_TieBook : PySem.W.plainOver K aC_TieBook = true)
    (sa_TieBook : PySem.W.findIn K (.ref aC_TieBook) "__setattr__" = some (some (.builtin "object.__setattr__")))
    (n_TieBook_names : PySem.W.findIn K (.ref aC_TieBook) "names" = some none)
    (n_TieBook_number : PySem.W.findIn K (.ref aC_TieBook) "number" = some none)
    {mcv_TieBook : Value}
    (tp_TieBook : PySem.W.typeIn K (.ref aC_TieBook) = some mcv_TieBook)
    (rd_TieBook : PySem.W.readsIn K aC_TieBook mcv_TieBook = true)
    (ga_TieBook : PySem.W.specialIn K (.ref aC_TieBook) "__getattribute__" = some (some (.builtin "type.__getattribute__")))
    {tA_TieBook_RULES : Addr}
    {tod_TieBook_RULES : Option Addr} {tsl_TieBook_RULES : Array (Option Value)} {tn_TieBook_RULES : Nat} {tits_TieBook_RULES : Array Value}
    (tk_TieBook_RULES : K.lookup tA_TieBook_RULES = some ⟨.type "tuple", tod_TieBook_RULES, .seq tits_TieBook_RULES tn_TieBook_RULES, tsl_TieBook_RULES⟩)
    (tr_TieBook_RULES : Rg.relAllS [.str "first", .str "after", .str "keep", .str "numbered", .str "told"] tits_TieBook_RULES.toList = true)
    (tv1_TieBook_RULES : PySem.W.findCls K (.ref aC_TieBook) mcv_TieBook "RULES" = some (.val (.ref tA_TieBook_RULES)))
    (tc1_TieBook_RULES : PySem.W.findIn K (.ref aC_TieBook) "RULES" = some (some (.ref tA_TieBook_RULES)))
    (tc2_TieBook_RULES : PySem.W.specialIn K (.ref tA_TieBook_RULES) "__get__" = some none)
    {sp_TieBook_of_number : Addr} {sr_TieBook_of_number : List Value}
    (s1_TieBook_of_number : PySem.W.findCls K (.ref aC_TieBook) mcv_TieBook "of_number" = some (.get (.builtin "staticmethod.__get__") (.ref sp_TieBook_of_number) .none (.ref aC_TieBook)))
    (s2_TieBook_of_number : PySem.W.recIn K sp_TieBook_of_number "staticmethod" = some (.ref a_TieBook_of_number :: sr_TieBook_of_number))
    {aC_BadValue : Addr}
    (g_BadValue : PySem.W.nsIn K mainGlobals "BadValue" = some (some (.ref aC_BadValue)))
    (be1_BadValue : PySem.W.subIn K (.ref aC_BadValue) (.type "BaseException") = some true)
    (te1_BadValue : PySem.W.typeIn K (.ref aC_BadValue) = some (.type "type"))
    (ie1_BadValue : PySem.W.isClsIn K aC_BadValue = true)
    (xe1_BadValue : PySem.W.excIn K aC_BadValue [.type "ValueError", .type "Exception", .type "BaseException", .type "object"] "ValueError.__new__" = true)
    (ke1_BadValue : PySem.W.keepIn K (.ref aC_BadValue) = true)
    (ec1_BadValue : PySem.W.findIn K (.ref aC_BadValue) "__getattribute__" = some (some (.builtin "BaseException.__getattribute__")))
    (ec2_BadValue : PySem.W.findIn K (.ref aC_BadValue) "__getattr__" = some none)
    (ec4_BadValue : PySem.W.hasDictIn K aC_BadValue = true)
    (ec5_BadValue : PySem.W.findIn K (.ref aC_BadValue) "__class__" = some (some (.builtin "object.__class__")))
    (ec6_BadValue : PySem.W.specialIn K (.builtin "object.__class__") "__get__" = some (some (.builtin "getset_descriptor.__get__")))
    (ec7_BadValue : PySem.W.takesIn K (.builtin "object.__class__") = some true)
    (ec8_BadValue : PySem.W.mroIn K aC_BadValue (.type "object") = some true)
    {t_UNRECORDED : Tok}
    (gc_UNRECORDED : PySem.W.nsIn K mainGlobals "UNRECORDED" = some (some (.str "u" t_UNRECORDED)))
    {t_NONE : Tok}
    (gc_NONE : PySem.W.nsIn K mainGlobals "NONE" = some (some (.str "-" t_NONE)))
    {t_NEW : Tok}
    (gc_NEW : PySem.W.nsIn K mainGlobals "NEW" = some (some (.str "n" t_NEW)))
    {t_OLD : Tok}
    (gc_OLD : PySem.W.nsIn K mainGlobals "OLD" = some (some (.str "o" t_OLD)))
    {gA_MOVES : Addr}
    (g_MOVES : PySem.W.nsIn K mainGlobals "MOVES" = some (some (.ref gA_MOVES)))
    (gd1_MOVES_make : PySem.W.nsIn K gA_MOVES "make" = some (some (.ref a_make)))
    (gd1_MOVES_link : PySem.W.nsIn K gA_MOVES "link" = some (some (.ref a_link)))
    (gd1_MOVES_drop : PySem.W.nsIn K gA_MOVES "drop" = some (some (.ref a_drop)))
    (gd1_MOVES_move : PySem.W.nsIn K gA_MOVES "move" = some (some (.ref a_move)))
    (gd1_MOVES_out_node : PySem.W.nsIn K gA_MOVES "out_node" = some (some (.ref a_out_node)))
    (gd1_MOVES_out_entry : PySem.W.nsIn K gA_MOVES "out_entry" = some (some (.ref a_out_entry)))
    (gd1_MOVES_told : PySem.W.nsIn K gA_MOVES "told" = some (some (.ref a_told)))
    (mk1_TieBook : PySem.W.makesIn K aC_TieBook = true)
    (mk2_TieBook : PySem.W.findIn K (.ref aC_TieBook) "__init__" = some (some (.ref a_RuleSet___init__)))
    (mk3_TieBook : PySem.W.isFn K (.ref a_RuleSet___init__) = true)
    (mk4_TieBook : PySem.W.keepIn K (.ref aC_TieBook) = true)
    (bm1_contains : PySem.W.findIn K (.ref aC_TieBook) "__contains__" = some (some (.ref a_RuleSet___contains__)))
    (bm2_contains : PySem.W.isFn K (.ref a_RuleSet___contains__) = true)
    (nb_abs : PySem.W.nsIn K mainGlobals "abs" = some none)
    (nb_all : PySem.W.nsIn K mainGlobals "all" = some none)
    (nb_any : PySem.W.nsIn K mainGlobals "any" = some none)
    (nb_bool : PySem.W.nsIn K mainGlobals "bool" = some none)
    (nb_enumerate : PySem.W.nsIn K mainGlobals "enumerate" = some none)
    (nb_int : PySem.W.nsIn K mainGlobals "int" = some none)
    (nb_isinstance : PySem.W.nsIn K mainGlobals "isinstance" = some none)
    (nb_len : PySem.W.nsIn K mainGlobals "len" = some none)
    (nb_list : PySem.W.nsIn K mainGlobals "list" = some none)
    (nb_range : PySem.W.nsIn K mainGlobals "range" = some none)
    (nb_str : PySem.W.nsIn K mainGlobals "str" = some none)
    (nb_sum : PySem.W.nsIn K mainGlobals "sum" = some none)
    (nb_tuple : PySem.W.nsIn K mainGlobals "tuple" = some none)
    (nb_zip : PySem.W.nsIn K mainGlobals "zip" = some none)
    (dw_MOVES : He.dicW K gA_MOVES = some (He.keysIn w.params ["make", "link", "drop", "move", "out_node", "out_entry", "told"]))
    : ∃ T : Tx K mg, Tw T w := ⟨{
      f_with := a_with,
      fd_with := PySem.W.fnOf "_with" "_with" (defArgs s_with) (defBody s_with) (defScope s_with) .none kV_with dc_with pm_with an_with cd_with ct_with,
      F_with := fun_mk (st := s_with) l_with c_with k_with,
      mg_with := PySem.W.mg_of X G g_with,
      f_aged := a_aged,
      fd_aged := PySem.W.fnOf "_aged" "_aged" (defArgs s_aged) (defBody s_aged) (defScope s_aged) .none kV_aged dc_aged pm_aged an_aged cd_aged ct_aged,
      F_aged := fun_mk (st := s_aged) l_aged c_aged k_aged,
      mg_aged := PySem.W.mg_of X G g_aged,
      f_tie_start := a_tie_start,
      fd_tie_start := PySem.W.fnOf "tie_start" "tie_start" (defArgs s_tie_start) (defBody s_tie_start) (defScope s_tie_start) .none kV_tie_start dc_tie_start pm_tie_start an_tie_start cd_tie_start ct_tie_start,
      F_tie_start := fun_mk (st := s_tie_start) l_tie_start c_tie_start k_tie_start,
      mg_tie_start := PySem.W.mg_of X G g_tie_start,
      f_tie_letters := a_tie_letters,
      fd_tie_letters := PySem.W.fnOf "tie_letters" "tie_letters" (defArgs s_tie_letters) (defBody s_tie_letters) (defScope s_tie_letters) .none kV_tie_letters dc_tie_letters pm_tie_letters an_tie_letters cd_tie_letters ct_tie_letters,
      F_tie_letters := fun_mk (st := s_tie_letters) l_tie_letters c_tie_letters k_tie_letters,
      mg_tie_letters := PySem.W.mg_of X G g_tie_letters,
      f_make := a_make,
      fd_make := PySem.W.fnOf "_make" "_make" (defArgs s_make) (defBody s_make) (defScope s_make) .none kV_make dc_make pm_make an_make cd_make ct_make,
      F_make := fun_mk (st := s_make) l_make c_make k_make,
      mg_make := PySem.W.mg_of X G g_make,
      cc_make := ac_make,
      P_make := He.tabOf K ac_make,
      code_make := cc1_make,
      ch_make := ch1_make,
      cn_make := cn1_make,
      f_link := a_link,
      fd_link := PySem.W.fnOf "_link" "_link" (defArgs s_link) (defBody s_link) (defScope s_link) .none kV_link dc_link pm_link an_link cd_link ct_link,
      F_link := fun_mk (st := s_link) l_link c_link k_link,
      mg_link := PySem.W.mg_of X G g_link,
      f_drop := a_drop,
      fd_drop := PySem.W.fnOf "_drop" "_drop" (defArgs s_drop) (defBody s_drop) (defScope s_drop) .none kV_drop dc_drop pm_drop an_drop cd_drop ct_drop,
      F_drop := fun_mk (st := s_drop) l_drop c_drop k_drop,
      mg_drop := PySem.W.mg_of X G g_drop,
      f_move := a_move,
      fd_move := PySem.W.fnOf "_move" "_move" (defArgs s_move) (defBody s_move) (defScope s_move) .none kV_move dc_move pm_move an_move cd_move ct_move,
      F_move := fun_mk (st := s_move) l_move c_move k_move,
      mg_move := PySem.W.mg_of X G g_move,
      f_out_node := a_out_node,
      fd_out_node := PySem.W.fnOf "_out_node" "_out_node" (defArgs s_out_node) (defBody s_out_node) (defScope s_out_node) .none kV_out_node dc_out_node pm_out_node an_out_node cd_out_node ct_out_node,
      F_out_node := fun_mk (st := s_out_node) l_out_node c_out_node k_out_node,
      mg_out_node := PySem.W.mg_of X G g_out_node,
      f_keeps_mark := a_keeps_mark,
      fd_keeps_mark := PySem.W.fnOf "_keeps_mark" "_keeps_mark" (defArgs s_keeps_mark) (defBody s_keeps_mark) (defScope s_keeps_mark) .none kV_keeps_mark dc_keeps_mark pm_keeps_mark an_keeps_mark cd_keeps_mark ct_keeps_mark,
      F_keeps_mark := fun_mk (st := s_keeps_mark) l_keeps_mark c_keeps_mark k_keeps_mark,
      mg_keeps_mark := PySem.W.mg_of X G g_keeps_mark,
      cc_keeps_mark := ac_keeps_mark,
      P_keeps_mark := He.tabOf K ac_keeps_mark,
      code_keeps_mark := cc1_keeps_mark,
      ch_keeps_mark := ch1_keeps_mark,
      cn_keeps_mark := cn1_keeps_mark,
      f_out_entry := a_out_entry,
      fd_out_entry := PySem.W.fnOf "_out_entry" "_out_entry" (defArgs s_out_entry) (defBody s_out_entry) (defScope s_out_entry) .none kV_out_entry dc_out_entry pm_out_entry an_out_entry cd_out_entry ct_out_entry,
      F_out_entry := fun_mk (st := s_out_entry) l_out_entry c_out_entry k_out_entry,
      mg_out_entry := PySem.W.mg_of X G g_out_entry,
      f_agrees := a_agrees,
      fd_agrees := PySem.W.fnOf "_agrees" "_agrees" (defArgs s_agrees) (defBody s_agrees) (defScope s_agrees) .none kV_agrees dc_agrees pm_agrees an_agrees cd_agrees ct_agrees,
      F_agrees := fun_mk (st := s_agrees) l_agrees c_agrees k_agrees,
      mg_agrees := PySem.W.mg_of X G g_agrees,
      cc_agrees := ac_agrees,
      P_agrees := He.tabOf K ac_agrees,
      code_agrees := cc1_agrees,
      ch_agrees := ch1_agrees,
      cn_agrees := cn1_agrees,
      f_told := a_told,
      fd_told := PySem.W.fnOf "_told" "_told" (defArgs s_told) (defBody s_told) (defScope s_told) .none kV_told dc_told pm_told an_told cd_told ct_told,
      F_told := fun_mk (st := s_told) l_told c_told k_told,
      mg_told := PySem.W.mg_of X G g_told,
      f_tie_after := a_tie_after,
      fd_tie_after := PySem.W.fnOf "tie_after" "tie_after" (defArgs s_tie_after) (defBody s_tie_after) (defScope s_tie_after) .none kV_tie_after dc_tie_after pm_tie_after an_tie_after cd_tie_after ct_tie_after,
      F_tie_after := fun_mk (st := s_tie_after) l_tie_after c_tie_after k_tie_after,
      mg_tie_after := PySem.W.mg_of X G g_tie_after,
      cc_tie_after := ac_tie_after,
      P_tie_after := He.tabOf K ac_tie_after,
      code_tie_after := cc1_tie_after,
      ch_tie_after := ch1_tie_after,
      cn_tie_after := cn1_tie_after,
      f_tie_bad := a_tie_bad,
      fd_tie_bad := PySem.W.fnOf "tie_bad" "tie_bad" (defArgs s_tie_bad) (defBody s_tie_bad) (defScope s_tie_bad) .none kV_tie_bad dc_tie_bad pm_tie_bad an_tie_bad cd_tie_bad ct_tie_bad,
      F_tie_bad := fun_mk (st := s_tie_bad) l_tie_bad c_tie_bad k_tie_bad,
      mg_tie_bad := PySem.W.mg_of X G g_tie_bad,
      cc_tie_bad := ac_tie_bad,
      P_tie_bad := He.tabOf K ac_tie_bad,
      code_tie_bad := cc1_tie_bad,
      ch_tie_bad := ch1_tie_bad,
      cn_tie_bad := cn1_tie_bad,
      f_numbered_names := a_numbered_names,
      fd_numbered_names := PySem.W.fnOf "numbered_names" "numbered_names" (defArgs s_numbered_names) (defBody s_numbered_names) (defScope s_numbered_names) .none kV_numbered_names dc_numbered_names pm_numbered_names an_numbered_names cd_numbered_names ct_numbered_names,
      F_numbered_names := fun_mk (st := s_numbered_names) l_numbered_names c_numbered_names k_numbered_names,
      mg_numbered_names := PySem.W.mg_of X G g_numbered_names,
      f_Lfeed := a_Lfeed,
      fd_Lfeed := PySem.W.fnOf "_law_feed" "_law_feed" (defArgs s_Lfeed) (defBody s_Lfeed) (defScope s_Lfeed) .none kV_Lfeed dc_Lfeed pm_Lfeed an_Lfeed cd_Lfeed ct_Lfeed,
      F_Lfeed := fun_mk (st := s_Lfeed) l_Lfeed c_Lfeed k_Lfeed,
      mg_Lfeed := PySem.W.mg_of X G g_Lfeed,
      f_Lpick := a_Lpick,
      fd_Lpick := PySem.W.fnOf "_law_pick" "_law_pick" (defArgs s_Lpick) (defBody s_Lpick) (defScope s_Lpick) .none kV_Lpick dc_Lpick pm_Lpick an_Lpick cd_Lpick ct_Lpick,
      F_Lpick := fun_mk (st := s_Lpick) l_Lpick c_Lpick k_Lpick,
      mg_Lpick := PySem.W.mg_of X G g_Lpick,
      f_Lrules := a_Lrules,
      fd_Lrules := PySem.W.fnOf "_law_rules" "_law_rules" (defArgs s_Lrules) (defBody s_Lrules) (defScope s_Lrules) .none kV_Lrules dc_Lrules pm_Lrules an_Lrules cd_Lrules ct_Lrules,
      F_Lrules := fun_mk (st := s_Lrules) l_Lrules c_Lrules k_Lrules,
      mg_Lrules := PySem.W.mg_of X G g_Lrules,
      f_Lletters := a_Lletters,
      fd_Lletters := PySem.W.fnOf "_law_letters" "_law_letters" (defArgs s_Lletters) (defBody s_Lletters) (defScope s_Lletters) .none kV_Lletters dc_Lletters pm_Lletters an_Lletters cd_Lletters ct_Lletters,
      F_Lletters := fun_mk (st := s_Lletters) l_Lletters c_Lletters k_Lletters,
      mg_Lletters := PySem.W.mg_of X G g_Lletters,
      f_Lput := a_Lput,
      fd_Lput := PySem.W.fnOf "_law_put" "_law_put" (defArgs s_Lput) (defBody s_Lput) (defScope s_Lput) .none kV_Lput dc_Lput pm_Lput an_Lput cd_Lput ct_Lput,
      F_Lput := fun_mk (st := s_Lput) l_Lput c_Lput k_Lput,
      mg_Lput := PySem.W.mg_of X G g_Lput,
      f_Lelder := a_Lelder,
      fd_Lelder := PySem.W.fnOf "_law_elder" "_law_elder" (defArgs s_Lelder) (defBody s_Lelder) (defScope s_Lelder) .none kV_Lelder dc_Lelder pm_Lelder an_Lelder cd_Lelder ct_Lelder,
      F_Lelder := fun_mk (st := s_Lelder) l_Lelder c_Lelder k_Lelder,
      mg_Lelder := PySem.W.mg_of X G g_Lelder,
      f_Lout := a_Lout,
      fd_Lout := PySem.W.fnOf "_law_out" "_law_out" (defArgs s_Lout) (defBody s_Lout) (defScope s_Lout) .none kV_Lout dc_Lout pm_Lout an_Lout cd_Lout ct_Lout,
      F_Lout := fun_mk (st := s_Lout) l_Lout c_Lout k_Lout,
      mg_Lout := PySem.W.mg_of X G g_Lout,
      f_Lnamed := a_Lnamed,
      fd_Lnamed := PySem.W.fnOf "_law_named" "_law_named" (defArgs s_Lnamed) (defBody s_Lnamed) (defScope s_Lnamed) .none kV_Lnamed dc_Lnamed pm_Lnamed an_Lnamed cd_Lnamed ct_Lnamed,
      F_Lnamed := fun_mk (st := s_Lnamed) l_Lnamed c_Lnamed k_Lnamed,
      mg_Lnamed := PySem.W.mg_of X G g_Lnamed,
      f_Lafter := a_Lafter,
      fd_Lafter := PySem.W.fnOf "_law_after" "_law_after" (defArgs s_Lafter) (defBody s_Lafter) (defScope s_Lafter) .none kV_Lafter dc_Lafter pm_Lafter an_Lafter cd_Lafter ct_Lafter,
      F_Lafter := fun_mk (st := s_Lafter) l_Lafter c_Lafter k_Lafter,
      mg_Lafter := PySem.W.mg_of X G g_Lafter,
      f_Lbad := a_Lbad,
      fd_Lbad := PySem.W.fnOf "_law_bad" "_law_bad" (defArgs s_Lbad) (defBody s_Lbad) (defScope s_Lbad) .none kV_Lbad dc_Lbad pm_Lbad an_Lbad cd_Lbad ct_Lbad,
      F_Lbad := fun_mk (st := s_Lbad) l_Lbad c_Lbad k_Lbad,
      mg_Lbad := PySem.W.mg_of X G g_Lbad,
      f_Lnumber := a_Lnumber,
      fd_Lnumber := PySem.W.fnOf "_law_number" "_law_number" (defArgs s_Lnumber) (defBody s_Lnumber) (defScope s_Lnumber) .none kV_Lnumber dc_Lnumber pm_Lnumber an_Lnumber cd_Lnumber ct_Lnumber,
      F_Lnumber := fun_mk (st := s_Lnumber) l_Lnumber c_Lnumber k_Lnumber,
      mg_Lnumber := PySem.W.mg_of X G g_Lnumber,
      f_Lrow := a_Lrow,
      fd_Lrow := PySem.W.fnOf "_law_row" "_law_row" (defArgs s_Lrow) (defBody s_Lrow) (defScope s_Lrow) .none kV_Lrow dc_Lrow pm_Lrow an_Lrow cd_Lrow ct_Lrow,
      F_Lrow := fun_mk (st := s_Lrow) l_Lrow c_Lrow k_Lrow,
      mg_Lrow := PySem.W.mg_of X G g_Lrow,
      f_Lsame := a_Lsame,
      fd_Lsame := PySem.W.fnOf "_law_same" "_law_same" (defArgs s_Lsame) (defBody s_Lsame) (defScope s_Lsame) .none kV_Lsame dc_Lsame pm_Lsame an_Lsame cd_Lsame ct_Lsame,
      F_Lsame := fun_mk (st := s_Lsame) l_Lsame c_Lsame k_Lsame,
      mg_Lsame := PySem.W.mg_of X G g_Lsame,
      f_Ltruth := a_Ltruth,
      fd_Ltruth := PySem.W.fnOf "_law_truth" "_law_truth" (defArgs s_Ltruth) (defBody s_Ltruth) (defScope s_Ltruth) .none kV_Ltruth dc_Ltruth pm_Ltruth an_Ltruth cd_Ltruth ct_Ltruth,
      F_Ltruth := fun_mk (st := s_Ltruth) l_Ltruth c_Ltruth k_Ltruth,
      mg_Ltruth := PySem.W.mg_of X G g_Ltruth,
      f_Lstanding := a_Lstanding,
      fd_Lstanding := PySem.W.fnOf "_law_standing" "_law_standing" (defArgs s_Lstanding) (defBody s_Lstanding) (defScope s_Lstanding) .none kV_Lstanding dc_Lstanding pm_Lstanding an_Lstanding cd_Lstanding ct_Lstanding,
      F_Lstanding := fun_mk (st := s_Lstanding) l_Lstanding c_Lstanding k_Lstanding,
      mg_Lstanding := PySem.W.mg_of X G g_Lstanding,
      f_law := a_law,
      fd_law := PySem.W.fnOf "law" "law" (defArgs s_law) (defBody s_law) (defScope s_law) .none kV_law dc_law pm_law an_law cd_law ct_law,
      F_law := fun_mk (st := s_law) l_law c_law k_law,
      mg_law := PySem.W.mg_of X G g_law,
      f_RuleSet___init__ := a_RuleSet___init__,
      fd_RuleSet___init__ := PySem.W.fnOf "__init__" "RuleSet.__init__" (defArgs s_RuleSet___init__) (defBody s_RuleSet___init__) (defScope s_RuleSet___init__) .none kV_RuleSet___init__ dc_RuleSet___init__ pm_RuleSet___init__ an_RuleSet___init__ cd_RuleSet___init__ ct_RuleSet___init__,
      F_RuleSet___init__ := fun_mk (st := s_RuleSet___init__) l_RuleSet___init__ c_RuleSet___init__ k_RuleSet___init__,
      f_RuleSet___contains__ := a_RuleSet___contains__,
      fd_RuleSet___contains__ := PySem.W.fnOf "__contains__" "RuleSet.__contains__" (defArgs s_RuleSet___contains__) (defBody s_RuleSet___contains__) (defScope s_RuleSet___contains__) .none kV_RuleSet___contains__ dc_RuleSet___contains__ pm_RuleSet___contains__ an_RuleSet___contains__ cd_RuleSet___contains__ ct_RuleSet___contains__,
      F_RuleSet___contains__ := fun_mk (st := s_RuleSet___contains__) l_RuleSet___contains__ c_RuleSet___contains__ k_RuleSet___contains__,
      f_TieBook_of_number := a_TieBook_of_number,
      fd_TieBook_of_number := PySem.W.fnOf "of_number" "TieBook.of_number" (defArgs s_TieBook_of_number) (defBody s_TieBook_of_number) (defScope s_TieBook_of_number) .none kV_TieBook_of_number dc_TieBook_of_number pm_TieBook_of_number an_TieBook_of_number cd_TieBook_of_number ct_TieBook_of_number,
      F_TieBook_of_number := fun_mk (st := s_TieBook_of_number) l_TieBook_of_number c_TieBook_of_number k_TieBook_of_number,
      C_TieBook := aC_TieBook,
      mg_TieBook := PySem.W.mg_of X G g_TieBook,
      cl_TieBook := ⟨pg_TieBook, hd_TieBook, po_TieBook, sa_TieBook⟩,
      na_TieBook_names := n_TieBook_names,
      na_TieBook_number := n_TieBook_number,
      mc_TieBook := mcv_TieBook,
      cr_TieBook := ⟨rd_TieBook, ga_TieBook⟩,
      tA_TieBook_RULES := tA_TieBook_RULES,
      tt_TieBook_RULES := fun H => .inr ⟨_, _, _, tk_TieBook_RULES, rfl, rfl, Rg.relAllS_sz tr_TieBook_RULES, Rg.relAllS_ok tr_TieBook_RULES⟩,
      tv_TieBook_RULES := ⟨tv1_TieBook_RULES, rfl⟩,
      tc_TieBook_RULES := ⟨tc1_TieBook_RULES, rfl, tc2_TieBook_RULES, by decide +kernel⟩,
      sm_TieBook_of_number := ⟨_, s1_TieBook_of_number, ⟨_, s2_TieBook_of_number⟩, k_TieBook_of_number⟩,
      C_BadValue := aC_BadValue,
      mg_BadValue := PySem.W.mg_of X G g_BadValue,
      be_BadValue := be1_BadValue,
      te_BadValue := te1_BadValue,
      ie_BadValue := ie1_BadValue,
      xe_BadValue := xe1_BadValue,
      ke_BadValue := ke1_BadValue,
      ec_BadValue := ⟨ec1_BadValue, ec2_BadValue, be1_BadValue, ec4_BadValue, ec5_BadValue, ec6_BadValue, ec7_BadValue, ec8_BadValue⟩,
      c_UNRECORDED := ⟨_, PySem.W.mg_of X G gc_UNRECORDED⟩,
      c_NONE := ⟨_, PySem.W.mg_of X G gc_NONE⟩,
      c_NEW := ⟨_, PySem.W.mg_of X G gc_NEW⟩,
      c_OLD := ⟨_, PySem.W.mg_of X G gc_OLD⟩,
      gA_MOVES := gA_MOVES,
      gg_MOVES := PySem.W.mg_of X G g_MOVES,
      gd_MOVES_make := gd1_MOVES_make,
      gd_MOVES_link := gd1_MOVES_link,
      gd_MOVES_drop := gd1_MOVES_drop,
      gd_MOVES_move := gd1_MOVES_move,
      gd_MOVES_out_node := gd1_MOVES_out_node,
      gd_MOVES_out_entry := gd1_MOVES_out_entry,
      gd_MOVES_told := gd1_MOVES_told,
      mk_TieBook := ⟨mk1_TieBook, mk2_TieBook, mk3_TieBook, mk4_TieBook⟩,
      bm_contains := ⟨bm1_contains, bm2_contains, k_RuleSet___contains__⟩,
      b_abs := PySem.W.mg_none_of X G nb_abs,
      b_all := PySem.W.mg_none_of X G nb_all,
      b_any := PySem.W.mg_none_of X G nb_any,
      b_bool := PySem.W.mg_none_of X G nb_bool,
      b_enumerate := PySem.W.mg_none_of X G nb_enumerate,
      b_int := PySem.W.mg_none_of X G nb_int,
      b_isinstance := PySem.W.mg_none_of X G nb_isinstance,
      b_len := PySem.W.mg_none_of X G nb_len,
      b_list := PySem.W.mg_none_of X G nb_list,
      b_range := PySem.W.mg_none_of X G nb_range,
      b_str := PySem.W.mg_none_of X G nb_str,
      b_sum := PySem.W.mg_none_of X G nb_sum,
      b_tuple := PySem.W.mg_none_of X G nb_tuple,
      b_zip := PySem.W.mg_none_of X G nb_zip
    }, ⟨He.dicW_ok dw_MOVES⟩⟩
end K60
open PySem PySem.W PyProof.Rows
set_option maxRecDepth 100000 in
set_option maxHeartbeats 0 in
theorem PySem.Challenge.cw_lotsandties_k60_one_letter_holds : PySem.Challenge.rw_lotsandties_k60_one_letter.Holds := by
  w_on; o_law; k_head; (case hw => w_witness2)
  k_fill
  refine Rg.walk_ofG (l := PySem.Challenge.rw_lotsandties_k60_one_letter) (n := 63) (k := 7) (x := "_law_script") (CX := fun _ => L2.CX0) rfl (by decide) rfl ⟨rfl, by decide, by decide⟩ (fun w h Y => PySem.W.kIn_of Y) ?F (fun _ _ _ _ _ h => h)
  case F =>
    intro w mg fa h TT Y KX G hmg
    refine K60.fin_G ?_ hmg KX TT (by kernel_rfl) (by kernel_rfl) (by kernel_rfl) (by kernel_rfl) (by kernel_rfl)
    refine' K60.all_mk (w := w) KX G ?l_with ?c_with ?k_with ?g_with ?l_aged ?c_aged ?k_aged ?g_aged ?l_tie_start ?c_tie_start ?k_tie_start ?g_tie_start ?l_tie_letters ?c_tie_letters ?k_tie_letters ?g_tie_letters ?l_make ?c_make ?k_make ?g_make ?cc1_make ?ch1_make ?cn1_make ?l_link ?c_link ?k_link ?g_link ?l_drop ?c_drop ?k_drop ?g_drop ?l_move ?c_move ?k_move ?g_move ?l_out_node ?c_out_node ?k_out_node ?g_out_node ?l_keeps_mark ?c_keeps_mark ?k_keeps_mark ?g_keeps_mark ?cc1_keeps_mark ?ch1_keeps_mark ?cn1_keeps_mark ?l_out_entry ?c_out_entry ?k_out_entry ?g_out_entry ?l_agrees ?c_agrees ?k_agrees ?g_agrees ?cc1_agrees ?ch1_agrees ?cn1_agrees ?l_told ?c_told ?k_told ?g_told ?l_tie_after ?c_tie_after ?k_tie_after ?g_tie_after ?cc1_tie_after ?ch1_tie_after ?cn1_tie_after ?l_tie_bad ?c_tie_bad ?k_tie_bad ?g_tie_bad ?cc1_tie_bad ?ch1_tie_bad ?cn1_tie_bad ?l_numbered_names ?c_numbered_names ?k_numbered_names ?g_numbered_names ?l_Lfeed ?c_Lfeed ?k_Lfeed ?g_Lfeed ?l_Lpick ?c_Lpick ?k_Lpick ?g_Lpick ?l_Lrules ?c_Lrules ?k_Lrules ?g_Lrules ?l_Lletters ?c_Lletters ?k_Lletters ?g_Lletters ?l_Lput ?c_Lput ?k_Lput ?g_Lput ?l_Lelder ?c_Lelder ?k_Lelder ?g_Lelder ?l_Lout ?c_Lout ?k_Lout ?g_Lout ?l_Lnamed ?c_Lnamed ?k_Lnamed ?g_Lnamed ?l_Lafter ?c_Lafter ?k_Lafter ?g_Lafter ?l_Lbad ?c_Lbad ?k_Lbad ?g_Lbad ?l_Lnumber ?c_Lnumber ?k_Lnumber ?g_Lnumber ?l_Lrow ?c_Lrow ?k_Lrow ?g_Lrow ?l_Lsame ?c_Lsame ?k_Lsame ?g_Lsame ?l_Ltruth ?c_Ltruth ?k_Ltruth ?g_Ltruth ?l_Lstanding ?c_Lstanding ?k_Lstanding ?g_Lstanding ?l_law ?c_law ?k_law ?g_law ?l_RuleSet___init__ ?c_RuleSet___init__ ?k_RuleSet___init__ ?l_RuleSet___contains__ ?c_RuleSet___contains__ ?k_RuleSet___contains__ ?l_TieBook_of_number ?c_TieBook_of_number ?k_TieBook_of_number ?g_TieBook ?pg_TieBook ?hd_TieBook ?po_TieBook ?sa_TieBook ?n_TieBook_names ?n_TieBook_number ?tp_TieBook ?rd_TieBook ?ga_TieBook ?tk_TieBook_RULES ?tr_TieBook_RULES ?tv1_TieBook_RULES ?tc1_TieBook_RULES ?tc2_TieBook_RULES ?s1_TieBook_of_number ?s2_TieBook_of_number ?g_BadValue ?be1_BadValue ?te1_BadValue ?ie1_BadValue ?xe1_BadValue ?ke1_BadValue ?ec1_BadValue ?ec2_BadValue ?ec4_BadValue ?ec5_BadValue ?ec6_BadValue ?ec7_BadValue ?ec8_BadValue ?gc_UNRECORDED ?gc_NONE ?gc_NEW ?gc_OLD ?g_MOVES ?gd1_MOVES_make ?gd1_MOVES_link ?gd1_MOVES_drop ?gd1_MOVES_move ?gd1_MOVES_out_node ?gd1_MOVES_out_entry ?gd1_MOVES_told ?mk1_TieBook ?mk2_TieBook ?mk3_TieBook ?mk4_TieBook ?bm1_contains ?bm2_contains ?nb_abs ?nb_all ?nb_any ?nb_bool ?nb_enumerate ?nb_int ?nb_isinstance ?nb_len ?nb_list ?nb_range ?nb_str ?nb_sum ?nb_tuple ?nb_zip ?dw_MOVES
    (case g_with => k_is)
    (case g_aged => k_is)
    (case g_tie_start => k_is)
    (case g_tie_letters => k_is)
    (case g_make => k_is)
    (case g_link => k_is)
    (case g_drop => k_is)
    (case g_move => k_is)
    (case g_out_node => k_is)
    (case g_keeps_mark => k_is)
    (case g_out_entry => k_is)
    (case g_agrees => k_is)
    (case g_told => k_is)
    (case g_tie_after => k_is)
    (case g_tie_bad => k_is)
    (case g_numbered_names => k_is)
    (case g_Lfeed => k_is)
    (case g_Lpick => k_is)
    (case g_Lrules => k_is)
    (case g_Lletters => k_is)
    (case g_Lput => k_is)
    (case g_Lelder => k_is)
    (case g_Lout => k_is)
    (case g_Lnamed => k_is)
    (case g_Lafter => k_is)
    (case g_Lbad => k_is)
    (case g_Lnumber => k_is)
    (case g_Lrow => k_is)
    (case g_Lsame => k_is)
    (case g_Ltruth => k_is)
    (case g_Lstanding => k_is)
    (case g_law => k_is)
    (case g_TieBook => k_is)
    (case g_BadValue => k_is)
    (case g_MOVES => k_is)
    (case tp_TieBook => k_is)
    (case mk2_TieBook => k_is)
    (case bm1_contains => k_is)
    (case s1_TieBook_of_number => k_is)
    (case s2_TieBook_of_number => k_is)
    (case tv1_TieBook_RULES => k_is)
    (case tc1_TieBook_RULES => k_is)
    (case l_with => k_is)
    (case c_with => k_is)
    (case k_with => k_is)
    (case l_aged => k_is)
    (case c_aged => k_is)
    (case k_aged => k_is)
    (case l_tie_start => k_is)
    (case c_tie_start => k_is)
    (case k_tie_start => k_is)
    (case l_tie_letters => k_is)
    (case c_tie_letters => k_is)
    (case k_tie_letters => k_is)
    (case l_make => k_is)
    (case c_make => k_is)
    (case k_make => k_is)
    (case l_link => k_is)
    (case c_link => k_is)
    (case k_link => k_is)
    (case l_drop => k_is)
    (case c_drop => k_is)
    (case k_drop => k_is)
    (case l_move => k_is)
    (case c_move => k_is)
    (case k_move => k_is)
    (case l_out_node => k_is)
    (case c_out_node => k_is)
    (case k_out_node => k_is)
    (case l_keeps_mark => k_is)
    (case c_keeps_mark => k_is)
    (case k_keeps_mark => k_is)
    (case l_out_entry => k_is)
    (case c_out_entry => k_is)
    (case k_out_entry => k_is)
    (case l_agrees => k_is)
    (case c_agrees => k_is)
    (case k_agrees => k_is)
    (case l_told => k_is)
    (case c_told => k_is)
    (case k_told => k_is)
    (case l_tie_after => k_is)
    (case c_tie_after => k_is)
    (case k_tie_after => k_is)
    (case l_tie_bad => k_is)
    (case c_tie_bad => k_is)
    (case k_tie_bad => k_is)
    (case l_numbered_names => k_is)
    (case c_numbered_names => k_is)
    (case k_numbered_names => k_is)
    (case l_Lfeed => k_is)
    (case c_Lfeed => k_is)
    (case k_Lfeed => k_is)
    (case l_Lpick => k_is)
    (case c_Lpick => k_is)
    (case k_Lpick => k_is)
    (case l_Lrules => k_is)
    (case c_Lrules => k_is)
    (case k_Lrules => k_is)
    (case l_Lletters => k_is)
    (case c_Lletters => k_is)
    (case k_Lletters => k_is)
    (case l_Lput => k_is)
    (case c_Lput => k_is)
    (case k_Lput => k_is)
    (case l_Lelder => k_is)
    (case c_Lelder => k_is)
    (case k_Lelder => k_is)
    (case l_Lout => k_is)
    (case c_Lout => k_is)
    (case k_Lout => k_is)
    (case l_Lnamed => k_is)
    (case c_Lnamed => k_is)
    (case k_Lnamed => k_is)
    (case l_Lafter => k_is)
    (case c_Lafter => k_is)
    (case k_Lafter => k_is)
    (case l_Lbad => k_is)
    (case c_Lbad => k_is)
    (case k_Lbad => k_is)
    (case l_Lnumber => k_is)
    (case c_Lnumber => k_is)
    (case k_Lnumber => k_is)
    (case l_Lrow => k_is)
    (case c_Lrow => k_is)
    (case k_Lrow => k_is)
    (case l_Lsame => k_is)
    (case c_Lsame => k_is)
    (case k_Lsame => k_is)
    (case l_Ltruth => k_is)
    (case c_Ltruth => k_is)
    (case k_Ltruth => k_is)
    (case l_Lstanding => k_is)
    (case c_Lstanding => k_is)
    (case k_Lstanding => k_is)
    (case l_law => k_is)
    (case c_law => k_is)
    (case k_law => k_is)
    (case l_RuleSet___init__ => k_is)
    (case c_RuleSet___init__ => k_is)
    (case k_RuleSet___init__ => k_is)
    (case l_RuleSet___contains__ => k_is)
    (case c_RuleSet___contains__ => k_is)
    (case k_RuleSet___contains__ => k_is)
    (case l_TieBook_of_number => k_is)
    (case c_TieBook_of_number => k_is)
    (case k_TieBook_of_number => k_is)
    (case pg_TieBook => k_is)
    (case hd_TieBook => k_is)
    (case po_TieBook => k_is)
    (case sa_TieBook => k_is)
    (case n_TieBook_names => k_is)
    (case n_TieBook_number => k_is)
    (case rd_TieBook => k_is)
    (case ga_TieBook => k_is)
    (case tk_TieBook_RULES => k_is)
    (case tc2_TieBook_RULES => k_is)
    (case be1_BadValue => k_is)
    (case te1_BadValue => k_is)
    (case ie1_BadValue => k_is)
    (case xe1_BadValue => first | k_exc | k_is)
    (case ke1_BadValue => k_is)
    (case ec1_BadValue => k_is)
    (case ec2_BadValue => k_is)
    (case ec4_BadValue => k_is)
    (case ec5_BadValue => k_is)
    (case ec6_BadValue => k_is)
    (case ec7_BadValue => k_is)
    (case ec8_BadValue => k_is)
    (case gc_UNRECORDED => k_is)
    (case gc_NONE => k_is)
    (case gc_NEW => k_is)
    (case gc_OLD => k_is)
    (case gd1_MOVES_make => k_is)
    (case gd1_MOVES_link => k_is)
    (case gd1_MOVES_drop => k_is)
    (case gd1_MOVES_move => k_is)
    (case gd1_MOVES_out_node => k_is)
    (case gd1_MOVES_out_entry => k_is)
    (case gd1_MOVES_told => k_is)
    (case mk1_TieBook => k_is)
    (case mk3_TieBook => k_is)
    (case mk4_TieBook => k_is)
    (case bm2_contains => k_is)
    (case nb_abs => k_is)
    (case nb_all => k_is)
    (case nb_any => k_is)
    (case nb_bool => k_is)
    (case nb_enumerate => k_is)
    (case nb_int => k_is)
    (case nb_isinstance => k_is)
    (case nb_len => k_is)
    (case nb_list => k_is)
    (case nb_range => k_is)
    (case nb_str => k_is)
    (case nb_sum => k_is)
    (case nb_tuple => k_is)
    (case nb_zip => k_is)
    (case dw_MOVES => first | kernel_rfl | rfl)
    (case cc1_make => first | rfl | kernel_rfl)
    (case cc1_keeps_mark => first | rfl | kernel_rfl)
    (case cc1_agrees => first | rfl | kernel_rfl)
    (case cc1_tie_after => first | rfl | kernel_rfl)
    (case cc1_tie_bad => first | rfl | kernel_rfl)
    (case tr_TieBook_RULES => first | rfl | decide +kernel | k_is)
    (case ch1_make => first | kernel_rfl | rfl | k_is)
    (case ch1_keeps_mark => first | kernel_rfl | rfl | k_is)
    (case ch1_agrees => first | kernel_rfl | rfl | k_is)
    (case ch1_tie_after => first | kernel_rfl | rfl | k_is)
    (case ch1_tie_bad => first | kernel_rfl | rfl | k_is)
    (case cn1_make => first | kernel_rfl | rfl | k_is)
    (case cn1_keeps_mark => first | kernel_rfl | rfl | k_is)
    (case cn1_agrees => first | kernel_rfl | rfl | k_is)
    (case cn1_tie_after => first | kernel_rfl | rfl | k_is)
    (case cn1_tie_bad => first | kernel_rfl | rfl | k_is)
