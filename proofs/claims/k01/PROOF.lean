import PyProof.Rows.All
import Wide.All
import OpenK.AllK
import Wide.FinOn
import HandS.ForMost
import HandS.IsInst
import HandS.Evl
import HandS.ClsMeth
import HandS.MakeKwOnly
import HandS.TryOnly
import HandS.TryMany
import HandS.Iter
import HandS.Property
import HandS.DictComp
import HandS.WordsDict
import HandS.ExcOwn
import HandS.ExcIs
import HandS.ExcCtx
import HandS.HotCalls
import HandS.WordsExc
import HandS.Conv
import HandS.FStr
import HandS.RaiseMore
import HandS.Style
import HandS.Small
import HandS.More
import HandS.Star
import KE.GoesMore
import HandS.Walk
import HandS.SetBool
import HandS.Strs
import HandS.SetFor
import HandS.SortInts
import HandS.SortRule
import HandS.HeadHook2
import KE.KOwnIter
import HandS.Iter
import HandS.IterVal
import HandS.Lambda
import HandS.RevTup
import HandS.Rev
import HandS.EndTab
import HandS.TupMul
import HandS.Zip
import HandS.Dict
import HandS.StrMore
import HandS.HeadHook4
import KE.KNestM
import HandS.AnyAll
import HandS.GenOver
import HandS.Deep
import PySem.Challenge.RW_lotsandties_k01_writes_and_cuts
set_option Elab.async false
set_option linter.all false
set_option maxRecDepth 100000
set_option maxHeartbeats 4000000
namespace Rg
open PySem PySem.Spec PyProof.Rows L2
/-! ### heaps -/
theorem same_upd {H : Hp} {p : Addr} {o : HO} (h : H p = none) : Same H (upd H p o) := fun b x e => by
  rw [upd_ne (ne_of_none e h)]
  exact e
theorem upd_id {H : Hp} {p : Addr} {o : HO} (h : H p = some o) : upd H p o = H := by
  funext b
  by_cases e : b = p
  · rw [e, upd_same, h]
  · rw [upd_ne e]
theorem yes_ {σ : L2.St} {H : Hp} {A B : Hp → Prop} (h : A H) : tYes σ H fun b H3 => if b = true then A H3 else B H3 := by
  show if true = true then A H else B H
  rw [if_pos rfl]
  exact h
/-- what is free behind a store was free, and is another place -/
theorem un {H : Hp} {a b : Addr} {o : HO} (e : upd H a o b = none) : H b = none := by
  by_cases z : b = a
  · rw [z, upd_same] at e; cases e
  · rw [upd_ne z] at e; exact e
theorem unn {H : Hp} {a b : Addr} {o : HO} (e : upd H a o b = none) : b ≠ a := fun z => by
  rw [z, upd_same] at e; cases e
theorem unn' {H : Hp} {a b : Addr} {o : HO} (e : upd H a o b = none) : a ≠ b := fun z => unn e z.symm
theorem upd_comm {H : Hp} {p q : Addr} {o o' : HO} (h : p ≠ q) : upd (upd H p o) q o' = upd (upd H q o') p o := by
  funext b
  by_cases e : b = p
  · rw [e, upd_same, upd_ne h, upd_same]
  · by_cases e2 : b = q
    · rw [e2, upd_same, upd_ne h.symm, upd_same]
    · rw [upd_ne e2, upd_ne e, upd_ne e, upd_ne e2]
theorem upd_app {H : Hp} {p : Addr} {fs : List Int} {x : Int} : upd (upd H p (.lst (fs.map V.int))) p (.lst (fs.map V.int ++ [V.int x])) = upd H p (.lst ((fs ++ [x]).map V.int)) := by
  rw [upd_upd, List.map_append]
  rfl
/-- kept but for what stands at S -/
def Kp (S : List Addr) (H H' : Hp) : Prop := ∀ x o, H x = some o → x ∉ S → H' x = some o
theorem Kp.refl {S : List Addr} {H : Hp} : Kp S H H := fun _ _ e _ => e
theorem Kp.new {S : List Addr} {H H1 : Hp} {a : Addr} {o : HO} (k : Kp S H H1) (h : H1 a = none) : Kp S H (upd H1 a o) := fun x u e n => by
  rw [upd_ne (ne_of_none (k x u e n) h)]
  exact k x u e n
theorem Kp.own {S : List Addr} {H H1 : Hp} {a : Addr} {o : HO} (k : Kp S H H1) (h : a ∈ S) : Kp S H (upd H1 a o) := fun x u e n => by
  have z : x ≠ a := fun z => by rw [z] at n; exact n h
  rw [upd_ne z]
  exact k x u e n
theorem Kp.own1 {p : Addr} {H H1 : Hp} {o : HO} (k : Kp [p] H H1) : Kp [p] H (upd H1 p o) := k.own (by simp)
theorem Kp.trans {S : List Addr} {H H1 H2 : Hp} (a : Kp S H H1) (b : Kp S H1 H2) : Kp S H H2 := fun x o e n => b x o (a x o e n) n
theorem Kp.same {S : List Addr} {H H1 H2 : Hp} (a : Kp S H H1) (b : Same H1 H2) : Kp S H H2 := fun x o e n => b x o (a x o e n)
theorem Kp.of {S : List Addr} {H H1 : Hp} (b : Same H H1) : Kp S H H1 := fun x o e _ => b x o e
theorem Kp.mono {S S' : List Addr} {H H1 : Hp} (a : Kp S H H1) (h : ∀ x, x ∈ S → x ∈ S') : Kp S' H H1 := fun x o e n => a x o e fun z => n (h x z)
theorem Kp.free {S : List Addr} {H H1 : Hp} {x : Addr} (a : Kp S H H1) (n : x ∉ S) (h : H1 x = none) : H x = none := by
  cases q : H x with
  | none => rfl
  | some o => rw [a x o q n] at h; cases h
theorem Kp.at1 {p x : Addr} {H H' : Hp} {o : HO} (k : Kp [p] H H') (e : H x = some o) (n : x ≠ p) : H' x = some o := k x o e (by simp [n])
theorem Kp.ret {a : Addr} {S : List Addr} {H H' : Hp} {o : HO} (k : Kp (a :: S) H H') (h : H a = none) : Kp S H H' := fun x u e n => k x u e (by
  intro z
  rcases List.mem_cons.mp z with z | z
  · rw [z, h] at e; cases e
  · exact n z)
theorem own_f {H H' : Hp} {p : Addr} {o : HO} (h : upd H p o = H') : H' p = some o ∧ Kp [p] H H' ∧ ∀ x, H' x = none → H x = none ∧ x ≠ p := by
  subst h
  exact ⟨upd_same, Kp.refl.own1, fun x e => ⟨un e, unn e⟩⟩
theorem new_f {H H' : Hp} {a : Addr} {o : HO} (h : upd H a o = H') (n : H a = none) : H' a = some o ∧ Same H H' ∧ ∀ x, H' x = none → H x = none ∧ x ≠ a := by
  subst h
  exact ⟨upd_same, same_upd n, fun x e => ⟨un e, unn e⟩⟩
/-- a whole-number constant of the module -/
theorem pe_gc {X : Cx} {x : Str} {n : Int} {pos : Pos} (hm : ∃ t, X.mg x = some (.int n t)) (hg : Gl X x := by rfl) (hd : (x == ("__debug__" : Str)) = false := by decide) : PE X (.Name x pos) (tC (.int n)) :=
  let ⟨t, h⟩ := hm
  pe_glob hg h ⟨t, rfl⟩ hd
/-- a text constant of the module -/
theorem pe_gs {X : Cx} {x z : Str} {pos : Pos} (hm : ∃ t, X.mg x = some (.str z t)) (hg : Gl X x := by rfl) (hd : (x == ("__debug__" : Str)) = false := by decide) : PE X (.Name x pos) (tC (.str z)) :=
  let ⟨t, h⟩ := hm
  pe_glob hg h ⟨t, rfl⟩ hd
/-- C.f, C a class of the module, f a value of the class -/
theorem pe_cv {X : Cx} {x f : Str} {C : Addr} {mc : Value} {v : V} {p pos : Pos} (hm : X.mg x = some (.ref C)) (r : ClX.CRead X.K C mc) (k : ∃ u, ClX.CVal X.K C mc f v u) (hg : Gl X x := by rfl) (hd : (x == ("__debug__" : Str)) = false := by decide)
    (hb : attributeBase (.Name x p) f X.env (eval (.Name x p) X.env) = eval (.Name x p) X.env := by rfl) : PE X (.Attribute (.Name x p) f pos) (tC v) := by
  obtain ⟨u, k⟩ := k
  have := (ClX.pe_cval (pos := pos) (pe_glob (X := X) (x := x) (v := .ref C) (u := .ref C) (pos := p) hg hm rfl hd) hb)
  exact ⟨fun pins s σ H Q I h => this.run pins s σ H Q I ⟨C, mc, v, u, rfl, r, k, h⟩⟩
/-! ### the same rules with the written part named (inside a comprehension) -/
section
variable {X : Cx} {K : PySem.W.Frag}
def rListOf (K : PySem.W.Frag) : List V → Hp → VK → Prop := fun xs H Q => ∃ p ys, xs = [.ref p] ∧ (SqL K H p ys ∨ SqT K H p ys) ∧ ∀ l, H l = none → Q (.ref l) (upd H l (.lst ys))
theorem pe_listof {e : Expr} {te : TE} {p pos : Pos} (he : PE X e te) (hm : X.mg "list" = none) (hK : X.K = K := by rfl) (hg : Gl X "list" := by rfl) (hs : starEach [e] X.env = (false, eval e X.env) :: starEach [] X.env := by rfl) : PE X (.Call (.Name "list" p) [e] [] pos) (tCB (rListOf K) (tCons te tNil)) := by
  subst hK
  exact pe_callTy call_list_of hg hm (by decide +kernel) (pa_cons he pa_nil hs) (he := hs)
theorem pe_fldK {e : Expr} {f : Str} {pos : Pos} {ta : TE} (he : PE X e ta) (hb : attributeBase e f X.env (eval e X.env) = eval e X.env) (hK : X.K = K := by rfl) : PE X (.Attribute e f pos) (tFld K ta f) := by
  subst hK
  exact pe_fld he hb
theorem pe_ixK {a b : Expr} {pos : Pos} {ta tb : TE} (ha : PE X a ta) (hb : PE X b tb) (hs : PlainIx b) (hK : X.K = K := by rfl) : PE X (.Subscript a b pos) (tOp (rIxL K) ta tb) := by
  subst hK
  exact pe_ix ix_list ha hb hs
theorem pe_lenK {e : Expr} {te : TE} {p pos : Pos} (he : PE X e te) (hm : X.mg "len" = none) (hK : X.K = K := by rfl) (hg : Gl X "len" := by rfl) (hs : starEach [e] X.env = (false, eval e X.env) :: starEach [] X.env := by rfl) : PE X (.Call (.Name "len" p) [e] [] pos) (tCB (fun xs H Q => ∃ p ys, xs = [.ref p] ∧ (SqL K H p ys ∨ SqT K H p ys) ∧ Q (.int ys.length) H) (tCons te tNil)) := by
  subst hK
  exact pe_callB call_len_seq hg hm (by decide +kernel) (pa_cons he pa_nil hs) (he := hs)
end
/-! ### static methods, called off the class -/
structure SMet (K : PySem.W.Frag) (C : Addr) (mc : Value) (m : Str) (g : Addr) : Prop where
  ex : ∃ p, PySem.W.findCls K (.ref C) mc m = some (.get (.builtin "staticmethod.__get__") (.ref p) .none (.ref C)) ∧ (∃ rest, PySem.W.recIn K p "staticmethod" = some (.ref g :: rest)) ∧ PySem.W.keepIn K (.ref g) = true
/-- C.m(e, ..), C the class at C, m a static method -/
def tSMeth (sp : Sp) (dvs : List V) (E : XK) (t : TA) : TE := fun σ H Q => t σ H fun vs H2 => sp (vs ++ dvs) H2 Q E
section
variable {X : Cx} {CX : CXT} {k : Nat} {C g : Addr} {mc : Value} {sp : Sp} {E : XK} {x : Str} {e : Expr} {es : List Expr} {m : Str} {p pos apos : Pos} {t : TA} {pl : Sem Bool} {fd : FuncData} {ps : List Str} {ds : List Value} {dvs : List V}
theorem pe_smeth (hmx : X.mg x = some (.ref C)) (r : ClX.CRead X.K C mc) (c : SMet X.K C mc m g) (F : FnOk X.prog X.w X.K X.mg X.base CX k g fd ps sp) (hr : Room k X.A) (hb : Binds X.K fd ps ds) (hd : Vals dvs ds) (hx : Passes CX X E) (ha : PA X (e :: es) t) (hg : Gl X x := by rfl) (hdb : (x == ("__debug__" : Str)) = false := by decide)
    (hst : starEach (e :: es) X.env = (false, eval e X.env) :: starEach es X.env := by rfl) (hpl : (backTo pos (starEach es X.env)).any (·.1) = false := by rfl)
    (ht : eval (.Call (.Attribute (.Name x p) m apos) (e :: es) [] pos) X.env = (do
      let ov ← eval (.Name x p) X.env
      standAt apos.atName
      let (f, first) ← holding [ov] (getMethod ov m pl)
      callWith pos f first (backTo pos (starEach (e :: es) X.env)) (backToKw pos (keywordEach [] X.env))) := by rfl) :
    PE X (.Call (.Attribute (.Name x p) m apos) (e :: es) [] pos) (tSMeth sp dvs E t) := by
  obtain ⟨q, at_, ⟨rest, hp⟩, hk⟩ := c.ex
  refine ⟨fun pins s σ H Q I h => ?_⟩
  refine PySem.W.methodCall_KW (pl := pl) (ld_glob I hg hmx ?_ hdb) ht
  refine PySem.W.method_cls I.kIn r.ga (PySem.W.cls_bind I.kIn r.rd at_ ?_)
  refine wpAny_call (PySem.W.sm_get (s := { s with toks := s.toks + 1 }) I.kIn hp (PySem.W.handed_on rfl ?_))
  refine PySem.W.callWith_K (f := .ref g) (first := []) (h₀ := X.base) I.ok.mod.kin hk (thn (ha.run pos pins _ σ H _ (I.tok _) h) fun us s1 ⟨vs, H1, I1, r1, q1⟩ => ⟨I1.kIn, ?_⟩) hst hpl
  exact run_fn F hr hb hd hx I1 r1 q1
end
/-! ### errors -/
theorem exm_sub {K : PySem.W.Frag} {D S : Addr} (h1 : PySem.W.subIn K (.ref S) (.type "BaseException") = some true) (h2 : PySem.W.isClsIn K S = true) (h3 : PySem.W.typeIn K (.ref S) = some (.type "type")) (h4 : PySem.W.subIn K (.ref D) (.ref S) = some true) :
    PySem.W.exmOne K (.ref D) (.ref S) = some true := by
  have e1 : (PySem.W.subIn K (.ref S) (.type "BaseException") == some true) = true := by rw [h1] <;> rfl
  have e2 : ((PySem.W.clsIn K S).isSome && PySem.W.typeIn K (.ref S) == some (.type "type")) = true := by
    have h2' : (PySem.W.clsIn K S).isSome = true := h2
    rw [h2', h3] <;> rfl
  show (if (PySem.W.subIn K (.ref S) (.type "BaseException") == some true) = true then (if ((PySem.W.clsIn K S).isSome && PySem.W.typeIn K (.ref S) == some (.type "type")) = true then PySem.W.subIn K (.ref D) (.ref S) else none) else none) = some true
  rw [if_pos e1, if_pos e2]
  exact h4
theorem kit_sub {K : PySem.W.Frag} {D S : Addr} {b : Bool} (hne : D ≠ S) (h2 : PySem.W.isClsIn K S = true) (h3 : PySem.W.typeIn K (.ref S) = some (.type "type")) (h4 : PySem.W.subIn K (.ref D) (.ref S) = some b) :
    PySem.W.kitOne K (.ref D) (.ref S) = some b := by
  have e2 : ((PySem.W.clsIn K S).isSome && PySem.W.typeIn K (.ref S) == some (.type "type")) = true := by
    have h2' : (PySem.W.clsIn K S).isSome = true := h2
    rw [h2', h3] <;> rfl
  unfold PySem.W.kitOne
  rw [if_neg (by intro z; exact hne (Value.ref.inj (beq_iff_eq.mp z)))]
  show (if ((PySem.W.clsIn K S).isSome && PySem.W.typeIn K (.ref S) == some (.type "type")) = true then PySem.W.subIn K (.ref D) (.ref S) else none) = some b
  rw [if_pos e2]
  exact h4
/-- a suite that is come to by an error of the class at D alone (no fields of its own) -/
def tOnly (cls : Value) (d : Option Addr) (D : Addr) (t : TS) : TS := fun E σ H => cls = .ref D ∧ d = none ∧ t E σ H
theorem pss_only {X : Cx} {sts : List Stmt} {t : TS} {cls : Value} {d : Option Addr} {D : Addr} (h : cls = .ref D → d = none → PSs X sts t) : PSs X sts (tOnly cls d D t) :=
  ⟨fun pins s σ H E I hh => (h hh.1 hh.2.1).run pins s σ H E I hh.2.2⟩
theorem kit_self {K : PySem.W.Frag} {D : Addr} : PySem.W.kitOne K (.ref D) (.ref D) = some true := by
  unfold PySem.W.kitOne
  rw [if_pos (beq_self_eq_true _)]
theorem dec_iv (a d : Int) : decide (V.int a = V.int d) = decide (a = d) := by
  by_cases e : a = d
  · subst e; simp
  · rw [decide_eq_false e, decide_eq_false fun q => e (V.int.inj q)]
end Rg
namespace Rg
open PySem PySem.Spec PyProof.Rows L2
/-! ### tests that are known -/
theorem wT {c A B : Prop} [Decidable c] (h : c) (a : A) : if decide c = true then A else B := by rw [decide_eq_true h, if_pos rfl]; exact a
theorem wF {c A B : Prop} [Decidable c] (h : ¬ c) (a : B) : if decide c = true then A else B := by rw [decide_eq_false h, if_neg Bool.false_ne_true]; exact a
theorem wTv {a b : Int} {A B : Prop} (h : a = b) (k : A) : if decide (V.int a = V.int b) = true then A else B := wT (by rw [h]) k
theorem wFv {a b : Int} {A B : Prop} (h : ¬ a = b) (k : B) : if decide (V.int a = V.int b) = true then A else B := wF (fun z => h (V.int.inj z)) k
theorem wI {a b : Int} {A B : Prop} (h1 : a = b → A) (h2 : ¬ a = b → B) : if decide (V.int a = V.int b) = true then A else B := by
  by_cases e : a = b
  · exact wTv e (h1 e)
  · exact wFv e (h2 e)
theorem wD {c A B : Prop} [Decidable c] (h1 : c → A) (h2 : ¬ c → B) : if decide c = true then A else B := by
  by_cases e : c
  · exact wT e (h1 e)
  · exact wF e (h2 e)
theorem wTn {c A B : Prop} [Decidable c] (h : ¬ c) (a : A) : if (!decide c) = true then A else B := by rw [decide_eq_false h]; exact iteT a
theorem wFn {c A B : Prop} [Decidable c] (h : c) (a : B) : if (!decide c) = true then A else B := by rw [decide_eq_true h]; exact iteF a
theorem wTb {b : Bool} {A B : Prop} (h : b = true) (a : A) : if b = true then A else B := by rw [if_pos h]; exact a
theorem wFb {b : Bool} {A B : Prop} (h : b = false) (a : B) : if b = true then A else B := by rw [if_neg (by rw [h]; decide)]; exact a
/-- what was free before may be written -/
theorem Kp.put {S : List Addr} {H H1 : Hp} {a : Addr} {o : HO} (k : Kp S H H1) (h : H a = none) : Kp S H (upd H1 a o) := fun x u e n => by
  rw [upd_ne (ne_of_none e h)]
  exact k x u e n
theorem wNT {a b : Int} {A B : Prop} (h : ¬ a = b) (k : A) : if (!decide (V.int a = V.int b)) = true then A else B := wTn (fun z => h (V.int.inj z)) k
theorem wNF {a b : Int} {A B : Prop} (h : a = b) (k : B) : if (!decide (V.int a = V.int b)) = true then A else B := wFn (by rw [h]) k
theorem wNe {a b : Int} {A B : Prop} (h1 : ¬ a = b → A) (h2 : a = b → B) : if (!decide (V.int a = V.int b)) = true then A else B := by
  by_cases e : a = b
  · exact wNF e (h2 e)
  · exact wNT e (h1 e)
theorem wND {c A B : Prop} [Decidable c] (h1 : ¬ c → A) (h2 : c → B) : if (!decide c) = true then A else B := by
  by_cases e : c
  · exact wFn e (h2 e)
  · exact wTn e (h1 e)
theorem CMul_l {i j : Int} (h : -(2 ^ 64) < i ∧ i < 2 ^ 64) : CMul i j := .inl h
theorem CMul_r {i j : Int} (h : -(2 ^ 64) < j ∧ j < 2 ^ 64) : CMul i j := .inr h
theorem lt_line {n : Nat} (h : n ≤ 10000) : n < sizeLine := Nat.lt_of_le_of_lt h (by decide)
/-- the slots written out -/
theorem sg {t : L2.St → Hp → Prop} {σ σ' : L2.St} {H : Hp} (e : σ = σ') (h : t σ' H) : t σ H := by rw [e]; exact h
theorem sgG {i : Nat} {v : V} {σ σ' : L2.St} {H : Hp} {k : L2.St → Hp → Prop} (e : σ.set i (some v) = σ') (h : k σ' H) : gName i v σ H k := by
  subst e
  exact h
end Rg
namespace Rg
open PySem PySem.Spec PyProof.Rows L2
/-! ### an error that a suite holds, handed to a def of one's own -/
section
variable {prog : Program} {w : World} {A : Around} {E : Value → Shared → Prop} {s : Shared}
/-- a walk over a list comes to its end while an error is handled -/
theorem list_end_hot {it l x1 : Addr} {i : Nat} {items} {Q : Option Value → Shared → Prop} (hot : HotX.HotAt A x1 s.heap) (hit : s.heap.IsListIter it l i) (hl : s.heap.IsList l items) (hx : items[i]? = none)
    (hQ : ∀ h', Heap.ExtBut it s.heap h' → Q none { s with heap := h' }) : wpAny (model prog w) A (pyNext (.ref it)) Q E s := by
  obtain ⟨hh, o1, vs1, h1, d1, c1⟩ := hot; obtain ⟨o, ho, hc, hd⟩ := id hit
  obtain ⟨ol, hol, _, nl, hdl⟩ := hl; unfold pyNext
  have ni : it ≠ x1 := fun z => by
    rw [← z, ho] at h1
    cases h1
    rw [hd] at d1
    cases d1
    simp at c1
  refine wpAny_bind (wpAny_attempt (wpAny_callSpecial?_slot (name := Str.ofString "__next__") hit.typeIs slot_listiter_next (wpAny_call_entry slot_listiter_next hit.typeIs entry_listiter_next ?_ (args_listiter_next _))))
  refine (show wpAny _ _ (field (.ref it) 0 >>= _) _ _ s from ?_); refine wpAny_bind (wpAny_field ho hd (x := .ref l) rfl ?_)
  refine (show wpAny _ _ (if (Value.ref l == Value.none) = true then _ else _) _ _ s from ?_); rw [if_neg (show ¬ ((Value.ref l == Value.none) = true) from Bool.false_ne_true)]
  refine (show wpAny _ _ (field (.ref it) 1 >>= _) _ _ s from ?_); refine wpAny_bind (wpAny_field ho hd (x := .int i 0) rfl ?_)
  refine (show wpAny _ _ (seqItems? (.ref l) >>= _) _ _ s from ?_); refine wpAny_bind (wpAny_seqItems hol hdl ?_)
  simp only [Int.toNat_natCast, hx]; refine wpAny_bind (wpAny_rule (wpAny_bind (wpAny_setField ho hd (by simp) ?_)))
  refine (show wpAny _ _ (newExc (.type "StopIteration") [] >>= _) _ _ _ from ?_); refine wpAny_bind ?_
  simp only [newExc, newTuple]; refine wpAny_bind (wpAny_newObj_type ?_ (by size_fits))
  refine wpAny_bind (m := firstArgMember _ _) (wpAny_of_eq (a := Value.none) (by first | rfl | (simp only [firstArgMember]; rfl)) ?_); refine wpAny_newObj_type ?_ (by size_fits)
  have g1 : ∀ f : Obj → Obj, (s.heap.update it f).get? x1 = some o1 := fun f => by rw [Heap.get?_update_other _ _ ni]; exact h1
  refine HotX.raiseNew_hot ⟨hh, o1, vs1, Heap.get?_push_of_some _ (Heap.get?_push_of_some _ (g1 _)), d1, c1⟩ (Nat.ne_of_lt (Heap.lt_size (Heap.get?_push_of_some _ (g1 _)))) (Heap.get?_push_size _ rfl) rfl (by first | (simp; done) | (simp; omega) | (simp only [Array.size_append]; simp; omega)) ?_
  refine wpAny_bind (wpAny_isInstance (T := "StopIteration") (b := true) ⟨_, Heap.get?_update_self _ (Heap.get?_push_size _ rfl) rfl, rfl⟩ isSubtype_stop ?_); refine wpAny_pure (hQ _ fun b o' nb e => ?_)
  have e2 : ∀ f oo, ((s.heap.update it f).push oo).get? b = some o' := fun f oo => (Heap.SameBut.update ..).extBut.push _ b o' nb e
  rw [Heap.get?_update_other _ _ (Nat.ne_of_gt (Heap.lt_size (e2 _ _)))]; exact Heap.get?_push_of_some _ (e2 _ _)
end
/-- the turns of a walk over a list while an error is handled -/
theorem turn_listH {P : Program} {w : World} {K : PySem.W.Frag} {tg : Expr} (a it : Addr) : L2H.TurnH P w K tg (Itl K a) [it] it (fun i h => h.IsListIter it a i) where
  mem := by simp
  obj := fun i h st b hb => (turn_list (P := P) (w := w) (K := K) (tg := tg) a it).obj i h st b hb
  keep := fun i h h' st k => (turn_list (P := P) (w := w) (K := K) (tg := tg) a it).keep i h h' st k
  item := by
    intro X hP hw hK hc i pins s σ H E I hf st hg; subst hP hw hK
    obtain ⟨xs, x, hq, hx⟩ := hg; obtain ⟨its, rv, p, hz⟩ := I.list hq
    obtain ⟨u, hu, ru⟩ := rv.get hx; obtain ⟨f0, f1, f2, f3, f4, f5⟩ := hf it (by simp)
    refine wpAny_pyNext_list_item st p.isList (x := u) (by simpa using hu) fun h' st' sb => ?_
    have I1 : Inv X pins σ H { s with heap := h' } := I.turned (t' := s.toks) (fun b o hb e => (sb.2 b hb).trans e) f0 f1 f3 f4 f5
    obtain ⟨o, e, c, d⟩ := id st'
    exact ⟨u, rfl, go_of (s := { s with heap := h' }) e c d (by decide) ⟨x, H, I1, ru, ⟨rfl, fun ys hy => by rw [I.list_inj hy hq]; exact hx⟩, st', fun b hb => (hf b hb).1⟩⟩
  done := by
    intro X hP hw hK hc i pins s σ H E I hf st hg; subst hP hw hK
    obtain ⟨xs, hq, hx⟩ := hg; obtain ⟨its, rv, p, hz⟩ := I.list hq
    obtain ⟨f0, f1, f2, f3, f4, f5⟩ := hf it (by simp); obtain ⟨x1, hot⟩ := hc.at I
    have hl := rv.length
    exact list_end_hot hot st p.isList (by simp; omega) fun h' eb => ⟨rfl, I.turned (t' := s.toks) (fun b o hb e => eb b o hb e) f0 f1 f3 f4 f5⟩
  self := fun _ _ _ _ _ st h => wpAny_pyIter_listiter st h
theorem pi_listH {X : Cx} {tg l : Expr} {tl : TE} (hl : PE X l tl) : L2H.PIH X tg l (iList X.K tl) := by
  refine ⟨fun pins s σ H R I h => thn (hl.run pins s σ H _ I h) fun v s1 ⟨x, H1, I1, r1, q1⟩ => ?_⟩
  obtain ⟨a, e, ⟨xs, hq⟩, q⟩ := q1; subst e; cases r1
  obtain ⟨its, rv, p, hz⟩ := I1.list hq; refine wpAny_pyIter_list p.isList ?_
  refine ⟨s1.heap.objs.size, [s1.heap.objs.size], _, _, H1, rfl, I1.kept (t' := s1.toks) (fun b o e => Heap.get?_push_of_some _ e), turn_listH a _, ⟨_, Heap.get?_push_size _ rfl, rfl, rfl⟩, fun b hb => ?_, q⟩
  have e : b = s1.heap.objs.size := by simpa using hb
  subst e; exact I1.fpOk (Nat.le_refl _) (I1.hok.fresh (Nat.le_refl _))
/-- a def that is called with the error that a suite holds (of the class at D) and lets nothing out -/
structure FnE (P : Program) (w : World) (K : PySem.W.Frag) (mg : Str → Option Value) (base : Heap) (k : Nat) (f : Addr) (fd : FuncData) (ps : List Str) (D : Addr) (sp : Addr → Sp) : Prop where
  len : ∀ a vs H Q E, sp a vs H Q E → vs.length = ps.length
  run : ∀ (A : Around) (outer : List Env) (s : Shared) (H : Hp) (args : Args) (us : List Value) (vs : List V) (Q : VK) (E : XK) (p : Addr × Obj), L2H.RoomH k A → L2H.Hot1 A p → Zc (.ref D) none p.2 → L2H.PinOk outer H s p → Env0 P w K mg base A outer s H →
    BindsTo s fd args (ps.zip us) → Vals vs us → sp p.1 vs H Q E → codeAny (model P w) A (.call (.ref f) args) (CR CX0 outer P w H s Q E) s
section
variable {P : Program} {w : World} {K : PySem.W.Frag} {mg : Str → Option Value} {base : Heap}
theorem _root_.L2.Fun.okE {x qual : Str} {st : Stmt} {f D : Addr} {fd : FuncData} {N ps : List Str} {k : Nat} {sp : Addr → Sp} (F : Fun K x qual st f fd) (S : FnScope N ps (defScope st)) (len : ∀ a vs H Q E, sp a vs H Q E → vs.length = ps.length)
    (hbody : ∀ (cdv : Value) (A : Around) (outer : List Env) (s : Shared) (H : Hp) (vs : List V) (Q : VK) (E : XK) (p : Addr × Obj), L2H.Hot1 A p → Zc (.ref D) none p.2 → L2H.RoomH k (A.deeper (envOfC qual (defScope st) s.heap.objs.size f cdv)) → sp p.1 vs H Q E →
      ∃ t, PSs (L2H.cxH CX0 P w K mg base N qual (defScope st) f cdv A outer s H E p) (defBody st) t ∧ t { nx := fun _ H' => Q .non H', rt := Q } (L2.start N vs) H) : FnE P w K mg base (k + 1) f fd ps D sp := by
  obtain ⟨oc, od, kV, doc, pm, an, cdv, ct, osl, rfl, lk, hcd⟩ := F.ex
  refine ⟨len, fun A outer s H args us vs Q E p hr hot hz hpin e0 hb r hsp => ?_⟩
  have hl := len _ _ _ _ _ hsp; have KX : K.In s.heap := e0.mod.kin.keeps fun b o e => (e0.bs b o e).1
  have lim : s.heap.NoLimit := e0.mod.nolimit.keeps fun b o e => (e0.bs b o e).1; have bb := hb
  have hkind : ∀ y ∈ ps.zip us, (defScope st).names.lookup y.1 = some .local ∨ ((defScope st).names.lookup y.1 = some .cell ∧ ((cellsFrom (s.heap.objs.size + 1) (defScope st).names []).lookup y.1).isSome = true) := fun ⟨n, v⟩ hy =>
    (S.par n (List.of_mem_zip hy).1).elim .inl fun q => .inr ⟨q, PySem.W.cellsFrom_some _ _ _ (.inl q)⟩
  refine codeAny_call_function hr.depth (KX _ _ lk) rfl S.co S.gen rfl (PySem.W.codeRec_of KX hcd) (bb _ _ _ _ (wpAny_newFunctionEnv_cells S.kind hkind fun env he s1 x => ?_))
  subst he; refine ⟨lim.keeps x.toInCall.keep, codeAny_func ?_⟩
  obtain ⟨t, ht, hq⟩ := hbody cdv A outer s H vs Q E p hot hz (hr.deeper _) hsp
  have I := L2H.inv_startH (CX := CX0) (E := E) S hpin e0 hl r x
  refine wpAny_mono (ht.run [] s1 (L2.start N vs) H _ I hq) (fun fl s' hs => ?_) fun _ _ hs => hs
  cases fl with
  | ret u => exact hs.elim fun v ⟨σ', H', J, rv, q⟩ => ⟨v, H', J.os, J.bare, J.base, J.hok, rv, q⟩
  | next => exact hs.elim fun σ' ⟨H', J, q⟩ => ⟨V.non, H', J.os, J.bare, J.base, J.hok, rfl, q⟩
  | brk => exact hs.elim fun _ ⟨_, _, q⟩ => q.elim
  | cont => exact hs.elim fun _ ⟨_, _, q⟩ => q.elim
end
section
variable {X : Cx} {k : Nat} {f D : Addr} {fd : FuncData} {ps : List Str} {sp : Addr → Sp} {x : Str} {q pos : Pos} {e : Expr} {es : List Expr} {t : TA}
/-- f(e, ..), f a def for the error at a -/
def tCallE (sp : Addr → Sp) (a : Addr) (t : TA) : TE := fun σ H Q => t σ H fun vs H1 => sp a vs H1 Q E0
theorem pe_callE (F : FnE X.prog X.w X.K X.mg X.base k f fd ps D sp) (hr : L2H.RoomH k X.A) {p : Addr × Obj} (hot : L2H.Hot1 X.A p) (hz : Zc (.ref D) none p.2) (hp : p ∈ X.pn) (hg : Gl X x) (hm : X.mg x = some (.ref f)) (hk : PySem.W.keepIn X.K (.ref f) = true) (hb : Binds X.K fd ps [])
    (ha : PA X (e :: es) t) (hdb : (x == ("__debug__" : Str)) = false := by decide) (he : starEach (e :: es) X.env = (false, eval e X.env) :: starEach es X.env := by rfl) (hpl : (backTo pos (starEach es X.env)).any (·.1) = false := by rfl) :
    PE X (.Call (.Name x q) (e :: es) [] pos) (tCallE sp p.1 t) := by
  refine ⟨fun pins s σ H Q I h => wpAny_Call_Name_kw (ld_glob I hg hm ?_ hdb)⟩
  refine PySem.W.callWith_K (h₀ := X.base) I.ok.mod.kin hk (thn (ha.run pos pins s σ H _ I h) fun us s1 ⟨vs, H1, I1, r, q⟩ => ⟨I1.kIn, ?_⟩) he hpl
  have hl : us.length = ps.length := by rw [← r.length]; exact F.len _ _ _ _ _ q
  have b := hb s1 us I1.kIn (by rw [List.append_nil]; exact hl)
  rw [List.append_nil] at b
  have P1 := I1.pin p (List.mem_append_left _ hp)
  have hpin : L2H.PinOk X.stack H1 s1 p := ⟨P1.1, P1.2.1, fun hm' => (List.mem_cons.mp (I1.stkSub p.1 hm')).elim P1.2.2.1 P1.2.2.2.1, P1.2.2.2.2⟩
  refine wpAny_call (codeAny_mono (F.run X.A X.stack s1 H1 ⟨us, []⟩ us vs Q E0 p hr hot hz hpin I1.env0 b r q) fun r' s' hq => ?_)
  cases r' with
  | error e => exact False.elim hq
  | ok fl =>
    cases fl with
    | ret u => exact I1.after hq
    | _ => exact False.elim hq
/-- isinstance of the error that is handled, in whatever def it is asked -/
theorem call_isP {a D : Addr} {oe : Obj} (C : ExcC X.K D) (hz : Zc (.ref D) none oe) (hf : ∃ vs, oe.data = .fields vs) (hp : (a, oe) ∈ X.pn) : CallR X (.builtin "isinstance") (rIsE X.K D a) := by
  rintro pins s σ H xs us Q I r ⟨c, cv, b, rfl, hcv, e, q⟩
  obtain ⟨vs, hv⟩ := hf
  cases r with
  | cons rx rr =>
    cases rr with
    | cons rt rr =>
      cases rr; cases rx
      have ec := hcv _ rt
      subst ec
      have hget := (I.pin (a, oe) (List.mem_append_left _ hp)).1
      have J : PySem.W.InstAt s.heap a oe D none := by
        obtain ⟨oc, od, oda, osl⟩ := oe
        obtain ⟨h1, h2⟩ := hz
        subst hv
        cases h1
        cases h2
        exact ⟨hget, rfl, rfl, trivial⟩
      exact PySem.W.kia_one (PySem.W.handS_kitx_exc C.hg C.hk C.hs C.hd C.ha C.hn C.ht C.hm) I.kIn J e (fun z => nomatch z) fun tk => ⟨.bl b, H, I.kept (t' := tk) fun _ _ z => z, rfl, q⟩
end
/-! ### defs that raise: the error's context is told to be None -/
section
variable {P : Program} {w : World} {K : PySem.W.Frag} {mg : Str → Option Value} {base : Heap}
theorem _root_.L2.Fun.okN {x qual : Str} {st : Stmt} {f : Addr} {fd : FuncData} {N ps : List Str} {k : Nat} {sp : Sp} (F : Fun K x qual st f fd) (S : FnScope N ps (defScope st)) (len : ∀ vs H Q E, sp vs H Q E → vs.length = ps.length)
    (hbody : ∀ (cdv : Value) (A : Around) (outer : List Env) (s : Shared) (H : Hp) (vs : List V) (Q : VK) (E : XK), Room k (A.deeper (envOfC qual (defScope st) s.heap.objs.size f cdv)) → sp vs H Q E →
      ∃ t, PSs (cxOf (L2N.CX P w) P w K mg base N qual (defScope st) f cdv A outer s H E) (defBody st) t ∧ t { nx := fun _ H' => Q .non H', rt := Q } (L2.start N vs) H) : FnOk P w K mg base (L2N.CX P w) (k + 1) f fd ps sp := by
  obtain ⟨oc, od, kV, doc, pm, an, cdv, ct, osl, rfl, lk, hcd⟩ := F.ex
  exact fn_of lk hcd S len fun A outer s H vs Q E hr hsp => hbody cdv A outer s H vs Q E hr hsp
theorem takes0N {X : Cx} : L2N.Takes X (fun _ _ _ _ => False) := fun _ _ x => by
  obtain ⟨_, _, _, _, _, _, _, _, _, _, _, _, _, _, _, _, z⟩ := x
  cases z
end
section
variable {X : Cx} {C : Addr} {bmB : List Value} {B newId initId : String}
/-- X(e) -/
theorem pmk_own1N {x : Str} {e : Expr} {ta : TE} {p pos : Pos} (F : ExcBaseFacts B newId initId bmB) (q : PySem.W.excIn X.K C bmB newId = true) (gC : X.mg x = some (.ref C)) (kC : PySem.W.keepIn X.K (.ref C) = true) (r : Raises X (.ref C)) (hg : Gl X x) (he : PE X e ta)
    (hs : starEach [e] X.env = (false, eval e X.env) :: starEach [] X.env := by rfl) (hdb : (x == ("__debug__" : Str)) = false := by decide) : L2N.PMk X (.Call (.Name x p) [e] [] pos) (fun σ H Q => ta σ H fun _ H1 => Q (.ref C) none H1) := by
  intro pins s σ H Q I h; refine wpAny_Call_Name_kw (ld_glob I hg gC ?_ hdb)
  refine PySem.W.callWith_K (h₀ := X.base) I.ok.mod.kin kC ?_ hs (by rfl); rw [hs]
  refine (show wpAny _ _ (spliced ((false, eval e X.env) :: backTo pos (starEach [] X.env))) _ _ s from ?_)
  refine Calls.spliced_cons (thn (he.run pins s σ H _ I h) fun u s1 ⟨v, H1, I1, r1, q1⟩ => Calls.spliced_nil ⟨I1.kIn, ?_⟩)
  refine (show wpAny _ _ (call (.ref C) [u]) _ _ _ from ?_)
  obtain ⟨bm, N, nm, qn, bs, hdct, sn, sub, ab, col, dd, k0, k1, k2, k3, k5, mN, hC, hN, hni, T⟩ := exc_obj I1.kIn q
  exact wpAny_call_exc_subT F T hC hN hni (fun h' e' hm => L2N.mk_of I1 hm r q1 (I1.hok.gone hm.new)) (by show 1 ≤ sizeLine; rw [sizeLine_eq]; omega)
end
/-! ### which class an error is of -/
theorem kit_subT {K : PySem.W.Frag} {D S : Addr} (h2 : PySem.W.isClsIn K S = true) (h3 : PySem.W.typeIn K (.ref S) = some (.type "type")) (h4 : PySem.W.subIn K (.ref D) (.ref S) = some true) : PySem.W.kitOne K (.ref D) (.ref S) = some true := by
  by_cases e : D = S
  · subst e
    exact kit_self
  · exact kit_sub e h2 h3 h4
theorem kit_blt {K : PySem.W.Frag} {D : Addr} {b : String} {r : Bool} (hm : PySem.W.kitMeta b = true) (h : PySem.W.subIn K (.ref D) (.type b) = some r) : PySem.W.kitOne K (.ref D) (.type b) = some r := by
  unfold PySem.W.kitOne
  rw [if_neg (by intro z; exact nomatch (beq_iff_eq.mp z))]
  unfold PySem.W.kitCls
  simpa [hm] using h
theorem takeB {α : Type} {l : List α} {i : Nat} {x : α} (h : l[i]? = some x) : l.take (i + 1) = l.take i ++ [x] := by
  rw [List.take_succ, h]
  rfl
/-! ### unpacking a tuple while an error is handled -/
section
variable {prog : Program} {w : World} {A : Around} {E : Value → Shared → Prop} {s : Shared}
theorem tup_end_hot {it l x1 : Addr} {i : Nat} {items} {Q : Option Value → Shared → Prop} (hot : HotX.HotAt A x1 s.heap) (hit : IsTupIter s.heap it l i) (hl : IsTup s.heap l items) (hx : items[i]? = none)
    (hQ : ∀ h', Heap.ExtBut it s.heap h' → Q none { s with heap := h' }) : wpAny (model prog w) A (pyNext (.ref it)) Q E s := by
  obtain ⟨hh, o1, vs1, h1, d1, c1⟩ := hot; obtain ⟨o, ho, hc, hd⟩ := id hit
  obtain ⟨ol, hol, _, nl, hdl⟩ := hl; unfold pyNext
  have ni : it ≠ x1 := fun z => by
    rw [← z, ho] at h1
    cases h1
    rw [hd] at d1
    cases d1
    simp at c1
  refine wpAny_bind (wpAny_attempt (wpAny_callSpecial?_slot (name := Str.ofString "__next__") hit.typeIs slot_tupleiter_next (wpAny_call_entry slot_tupleiter_next hit.typeIs entry_tupleiter_next ?_ (args_tupleiter_next _))))
  refine (show wpAny _ _ (field (.ref it) 0 >>= _) _ _ s from ?_); refine wpAny_bind (wpAny_field ho hd (x := .ref l) rfl ?_)
  refine (show wpAny _ _ (if (Value.ref l == Value.none) = true then _ else _) _ _ s from ?_); rw [if_neg (show ¬ ((Value.ref l == Value.none) = true) from Bool.false_ne_true)]
  refine (show wpAny _ _ (field (.ref it) 1 >>= _) _ _ s from ?_); refine wpAny_bind (wpAny_field ho hd (x := .int i 0) rfl ?_)
  refine (show wpAny _ _ (seqItems? (.ref l) >>= _) _ _ s from ?_); refine wpAny_bind (wpAny_seqItems hol hdl ?_)
  simp only [Int.toNat_natCast, hx]; refine wpAny_bind (wpAny_rule (wpAny_bind (wpAny_setField ho hd (by simp) ?_)))
  refine (show wpAny _ _ (newExc (.type "StopIteration") [] >>= _) _ _ _ from ?_); refine wpAny_bind ?_
  simp only [newExc, newTuple]; refine wpAny_bind (wpAny_newObj_type ?_ (by size_fits))
  refine wpAny_bind (m := firstArgMember _ _) (wpAny_of_eq (a := Value.none) (by first | rfl | (simp only [firstArgMember]; rfl)) ?_); refine wpAny_newObj_type ?_ (by size_fits)
  have g1 : ∀ f : Obj → Obj, (s.heap.update it f).get? x1 = some o1 := fun f => by rw [Heap.get?_update_other _ _ ni]; exact h1
  refine HotX.raiseNew_hot ⟨hh, o1, vs1, Heap.get?_push_of_some _ (Heap.get?_push_of_some _ (g1 _)), d1, c1⟩ (Nat.ne_of_lt (Heap.lt_size (Heap.get?_push_of_some _ (g1 _)))) (Heap.get?_push_size _ rfl) rfl (by first | (simp; done) | (simp; omega) | (simp only [Array.size_append]; simp; omega)) ?_
  refine wpAny_bind (wpAny_isInstance (T := "StopIteration") (b := true) ⟨_, Heap.get?_update_self _ (Heap.get?_push_size _ rfl) rfl, rfl⟩ isSubtype_stop ?_); refine wpAny_pure (hQ _ fun b o' nb e => ?_)
  have e2 : ∀ f oo, ((s.heap.update it f).push oo).get? b = some o' := fun f oo => (Heap.SameBut.update ..).extBut.push _ b o' nb e
  rw [Heap.get?_update_other _ _ (Nat.ne_of_gt (Heap.lt_size (e2 _ _)))]; exact Heap.get?_push_of_some _ (e2 _ _)
theorem unpack_hot {t x1 : Addr} {items : Array Value} {Q : List Value → Shared → Prop} (hot : HotX.HotAt A x1 s.heap) (ht : IsTup s.heap t items)
    (hQ : ∀ h', Heap.ExtBut s.heap.objs.size s.heap h' → Q items.toList { s with heap := h' }) : wpAny (model prog w) A (unpackItems (.ref t) items.size none) Q E s := by
  have hlt : t ≠ s.heap.objs.size := ht.elim fun o ho => Nat.ne_of_lt (Heap.lt_size ho.1)
  have hx : x1 ≠ s.heap.objs.size := hot.2.elim fun o ho => ho.elim fun _ h => Nat.ne_of_lt (Heap.lt_size h.1)
  unfold unpackItems notIterableAtAll; refine wpAny_bind (wpAny_bind (wpAny_specialOf ht.typeIs slot_tuple_iter.lookup (wpAny_pure ?_)))
  simp only [Bool.false_eq_true, if_false]; refine wpAny_bind (wpAny_holding (iter_tuple ht (wpAny_bind (wpAny_holding (draw_tuple hlt items.size 0 _ _ ⟨_, Heap.get?_push_size _ rfl, rfl, rfl⟩ (ht.push _) (by omega) fun h₁ hit₁ hs₁ => ?_)))))
  have hall : List.take items.size (List.drop 0 items.toList) = items.toList := by rw [List.drop_zero]; exact List.take_of_length_le (by simp)
  rw [hall, if_neg (by simp)]
  have ht₁ := (ht.push { cls := .type "tuple_iterator", data := .fields #[.ref t, .int 0 0] }).extBut hs₁.extBut hlt
  have hot₁ : HotX.HotAt A x1 h₁ := hot.2.elim fun o ho => ho.elim fun vv h => ⟨hot.1, o, vv, hs₁.extBut x1 o hx (Heap.get?_push_of_some _ h.1), h.2.1, h.2.2⟩
  refine wpAny_bind (wpAny_holding (tup_end_hot hot₁ hit₁ ht₁ (by simp) fun h₂ he₂ => ?_))
  simp only [Option.isSome_none, Bool.false_eq_true, if_false]; exact wpAny_pure (hQ h₂ fun b o hb e => he₂ b o hb (hs₁.extBut b o hb (Heap.get?_push_of_some _ e)))
end
/-- (a, b, ..) = a tuple, while an error is handled -/
theorem pg_tupH {X : Cx} {pos : Pos} {es : List Expr} {k : Nat} {t : TGs} {n : Nat} (hc : L2H.HotC X) (h : PGs X es t) (hn : (assignEach es X.env).length = n := by rfl) (hst : (assignEach es X.env).findIdx? (·.1) = none := by rfl) : PG X (.Tuple es k pos) (gTup X.K n t) := by
  refine ⟨fun pins s σ H v u Q I r hw => ?_⟩
  obtain ⟨a, xs, e1, hq, hl, hw⟩ := hw; subst e1; cases r
  obtain ⟨its, rv, ht, hz⟩ := I.tuple hq; obtain ⟨x1, hot⟩ := hc.at I
  rw [assign_Tuple]; refine wpAny_bind (wpAny_standAt ?_); unfold unpack
  rw [show (assignEach es X.env).length = its.toArray.size by simp [hn, ← hl, rv.length], hst]
  refine wpAny_bind (wpAny_holding (unpack_hot hot ht fun h' hx => ?_))
  have I1 : Inv X pins σ H { s with heap := h' } := I.kept (t' := s.toks) fun b o e => hx b o (Nat.ne_of_lt (Heap.lt_size e)) e
  exact h.run pins _ σ H xs _ Q I1 (by simpa using rv) hw
/-- a def that may raise, called where it does not -/
theorem passLN {X : Cx} : Passes (L2N.CX X.prog X.w) X E0 := fun _ _ _ _ _ _ _ h => by
  obtain ⟨_, _, _, _, _, _, _, _, _, _, _, _, z⟩ := h
  exact False.elim z
end Rg
namespace Rg
open PySem PySem.Spec PyProof.Rows L2
/-! ### enumerate(tuple) -/
open Sem (wp)
open AutoSeq1 (wpAny_loadPart')
theorem meets_enumerate_newT (l : Addr) (items : Array Value) (n : Nat) (dct : Option Addr) (sl : Array (Option Value)) :
    Meets (Builtin.«enumerate.__new__» ⟨[.type "enumerate", .ref l], []⟩) (fun _ R s => s.heap.get? l = some { cls := .type "tuple", dict := dct, data := .seq items n, slots := sl } ∧
      R (.ok (.ret (.ref (s.heap.push { cls := .type "tuple_iterator", data := .fields #[.ref l, .int 0 0] }).objs.size)))
        { s with heap := (s.heap.push { cls := .type "tuple_iterator", data := .fields #[.ref l, .int 0 0] }).push { cls := .type "enumerate", data := .fields #[.none, .bool false, .ref s.heap.objs.size, rawInt 0, .none, .none] } }) :=
  .of_wp fun prog w A R s h => by
    obtain ⟨hp, g, d, tk, os⟩ := s; obtain ⟨hl, h⟩ := h
    have hsub := sub_enumerate
    have hL : Heap.IsTuple (Shared.heap ⟨hp, g, d, tk, os⟩) l items := ⟨_, hl, rfl, n, rfl⟩
    wp_walk using wpAny_loadPart' hl
    refine wpAny_stack_any fun st => wpAny_pure ?_
    split
    · rename_i c _ _ _ _ _
      cases (c == Value.type "enumerate")
      · wp_walk using wpAny_loadPart' hl, wpAny_pyIter_tuple hL
        exact ⟨_, rfl, h⟩
      · wp_walk using wpAny_loadPart' hl, wpAny_pyIter_tuple hL
        exact ⟨_, rfl, h⟩
    · wp_walk using wpAny_loadPart' hl, wpAny_pyIter_tuple hL
      exact ⟨_, rfl, h⟩
section
variable {prog : Program} {w : World} {A : Around} {E : Value → Shared → Prop} {s : Shared}
theorem call_enumerate_tuple {l : Addr} {items : Array Value} {Q : Value → Shared → Prop} (hL : s.heap.IsTuple l items)
    (h : ∀ h', IsEnum h' (s.heap.objs.size + 1) s.heap.objs.size 0 .none → h'.IsTupleIter s.heap.objs.size l 0 → h'.objs.size = s.heap.objs.size + 2 →
      (∀ b o, s.heap.get? b = some o → h'.get? b = some o) → Q (.ref (s.heap.objs.size + 1)) { s with heap := h' }) :
    wpAny (model prog w) A (call (.type "enumerate") [.ref l]) Q E s := by
  obtain ⟨⟨c, dct, dt, sl⟩, hl, hc, n, hd⟩ := hL
  replace hc : c = .type "tuple" := hc
  replace hd : dt = .seq items n := hd
  subst hc hd
  refine callType_new F.called_enumerate (by decide) (F.typeCall_enumerate_1 _) (F.newCall_enumerate_1 _) (fun obj => F.args_object_init_2 obj _) F.entry_enumerate_new
    (meets_enumerate_newT l items n dct sl) ⟨hl, ?_⟩
  have hz : (s.heap.push { cls := .type "tuple_iterator", data := .fields #[.ref l, .int 0 0] }).objs.size = s.heap.objs.size + 1 := Heap.size_push ..
  show _ ∧ _
  rw [hz]
  have he : IsEnum ((s.heap.push { cls := .type "tuple_iterator", data := .fields #[.ref l, .int 0 0] }).push
      { cls := .type "enumerate", data := .fields #[.none, .bool false, .ref s.heap.objs.size, rawInt 0, .none, .none] }) (s.heap.objs.size + 1) s.heap.objs.size 0 .none := by
    have := Heap.get?_push_size (s.heap.push { cls := .type "tuple_iterator", data := .fields #[.ref l, .int 0 0] })
      (o := { cls := .type "enumerate", data := .fields #[.none, .bool false, .ref s.heap.objs.size, rawInt 0, .none, .none] }) rfl
    rw [hz] at this; exact this
  refine ⟨⟨_, he, rfl⟩, h _ he ⟨_, Heap.get?_push_of_some _ (Heap.get?_push_size _ rfl), rfl, rfl⟩ (by rw [Heap.size_push, hz]) fun b o x => Heap.get?_push_of_some _ (Heap.get?_push_of_some _ x)⟩
end
/-- the tuple at a as it stands at each turn, each item in a new pair -/
def IteT (K : PySem.W.Frag) (a : Addr) : It :=
  ⟨fun i H => ∃ (xs : List V) (x : V), SqT K H a xs ∧ xs[i]? = some x, fun i H v H' => ∃ T x, v = .ref T ∧ H T = none ∧ H' = upd H T (.tup [.int (i : Nat), x]) ∧ ∀ xs, SqT K H a xs → xs[i]? = some x, fun i H => ∃ xs : List V, SqT K H a xs ∧ xs.length ≤ i⟩
theorem turn_enumT {P : Program} {w : World} {K : PySem.W.Frag} {elts : List Expr} {kk : Nat} {tpos : Pos} (a e it : Addr) :
    Turn P w K (.Tuple elts kk tpos) (IteT K a) [e, it] e (fun i h => (∃ old, IsEnum h e it ((i : Nat) : Int) old) ∧ h.IsTupleIter it a i ∧ e ≠ it) where
  mem := by simp
  obj := fun i h st b hb => by
    obtain ⟨⟨old, he⟩, ⟨o, ho, hc, hd⟩, _⟩ := st
    have e' : b = e ∨ b = it := by simpa using hb
    rcases e' with z | z
    · rw [z]; exact ⟨_, he, fun v q => nomatch q⟩
    · rw [z]; exact ⟨o, ho, fun v q => by rw [hd] at q; cases q⟩
  keep := fun i h h' st k => let ⟨⟨old, he⟩, hi, hne⟩ := st; ⟨⟨old, k e (by simp) _ he⟩, hi.at fun o q => k it (by simp) o q, hne⟩
  item := by
    intro X hP hw hK hc i pins s σ H E I hf st hg
    subst hP hw hK
    obtain ⟨⟨old, he⟩, hit, hne⟩ := st
    obtain ⟨xs, x, hq, hx⟩ := hg
    obtain ⟨its, rv, p, hz⟩ := I.tuple hq
    obtain ⟨u, hu, ru⟩ := rv.get hx
    have hlt : i < its.toArray.size := by
      have := (List.getElem?_eq_some_iff.mp hu).1
      simpa using this
    have hel : e < s.heap.objs.size := Heap.lt_size he
    have hil : it < s.heap.objs.size := by obtain ⟨_, q, _⟩ := hit; exact Heap.lt_size q
    have hae : a ≠ e := fun z => by
      obtain ⟨o, ho, hc', _⟩ := p
      rw [z] at ho
      have := Option.some.inj (ho.symm.trans he)
      rw [this] at hc'
      have hc2 : Value.type "enumerate" = Value.type "tuple" := hc'
      exact absurd hc2 (by decide)
    have hai : a ≠ it := fun z => by
      obtain ⟨o, ho, hc', _⟩ := p
      obtain ⟨o2, ho2, hc2, _⟩ := hit
      rw [z] at ho
      have := Option.some.inj (ho.symm.trans ho2)
      rw [this, hc2] at hc'
      exact absurd hc' (by decide)
    refine wpAny_pyNext_enum_itemD (Draws.tuple (prog := X.prog) (w := X.w) (A := X.A.in1) (I.ok.hd hc) it a hai its.toArray) he ⟨hit, p⟩ hlt hne (by simp [hne, hae.symm]) fun y h' tk hy ho hit' hT hsz hk => ?_
    have ey : y = u := by
      have e1 : its.toArray[i]? = some u := by simpa using hu
      rw [e1] at hy
      exact (Option.some.inj hy).symm
    subst ey
    refine ⟨_, rfl, wpAny_letOwnedTupleGo_enum (s := { s with heap := h', toks := tk + 1 }) ho fun h'' he' sb => ?_⟩
    have hT2 : h''.get? s.heap.objs.size = some { cls := .type "tuple", data := .seq #[.int i tk, y] } := (sb.2 _ (Nat.ne_of_gt hel)).trans hT
    have new : ObjOk X.prog X.w (upd H s.heap.objs.size (.tup [.int (i : Nat), x])) h'' s.heap.objs.size (.tup [.int (i : Nat), x]) :=
      ⟨by show 2 ≤ sizeLine; decide, [.int i tk, y], .cons ⟨_, rfl⟩ (.cons ru .nil), ⟨_, hT2, rfl, _, rfl⟩⟩
    have I1 : Inv X pins σ (upd H s.heap.objs.size (.tup [.int (i : Nat), x])) { s with heap := h'', toks := tk + 1 } :=
      I.turnedNew (t' := tk + 1) (ch := [e, it]) (fun b ob hb q => (sb.2 b (fun z => hb (by simp [z]))).trans (hk b ob (fun z => hb (by simp [z])) (fun z => hb (by simp [z])) q)) hf (Nat.le_refl _) new
    refine ⟨.ref s.heap.objs.size, _, I1, rfl, ⟨_, x, rfl, I.hok.fresh (Nat.le_refl _), rfl, fun ys hy => by rw [I.tuple_inj hy hq]; exact hx⟩, ⟨⟨y, ?_⟩, hit'.1.at fun o q => (sb.2 it (Ne.symm hne)).trans q, hne⟩, fun b hb => ?_⟩
    · have e1 : ((i + 1 : Nat) : Int) = (i : Int) + 1 := by omega
      rw [e1]; exact he'
    · have hb' : b < s.heap.objs.size := by
        have e' : b = e ∨ b = it := by simpa using hb
        rcases e' with z | z
        · rw [z]; exact hel
        · rw [z]; exact hil
      rw [upd_ne (Nat.ne_of_lt hb')]
      exact (hf b hb).1
  done := by
    intro X hP hw hK hc i pins s σ H E I hf st hg
    subst hP hw hK
    obtain ⟨⟨old, he⟩, hit, hne⟩ := st
    obtain ⟨xs, hq, hx⟩ := hg
    obtain ⟨its, rv, p, hz⟩ := I.tuple hq
    obtain ⟨f0, f1, f2, f3, f4, f5⟩ := hf it (by simp)
    have hl := rv.length
    unfold pyNext
    have hT : s.TypeIs (.ref e) "enumerate" := ⟨_, he, rfl⟩
    refine wpAny_bind (wpAny_attempt (wpAny_callSpecial?_slot (name := Str.ofString "__next__") hT F.slot_enumerate_next
      (wpAny_call_entry F.slot_enumerate_next hT F.entry_enumerate_next ?_ (F.args_enumerate_next_1 _))))
    show wpAny _ _ (field (.ref e) 2 >>= _) _ _ _
    refine wpAny_bind (wpAny_field he rfl (x := .ref it) rfl ?_)
    refine wpAny_bind (wpAny_nextOf_tuple_end (I.ok.hd hc) hit p (by simp; omega) fun h' x he' hx' => ?_)
    obtain ⟨o, ho, hc'⟩ := hx'
    refine wpAny_bind (wpAny_isInstance (T := "StopIteration") (b := true) ⟨o, ho, hc'⟩ isSubtype_stop ?_)
    exact wpAny_pure ⟨rfl, I.turned (t' := s.toks) (fun b o hb q => he' b o hb q) f0 f1 f3 f4 f5⟩
  self := fun A i s Q E st h => let ⟨⟨_, he⟩, _⟩ := st; wpAny_pyIter_enum he h
theorem walk_enumT {K : PySem.W.Frag} {a : Addr} {xs : List V} : Walk (IteT K a) xs.length (fun H => SqT K H a xs) (YPair (fun i => some (.int (i : Nat))) (fun i => xs[i]?)) := by
  refine ⟨fun i _ hi q => ⟨xs, xs[i], q, by simp [hi]⟩, fun _ q => ⟨xs, q, Nat.le_refl _⟩, fun i H v H' _ q y => ?_⟩
  obtain ⟨T, x, h1, h2, h3, h4⟩ := y
  exact ⟨T, .int (i : Nat), x, h1, h2, h3, rfl, h4 xs q⟩
/-- over a list or a tuple, which stays as it is -/
def iEnumA (ta : TA) : TI := fun σ H R => ta σ H fun vs H1 => ∃ a xs, vs = [.ref a] ∧ (H1 a = some (.lst xs) ∨ H1 a = some (.tup xs)) ∧ ∀ J, Walk J xs.length (fun H' => H' a = H1 a) (YPair (fun i => some (.int (i : Nat))) (fun i => xs[i]?)) → R J H1
theorem pi_enumA {X : Cx} {e : Expr} {ta : TA} {p pos tpos : Pos} {elts : List Expr} {kk : Nat} (hg : Gl X "enumerate") (hm : X.mg "enumerate" = none) (ha : PA X [e] ta) (hs : starEach [e] X.env = [(false, eval e X.env)] := by rfl) :
    PI X (.Tuple elts kk tpos) (.Call (.Name "enumerate" p) [e] [] pos) (iEnumA ta) := by
  refine ⟨fun pins s σ H R I h => ?_⟩
  refine Call_ (ld_blt I hg hm boot_enumerate (PyProof.Rows.callWith_type1 (thn (ha.run pos pins s σ H _ I h) fun us s1 ⟨vs, H1, I1, r1, q1⟩ => ?_) hs rfl))
  obtain ⟨a, xs, ex, hw, q⟩ := q1
  subst ex
  cases r1 with
  | cons r rr =>
    cases rr
    cases r
    have fp : ∀ b, b = s1.heap.objs.size + 1 ∨ b = s1.heap.objs.size → FpOk X pins H1 b := fun b e' => by
      have hle : s1.heap.objs.size ≤ b := by
        rcases e' with z | z
        · rw [z]; exact Nat.le_add_right _ _
        · rw [z]; exact Nat.le_refl _
      exact I1.fpOk hle (I1.hok.fresh hle)
    rcases hw with hw | hw
    · have hq : SqL X.K H1 a xs := .of hw
      have q := q (Ite X.K a) (walk_enum.mono (fun H' e => .of (e.trans hw)) fun _ _ _ _ _ _ y => y)
      obtain ⟨its, rv, p', hz⟩ := I1.list hq
      refine call_enumerate_list p'.isList fun h' he hit hsz hk => wpAny_pyIter_enum he ?_
      have I2 : Inv X pins σ H1 { s1 with heap := h' } := I1.kept (t' := s1.toks) hk
      refine ⟨s1.heap.objs.size + 1, [s1.heap.objs.size + 1, s1.heap.objs.size], _, _, H1, rfl, I2, turn_enum a (s1.heap.objs.size + 1) s1.heap.objs.size, ⟨⟨.none, he⟩, hit, Nat.succ_ne_self _⟩, fun b hb => fp b (by simpa using hb), q⟩
    · have hq : SqT X.K H1 a xs := .of hw
      have q := q (IteT X.K a) (walk_enumT.mono (fun H' e => .of (e.trans hw)) fun _ _ _ _ _ _ y => y)
      obtain ⟨its, rv, p', hz⟩ := I1.tuple hq
      refine call_enumerate_tuple p' fun h' he hit hsz hk => wpAny_pyIter_enum he ?_
      have I2 : Inv X pins σ H1 { s1 with heap := h' } := I1.kept (t' := s1.toks) hk
      refine ⟨s1.heap.objs.size + 1, [s1.heap.objs.size + 1, s1.heap.objs.size], _, _, H1, rfl, I2, turn_enumT a (s1.heap.objs.size + 1) s1.heap.objs.size, ⟨⟨.none, he⟩, hit, Nat.succ_ne_self _⟩, fun b hb => fp b (by simpa using hb), q⟩
end Rg
namespace Rg
open PySem PySem.Spec PyProof.Rows L2
/-! ### tuples of the written part -/
def relAllS (vs : List V) (us : List Value) : Bool := He.relAll vs us && decide (us.length ≤ 1000)
theorem relAllS_ok {vs : List V} {us : Array Value} (h : relAllS vs us.toList = true) : Vals vs us.toList := He.relAll_ok (Bool.and_eq_true_iff.mp h).1
theorem relAllS_sz {vs : List V} {us : Array Value} (h : relAllS vs us.toList = true) : us.size ≤ sizeLine := by
  have := of_decide_eq_true (Bool.and_eq_true_iff.mp h).2
  rw [Array.length_toList] at this
  have : 1000 ≤ sizeLine := by decide
  omega
/-! ### own classes: x in o, o op u, for x in o -/
section
variable {X : Cx} {k : Nat} {f C : Addr} {fd : FuncData} {sp : Sp}
/-- x in o, by the class's own __contains__ -/
def rInOwn (C : Addr) (sp : Sp) (c : Bool → Bool) : R2 := fun x y H Q => ∃ a dx fs, y = .ref a ∧ H a = some (.ins C dx fs) ∧ sp [.ref a, x] H (fun v H1 => ∃ b, v = .bl b ∧ Q (.bl (c b)) H1) E0
theorem op_inOwn (hm : Meth X.K C "__contains__" f) (F : FnOk X.prog X.w X.K X.mg X.base CX0 k f fd ["self", "name"] sp) (hr : Room k X.A) (hb : Binds X.K fd ["self", "name"] []) : OpR X (compareOp .In) (rInOwn C sp fun b => b) := by
  intro pins s σ H x y v u Q I rx ry h
  obtain ⟨a, dx, fs, rfl, e, h⟩ := h
  obtain rfl : u = Value.ref a := ry
  obtain ⟨mA, O, _, _, _, _⟩ := ins_get I.hok e
  obtain ⟨od, at_, _⟩ := O.look
  obtain ⟨m, fr⟩ := I.fr
  refine PySem.W.in_K fr I.mod.kin at_ hm.at_ hm.fn ?_
  refine wpAny_mono (run_fn (us := [.ref a, v]) (vs := [.ref a, x]) F hr hb .nil pass0 I (.cons rfl (.cons rx .nil)) h) (fun r s' hq => ?_) fun _ _ z => z
  obtain ⟨z, H1, I1, rz, b, rfl, q⟩ := hq
  obtain rfl : r = Value.bool b := rz
  exact wpAny_truthy_bool ⟨.bl b, H1, I1, rfl, q⟩
theorem op_notInOwn (hm : Meth X.K C "__contains__" f) (F : FnOk X.prog X.w X.K X.mg X.base CX0 k f fd ["self", "name"] sp) (hr : Room k X.A) (hb : Binds X.K fd ["self", "name"] []) : OpR X (compareOp .NotIn) (rInOwn C sp fun b => !b) := by
  intro pins s σ H x y v u Q I rx ry h
  obtain ⟨a, dx, fs, rfl, e, h⟩ := h
  obtain rfl : u = Value.ref a := ry
  obtain ⟨mA, O, _, _, _, _⟩ := ins_get I.hok e
  obtain ⟨od, at_, _⟩ := O.look
  obtain ⟨m, fr⟩ := I.fr
  refine PySem.W.notIn_K fr I.mod.kin at_ hm.at_ hm.fn ?_
  refine wpAny_mono (run_fn (us := [.ref a, v]) (vs := [.ref a, x]) F hr hb .nil pass0 I (.cons rfl (.cons rx .nil)) h) (fun r s' hq => ?_) fun _ _ z => z
  obtain ⟨z, H1, I1, rz, b, rfl, q⟩ := hq
  obtain rfl : r = Value.bool b := rz
  exact wpAny_truthy_bool ⟨.bl (!b), H1, I1, rfl, q⟩
/-- o op u, both of the class C, by its own method -/
def rOpOwn (C : Addr) (sp : Sp) : R2 := fun x y H Q => ∃ a dx fs b dy gs, x = .ref a ∧ y = .ref b ∧ H a = some (.ins C dx fs) ∧ H b = some (.ins C dy gs) ∧ sp [.ref a, .ref b] H (fun v H1 => Q v H1) E0
theorem op_own {op : Operator} {ps : List Str} (hs : PySem.W.selfFirst X.K C = true) (hm : Meth X.K C (PySem.dunder op.info.2) f) (F : FnOk X.prog X.w X.K X.mg X.base CX0 k f fd ps sp) (hr : Room k X.A) (hb : Binds X.K fd ps []) : OpR X (binaryOp op) (rOpOwn C sp) := by
  intro pins s σ H x y v u Q I rx ry h
  obtain ⟨a, dx, fs, b, dy, gs, rfl, rfl, e, e', h⟩ := h
  obtain rfl : v = Value.ref a := rx
  obtain rfl : u = Value.ref b := ry
  obtain ⟨mA, O, _, _, _, _⟩ := ins_get I.hok e
  obtain ⟨od, at_, _⟩ := O.look
  obtain ⟨mB, O', _, _, _, _⟩ := ins_get I.hok e'
  obtain ⟨od', at', _⟩ := O'.look
  obtain ⟨m, fr⟩ := I.fr
  refine PySem.W.binop_K fr I.mod.kin at_ at'.type hs hm.at_ hm.fn ?_
  refine wpAny_mono (run_fn (us := [.ref a, .ref b]) (vs := [.ref a, .ref b]) F hr hb .nil pass0 I (.cons rfl (.cons rfl .nil)) h) (fun r s' hq => ?_) fun _ _ z => z
  obtain ⟨z, H1, I1, rz, q⟩ := hq
  cases z with
  | non => cases rz; exact ⟨.non, H1, I1, rfl, q⟩
  | bl b => cases rz; exact ⟨.bl b, H1, I1, rfl, q⟩
  | int i => obtain ⟨t, rfl⟩ := rz; exact ⟨.int i, H1, I1, ⟨t, rfl⟩, q⟩
  | str i => obtain ⟨t, rfl⟩ := rz; exact ⟨.str i, H1, I1, ⟨t, rfl⟩, q⟩
  | byt i => obtain ⟨t, rfl⟩ := rz; exact ⟨.byt i, H1, I1, ⟨t, rfl⟩, q⟩
  | flt i => obtain ⟨t, rfl⟩ := rz; exact ⟨.flt i, H1, I1, ⟨t, rfl⟩, q⟩
  | ref i => cases rz; exact ⟨.ref i, H1, I1, rfl, q⟩
  | ty i => cases rz; exact ⟨.ty i, H1, I1, rfl, q⟩
end
/-! ### iter(t), t a tuple; walks by an own __iter__ that hands it back -/
abbrev itT (l : Addr) : Obj := { cls := .type "tuple_iterator", data := .fields #[.ref l, .int 0 0] }
def ItTO (l it : Addr) : HO := .ext fun h => h.get? it = some (itT l)
theorem itTO_ok {P : Program} {w : World} {H : Hp} {h : Heap} {l it : Addr} (e : h.get? it = some (itT l)) : ObjOk P w H h it (ItTO l it) := ⟨e, ⟨_, e⟩, fun h1 h2 q k => k _ q⟩
theorem call_iter_tup {prog : Program} {w : World} {A : Around} {E : Value → Shared → Prop} {s : Shared} {l : Addr} {items : Array Value} {Q : Value → Shared → Prop} (hl : s.heap.IsTuple l items) (h : Q (.ref s.heap.objs.size) { s with heap := s.heap.push (itT l) }) : wpAny (model prog w) A (call (.builtin "iter") [.ref l]) Q E s := by
  refine Calls.call_function_entry (by decide +kernel) (by decide +kernel) PySem.W.kdk_entry_iter (PySem.W.kdk_args_iter _) ?_
  unfold Builtin.«iter»
  refine wpAny_bind (m := PySem.someArgs "iter" 1 2 _) (wpAny_of_eq (a := [Value.ref l]) (by first | rfl | kernel_rfl!) ?_)
  show wpAny _ _ (pyIter (.ref l) >>= _) _ _ _
  refine wpAny_bind (wpAny_pyIter_tuple hl ?_)
  exact wpAny_pure ⟨_, rfl, h⟩
def rIterT (K : PySem.W.Frag) (n : Nat) : List V → Hp → VK → Prop := fun xs H Q => ∃ (l : Addr) (zs : List V), xs = [.ref l] ∧ SqT K H l zs ∧ ∀ it, H it = none → n ≤ it → Q (.ref it) (upd H it (ItTO l it))
theorem call_iterT {X : Cx} : CallR X (.builtin "iter") (rIterT X.K X.s_0.heap.objs.size) := by
  intro pins s σ H xs us Q I r h
  obtain ⟨l, zs, rfl, hq, q⟩ := h
  obtain ⟨u, rfl, ru⟩ := vals1 r
  cases ru
  obtain ⟨its, rv, pl, hz⟩ := I.tuple hq
  refine call_iter_tup (show s.heap.IsTuple l its.toArray from pl) ?_
  exact ⟨.ref s.heap.objs.size, _, I.laid (t' := s.toks) (fun b u e => Heap.get?_push_of_some _ e) (Nat.le_refl _) (itTO_ok (Heap.get?_push_size _ rfl)), rfl, q _ (I.hok.fresh (Nat.le_refl _)) I.sz⟩
/-- a def whose promise knows how many objects there are at its entry -/
structure FnS (P : Program) (w : World) (K : PySem.W.Frag) (mg : Str → Option Value) (base : Heap) (k : Nat) (f : Addr) (fd : FuncData) (ps : List Str) (sp : Nat → Sp) : Prop where
  run : ∀ (A : Around) (outer : List Env) (s : Shared) (H : Hp) (args : Args) (us : List Value) (vs : List V) (Q : VK), Room k A → Env0 P w K mg base A outer s H → BindsTo s fd args (ps.zip us) → Vals vs us → sp s.heap.objs.size vs H Q E0 →
    codeAny (model P w) A (.call (.ref f) args) (CR CX0 outer P w H s Q E0) s
theorem _root_.L2.Fun.okS {P : Program} {w : World} {K : PySem.W.Frag} {mg : Str → Option Value} {base : Heap} {x qual : Str} {st : Stmt} {f : Addr} {fd : FuncData} {N ps : List Str} {k : Nat} {sp : Nat → Sp} (F : Fun K x qual st f fd) (S : FnScope N ps (defScope st)) (len : ∀ n vs H Q E, sp n vs H Q E → vs.length = ps.length)
    (hbody : ∀ (cdv : Value) (A : Around) (outer : List Env) (s : Shared) (H : Hp) (vs : List V) (Q : VK), Room k (A.deeper (envOfC qual (defScope st) s.heap.objs.size f cdv)) → sp s.heap.objs.size vs H Q E0 →
      ∃ t, PSs (cxOf CX0 P w K mg base N qual (defScope st) f cdv A outer s H E0) (defBody st) t ∧ t { nx := fun _ H' => Q .non H', rt := Q } (L2.start N vs) H) : FnS P w K mg base (k + 1) f fd ps sp := by
  obtain ⟨oc, od, kV, doc, pm, an, cdv, ct, osl, rfl, lk, hcd⟩ := F.ex
  exact ⟨fun A outer s H args us vs Q hr e0 hb r hsp => LamX.run_ofS lk hcd S hr e0 hb r (len _ _ _ _ _ hsp) fun hr' => hbody _ A outer s H vs Q hr' hsp⟩
/-- o walked: o's class at C has an own __iter__ that keeps sp and hands back a tuple's iterator -/
def iOwnT (K : PySem.W.Frag) (C : Addr) (sp : Nat → Sp) (te : TE) : TI := fun σ H R => te σ H fun x H1 => ∃ a dx fs, x = .ref a ∧ H1 a = some (.ins C dx fs) ∧
  ∀ n, sp n [.ref a] H1 (fun v H2 => ∃ it l xs, v = .ref it ∧ n ≤ it ∧ H2 it = some (ItTO l it) ∧ SqT K (ItX.dropH H2 it) l xs ∧ R (Itt K l) (ItX.dropH H2 it)) E0
theorem pi_ownT {X : Cx} {k : Nat} {f C : Addr} {fd : FuncData} {sp : Nat → Sp} {e tg : Expr} {te : TE} (hm : Meth X.K C "__iter__" f) (F : FnS X.prog X.w X.K X.mg X.base k f fd ["self"] sp) (hr : Room k X.A) (hb : Binds X.K fd ["self"] []) (he : PE X e te) : PI X tg e (iOwnT X.K C sp te) := by
  refine ⟨fun pins s σ H R I h => thn (he.run pins s σ H _ I h) fun v s1 ⟨x, H1, I1, r1, a, dx, fs, ex, ea, h⟩ => ?_⟩
  subst ex
  obtain rfl : v = Value.ref a := r1
  obtain ⟨mA, O, _, _, _, _⟩ := ins_get I1.hok ea
  obtain ⟨od, at_, _⟩ := O.look
  obtain ⟨m, fr⟩ := I1.fr
  refine PySem.W.owit_iter fr I1.mod.kin at_ hm.at_ hm.fn ?_
  refine wpAny_call (codeAny_mono (F.run X.A X.stack s1 H1 ⟨[.ref a], []⟩ [.ref a] [.ref a] _ hr I1.env0 (hb s1 [.ref a] I1.kIn rfl) (.cons rfl .nil) (h _)) fun r s2 hq => ?_)
  cases r with
  | error e => exact hq.elim
  | ok fl =>
    cases fl with
    | ret u =>
      obtain ⟨z, H2, os, bare, un, hok, rz, it, l, xs, rfl, young, hit, hl, hR⟩ := hq
      obtain rfl : u = Value.ref it := rz
      obtain ⟨hh, g, d, t, os'⟩ := s2
      obtain rfl : os' = s1.os := os
      have I2 : Inv X pins σ H2 ⟨hh, g, d, t, s1.os⟩ := I1.call (h' := hh) (g' := g) (d' := d) (t' := t) (ch := []) un hok bare (fun b z => absurd z (by simp))
      have I3 := ItX.inv_drop I2 hit
      have at3 : hh.get? it = some (itT l) := (I2.hok it _ hit).1
      unfold PySem.W.OwitIt
      have hst : hh.IsTupleIter it l 0 := ⟨_, at3, rfl, rfl⟩
      refine wpAny_specialOf (name := Str.ofString "__next__") (T := "tuple_iterator") (Heap.IsTupleIter.typeIs (s := ⟨hh, g, d, t, s1.os⟩) hst) PySem.F.slot_tuple_iterator_next.lookup ?_
      refine ⟨it, [it], _, Itt X.K l, _, rfl, I3, turn_tuple l it, hst, fun b hb => ?_, hR⟩
      have e : b = it := by simpa using hb
      subst e
      exact ItX.inv_fp I2 hit (Nat.le_trans I1.sz young)
    | next => exact False.elim hq
    | brk => exact False.elim hq
    | cont => exact False.elim hq
/-! ### a walk over a list or a tuple -/
def iSeq (K : PySem.W.Frag) (tl : TE) : TI := fun σ H R => tl σ H fun x H1 => ∃ a, x = .ref a ∧ (((∃ xs, SqL K H1 a xs) ∧ R (Itl K a) H1) ∨ ((∃ xs, SqT K H1 a xs) ∧ R (Itt K a) H1))
theorem pi_seq {X : Cx} {tg l : Expr} {tl : TE} (hl : PE X l tl) : PI X tg l (iSeq X.K tl) := by
  refine ⟨fun pins s σ H R I h => ?_⟩
  refine thn (hl.run pins s σ H _ I h) fun v s1 ⟨x, H1, I1, r1, q1⟩ => ?_
  obtain ⟨a, e, q⟩ := q1
  subst e
  cases r1
  rcases q with ⟨⟨xs, hq⟩, q⟩ | ⟨⟨xs, hq⟩, q⟩
  · obtain ⟨its, rv, p, hz⟩ := I1.list hq
    refine wpAny_pyIter_list p.isList ?_
    refine ⟨s1.heap.objs.size, [s1.heap.objs.size], _, _, H1, rfl, I1.kept (t' := s1.toks) fun b o e => Heap.get?_push_of_some _ e, turn_list a _, ⟨_, Heap.get?_push_size _ rfl, rfl, rfl⟩, fun b hb => ?_, q⟩
    have e : b = s1.heap.objs.size := by simpa using hb
    subst e
    exact I1.fpOk (Nat.le_refl _) (I1.hok.fresh (Nat.le_refl _))
  · obtain ⟨its, rv, p, hz⟩ := I1.tuple hq
    refine wpAny_pyIter_tuple (show s1.heap.IsTuple a its.toArray from p) ?_
    refine ⟨s1.heap.objs.size, [s1.heap.objs.size], _, _, H1, rfl, I1.kept (t' := s1.toks) fun b o e => Heap.get?_push_of_some _ e, turn_tuple a _, ⟨_, Heap.get?_push_size _ rfl, rfl, rfl⟩, fun b hb => ?_, q⟩
    have e : b = s1.heap.objs.size := by simpa using hb
    subst e
    exact I1.fpOk (Nat.le_refl _) (I1.hok.fresh (Nat.le_refl _))
/-! ### enumerate of a tuple that may be written -/
def iEnumT (K : PySem.W.Frag) (ta : TA) : TI := fun σ H R => ta σ H fun vs H1 => ∃ a xs, vs = [.ref a] ∧ SqT K H1 a xs ∧ R (IteT K a) H1
theorem pi_enumT {X : Cx} {e : Expr} {ta : TA} {p pos tpos : Pos} {elts : List Expr} {kk : Nat} (hg : Gl X "enumerate") (hm : X.mg "enumerate" = none) (ha : PA X [e] ta) (hs : starEach [e] X.env = [(false, eval e X.env)] := by rfl) :
    PI X (.Tuple elts kk tpos) (.Call (.Name "enumerate" p) [e] [] pos) (iEnumT X.K ta) := by
  refine ⟨fun pins s σ H R I h => ?_⟩
  refine Call_ (ld_blt I hg hm boot_enumerate (PyProof.Rows.callWith_type1 (thn (ha.run pos pins s σ H _ I h) fun us s1 ⟨vs, H1, I1, r1, q1⟩ => ?_) hs rfl))
  obtain ⟨a, xs, ex, hq, q⟩ := q1
  subst ex
  cases r1 with
  | cons r rr =>
    cases rr
    cases r
    have fp : ∀ b, b = s1.heap.objs.size + 1 ∨ b = s1.heap.objs.size → FpOk X pins H1 b := fun b e' => by
      have hle : s1.heap.objs.size ≤ b := by
        rcases e' with z | z
        · rw [z]; exact Nat.le_add_right _ _
        · rw [z]; exact Nat.le_refl _
      exact I1.fpOk hle (I1.hok.fresh hle)
    obtain ⟨its, rv, p', hz⟩ := I1.tuple hq
    refine call_enumerate_tuple p' fun h' he hit hsz hk => wpAny_pyIter_enum he ?_
    have I2 : Inv X pins σ H1 { s1 with heap := h' } := I1.kept (t' := s1.toks) hk
    refine ⟨s1.heap.objs.size + 1, [s1.heap.objs.size + 1, s1.heap.objs.size], _, _, H1, rfl, I2, turn_enumT a (s1.heap.objs.size + 1) s1.heap.objs.size, ⟨⟨.none, he⟩, hit, Nat.succ_ne_self _⟩, fun b hb => fp b (by simpa using hb), q⟩
/-! ### an object made, a static method called, where the body may raise -/
section
variable {X : Cx} {CX : CXT} {k : Nat} {f C g : Addr} {mc : Value} {fd : FuncData} {ps : List Str} {sp : Sp} {E : L2.St → XK} {x m : Str} {p pos apos : Pos} {e : Expr} {es : List Expr} {t : TA} {pl : Sem Bool}
theorem run_makeS {pins : List (Addr × Obj)} {σ : L2.St} {H : Hp} {s : Shared} {Q : VK} {us : List Value} {vs : List V} (M : Mk X.K C f) (F : FnOk X.prog X.w X.K X.mg X.base CX k f fd ps sp) (hr : Room (k + 1) X.A) (hb : Binds X.K fd ps []) (hx : PassesAt CX X σ (E σ)) (I : Inv X pins σ H s) (r : Vals vs us)
    (h : ∀ x dx, H x = none → H dx = none → dx ≠ x → sp (.ref x :: vs) (upd (upd H dx (.own x)) x (.ins C dx [])) (fun v H2 => v = .non ∧ Q (.ref x) H2) (E σ)) :
    wpAny (model X.prog X.w) X.A (call (.ref C) us) (EP X pins σ Q) X.xe s := by
  have hq := h (s.heap.objs.size + 1) s.heap.objs.size (I.hok.fresh (Nat.le_succ _)) (I.hok.fresh (Nat.le_refl _)) (Nat.ne_of_lt (Nat.lt_succ_self _))
  have I2 := Inv.made (C := C) I
  have r2 : Vals (V.ref (s.heap.objs.size + 1) :: vs) (Value.ref (s.heap.objs.size + 1) :: us) := .cons rfl r
  have hl : (Value.ref (s.heap.objs.size + 1) :: us).length = ps.length := by
    have e := r2.length
    rw [F.len _ _ _ _ hq] at e
    exact e.symm
  have b := hb _ (Value.ref (s.heap.objs.size + 1) :: us) I2.kIn (by rw [List.append_nil]; exact hl)
  rw [List.append_nil] at b
  refine wpAny_call (make_map (f := f) I.kIn M.makes M.init (beq_iff_eq.mp M.fn) (codeAny_mono (F.run _ X.stack _ _ ⟨Value.ref (s.heap.objs.size + 1) :: us, []⟩ (Value.ref (s.heap.objs.size + 1) :: us) _ _ (E σ) (hr.make C us [])
    (I2.env0.make C us []) b r2 hq) fun r s' hq' => ?_))
  cases r with
  | error e => exact hx pins _ _ e s' I2 hq'
  | ok fl =>
    cases fl with
    | ret u =>
      obtain ⟨v, H', I3, rv, ev, q3⟩ := I2.after hq'
      subst ev
      exact ⟨rv, ⟨V.ref (s.heap.objs.size + 1), H', I3, rfl, q3⟩⟩
    | next => exact False.elim hq'
    | brk => exact False.elim hq'
    | cont => exact False.elim hq'
def tMakeS (C : Addr) (sp : Sp) (E : L2.St → XK) (t : TA) : TE := fun σ H Q => t σ H fun vs H1 => ∀ x dx, H1 x = none → H1 dx = none → dx ≠ x → sp (.ref x :: vs) (upd (upd H1 dx (.own x)) x (.ins C dx [])) (fun v H2 => v = .non ∧ Q (.ref x) H2) (E σ)
theorem pe_makeS (M : Mk X.K C f) (F : FnOk X.prog X.w X.K X.mg X.base CX k f fd ps sp) (hr : Room (k + 1) X.A) (hg : Gl X x) (hm : X.mg x = some (.ref C)) (hb : Binds X.K fd ps []) (hx : ∀ σ, PassesAt CX X σ (E σ))
    (ha : PA X (e :: es) t) (hdb : (x == ("__debug__" : Str)) = false := by decide) (he : starEach (e :: es) X.env = (false, eval e X.env) :: starEach es X.env := by rfl) (hpl : (backTo pos (starEach es X.env)).any (·.1) = false := by rfl) :
    PE X (.Call (.Name x p) (e :: es) [] pos) (tMakeS C sp E t) := by
  refine ⟨fun pins s σ H Q I h => ?_⟩
  refine wpAny_Call_Name_kw (ld_glob I hg hm ?_ hdb)
  refine PySem.W.callWith_K (h₀ := X.base) I.ok.mod.kin M.kp (thn (ha.run pos pins s σ H _ I h) fun us s1 ⟨vs, H1, I1, r, q⟩ => ⟨I1.kIn, ?_⟩) he hpl
  exact run_makeS M F hr hb (hx σ) I1 r q
def tSMethS (sp : Sp) (E : L2.St → XK) (t : TA) : TE := fun σ H Q => t σ H fun vs H2 => sp vs H2 Q (E σ)
theorem pe_smethS (hmx : X.mg x = some (.ref C)) (r : ClX.CRead X.K C mc) (c : SMet X.K C mc m g) (F : FnOk X.prog X.w X.K X.mg X.base CX k g fd ps sp) (hr : Room k X.A) (hb : Binds X.K fd ps []) (hx : ∀ σ, PassesAt CX X σ (E σ)) (ha : PA X (e :: es) t) (hg : Gl X x := by rfl) (hdb : (x == ("__debug__" : Str)) = false := by decide)
    (hst : starEach (e :: es) X.env = (false, eval e X.env) :: starEach es X.env := by rfl) (hpl : (backTo pos (starEach es X.env)).any (·.1) = false := by rfl)
    (ht : eval (.Call (.Attribute (.Name x p) m apos) (e :: es) [] pos) X.env = (do
      let ov ← eval (.Name x p) X.env
      standAt apos.atName
      let (f, first) ← holding [ov] (getMethod ov m pl)
      callWith pos f first (backTo pos (starEach (e :: es) X.env)) (backToKw pos (keywordEach [] X.env))) := by rfl) :
    PE X (.Call (.Attribute (.Name x p) m apos) (e :: es) [] pos) (tSMethS sp E t) := by
  obtain ⟨q, at_, ⟨rest, hp⟩, hk⟩ := c.ex
  refine ⟨fun pins s σ H Q I h => ?_⟩
  refine PySem.W.methodCall_KW (pl := pl) (ld_glob I hg hmx ?_ hdb) ht
  refine PySem.W.method_cls I.kIn r.ga (PySem.W.cls_bind I.kIn r.rd at_ ?_)
  refine wpAny_call (PySem.W.sm_get (s := { s with toks := s.toks + 1 }) I.kIn hp (PySem.W.handed_on rfl ?_))
  refine PySem.W.callWith_K (f := .ref g) (first := []) (h₀ := X.base) I.ok.mod.kin hk (thn (ha.run pos pins _ σ H _ (I.tok _) h) fun us s1 ⟨vs, H1, I1, r1, q1⟩ => ⟨I1.kIn, ?_⟩) hst hpl
  exact run_fnS F hr hb (hx σ) I1 r1 q1
theorem pe_smeth0 (hmx : X.mg x = some (.ref C)) (r : ClX.CRead X.K C mc) (c : SMet X.K C mc m g) {E : XK} (F : FnOk X.prog X.w X.K X.mg X.base CX k g fd ps sp) (hr : Room k X.A) (hb : Binds X.K fd ps []) (hx : Passes CX X E) (hg : Gl X x := by rfl) (hdb : (x == ("__debug__" : Str)) = false := by decide)
    (ht : eval (.Call (.Attribute (.Name x p) m apos) [] [] pos) X.env = (do
      let ov ← eval (.Name x p) X.env
      standAt apos.atName
      let (f, first) ← holding [ov] (getMethod ov m pl)
      callWith pos f first (backTo pos (starEach [] X.env)) (backToKw pos (keywordEach [] X.env))) := by rfl) :
    PE X (.Call (.Attribute (.Name x p) m apos) [] [] pos) (fun σ H Q => sp [] H Q E) := by
  obtain ⟨q, at_, ⟨rest, hp⟩, hk⟩ := c.ex
  refine ⟨fun pins s σ H Q I h => ?_⟩
  refine PySem.W.methodCall_KW (pl := pl) (ld_glob I hg hmx ?_ hdb) ht
  refine PySem.W.method_cls I.kIn r.ga (PySem.W.cls_bind I.kIn r.rd at_ ?_)
  refine wpAny_call (PySem.W.sm_get (s := { s with toks := s.toks + 1 }) I.kIn hp (PySem.W.handed_on rfl ?_))
  exact PySem.W.callWith_K0 (first := []) (I.tok (s.toks + 1)).kIn hk (run_fn (us := []) (vs := []) F hr hb .nil hx (I.tok (s.toks + 1)) .nil h)
end
/-! ### isinstance(e, (c1, c2, ..)), e the exception that the suite holds -/
def rIsET (K : PySem.W.Frag) (D a : Addr) : List V → Hp → VK → Prop := fun xs H Q => ∃ (tp : Addr) (cs : List V) (us : List Value) (b : Bool), xs = [.ref a, .ref tp] ∧ H tp = some (.tup cs) ∧ Paired ClsV cs us ∧ PySem.W.kitAny K (.ref D) us = some b ∧ Q (.bl b) H
theorem call_isET {X : Cx} {a D : Addr} {oe : Obj} {pn : List (Addr × Obj)} (C : ExcC X.K D) (hz : Zc (.ref D) none oe) (hf : ∃ vs, oe.data = .fields vs) : CallR (X.suite a ((a, oe) :: pn)) (.builtin "isinstance") (rIsET X.K D a) := by
  intro pins s σ H xs us Q I r h
  obtain ⟨tp, cs, ws, b, rfl, hT, k, e, q⟩ := h
  cases r with
  | cons rx rr =>
    cases rr with
    | cons rt rr =>
      cases rr
      cases rx
      cases rt
      obtain ⟨hget, _⟩ := I.pin (a, oe) (List.mem_append.mpr (.inl List.mem_cons_self))
      obtain ⟨vs, hv⟩ := hf
      have J : PySem.W.InstAt s.heap a oe D none := by
        obtain ⟨oc, od, oda, osl⟩ := oe
        obtain ⟨h1, h2⟩ := hz
        dsimp only at h1 h2 hv
        subst h1 h2 hv
        exact ⟨hget, rfl, rfl, trivial⟩
      obtain ⟨_, its, rv, o, h1, h2, n, h3⟩ := (show ObjOk X.prog X.w H s.heap tp (.tup cs) from I.hok tp _ hT)
      have e3 := ClsV.all k rv
      subst e3
      obtain ⟨oc, od, dt, sl⟩ := o
      simp only at h2 h3
      subst h2 h3
      exact PySem.W.kia_tup (PySem.W.handS_kitx_exc C.hg C.hk C.hs C.hd C.ha C.hn C.ht C.hm) I.kIn J h1 e (fun z => nomatch z) fun tk => ⟨.bl b, H, I.kept (t' := tk) fun _ _ z => z, rfl, q⟩
end Rg
namespace Rg
open PySem PySem.Spec PyProof.Rows L2
theorem op_inK {X : Cx} {K : PySem.W.Frag} (hK : X.K = K := by rfl) : OpR X (compareOp .In) (rIn K false) := by
  subst hK
  exact op_in_seq
theorem pg_tupK {X : Cx} {K : PySem.W.Frag} {es : List Expr} {k n : Nat} {pos : Pos} {t : TGs} (hc : X.calm = true) (h : PGs X es t) (hn : (assignEach es X.env).length = n := by rfl) (hst : (assignEach es X.env).findIdx? (·.1) = none := by rfl) (hK : X.K = K := by rfl) : PG X (.Tuple es k pos) (gTup K n t) := by
  subst hK
  exact pg_tup hc h hn hst
def tTru (K : PySem.W.Frag) (ta : TE) : TT := fun σ H Q => ta σ H fun x H' => ∃ k, TruV K x H' k ∧ Q k H'
theorem pt_truthK {X : Cx} {K : PySem.W.Frag} {a : Expr} {ta : TE} (ha : PE X a ta) (he : ∀ whole, isTrue a X.env whole = (do let v ← whole; standAt a.pos; holding [v] (truthy v))) (hK : X.K = K := by rfl) : PT X a (tTru K ta) := by
  subst hK
  exact pt_truth ha he
theorem op_notInK {X : Cx} {K : PySem.W.Frag} (hK : X.K = K := by rfl) : OpR X (compareOp .NotIn) (rIn K true) := by
  subst hK
  exact op_notIn_seq
end Rg
namespace Rg
open PySem PySem.Spec PyProof.Rows L2
/-! ### {e for x in xs if ..}, e a whole number -/
/-- D the new set -/
def tScI (w : World) (wi : TI) (g : TG) (tt : TT) (te : TE) (vs : List Nat) : TE := fun σ H Q => wi σ H fun J H1 => ∀ D, H1 D = none → ∃ W : Nat → Nat → Hp → Prop, (∃ m, W 0 m (upd H1 D (SetO w D (fun _ => false) 0))) ∧ ∀ i m H, W i m H →
  (J.stop i H ∧ Q (.ref D) H) ∨ (J.go i H ∧ ∃ Nx : Hp → Prop, (∀ H', Nx H' → ∃ m', m' < m ∧ W (i + 1) m' H') ∧ ∀ x H', J.yld i H x H' → g x (wipe σ vs) H' fun σ2 H2 => wipe σ2 vs = wipe σ vs ∧ tt σ2 H2 fun b H3 =>
    if b = true then te σ2 H3 fun y H4 => ∃ (c : Int) (S : Int → Bool) (n : Nat), y = .int c ∧ H4 D = some (SetO w D S n) ∧ n + 1 < scanBound ∧ Nx (upd H4 D (SetO w D (fun j => S j || decide (j = c)) (if S c = true then n else n + 1))) else Nx H3)
theorem pe_scI {X : Cx} {elt tg iter : Expr} {ifs : List Expr} {scope : Scope} {own : List (PySem.Str × Nat)} {pos : Pos} {wi : TI} {g : TG} {tt : TT} {te : TE} (hc : X.calm = true) (hN : X.N.Nodup) (hi : PI X tg iter wi) (ok : BlkOk X.N X.env.scope scope own)
    (hg : ∀ (s : Shared) (H : Hp) (C : Addr) (cl : List (PySem.Str × Addr)) (fp : List Addr), PG (X.blk s H scope (compEnvC scope cl C X.env) fp) tg g) (ht : ∀ (s : Shared) (H : Hp) (C : Addr) (cl : List (PySem.Str × Addr)) (fp : List Addr), PTs (X.blk s H scope (compEnvC scope cl C X.env) fp) ifs tt)
    (he : ∀ (s : Shared) (H : Hp) (C : Addr) (cl : List (PySem.Str × Addr)) (fp : List Addr), PE (X.blk s H scope (compEnvC scope cl C X.env) fp) elt te) (hs : ∀ x, foldedSetIterable iter X.env x = pure x := by intro _; rfl) :
    PE X (.SetComp elt [⟨tg, iter, ifs, 0⟩] scope pos) (tScI X.w wi g tt te (own.map (·.2))) := by
  refine ⟨fun pins s σ H Q I h => ?_⟩
  rw [PpSet.eval_SetComp]
  have free : ∀ y ∈ scope.names, y.2 = .free → ∃ c, X.env.cells.lookup y.1 = some c := fun y hy e => (ok.free y hy e).elim (fun k => I.ok.has _ (.inl k)) fun k => I.ok.has _ (.inr k)
  refine wpAny_comprehension_free (use := none) rfl hs (closure_ok free) ok.kind (fun y hy e => by rw [ok.uniq y hy, e])
    (thn (hi.run pins s σ H _ I h) fun xv s1 hx => thn hx fun itv s2 h2 => ?_)
  obtain ⟨it, fp, tn, J, H2, rfl, I2, T, st2, f2, q⟩ := h2
  refine PpSet.newSet_ok (newEnv_comp ?_)
  have keep2 : ∀ (b : Addr) (o : Obj), s2.heap.get? b = some o → (s2.heap.push { cls := .type "set", dict := none, data := .set #[] 0 (.fresh 0 0 (!X.w.params.followText "set-order")) }).get? b = some o := fun b o e => Heap.get?_push_of_some _ e
  have ltF : ∀ b ∈ fp, b < s2.heap.objs.size := fun b hb => let ⟨o, e, _⟩ := T.obj _ _ st2 b hb; Heap.lt_size e
  obtain ⟨D, hD⟩ : ∃ D, D = s2.heap.objs.size := ⟨_, rfl⟩
  rw [← hD]
  have nD : H2 D = none := I2.hok.fresh (Nat.le_of_eq hD.symm)
  obtain ⟨W, ⟨m0, w0⟩, turn⟩ := q D nD
  obtain ⟨s3, e3⟩ : ∃ s3 : Shared, s3 = { s2 with heap := s2.heap.push { cls := .type "set", dict := none, data := .set #[] 0 (.fresh 0 0 (!X.w.params.followText "set-order")) } } := ⟨_, rfl⟩
  rw [← e3]
  have h3 : s3.heap = s2.heap.push { cls := .type "set", dict := none, data := .set #[] 0 (.fresh 0 0 (!X.w.params.followText "set-order")) } := by rw [e3]
  obtain ⟨H3, eH3⟩ : ∃ H3, H3 = upd H2 D (SetO X.w D (fun _ => false) 0) := ⟨_, rfl⟩
  rw [← eH3] at w0
  have I3 : Inv X pins σ H3 s3 := by
    rw [e3, eH3]
    refine I2.laid (t' := s2.toks) keep2 (Nat.le_of_eq hD.symm) ?_
    rw [hD]
    exact setO_new (setR_fresh X.w)
  have f3 : ∀ b ∈ fp, FpOk X pins H3 b ∧ b < s3.heap.objs.size := fun b hb => by
    have hlt := ltF b hb
    refine ⟨⟨?_, (f2 b hb).2⟩, by rw [h3, Heap.size_push]; exact Nat.lt_succ_of_lt hlt⟩
    rw [eH3, upd_ne (by rw [hD]; exact Nat.ne_of_lt hlt)]
    exact (f2 b hb).1
  have st3 : tn 0 s3.heap := T.keep _ _ _ st2 fun b _ o e => by rw [h3]; exact keep2 b o e
  have I4 := block_start I3 ok hN f3
  obtain ⟨cl, ecl⟩ : ∃ cl, cl = cellsFrom (s3.heap.objs.size + 1) scope.names (cloFrom X.env.cells scope.names []) := ⟨_, rfl⟩
  rw [← ecl] at I4 ⊢
  obtain ⟨ce, ece⟩ : ∃ ce, ce = compEnvC scope cl s3.heap.objs.size X.env := ⟨_, rfl⟩
  have pg := hg s3 H3 s3.heap.objs.size cl fp
  have pt := ht s3 H3 s3.heap.objs.size cl fp
  have pe := he s3 H3 s3.heap.objs.size cl fp
  rw [← ece] at I4 pg pt pe
  show codeAny _ _ (.compStart (.SetComp elt [⟨tg, iter, ifs, 0⟩] scope pos) 0 (.ref it) (.ref D) (compEnvC scope cl s3.heap.objs.size X.env)) _ { s3 with heap := pushCells (s3.heap.push { cls := .type "dict", data := .dict #[] }) scope.names }
  rw [← ece]
  have cL : ce.locals = s3.heap.objs.size := by rw [ece]; rfl
  generalize es4 : ({ s3 with heap := pushCells (s3.heap.push { cls := .type "dict", data := .dict #[] }) scope.names } : Shared) = s4 at I4 ⊢
  have st4 : tn 0 s4.heap := T.keep _ _ _ st3 fun b _ o e => by rw [← es4]; exact pushCells_keeps _ _ _ _ (Heap.get?_push_of_some _ e)
  have stat : ∀ {σ' : L2.St} {H' : Hp} {s' : Shared}, Inv (X.blk s3 H3 scope ce fp) [] σ' H' s' → (∀ b ∈ fp, H' b = none) → ∀ b ∈ fp, FpOk (X.blk s3 H3 scope ce fp) [] H' b := fun {σ' H' s'} I' hn b hb =>
    ⟨hn b hb, (I'.ok.exf b hb).1, I'.ok.exfs b hb, .inl hb, fun x c e => (I'.ok.exf b hb).2 x c e, fun p hp => absurd (show p ∈ ([] : List (Addr × Obj)) ++ [] from hp) (by simp)⟩
  have loop : codeAny (model X.prog X.w) X.A (.compLoop (.SetComp elt [⟨tg, iter, ifs, 0⟩] scope pos) 0 (.ref it) (.ref D) ce) (compPost (model X.prog X.w) X.A X.xe none (EP X pins σ Q) (.ref D) s3.heap.objs.size) s4 := by
    refine PpSet.compLoopS_any (fun n s' => ∃ i H', Inv (X.blk s3 H3 scope ce fp) [] (wipe σ (own.map (·.2))) H' s' ∧ tn i s'.heap ∧ (∀ b ∈ fp, H' b = none) ∧ W i n H') ?_ m0 ⟨0, H3, I4, st4, fun b hb => (f3 b hb).1.1, w0⟩
    rintro n s5 ⟨i, H5, I5, st5, n5, w5⟩
    rcases turn i n H5 w5 with ⟨stop, qq⟩ | ⟨go, Nx, hNx, step⟩
    · refine thnF (T.done (X.blk s3 H3 scope ce fp) rfl rfl rfl hc i [] s5 _ H5 (fun _ _ => False) I5 (stat I5 n5) st5 stop) fun r s6 ⟨hr, I6⟩ => ?_
      subst hr
      have I7 : Inv X pins σ H5 s6 := I3.call' (ch := fp) I6.os I6.base I6.hok I6.bare fun b hb => ⟨(f3 b hb).1.2.2.2.1, (f3 b hb).1.2.1, (f3 b hb).1.2.2.2.2.1, (f3 b hb).1.2.2.2.2.2⟩
      have nC : H5 s3.heap.objs.size = none := by rw [← cL]; exact I6.free
      obtain ⟨m, hn, _⟩ := I6.loc
      have hn : s6.heap.Ns ce.locals m := hn
      rw [cL] at hn
      refine ⟨m, hn, fun h'' sb => ?_⟩
      obtain ⟨a0, a1, a2, a3, a4, a5⟩ := I3.fpOk (Nat.le_refl _) nC
      exact ⟨.ref D, H5, I7.turned (t' := s6.toks) (fun b o hb e => (sb.2 b hb).trans e) a0 a1 a3 a4 a5, rfl, qq⟩
    · refine thnF (T.item (X.blk s3 H3 scope ce fp) rfl rfl rfl hc i [] s5 _ H5 (fun _ _ => False) I5 (stat I5 n5) st5 go) fun r s6 ⟨u, hr, h6⟩ => ?_
      subst hr
      refine thnF h6 fun _ s7 ⟨x, H7, I7, r7, y7, st7, n7⟩ => ?_
      have I7' := I7.pinned (stat I7 n7) (T.obj _ _ st7)
      refine thnF (pg.run _ s7 _ H7 x u _ I7' r7 (step x H7 y7)) fun _ s8 ⟨σ8, H8, I8, hw8, q8⟩ => ?_
      refine thnF (pt.run _ s8 σ8 H8 _ I8 q8) fun b s9 ⟨H9, I9, q9⟩ => ?_
      have fin : ∀ {s' : Shared} {H' : Hp}, Inv (X.blk s3 H3 scope ce fp) ([] ++ pinsAt fp s7.heap) σ8 H' s' → Nx H' → ∃ m, m < n ∧ ∃ i H', Inv (X.blk s3 H3 scope ce fp) [] (wipe σ (own.map (·.2))) H' s' ∧ tn i s'.heap ∧ (∀ b ∈ fp, H' b = none) ∧ W i m H' := fun {s' H'} I' nx => by
        obtain ⟨m', hm, w'⟩ := hNx H' nx
        have pin : ∀ b ∈ fp, ∀ o, s7.heap.get? b = some o → s'.heap.get? b = some o ∧ H' b = none := fun b hb o e =>
          let z := I'.pin (b, o) (List.mem_append_right _ (List.mem_append_right _ (mem_pinsAt hb e)))
          ⟨z.1, z.2.1⟩
        refine ⟨m', hm, i + 1, H', (I'.unpinned (pins := [])).weak (by rw [← hw8, wipe_length]) (fun j v e => by rw [← hw8] at e; exact (wipe_some e).1), T.keep _ _ _ st7 fun b hb o e => (pin b hb o e).1, fun b hb => ?_, w'⟩
        obtain ⟨o, e, _⟩ := T.obj _ _ st7 b hb
        exact (pin b hb o e).2
      cases b with
      | false =>
        simp only [Bool.false_eq_true, if_false] at q9 ⊢
        exact fin I9 q9
      | true =>
        simp only [if_true] at q9 ⊢
        refine thnF (pe.run _ s9 σ8 H9 _ I9 q9) fun z s10 ⟨yv, H10, I10, r10, c, S0, n0, ey, hD10, hz10, nx⟩ => ?_
        subst ey
        obtain ⟨tk, rfl⟩ := r10
        exact thnF (mt_sadd (X := X.blk s3 H3 scope ce fp) _ s10 σ8 H10 (.ref D) [.int c] (.ref D) [.int c tk] (fun _ H' => Nx H') I10 rfl (.cons ⟨tk, rfl⟩ .nil) ⟨D, c, S0, n0, rfl, rfl, hD10, hz10, nx⟩) fun _ s11 ⟨_, _, I11, _, nx'⟩ => fin I11 nx'
  exact PpSet.codeAny_compStart_set loop (T.self X.A 0 _ _ _ st4 loop)
end Rg
namespace Rg
open PySem PySem.Spec PyProof.Rows L2
/-! ### set(xs) of a list of whole numbers, as a set that sorted walks -/
section
variable {P : Program} {w : World} {A : Around} {E : Value → Shared → Prop} {s : Shared}
/-- the new, empty set -/
def nSet (w : World) : Obj := { cls := .type "set", dict := none, data := .set #[] 0 (.fresh 0 0 (!w.params.followText "set-order")) }
set_option maxRecDepth 100000 in
set_option maxHeartbeats 3200000 in
theorem call_set_listI {l : Addr} {items : Array Value} (ns : List Int) {Q : Value → Shared → Prop} (hh : A.handled = none) (hl : s.heap.IsList l items) (hit : IntsAre items.toList ns) (hb : ns.length + 1 < scanBound)
    (h : ∀ (h' : Heap) (tk c : Nat), SetR w h' s.heap.objs.size (fun j => decide (j ∈ ns)) c → c ≤ ns.length → (∀ b o, s.heap.get? b = some o → h'.get? b = some o) → Q (.ref s.heap.objs.size) { s with heap := h', toks := tk }) :
    wpAny (model P w) A (call (.type "set") [.ref l]) Q E s := by
  have hsz : items.size = ns.length := by have q := IntsAre.length hit; rw [Array.length_toList] at q; exact q
  obtain ⟨c, tl, hmro⟩ := F.called_set.mro
  have hmade := F.called_set.made
  have hsub := F.called_set.sub
  refine wpAny_call (codeAny_of_tree ?_)
  show wpAny _ _ (callAny (.type "set") _) _ _ _
  refine wpAny_pure ⟨Code.quiet_builtin _ (by decide +kernel), codeAny_builtin F.entry_type_call ?_⟩
  rw [Around.under_plain (weight_type_call_type "set" [.ref l] []) rfl]
  have h1 := F.called_set.notType
  have h2 := F.called_set.canCreate
  have hct := F.typeCall_set_1 (.ref l)
  repeat (any_goals (first | assumption | wp_step))
  refine codeAny_mono (code_set_led1 (.ref l) (E := E) (Q₁ := fun obj s₁ => obj = .ref s.heap.objs.size ∧ s₁ = { s with heap := s.heap.push (nSet w) }) ⟨rfl, rfl⟩) fun r s₁ hr => ?_
  match r, hr with
  | .error e, hr => exact hr
  | .ok (.ret obj), ⟨eo, es⟩ =>
    subst eo es
    have hS : (s.heap.push (nSet w)).get? s.heap.objs.size = some (nSet w) := Heap.get?_push_size _ rfl
    have hT : Shared.TypeIs { s with heap := s.heap.push (nSet w) } (.ref s.heap.objs.size) "set" := ⟨_, hS, rfl⟩
    have hli := F.called_set.init.lookup
    have hbi := F.called_set.init.bind (.ref s.heap.objs.size)
    repeat (any_goals (first | assumption | wp_step))
    refine codeAny_mono (codeAny_call_builtin (R := wants (fun r s₂ => r = .none ∧ ∃ h' tk c, s₂ = { s with heap := h', toks := tk } ∧ SetR w h' s.heap.objs.size (fun j => decide (j ∈ ns)) c ∧ c ≤ ns.length ∧
        (∀ b o, s.heap.get? b = some o → h'.get? b = some o)) E) F.called_set.init.plain F.entry_set_init (check_set_init_1 hT ?_)) fun r₂ s₂ hr₂ => ?_
    · obtain ⟨⟨ocls, odict, odata, oslots⟩, hol, hcl, nl, hdl⟩ := hl
      simp only at hcl hdl
      subst hcl; subst hdl
      have hol' : (s.heap.push (nSet w)).get? l = some { cls := .type "list", dict := odict, data := .seq items nl, slots := oslots } := Heap.get?_push_of_some _ hol
      have hsls := F.sub_list_set
      have hslf := F.sub_list_frozenset
      have hne : (Value.type "list" == Value.type "dict") = false := by decide
      have hl1 : (s.heap.push (nSet w)).IsList l items := ⟨_, hol', rfl, nl, rfl⟩
      unfold Builtin.«set.__init__» noKeywords Builtin.Frozenset.updateFrom
      generalize hPI : pyIter = PI
      wp_walk
      subst hPI
      refine wpAny_pyIter_list hl1 ?_
      refine wpAny_bind (wpAny_runValue ?_)
      have lS : l < s.heap.objs.size := Heap.lt_size hol
      have z1 : (s.heap.push (nSet w)).objs.size = s.heap.objs.size + 1 := Heap.size_push ..
      have nI : l ≠ (s.heap.push (nSet w)).objs.size := by rw [z1]; exact Nat.ne_of_lt (Nat.lt_succ_of_lt lS)
      have nS : s.heap.objs.size ∉ [(s.heap.push (nSet w)).objs.size, l] := by
        rw [z1]
        simp only [List.mem_cons, List.not_mem_nil, or_false, not_or]
        exact ⟨Nat.ne_of_lt (Nat.lt_succ_self _), Nat.ne_of_gt lS⟩
      have val : ∀ (i : Nat) (v : Value), items[i]? = some v → ∃ k t, ns[i]? = some k ∧ v = .int k t := fun i v hv => by
        have hi : i < ns.length := by rw [← hsz]; exact (Array.getElem?_eq_some_iff.mp hv).1
        obtain ⟨t, e⟩ := PyProof.Rows.IntsAre.int_at hit i v (by rw [Array.getElem?_toList]; exact hv)
        refine ⟨ns[i], t, List.getElem?_eq_getElem hi, ?_⟩
        rw [e, List.getD_eq_getElem?_getD, List.getElem?_eq_getElem hi] <;> rfl
      refine set_update_ints ((Walks.list (A := A.in1.in1.in1) (by simp [hh]) _ l nI items).toS) s.heap.objs.size nS ns hsz hb val (items.size - 0) 0 _ (by omega) (Nat.zero_le _)
        ⟨⟨_, Heap.get?_push_size _ rfl, rfl, rfl⟩, (hl1.push _)⟩ ⟨0, Nat.le_refl 0, setR_new_at (Heap.get?_push_of_some _ hS)⟩ fun s' c' hm hc' hS' => ?_
      obtain ⟨h', g2, d', tk', os'⟩ := s'
      have eg : g2 = s.gens := hm.gens
      have ed : d' = s.drawn := hm.drawn
      have eo : os' = s.os := hm.os
      subst eg; subst ed; subst eo
      rw [hsz] at hc'
      show wpAny _ _ _ _ _ _
      refine wpAny_pure ?_
      show wpAny _ _ (ret Value.none) _ _ _
      refine wpAny_pure ⟨rfl, h', tk', c', rfl, hS', hc', fun b o e => ?_⟩
      have b0 : b < s.heap.objs.size := Heap.lt_size e
      refine hm.heap b o ?_ (Heap.get?_push_of_some _ (Heap.get?_push_of_some _ e))
      simp only [List.mem_cons, List.not_mem_nil, or_false, not_or]
      exact ⟨Nat.ne_of_lt b0, by rw [z1]; exact Nat.ne_of_lt (Nat.lt_succ_of_lt b0)⟩
    · match r₂, hr₂ with
      | .error e, hr₂ => exact hr₂
      | .ok (.ret r), hr₂ =>
        obtain ⟨rfl, h', tk, c', rfl, hS', hc', hk'⟩ := hr₂
        repeat (any_goals (first | assumption | wp_step))
        exact h _ _ _ hS' hc' hk'
end
section
variable {X : Cx}
/-- set(xs) -/
def rSetLI (K : PySem.W.Frag) (w : World) : List V → Hp → VK → Prop := fun vs H Q => ∃ (a : Addr) (ns : List Int), vs = [V.ref a] ∧ SqL K H a (ns.map V.int) ∧ ns.length + 1 < scanBound ∧
  ∀ (p : Addr) (c : Nat), H p = none → c ≤ ns.length → Q (.ref p) (upd H p (SetO w p (fun j => decide (j ∈ ns)) c))
theorem call_setLI (hc : X.calm = true) : CallR X (.type "set") (rSetLI X.K X.w) := by
  intro pins s σ H vs us Q I r h
  obtain ⟨a, ns, rfl, hs, hb, q⟩ := h
  obtain ⟨its, rv, hl, _⟩ := I.list hs
  rw [Vals.ref1 r]
  refine call_set_listI (w := X.w) ns (I.ok.hd hc) hl.isList (ints_of_vals rv) hb fun h' tk c hR hle hk => ?_
  have fresh := I.hok.fresh (Nat.le_refl s.heap.objs.size)
  exact ⟨.ref s.heap.objs.size, upd H s.heap.objs.size (SetO X.w s.heap.objs.size (fun j => decide (j ∈ ns)) c), I.laid (t' := tk) hk (Nat.le_refl _) (setO_new hR), rfl, q _ c fresh hle⟩
end
end Rg
/-! ### all, any of a generator expression whose element calls one's own defs -/
namespace GxL
open PySem PySem.Spec PyProof.Rows L2
open Sem (wp)
/-- the state is the same but for the generators' table, what was drawn, the tokens -/
def Slept (s s' : Shared) : Prop := s'.os = s.os ∧ AllBare s'.gens ∧ s'.heap = s.heap
theorem Slept.trans {a b c : Shared} (x : Slept a b) (y : Slept b c) : Slept a c := ⟨y.1.trans x.1, y.2.1, y.2.2.trans x.2.2⟩
theorem bare_set {gs : Array GenState} {g : Nat} {x : GenState} (h : AllBare gs) (hx : x.bare = true) : AllBare (gs.setIfInBounds g x) := fun y hy => by
  obtain ⟨i, hi, rfl⟩ := Array.mem_iff_getElem.mp hy
  rw [Array.getElem_setIfInBounds (by simpa using hi)]
  split
  · exact hx
  · exact h _ (Array.getElem_mem _)
theorem Slept.set {s : Shared} {g : Nat} {x : GenState} (h : AllBare s.gens) (hx : x.bare = true) : Slept s (s.setGen g x) := ⟨rfl, bare_set h hx, rfl⟩
/-- the generator's frame, entered at s: its iterator's objects at fp -/
def genCx (X : Cx) (s : Shared) (H : Hp) (cenv : Env) (fp : List Addr) : Cx where
  prog := X.prog
  w := X.w
  K := X.K
  mg := X.mg
  base := X.base
  A := X.A.in1.in1.deeper cenv
  N := X.N
  s_0 := s
  H_0 := H
  env := cenv
  outer := X.stack
  stack := cenv :: X.stack
  ex := fp
  fn := fun _ => false
  calm := true
  pn := []
  xe := fun _ _ => False
/-- the generator's frame's environment over the def's -/
abbrev gEnv (X : Cx) (scope : Scope) (C : Addr) (code : Value) : Env := genEnv scope (cloFrom X.env.cells scope.names []) C code builtinsNs X.env
section
variable {X : Cx} {pins : List (Addr × Obj)} {σ : L2.St} {H H' : Hp} {s : Shared}
theorem slept_inv (I : Inv X pins σ H s) {s' : Shared} (h : Slept s s') : Inv X pins σ H s' := by
  refine I.call' (ch := []) h.1 (Un.kept fun b u e => by rw [h.2.2]; exact e) (by rw [h.2.2]; exact I.hok) h.2.1 fun b z => absurd z (by simp)
/-- a generator's scope -/
structure GSc (scope : Scope) : Prop where
  co : scope.isCoroutine = false
  cell : ∀ y ∈ scope.names, y.2 ≠ .cell
  dot : scope.names.lookup (".0" : Str) = some NameKind.local
def gscB (scope : Scope) : Bool := !scope.isCoroutine && (scope.names.all fun y => !decide (y.2 = .cell)) && decide (scope.names.lookup (".0" : Str) = some NameKind.local)
theorem gsc_by {scope : Scope} (h : gscB scope = true) : GSc scope := by
  unfold gscB at h
  simp only [Bool.and_eq_true, Bool.not_eq_true', decide_eq_true_eq, decide_eq_false_iff_not, List.all_eq_true] at h
  exact ⟨h.1.1, fun y hy => h.1.2 y hy, h.2⟩
theorem gen_start {scope : Scope} {own : List (Str × Nat)} {fp : List Addr} {code : Value} {m : Str → Option Value} {s5 : Shared} (I : Inv X pins σ H s) (ok : BlkOk X.N X.env.scope scope own) (S : GSc scope) (hN : X.N.Nodup) (hd : X.A.handled = none)
    (hfp : ∀ b ∈ fp, FpOk X pins H b ∧ b < s.heap.objs.size) (ho : s5.os = s.os) (hb : AllBare s5.gens) (hns : s5.heap.Ns s.heap.objs.size m) (kp : ∀ b o, s.heap.get? b = some o → s5.heap.get? b = some o) :
    Inv (genCx X s H (gEnv X scope s.heap.objs.size code) fp) [] (wipe σ (own.map (·.2))) H s5 := by
  have hfree : ∀ y ∈ scope.names, y.2 = .free → ∃ c, X.env.cells.lookup y.1 = some c := fun y hy e => by
    rcases ok.free y hy e with k | k
    · exact I.ok.has _ (.inl k)
    · exact I.ok.has _ (.inr k)
  have cm : ∀ {y c}, (cloFrom X.env.cells scope.names []).lookup y = some c → X.env.cells.lookup y = some c := fun {y c} e => by
    rcases cloFrom_mem (PySem.mem_of_lookup e) with hm | ⟨h1, h2⟩
    · cases hm
    · obtain ⟨c1, hc⟩ := hfree _ h1 rfl
      have hc : X.env.cells.lookup y = some c1 := hc
      have e2 : c = c1 := by
        rw [h2, hc] <;> rfl
      rw [e2]
      exact hc
  have look : ∀ {y}, scope.names.lookup y = some .free → ∃ c, (cloFrom X.env.cells scope.names []).lookup y = some c := fun {y} hl => by
    have hy : (y, NameKind.free) ∈ scope.names := PySem.mem_of_lookup hl
    exact mem_lookup (cloFrom_has (cells := X.env.cells) (acc := []) hy)
  have okB : (genCx X s H (gEnv X scope s.heap.objs.size code) fp).Ok := by
    refine ⟨I.ok.mod, ok.kind, I.ok.glob, rfl, Nat.le_refl _, fun y z c e1 e2 => I.ok.inj y z c (cm e1) (cm e2), fun y hy => ?_, fun y c z _ => ?_, fun _ => hd, Around.frames_deeper I.ok.frames, .inr ⟨rfl, rfl⟩, fun b hb => ⟨?_, fun y c e z => ?_⟩, I.bs, Nat.le_trans I.ok.bsz I.sz,
      fun b o e hb => ?_, fun b hb z => ?_, I.stack, I.stkFree⟩
    · have hy : scope.names.lookup y = some .cell ∨ scope.names.lookup y = some .free := hy
      rcases hy with hy | hy
      · exact absurd rfl (S.cell _ (PySem.mem_of_lookup hy))
      · exact look hy
    · have z : false = true := z
      cases z
    · exact Nat.ne_of_lt (hfp b hb).2
    · exact (hfp b hb).1.2.2.2.2.1 y c (cm e) z
    · rcases (hfp b hb).1.2.2.2.1 with z | z
      · exact I.ok.noex b o e z
      · exact absurd (Nat.lt_of_lt_of_le (Heap.lt_size e) (Nat.le_trans I.ok.bsz z)) (Nat.lt_irrefl _)
    · rcases List.mem_cons.mp (I.stkSub b z) with z | z
      · exact (hfp b hb).1.2.1 z
      · exact (hfp b hb).1.2.2.1 z
  refine ⟨okB, ho, hb, Un.kept kp, ⟨m, hns, fun i y av e1 e2 e3 => ?_⟩, fun y c e => ?_, I.hok.fresh (Nat.le_refl _), fun y c e => I.freeC y c (cm e), fun p hp => absurd (show p ∈ ([] : List (Addr × Obj)) ++ [] from hp) (by simp), I.hok.kept kp, by rw [wipe_length]; exact I.len⟩
  · obtain ⟨e2, hne⟩ := wipe_some e2
    have e3 : Vis scope y := e3
    have no : ∀ k, scope.names.lookup y = some k → ¬ (k = .local ∨ k = .cell) := fun k e hh => by
      rcases ok.own _ (PySem.mem_of_lookup e) hh with e' | e'
      · obtain ⟨p, hp, hpy⟩ := List.mem_map.mp e'
        have e3 := ok.ix p hp
        have : p.1 = y := hpy
        rw [this] at e3
        exact hne (List.mem_map.mpr ⟨p, hp, nodup_ix hN e3 e1⟩)
      · exact e' (List.mem_of_getElem? e1)
    rcases e3 with k | k | k
    · exact absurd (.inl rfl) (no _ k)
    · exact absurd (.inr rfl) (no _ k)
    · obtain ⟨m, hn, hl⟩ := I.loc
      have hvis : Vis X.env.scope y := (ok.free _ (PySem.mem_of_lookup k) rfl).elim (fun k => .inr (.inl k)) (fun k => .inr (.inr k))
      obtain ⟨w', r, q⟩ := hl i y av e1 e2 hvis
      obtain ⟨c2, h2⟩ := look k
      refine ⟨w', r, .inr ⟨.inr k, c2, h2, ?_⟩⟩
      have c1 := cm h2
      rcases q with ⟨k', _⟩ | ⟨_, c3, e', z⟩
      · have k' : X.env.scope.names.lookup y = some .local := k'
        rcases ok.free _ (PySem.mem_of_lookup k) rfl with k2 | k2 <;> rw [show X.env.scope.names.lookup y = _ from k2] at k' <;> cases k'
      · rw [c1] at e'
        cases e'
        exact z.keeps kp
  · obtain ⟨w', z⟩ := I.cell y c (cm e)
    exact ⟨w', z.keeps kp⟩
end
end GxL
namespace GxL
open PySem PySem.Spec PyProof.Rows L2
open Sem (wp)
theorem over_gen {A : Around} {elt tg iter : Expr} {ifs : List Expr} {scope : Scope} {pos : Pos} {it acc : Value} {env : Env} : A.over (.compLoop (.GeneratorExp elt [⟨tg, iter, ifs, 0⟩] scope pos) 0 it acc env) [] = A.deeper env := by
  first
    | rfl
    | (obtain ⟨hd, d, fr, gs, u⟩ := A; simp [Around.over, Around.deeper, marksOver, frameCount, unitsOf, envsOf, guardsOf, pushEnvs, pushGuards, Code.envs, Code.env?, Code.isFrame, Code.guards, Code.isGuard, Code.weight, Code.frames, Code.isCreation, Code.isCaller, Code.cUnits])
theorem over_gstart {A : Around} {elt tg iter : Expr} {ifs : List Expr} {scope : Scope} {pos : Pos} {it acc : Value} {env : Env} : A.over (.compStart (.GeneratorExp elt [⟨tg, iter, ifs, 0⟩] scope pos) 0 it acc env) [] = A.deeper env := by
  first
    | rfl
    | (obtain ⟨hd, d, fr, gs, u⟩ := A; simp [Around.over, Around.deeper, marksOver, frameCount, unitsOf, envsOf, guardsOf, pushEnvs, pushGuards, Code.envs, Code.env?, Code.isFrame, Code.guards, Code.isGuard, Code.weight, Code.frames, Code.isCreation, Code.isCaller, Code.cUnits])
/-- the whole turn's reading: c: all's true, any's false; W by the turn and a measure -/
def GTurn (c : Bool) (J : It) (g : TG) (tt : TT) (te : TE) (vs : List Nat) (σ : L2.St) (Q : VK) (W : Nat → Nat → Hp → Prop) : Prop :=
  ∀ i m H, W i m H → (J.stop i H ∧ Q (.bl c) H) ∨ (J.go i H ∧ ∃ Nx : Hp → Prop, (∀ H', Nx H' → ∃ m', m' < m ∧ W (i + 1) m' H') ∧ ∀ x H', J.yld i H x H' → g x (wipe σ vs) H' fun σ2 H2 => wipe σ2 vs = wipe σ vs ∧ tt σ2 H2 fun b H3 =>
    if b = true then te σ2 H3 fun y H4 => ∃ k, y = .bl k ∧ if k = c then Nx H4 else Q (.bl (!c)) H4 else Nx H3)
/-- the generator's end, its protocol -/
def gR (G : Cx) (pn : List (Addr × Obj)) (σ : L2.St) (Q : Hp → Prop) : GenEnd := fun _ _ r s₁ => r = .ok .next ∧ ∃ H', Inv G pn σ H' s₁ ∧ Q H'
def gY (G : Cx) (pn : List (Addr × Obj)) (σ : L2.St) (c : Bool) (Q : Hp → Prop) : Protocol := fun _ _ v s₁ kap => ∃ k H', v = .bool k ∧ Inv G pn σ H' s₁ ∧ if k = c then ∀ s'', Slept s₁ s'' → kap (.send .none) s'' else Q H'
section
variable {X : Cx}
theorem thnS {α : Type} {t : Sem α} {Q Q' : α → Shared → Prop} {M : Model} {A : Around} {E : Value → Shared → Prop} {s : Shared} (h : wpAny M A t Q (fun _ _ => False) s) (hQ : ∀ a s, Q a s → Q' a s) : wpAny M A t Q' E s := wpAny_mono h hQ fun _ _ z => False.elim z
theorem gen_seg {s3 : Shared} {H3 : Hp} {cenv : Env} {fp : List Addr} {it a : Addr} {ob : Obj} {tn : Nat → Heap → Prop} {J : It} {elt tg iter : Expr} {ifs : List Expr} {scope : Scope} {pos : Pos} {g : TG} {tt : TT} {te : TE} {vs : List Nat} {σ : L2.St} {c : Bool} {Q : VK} {W : Nat → Nat → Hp → Prop}
    (T : Turn X.prog X.w X.K tg J fp it tn) (hco : cenv.scope.isCoroutine = false) (ha : ∀ b ∈ fp, a ≠ b)
    (hg : PG (genCx X s3 H3 cenv fp) tg g) (ht : PTs (genCx X s3 H3 cenv fp) ifs tt) (he : PE (genCx X s3 H3 cenv fp) elt te) (turn : GTurn c J g tt te vs σ Q W) :
    ∀ (m n i : Nat) (s₀ s : Shared) (H : Hp), m < n → Inv (genCx X s3 H3 cenv fp) [(a, ob)] (wipe σ vs) H s → tn i s.heap → (∀ b ∈ fp, H b = none) → W i m H →
      Seg (model X.prog X.w) X.A.in1.in1 (gR (genCx X s3 H3 cenv fp) [(a, ob)] (wipe σ vs) (Q (.bl c))) (gY (genCx X s3 H3 cenv fp) [(a, ob)] (wipe σ vs) c (Q (.bl (!c)))) n s₀
        (.compLoop (.GeneratorExp elt [⟨tg, iter, ifs, 0⟩] scope pos) 0 (.ref it) .none cenv)
        ((model X.prog X.w).den (.compLoop (.GeneratorExp elt [⟨tg, iter, ifs, 0⟩] scope pos) 0 (.ref it) .none cenv)) [] s := by
  intro m
  induction m using Nat.strongRecOn with
  | ind m ih =>
  intro n i s₀ s H hmn I st nf w
  have stat : ∀ {σ' : L2.St} {H' : Hp} {s' : Shared}, Inv (genCx X s3 H3 cenv fp) [(a, ob)] σ' H' s' → (∀ b ∈ fp, H' b = none) → ∀ b ∈ fp, FpOk (genCx X s3 H3 cenv fp) [(a, ob)] H' b := fun {σ' H' s'} I' hn b hb =>
    ⟨hn b hb, (I'.ok.exf b hb).1, I'.ok.exfs b hb, .inl hb, fun x c e => (I'.ok.exf b hb).2 x c e, fun p hp => by
      have hp : p ∈ ([] : List (Addr × Obj)) ++ [(a, ob)] := hp
      simp at hp
      rw [hp]
      exact ha b hb⟩
  show Seg _ _ _ _ _ s₀ _ ((compTurn (.GeneratorExp elt [⟨tg, iter, ifs, 0⟩] scope pos) 0 (.ref it) .none cenv).onRaise (leaving cenv)) [] s
  rw [compTurn_gen, Sem.onRaise_eq_wrap]
  refine seg_bind_wrap (wpAny_standAt ?_)
  rcases turn i m H w with ⟨stop, qq⟩ | ⟨go, Nx, hNx, step⟩
  · have td := T.done (genCx X s3 H3 cenv fp) rfl rfl rfl rfl i [(a, ob)] s _ H (fun _ _ => False) I (stat I nf) st stop
    refine seg_bind_wrap ?_
    rw [over_gen]
    refine thnS td fun r s6 ⟨hr, I6⟩ => ?_
    subst hr
    exact seg_end (.ok .next) ⟨rfl, H, I6, qq⟩
  · have ti := T.item (genCx X s3 H3 cenv fp) rfl rfl rfl rfl i [(a, ob)] s _ H (fun _ _ => False) I (stat I nf) st go
    refine seg_bind_wrap ?_
    rw [over_gen]
    refine thnS ti fun r s6 ⟨u, hr, h6⟩ => ?_
    subst hr
    refine seg_bind_wrap ?_
    rw [over_gen]
    refine thnS h6 fun _ s7 ⟨x, H7, I7, r7, y7, st7, n7⟩ => ?_
    have I7' := I7.pinned (stat I7 n7) (T.obj _ _ st7)
    refine seg_bind_wrap ?_
    rw [over_gen]
    refine thnS (hg.run _ s7 _ H7 x u _ I7' r7 (step x H7 y7)) fun _ s8 ⟨σ8, H8, I8, hw8, q8⟩ => ?_
    refine seg_bind_wrap ?_
    rw [over_gen]
    refine thnS (ht.run _ s8 σ8 H8 _ I8 q8) fun b s9 ⟨H9, I9, q9⟩ => ?_
    -- the turn's end
    have fin : ∀ {s' : Shared} {H' : Hp}, Inv (genCx X s3 H3 cenv fp) ([(a, ob)] ++ pinsAt fp s7.heap) σ8 H' s' → Inv (genCx X s3 H3 cenv fp) [(a, ob)] (wipe σ vs) H' s' ∧ tn (i + 1) s'.heap ∧ ∀ b ∈ fp, H' b = none := fun {s' H'} I' => by
      have pin' : ∀ b ∈ fp, ∀ o, s7.heap.get? b = some o → s'.heap.get? b = some o ∧ H' b = none := fun b hb o e =>
        let z := I'.pin (b, o) (List.mem_append_right _ (List.mem_append_right _ (mem_pinsAt hb e)))
        ⟨z.1, z.2.1⟩
      have hl : (wipe σ vs).length = σ8.length := by rw [← hw8, wipe_length]
      refine ⟨(I'.unpinned (pins := [(a, ob)])).weak hl (fun j v e => ?_), T.keep _ _ _ st7 fun b hb o e => (pin' b hb o e).1, fun b hb => ?_⟩
      · rw [← hw8] at e
        exact (wipe_some e).1
      · obtain ⟨o, e, _⟩ := T.obj _ _ st7 b hb
        exact (pin' b hb o e).2
    cases b with
    | false =>
      simp only [Bool.false_eq_true, if_false] at q9 ⊢
      obtain ⟨m', hm, w'⟩ := hNx H9 q9
      obtain ⟨J1, J2, J3⟩ := fin I9
      exact seg_again rfl (ih m' hm n (i + 1) s₀ s9 H9 (by omega) J1 J2 J3 w')
    | true =>
      simp only [if_true] at q9 ⊢
      have hy : ∀ v, yieldOut cenv v = yieldValue v := fun v => by simp only [yieldOut, hco, Bool.false_eq_true, if_false]
      simp only [hy]
      rw [Sem.bind_eq_wrap', Sem.bind_eq_wrap', Sem.wrap_wrap, Sem.wrap_wrap]
      refine seg_wrap ?_
      rw [over_gen]
      refine thnS (he.run _ s9 σ8 H9 _ I9 q9) fun z s10 ⟨yv, H10, I10, r10, k, ek, q10⟩ => ?_
      subst ek
      obtain rfl : z = Value.bool k := r10
      obtain ⟨J1, J2, J3⟩ := fin I10
      obtain ⟨n', rfl⟩ : ∃ n', n = n' + 1 := by
        cases n with
        | succ n' => exact ⟨n', rfl⟩
        | zero => exact absurd hmn (Nat.not_lt_zero _)
      refine seg_at (seg_yield rfl rfl rfl ⟨k, H10, rfl, J1, ?_⟩)
      by_cases hk : k = c
      · rw [if_pos hk] at q10 ⊢
        intro s'' hs
        obtain ⟨m', hm, w'⟩ := hNx H10 q10
        exact seg_again rfl (ih m' hm n' (i + 1) s'' s'' H10 (by omega) (slept_inv J1 hs) (by rw [hs.2.2]; exact J2) J3 w')
      · rw [if_neg hk] at q10 ⊢
        exact q10
/-- the generator's start -/
theorem gen_seg0 {s3 : Shared} {H3 : Hp} {cenv : Env} {fp : List Addr} {it a : Addr} {ob : Obj} {tn : Nat → Heap → Prop} {J : It} {elt tg iter : Expr} {ifs : List Expr} {scope : Scope} {pos : Pos} {g : TG} {tt : TT} {te : TE} {vs : List Nat} {σ : L2.St} {c : Bool} {Q : VK} {W : Nat → Nat → Hp → Prop}
    (T : Turn X.prog X.w X.K tg J fp it tn) (hco : cenv.scope.isCoroutine = false) (ha : ∀ b ∈ fp, a ≠ b)
    (hg : PG (genCx X s3 H3 cenv fp) tg g) (ht : PTs (genCx X s3 H3 cenv fp) ifs tt) (he : PE (genCx X s3 H3 cenv fp) elt te) (turn : GTurn c J g tt te vs σ Q W)
    {m n : Nat} {s₀ s : Shared} {H : Hp} (hmn : m < n) (I : Inv (genCx X s3 H3 cenv fp) [(a, ob)] (wipe σ vs) H s) (st : tn 0 s.heap) (nf : ∀ b ∈ fp, H b = none) (w : W 0 m H) :
      Seg (model X.prog X.w) X.A.in1.in1 (gR (genCx X s3 H3 cenv fp) [(a, ob)] (wipe σ vs) (Q (.bl c))) (gY (genCx X s3 H3 cenv fp) [(a, ob)] (wipe σ vs) c (Q (.bl (!c)))) n s₀
        (.compStart (.GeneratorExp elt [⟨tg, iter, ifs, 0⟩] scope pos) 0 (.ref it) .none cenv)
        ((model X.prog X.w).den (.compStart (.GeneratorExp elt [⟨tg, iter, ifs, 0⟩] scope pos) 0 (.ref it) .none cenv)) [] s := by
  have loop := gen_seg (pos := pos) (iter := iter) (scope := scope) T hco ha hg ht he turn m n 0 s₀ s H hmn I st nf w
  show Seg _ _ _ _ _ s₀ _ ((compStart (.GeneratorExp elt [⟨tg, iter, ifs, 0⟩] scope pos) 0 (.ref it) .none cenv).onRaise (leaving cenv)) [] s
  unfold compStart
  rw [Sem.onRaise_eq_wrap]
  show Seg _ _ _ _ _ s₀ _ ((ask >>= _).wrap _ _ _ _) [] s
  refine seg_bind_wrap (wpAny_askSetting ?_)
  split
  · exact seg_again rfl loop
  · first
      | exact seg_bind_wrap (wpAny_rule (seg_bind_wrap (wpAny_standAt (seg_bind_wrap (T.self _ 0 s _ _ st (seg_again rfl loop))))))
      | (refine seg_bind_wrap (wpAny_rule ?_); show Seg _ _ _ _ _ s₀ _ ((standAt iter.pos >>= _).wrap _ _ _ _) [] s; exact seg_bind_wrap (wpAny_standAt (seg_bind_wrap (T.self _ 0 s _ _ st (seg_again rfl loop)))))
/-- the generator's object: its number gi -/
structure GOb (ob : Obj) (gi : Nat) : Prop where
  cls : ob.cls = .type "generator"
  data : ∃ nm qn : Value, ob.data = .fields #[.int gi 0, nm, qn]
  slots : ob.slots = #[]
theorem GOb.at {ob : Obj} {gi : Nat} (h : GOb ob gi) {hp : Heap} {a : Addr} (e : hp.get? a = some ob) : hp.IsGen a gi := by
  obtain ⟨nm, qn, hd⟩ := h.data
  exact ⟨ob, nm, qn, e, h.cls, hd, h.slots⟩
/-- the generator at a, ready to be walked: n bounds its turns -/
def GReady (X : Cx) (G : Cx) (a : Addr) (ob : Obj) (gi : Nat) (σ : L2.St) (c : Bool) (Qs Qb : Hp → Prop) (n : Nat) (s : Shared) : Prop :=
  s.heap.NoLimit ∧ AllBare s.gens ∧ s.heap.get? a = some ob ∧ ∃ gs, s.gens[gi]? = some gs ∧ ∀ s'', Slept s s'' → gs.Goes (model X.prog X.w) X.A.in1.in1 (gR G [(a, ob)] σ Qs) (gY G [(a, ob)] σ c Qb) n (.send .none) s''
/-- a turn of the consumer -/
theorem gen_next {G : Cx} {a : Addr} {ob : Obj} {gi : Nat} {σ : L2.St} {c : Bool} {Qs Qb : Hp → Prop} {n : Nat} {s : Shared} {E : Value → Shared → Prop} {Q' : Option Value → Shared → Prop} {k : Nat} (hr : Room k X.A)
    (hob : GOb ob gi) (R : GReady X G a ob gi σ c Qs Qb n s)
    (hend : ∀ s' H', Inv G [(a, ob)] σ H' s' → Qs H' → Q' none s')
    (hgo : ∀ n' s', n = n' + 1 → GReady X G a ob gi σ c Qs Qb n' s' → Q' (some (.bool c)) s')
    (hbr : ∀ s' H', Inv G [(a, ob)] σ H' s' → Qb H' → Q' (some (.bool (!c))) s') :
    wpAny (model X.prog X.w) X.A.in1 (pyNext (.ref a)) Q' E s := by
  obtain ⟨lim, bare, hG, gs, hgs, goes⟩ := R
  have hlt : gi < s.gens.size := (Array.getElem?_eq_some_iff.mp hgs).1
  refine GenW.wpAny_gsz (n := s.gens.size) (Nat.le_refl _) ?_
  refine wpAny_pyNext_genexpQ (A := X.A.in1) (P := fun _ _ s₁ => ∃ H', Inv G [(a, ob)] σ H' s₁ ∧ Qs H') hr.hd lim (by have := hr.dp; show X.A.depth < _; omega) (hob.at hG) hgs (goes _ (Slept.set bare rfl)) (fun v s₁ gs' hb hv => ?_) (fun s₁ hp h' hk => ?_)
  · intro hsz
    obtain ⟨kk, H', rfl, I', hk⟩ := hv
    by_cases e : kk = c
    · subst e
      rw [if_pos rfl] at hk
      have sl : Slept s₁ (s₁.setGen gi gs') := Slept.set I'.bare hb
      cases n with
      | zero => exact False.elim (hk s₁ ⟨rfl, I'.bare, rfl⟩)
      | succ n' =>
        have hlt' : gi < s₁.gens.size := by
          rw [GenW.setGen_size] at hsz
          exact Nat.lt_of_lt_of_le hlt hsz
        refine hgo n' _ rfl ⟨I'.nolimit, (slept_inv I' sl).bare, (I'.pin (a, ob) (List.mem_append_right _ (by simp))).1, gs', ?_, fun s'' hs => hk s'' (sl.trans hs)⟩
        simp [Shared.setGen, hlt']
    · rw [if_neg e] at hk
      have e2 : kk = !c := by cases kk <;> cases c <;> simp_all
      rw [e2]
      exact hbr _ H' (slept_inv I' (Slept.set I'.bare hb)) hk
  · intro _
    obtain ⟨H', I', q⟩ := hp
    have I2 := slept_inv I' (Slept.set (g := gi) (x := .finished) I'.bare rfl)
    exact hend _ H' (I2.kept (t' := (s₁.setGen gi .finished).toks) hk) q
/-- all's loop, any's loop -/
theorem all_loop {G : Cx} {a : Addr} {ob : Obj} {gi : Nat} {σ : L2.St} {Qs Qb : Hp → Prop} {k : Nat} {R : Result → Shared → Prop} (hr : Room k X.A) (hob : GOb ob gi)
    (hs : ∀ s' H', Inv G [(a, ob)] σ H' s' → Qs H' → R (.ok (.ret (.bool true))) s') (hb : ∀ s' H', Inv G [(a, ob)] σ H' s' → Qb H' → R (.ok (.ret (.bool false))) s') :
    ∀ (n : Nat) (s : Shared), GReady X G a ob gi σ true Qs Qb n s → codeAny (model X.prog X.w) X.A (.builtin "all.loop" ⟨[.ref a], []⟩) R s := by
  intro n
  induction n with
  | zero =>
    intro s g
    refine codeAny_builtin F.entry_all_loop ?_
    rw [Around.under_plainId F.plain_all_loop _]
    show wpAny _ X.A.in1 (pyNext (.ref a) >>= _) _ _ s
    refine wpAny_bind (gen_next hr hob g (fun s' H' I q => ?_) (fun n' s' e => by cases e) (fun s' H' I q => ?_))
    · exact wpAny_bind (wpAny_rule (wpAny_pure (hs s' H' I q)))
    · refine wpAny_bind (wpAny_holding (wpAny_truthy_bool ?_))
      refine wpAny_bind (wpAny_letGo ?_)
      simp only [Bool.not_true, Bool.false_eq_true, if_false]
      exact wpAny_bind (wpAny_rule (wpAny_pure (hb s' H' I q)))
  | succ n ih =>
    intro s g
    refine codeAny_builtin F.entry_all_loop ?_
    rw [Around.under_plainId F.plain_all_loop _]
    show wpAny _ X.A.in1 (pyNext (.ref a) >>= _) _ _ s
    refine wpAny_bind (gen_next hr hob g (fun s' H' I q => ?_) (fun n' s' e g' => ?_) (fun s' H' I q => ?_))
    · exact wpAny_bind (wpAny_rule (wpAny_pure (hs s' H' I q)))
    · cases e
      refine wpAny_bind (wpAny_holding (wpAny_truthy_bool ?_))
      refine wpAny_bind (wpAny_letGo ?_)
      simp only [if_true]
      exact wpAny_pure ⟨plainId_quiet F.plain_all_loop _, ih s' g'⟩
    · refine wpAny_bind (wpAny_holding (wpAny_truthy_bool ?_))
      refine wpAny_bind (wpAny_letGo ?_)
      simp only [Bool.not_true, Bool.false_eq_true, if_false]
      exact wpAny_bind (wpAny_rule (wpAny_pure (hb s' H' I q)))
theorem any_loop {G : Cx} {a : Addr} {ob : Obj} {gi : Nat} {σ : L2.St} {Qs Qb : Hp → Prop} {k : Nat} {R : Result → Shared → Prop} (hr : Room k X.A) (hob : GOb ob gi)
    (hs : ∀ s' H', Inv G [(a, ob)] σ H' s' → Qs H' → R (.ok (.ret (.bool false))) s') (hb : ∀ s' H', Inv G [(a, ob)] σ H' s' → Qb H' → R (.ok (.ret (.bool true))) s') :
    ∀ (n : Nat) (s : Shared), GReady X G a ob gi σ false Qs Qb n s → codeAny (model X.prog X.w) X.A (.builtin "any.loop" ⟨[.ref a], []⟩) R s := by
  intro n
  induction n with
  | zero =>
    intro s g
    refine codeAny_builtin F.entry_any_loop ?_
    rw [Around.under_plainId F.plain_any_loop _]
    show wpAny _ X.A.in1 (pyNext (.ref a) >>= _) _ _ s
    refine wpAny_bind (gen_next hr hob g (fun s' H' I q => ?_) (fun n' s' e => by cases e) (fun s' H' I q => ?_))
    · exact wpAny_bind (wpAny_rule (wpAny_pure (hs s' H' I q)))
    · refine wpAny_bind (wpAny_holding (wpAny_truthy_bool ?_))
      refine wpAny_bind (wpAny_letGo ?_)
      simp only [Bool.not_false, if_true]
      exact wpAny_bind (wpAny_rule (wpAny_pure (hb s' H' I q)))
  | succ n ih =>
    intro s g
    refine codeAny_builtin F.entry_any_loop ?_
    rw [Around.under_plainId F.plain_any_loop _]
    show wpAny _ X.A.in1 (pyNext (.ref a) >>= _) _ _ s
    refine wpAny_bind (gen_next hr hob g (fun s' H' I q => ?_) (fun n' s' e g' => ?_) (fun s' H' I q => ?_))
    · exact wpAny_bind (wpAny_rule (wpAny_pure (hs s' H' I q)))
    · cases e
      refine wpAny_bind (wpAny_holding (wpAny_truthy_bool ?_))
      refine wpAny_bind (wpAny_letGo ?_)
      simp only [Bool.false_eq_true, if_false]
      exact wpAny_pure ⟨plainId_quiet F.plain_any_loop _, ih s' g'⟩
    · refine wpAny_bind (wpAny_holding (wpAny_truthy_bool ?_))
      refine wpAny_bind (wpAny_letGo ?_)
      simp only [Bool.not_false, if_true]
      exact wpAny_bind (wpAny_rule (wpAny_pure (hb s' H' I q)))
end
end GxL
namespace GxL
open PySem PySem.Spec PyProof.Rows L2
open Sem (wp)
/-- all(..) (c: true), any(..) (c: false) of a generator expression; the def's table at P may have grown -/
def tGx (c : Bool) (P : Addr) (wi : TI) (g : TG) (tt : TT) (te : TE) (vs : List Nat) : TE := fun σ H Q => wi σ H fun J H1 => GxR.TabG H1 P ∧ ∀ H2, GxR.Tabbed P H1 H2 → ∃ W : Nat → Nat → Hp → Prop, (∃ m, W 0 m H2) ∧ GTurn c J g tt te vs σ Q W
section
variable {X : Cx}
theorem gen_made {cc P : Addr} {c : Bool} {elt tg iter : Expr} {ifs : List Expr} {scope : Scope} {own : List (Str × Nat)} {gpos : Pos} {wi : TI} {g : TG} {tt : TT} {te : TE} {k : Nat} {pins : List (Addr × Obj)} {s : Shared} {σ : L2.St} {H : Hp} {Q : VK} {Q' : Value → Shared → Prop}
    (hr : Room (k + 3) X.A) (TB : LamX.TabB X.base X.mg cc P) (hcode : X.env.code = .ref cc) (S : GSc scope) (ok : BlkOk X.N X.env.scope scope own) (hN : X.N.Nodup) (hi : PI X tg iter wi)
    (hg : ∀ (s : Shared) (H : Hp) (C : Addr) (code : Value) (fp : List Addr), PG (genCx X s H (gEnv X scope C code) fp) tg g) (ht : ∀ (s : Shared) (H : Hp) (C : Addr) (code : Value) (fp : List Addr), Room k (genCx X s H (gEnv X scope C code) fp).A → PTs (genCx X s H (gEnv X scope C code) fp) ifs tt)
    (he : ∀ (s : Shared) (H : Hp) (C : Addr) (code : Value) (fp : List Addr), Room k (genCx X s H (gEnv X scope C code) fp).A → PE (genCx X s H (gEnv X scope C code) fp) elt te) (hs : ∀ v, genFold iter X.env v = pure v)
    (I : Inv X pins σ H s) (h : tGx c P wi g tt te (own.map (·.2)) σ H Q)
    (hQ : ∀ (G : Cx) (a : Addr) (ob : Obj) (gi n : Nat) (s5 : Shared), GOb ob gi → GReady X G a ob gi (wipe σ (own.map (·.2))) c (Q (.bl c)) (Q (.bl (!c))) n s5 → (∀ s' H', Inv G [(a, ob)] (wipe σ (own.map (·.2))) H' s' → Inv X pins σ H' s') → Q' (.ref a) s5) :
    wpAny (model X.prog X.w) X.A (eval (.GeneratorExp elt [⟨tg, iter, ifs, 0⟩] scope gpos) X.env) Q' X.xe s := by
  have hfree : ∀ y ∈ scope.names, y.2 = .free → ∃ c, X.env.cells.lookup y.1 = some c := fun y hy e => by
    rcases ok.free y hy e with k | k
    · exact I.ok.has _ (.inl k)
    · exact I.ok.has _ (.inr k)
  refine wpAny_GeneratorExp_make S.co (closure_ok hfree) S.cell S.dot ok.kind (by have := hr.dp; omega) ?_ hs
  refine thn (hi.run pins s σ H _ I h) fun xv s1 h1 => thn h1 fun itv s2 h2 => ?_
  obtain ⟨it, fp, tn, J, H2, e, I2, T, st2, f2, ⟨ps, hP, hto⟩, q⟩ := h2
  subst e
  have hPs : s2.heap.get? P = some { cls := .none, data := .fields ps } := I2.hok P _ hP
  have cd : PySem.W.CodeHd s2.heap cc P := TB.code.keeps I2.bk
  have sz : ∀ b ∈ fp, b < s2.heap.objs.size := fun b hb => by
    obtain ⟨o, e, _⟩ := T.obj _ _ st2 b hb
    exact Heap.lt_size e
  have nfP : ∀ b ∈ fp, b ≠ P := fun b hb z => by
    have z1 := (f2 b hb).1
    rw [z, hP] at z1
    cases z1
  have cont : ∀ (code : Value) (h3 : Heap) (tk : Nat) (more : Array Value), Heap.ExtBut P s2.heap h3 → s2.heap.objs.size ≤ h3.objs.size → h3.get? P = some { cls := .none, data := .fields (ps ++ more) } → TriplesOk (ps ++ more).toList →
      wpAny (model X.prog X.w) X.A (builtinsFor X.env.globals X.env.builtins) (fun bi s₄ =>
        ∀ h', h'.Ns s₄.heap.objs.size (fun y => if y = ".0" then some (.ref it) else none) → Heap.SameBut s₄.heap.objs.size (s₄.heap.push { cls := .type "frame", data := .dict #[] }) h' →
          Q' (.ref h'.objs.size) { s₄ with
            gens := s₄.gens.push (.fresh (.compStart (.GeneratorExp elt [⟨tg, iter, ifs, 0⟩] scope gpos) 0 (.ref it) .none (genEnv scope (cloFrom X.env.cells scope.names []) s₄.heap.objs.size code bi X.env))),
            toks := s₄.toks + 1 + 1 + 1,
            heap := h'.push { cls := .type "generator", data := .fields #[.int s₄.gens.size 0, .str "<genexpr>" (s₄.toks + 1), .str (X.env.qual ++ "<genexpr>") (s₄.toks + 1 + 1)] } }) X.xe { s2 with heap := h3, toks := tk } := by
    intro code h3 tk more hx hsz hP3 ht3
    have I3 : Inv X pins σ (upd H2 P (.tbl (ps ++ more))) { s2 with heap := h3, gens := s2.gens, drawn := s2.drawn, toks := tk } := GxR.inv_tab I2 hP (fun b o hb e => hx b o hb e) hP3 I2.bare
    obtain ⟨bm, ob, e1, e2, e3, e4, e5, e6, e7, e8⟩ := TB.bm
    have keep3 : ∀ b u, b ≠ P → s2.heap.get? b = some u → h3.get? b = some u := fun b u hb e => hx b u hb e
    refine wpAny_builtinsFor (m := X.mg) (by rw [I2.ok.glob]; exact (I2.mod.glob.keeps I2.bk).extBut hx TB.gP) e1 e2 (keep3 _ _ e4 (I2.bk _ _ e5)) e6 e7 e8 ?_
    intro h' hns hsb
    obtain ⟨W, ⟨m0, w0⟩, turn⟩ := q (upd H2 P (.tbl (ps ++ more))) ⟨⟨ps ++ more, upd_same, ht3⟩, fun b hb => upd_ne hb⟩
    generalize hH3 : upd H2 P (.tbl (ps ++ more)) = H3 at I3 w0
    have n3 : ∀ b ∈ fp, H3 b = none := fun b hb => by rw [← hH3, upd_ne (nfP b hb)]; exact (f2 b hb).1
    generalize hs3 : ({ s2 with heap := h3, gens := s2.gens, drawn := s2.drawn, toks := tk } : Shared) = s3 at I3
    have es3 : ({ s2 with heap := h3, toks := tk } : Shared) = s3 := by rw [← hs3]
    have eh3 : h3 = s3.heap := by rw [← hs3]
    rw [show ({ s2 with heap := h3, toks := tk } : Shared).heap = s3.heap from by rw [es3]] at hns hsb
    have f3 : ∀ b ∈ fp, FpOk X pins H3 b ∧ b < s3.heap.objs.size := fun b hb => ⟨⟨n3 b hb, (f2 b hb).2⟩, by rw [← eh3]; exact Nat.lt_of_lt_of_le (sz b hb) hsz⟩
    have szh : h'.objs.size = s3.heap.objs.size + 1 := by rw [hsb.1, Heap.size_push]
    have kp' : ∀ b o, s3.heap.get? b = some o → h'.get? b = some o := fun b o e => hsb.extBut b o (Nat.ne_of_lt (Heap.lt_size e)) (Heap.get?_push_of_some _ e)
    generalize hob : ({ cls := .type "generator", data := .fields #[.int s3.gens.size 0, .str "<genexpr>" (s3.toks + 1), .str (X.env.qual ++ "<genexpr>") (s3.toks + 1 + 1)] } : Obj) = og
    have GO : GOb og s3.gens.size := by
      rw [← hob]
      exact ⟨rfl, ⟨_, _, rfl⟩, rfl⟩
    have kp5 : ∀ b o, s3.heap.get? b = some o → (h'.push og).get? b = some o := fun b o e => Heap.get?_push_of_some _ (kp' b o e)
    have ga : (h'.push og).get? h'.objs.size = some og := Heap.get?_push_size _ (by rw [← hob]; rfl)
    refine hQ (genCx X s3 H3 (gEnv X scope s3.heap.objs.size code) fp) h'.objs.size og s3.gens.size (m0 + 1) _ GO ?_ fun s' H' I' => ?_
    · generalize hs5 : ({ s3 with
            gens := s3.gens.push (.fresh (.compStart (.GeneratorExp elt [⟨tg, iter, ifs, 0⟩] scope gpos) 0 (.ref it) .none (genEnv scope (cloFrom X.env.cells scope.names []) s3.heap.objs.size code builtinsNs X.env))),
            toks := s3.toks + 1 + 1 + 1, heap := h'.push og } : Shared) = s5
      have eh5 : s5.heap = h'.push og := by rw [← hs5]
      have I5 : Inv (genCx X s3 H3 (gEnv X scope s3.heap.objs.size code) fp) [] (wipe σ (own.map (·.2))) H3 s5 :=
        gen_start I3 ok S hN hr.hd f3 (by rw [← hs5]) (by rw [← hs5]; exact I3.bare.push rfl) (by rw [eh5]; exact hns.push _) (by rw [eh5]; exact kp5)
      have I6 : Inv (genCx X s3 H3 (gEnv X scope s3.heap.objs.size code) fp) [(h'.objs.size, og)] (wipe σ (own.map (·.2))) H3 s5 := by
        refine I5.pins_of fun p hp => ?_
        have hp : p = (h'.objs.size, og) := by simpa using hp
        rw [hp]
        have hge : s3.heap.objs.size ≤ h'.objs.size := by omega
        refine ⟨by rw [eh5]; exact ga, I3.hok.fresh hge, ?_, fun z => ?_, fun v z => ?_⟩
        · show h'.objs.size ≠ s3.heap.objs.size
          omega
        · obtain ⟨_, o, ho, _⟩ := I5.ok.funs.mem z
          have ho : s3.heap.get? h'.objs.size = some o := ho
          exact absurd (Nat.lt_of_lt_of_le (Heap.lt_size ho) hge) (Nat.lt_irrefl _)
        · rw [← hob] at z
          cases z
      have st5 : tn 0 s5.heap := T.keep _ _ _ st2 fun b hb o e => by rw [eh5]; exact kp5 b o (by rw [← eh3]; exact keep3 b o (nfP b hb) e)
      have hgs : s5.gens[s3.gens.size]? = some (.fresh (.compStart (.GeneratorExp elt [⟨tg, iter, ifs, 0⟩] scope gpos) 0 (.ref it) .none (gEnv X scope s3.heap.objs.size code))) := by
        rw [← hs5]
        exact Array.getElem?_push_size ..
      refine ⟨I6.nolimit, I6.bare, by rw [eh5]; exact ga, _, hgs, fun s'' hsl => ⟨rfl, ?_⟩⟩
      have hab : ∀ b ∈ fp, h'.objs.size ≠ b := fun b hb z => by
        have h1 := (f3 b hb).2
        rw [← z] at h1
        have h1 : h'.objs.size < s3.heap.objs.size := h1
        omega
      exact gen_seg0 T S.co hab (hg _ _ _ _ _) (ht _ _ _ _ _ (hr.in1.in1.deeper _)) (he _ _ _ _ _ (hr.in1.in1.deeper _)) turn (Nat.lt_succ_self m0) (slept_inv I6 hsl) (by rw [hsl.2.2]; exact st5) n3 w0
    · exact I3.call' (ch := fp) I'.os I'.base I'.hok I'.bare fun b hb => ⟨(f3 b hb).1.2.2.2.1, (f3 b hb).1.2.1, (f3 b hb).1.2.2.2.2.1, (f3 b hb).1.2.2.2.2.2⟩
  refine ⟨I2.nolimit, ?_⟩
  cases hf : codeAmong gpos ps.toList with
  | none =>
    refine wpAny_genexprCodeX hcode (cd.code hPs hto) (cd.tab hPs) hf fun c' h' tk hx hge hlt hco' _ htab' _ => ?_
    obtain ⟨o1, vs, f1, tf, fl, tg, inF, tx, tt, op, _, _, _, _, _, _, _, _, _, htr, _⟩ := hco'
    exact cont _ h' tk _ hx (Nat.le_trans hge (Nat.le_of_lt hlt)) htab'.2 htr
  | some cv =>
    refine wpAny_genexprCode_hit hcode (cd.code hPs hto) hf ?_
    exact cont cv s2.heap s2.toks #[] (Heap.ExtBut.refl _ _) (Nat.le_refl _) (by simpa using hPs) (by simpa using hto)
/-- all(.. for .. in ..) -/
theorem pe_allG {cc P : Addr} {elt tg iter : Expr} {ifs : List Expr} {scope : Scope} {own : List (Str × Nat)} {p pos gpos : Pos} {wi : TI} {g : TG} {tt : TT} {te : TE} {k : Nat}
    (hr : Room (k + 3) X.A) (hgl : Gl X "all") (hm : X.mg "all" = none) (TB : LamX.TabB X.base X.mg cc P) (hcode : X.env.code = .ref cc) (S : GSc scope) (ok : BlkOk X.N X.env.scope scope own) (hN : X.N.Nodup) (hi : PI X tg iter wi)
    (hg : ∀ (s : Shared) (H : Hp) (C : Addr) (code : Value) (fp : List Addr), PG (genCx X s H (gEnv X scope C code) fp) tg g) (ht : ∀ (s : Shared) (H : Hp) (C : Addr) (code : Value) (fp : List Addr), Room k (genCx X s H (gEnv X scope C code) fp).A → PTs (genCx X s H (gEnv X scope C code) fp) ifs tt)
    (he : ∀ (s : Shared) (H : Hp) (C : Addr) (code : Value) (fp : List Addr), Room k (genCx X s H (gEnv X scope C code) fp).A → PE (genCx X s H (gEnv X scope C code) fp) elt te) (hb : bootBuiltins "all" = some (.builtin "all") := by rfl) (hs : ∀ v, genFold iter X.env v = pure v := by intro _; rfl)
    (hst : starEach [.GeneratorExp elt [⟨tg, iter, ifs, 0⟩] scope gpos] X.env = (false, eval (.GeneratorExp elt [⟨tg, iter, ifs, 0⟩] scope gpos) X.env) :: starEach [] X.env := by rfl) :
    PE X (.Call (.Name "all" p) [.GeneratorExp elt [⟨tg, iter, ifs, 0⟩] scope gpos] [] pos) (tGx true P wi g tt te (own.map (·.2))) := by
  refine ⟨fun pins s σ H Q I h => ?_⟩
  refine wpAny_Call_Name_kw (ld_blt I hgl hm hb ?_)
  refine PyProof.Rows.callWith_builtin1 ?_ hst (by rfl)
  rw [hst]
  show wpAny _ _ (spliced ((false, eval (.GeneratorExp elt [⟨tg, iter, ifs, 0⟩] scope gpos) X.env) :: backTo pos (starEach [] X.env))) _ _ s
  refine Calls.spliced_cons (gen_made hr TB hcode S ok hN hi hg ht he hs I h fun G a ob gi n s5 hob R back => ?_)
  refine Calls.spliced_nil ?_
  refine call_function_tree F.kind_all F.plain_all F.entry_all (F.args_all1 _) ?_
  unfold Builtin.«all»
  refine wpAny_bind (m := oneArg "all" _) (wpAny_pure ?_)
  refine wpAny_bind (wpAny_pyIter_gen (hob.at R.2.2.1) ?_)
  exact wpAny_pure ⟨plainId_quiet F.plain_all_loop _, all_loop hr hob (fun s' H' I' q => ⟨.bl true, H', back s' H' I', rfl, q⟩) (fun s' H' I' q => ⟨.bl false, H', back s' H' I', rfl, q⟩) n s5 R⟩
/-- any(.. for .. in ..) -/
theorem pe_anyG {cc P : Addr} {elt tg iter : Expr} {ifs : List Expr} {scope : Scope} {own : List (Str × Nat)} {p pos gpos : Pos} {wi : TI} {g : TG} {tt : TT} {te : TE} {k : Nat}
    (hr : Room (k + 3) X.A) (hgl : Gl X "any") (hm : X.mg "any" = none) (TB : LamX.TabB X.base X.mg cc P) (hcode : X.env.code = .ref cc) (S : GSc scope) (ok : BlkOk X.N X.env.scope scope own) (hN : X.N.Nodup) (hi : PI X tg iter wi)
    (hg : ∀ (s : Shared) (H : Hp) (C : Addr) (code : Value) (fp : List Addr), PG (genCx X s H (gEnv X scope C code) fp) tg g) (ht : ∀ (s : Shared) (H : Hp) (C : Addr) (code : Value) (fp : List Addr), Room k (genCx X s H (gEnv X scope C code) fp).A → PTs (genCx X s H (gEnv X scope C code) fp) ifs tt)
    (he : ∀ (s : Shared) (H : Hp) (C : Addr) (code : Value) (fp : List Addr), Room k (genCx X s H (gEnv X scope C code) fp).A → PE (genCx X s H (gEnv X scope C code) fp) elt te) (hs : ∀ v, genFold iter X.env v = pure v := by intro _; rfl)
    (hst : starEach [.GeneratorExp elt [⟨tg, iter, ifs, 0⟩] scope gpos] X.env = (false, eval (.GeneratorExp elt [⟨tg, iter, ifs, 0⟩] scope gpos) X.env) :: starEach [] X.env := by rfl) :
    PE X (.Call (.Name "any" p) [.GeneratorExp elt [⟨tg, iter, ifs, 0⟩] scope gpos] [] pos) (tGx false P wi g tt te (own.map (·.2))) := by
  refine ⟨fun pins s σ H Q I h => ?_⟩
  refine wpAny_Call_Name_kw (ld_blt I hgl hm boot_any ?_)
  refine PyProof.Rows.callWith_builtin1 ?_ hst (by rfl)
  rw [hst]
  show wpAny _ _ (spliced ((false, eval (.GeneratorExp elt [⟨tg, iter, ifs, 0⟩] scope gpos) X.env) :: backTo pos (starEach [] X.env))) _ _ s
  refine Calls.spliced_cons (gen_made hr TB hcode S ok hN hi hg ht he hs I h fun G a ob gi n s5 hob R back => ?_)
  refine Calls.spliced_nil ?_
  refine call_function_tree F.kind_any F.plain_any F.entry_any (F.args_any1 _) ?_
  unfold Builtin.«any»
  refine wpAny_bind (m := oneArg "any" _) (wpAny_pure ?_)
  refine wpAny_bind (wpAny_pyIter_gen (hob.at R.2.2.1) ?_)
  exact wpAny_pure ⟨plainId_quiet F.plain_any_loop _, any_loop hr hob (fun s' H' I' q => ⟨.bl false, H', back s' H' I', rfl, q⟩) (fun s' H' I' q => ⟨.bl true, H', back s' H' I', rfl, q⟩) n s5 R⟩
end
end GxL
namespace Rg
open PySem PySem.Spec PyProof.Rows L2
/-! ### tables of code objects: all the law's tables stand, all else is kept -/
def Tab (Ps : List Addr) (H : Hp) : Prop := ∀ p ∈ Ps, GxR.TabG H p
structure Tk (Ps : List Addr) (H H' : Hp) : Prop where
  tab : Tab Ps H'
  kp : Kp Ps H H'
section
variable {Ps : List Addr} {H H1 H2 : Hp} {a P : Addr} {o : HO}
theorem Tk.refl (t : Tab Ps H) : Tk Ps H H := ⟨t, .refl⟩
theorem Tk.trans (x : Tk Ps H H1) (y : Tk Ps H1 H2) : Tk Ps H H2 := ⟨y.tab, x.kp.trans y.kp⟩
theorem Tab.same (t : Tab Ps H) (s : Same H H1) : Tab Ps H1 := fun p hp => let ⟨ps, e, r⟩ := t p hp; ⟨ps, s _ _ e, r⟩
theorem Tk.of (t : Tab Ps H) (s : Same H H1) : Tk Ps H H1 := ⟨t.same s, .of s⟩
theorem Tk.same (x : Tk Ps H H1) (s : Same H1 H2) : Tk Ps H H2 := x.trans (.of x.tab s)
theorem Tab.new (t : Tab Ps H) (h : H a = none) : Tab Ps (upd H a o) := t.same (same_upd h)
theorem Tk.new (x : Tk Ps H H1) (h : H1 a = none) : Tk Ps H (upd H1 a o) := x.same (same_upd h)
theorem Tab.ne (t : Tab Ps H) (hp : P ∈ Ps) (h : H a = some o) (n : ∀ ps, o ≠ .tbl ps) : a ≠ P := fun z => by
  obtain ⟨ps, e, _⟩ := t P hp
  rw [z, e] at h
  exact n ps (Option.some.inj h).symm
theorem Tab.nin (t : Tab Ps H) (h : H a = some o) (n : ∀ ps, o ≠ .tbl ps) : a ∉ Ps := fun z => t.ne z h n rfl
theorem Tab.ninN (t : Tab Ps H) (h : H a = none) : a ∉ Ps := fun z => by
  obtain ⟨ps, e, _⟩ := t a z
  rw [h] at e
  cases e
/-- what is no table is kept -/
theorem Tk.at (x : Tk Ps H H1) (t : Tab Ps H) (h : H a = some o) (n : ∀ ps, o ≠ .tbl ps := by intro _ z; cases z) : H1 a = some o := x.kp a o h (t.nin h n)
theorem Tk.at' (x : Tk Ps H H1) (h : H a = some o) (n : a ∉ Ps) : H1 a = some o := x.kp a o h n
theorem Tk.free (x : Tk Ps H H1) (h : H1 a = none) : H a = none := x.kp.free (x.tab.ninN h) h
theorem Tab.upd (t : Tab Ps H) (h : H a = some o) (n : ∀ ps, o ≠ .tbl ps) {u : HO} : Tab Ps (upd H a u) := fun p hp => by
  obtain ⟨ps, e, r⟩ := t p hp
  exact ⟨ps, by rw [upd_ne (t.ne hp h n).symm]; exact e, r⟩
/-- one table has grown -/
theorem Tk.tabbed (t : Tab Ps H) (hp : P ∈ Ps) (h : GxR.Tabbed P H H1) : Tk Ps H H1 := by
  refine ⟨fun p q => ?_, fun x o e n => by rw [h.2 x fun z => n (z ▸ hp)]; exact e⟩
  by_cases z : p = P
  · rw [z]; exact h.1
  · obtain ⟨ps, e, r⟩ := t p q
    exact ⟨ps, by rw [h.2 p z]; exact e, r⟩
end
/-! ### all, any: the forms one uses -/
theorem gx_by {c : Bool} {J : It} {g : TG} {tt : TT} {te : TE} {vs : List Nat} {σ : L2.St} {Q : VK} {H2 : Hp} (n : Nat) (Pv : Nat → Hp → Prop) (h0 : Pv 0 H2) (hgo : ∀ i H, i < n → Pv i H → J.go i H) (hstop : ∀ H, Pv n H → J.stop n H)
    (hs : ∀ i x H H', i < n → Pv i H → J.yld i H x H' → g x (wipe σ vs) H' fun σ2 H2 => wipe σ2 vs = wipe σ vs ∧ tt σ2 H2 fun b H3 => if b = true then te σ2 H3 fun y H4 => ∃ k, y = .bl k ∧ if k = c then Pv (i + 1) H4 else Q (.bl (!c)) H4 else Pv (i + 1) H3)
    (hd : ∀ H, Pv n H → Q (.bl c) H) : ∃ W : Nat → Nat → Hp → Prop, (∃ m, W 0 m H2) ∧ GxL.GTurn c J g tt te vs σ Q W := by
  refine ⟨fun i m H => m = n - i ∧ i ≤ n ∧ Pv i H, ⟨n, by simp, Nat.zero_le _, h0⟩, ?_⟩
  rintro i m H ⟨rfl, hi, p⟩
  by_cases hlt : i < n
  · exact .inr ⟨hgo i H hlt p, Pv (i + 1), fun H' p' => ⟨n - (i + 1), by omega, rfl, hlt, p'⟩, fun x H' y => hs i x H H' hlt p y⟩
  · have e : i = n := by omega
    subst e
    exact .inl ⟨hstop H p, hd H p⟩
/-- over a list -/
theorem gx_list {K : PySem.W.Frag} {a : Addr} {xs : List V} {c : Bool} {g : TG} {tt : TT} {te : TE} {vs : List Nat} {σ : L2.St} {Q : VK} {H2 : Hp} (Pv : Nat → Hp → Prop) (h0 : Pv 0 H2) (hl : ∀ i H, i ≤ xs.length → Pv i H → SqL K H a xs)
    (hs : ∀ i x H, xs[i]? = some x → Pv i H → g x (wipe σ vs) H fun σ2 H2 => wipe σ2 vs = wipe σ vs ∧ tt σ2 H2 fun b H3 => if b = true then te σ2 H3 fun y H4 => ∃ k, y = .bl k ∧ if k = c then Pv (i + 1) H4 else Q (.bl (!c)) H4 else Pv (i + 1) H3)
    (hd : ∀ H, Pv xs.length H → Q (.bl c) H) : ∃ W : Nat → Nat → Hp → Prop, (∃ m, W 0 m H2) ∧ GxL.GTurn c (Itl K a) g tt te vs σ Q W := by
  refine gx_by xs.length Pv h0 (fun i H hi p => ⟨xs, xs[i], hl i H (Nat.le_of_lt hi) p, by simp [hi]⟩) (fun H p => ⟨xs, hl _ H (Nat.le_refl _) p, Nat.le_refl _⟩) (fun i x H H' hi p y => ?_) hd
  obtain ⟨e, y⟩ := y
  subst e
  exact hs i x _ (y xs (hl i _ (Nat.le_of_lt hi) p)) p
/-- over a tuple -/
theorem gx_tup {K : PySem.W.Frag} {a : Addr} {xs : List V} {c : Bool} {g : TG} {tt : TT} {te : TE} {vs : List Nat} {σ : L2.St} {Q : VK} {H2 : Hp} (Pv : Nat → Hp → Prop) (h0 : Pv 0 H2) (hl : ∀ i H, i ≤ xs.length → Pv i H → SqT K H a xs)
    (hs : ∀ i x H, xs[i]? = some x → Pv i H → g x (wipe σ vs) H fun σ2 H2 => wipe σ2 vs = wipe σ vs ∧ tt σ2 H2 fun b H3 => if b = true then te σ2 H3 fun y H4 => ∃ k, y = .bl k ∧ if k = c then Pv (i + 1) H4 else Q (.bl (!c)) H4 else Pv (i + 1) H3)
    (hd : ∀ H, Pv xs.length H → Q (.bl c) H) : ∃ W : Nat → Nat → Hp → Prop, (∃ m, W 0 m H2) ∧ GxL.GTurn c (Itt K a) g tt te vs σ Q W := by
  refine gx_by xs.length Pv h0 (fun i H hi p => ⟨xs, xs[i], hl i H (Nat.le_of_lt hi) p, by simp [hi]⟩) (fun H p => ⟨xs, hl _ H (Nat.le_refl _) p, Nat.le_refl _⟩) (fun i x H H' hi p y => ?_) hd
  obtain ⟨e, y⟩ := y
  subst e
  exact hs i x _ (y xs (hl i _ (Nat.le_of_lt hi) p)) p
/-- over the signs of a text -/
theorem gx_str {x : Str} {c : Bool} {g : TG} {tt : TT} {te : TE} {vs : List Nat} {σ : L2.St} {Q : VK} {H2 : Hp} (Pv : Nat → Hp → Prop) (h0 : Pv 0 H2)
    (hs : ∀ i s H, x.cps[i]? = some s → Pv i H → g (.str ⟨#[s]⟩) (wipe σ vs) H fun σ2 H2 => wipe σ2 vs = wipe σ vs ∧ tt σ2 H2 fun b H3 => if b = true then te σ2 H3 fun y H4 => ∃ k, y = .bl k ∧ if k = c then Pv (i + 1) H4 else Q (.bl (!c)) H4 else Pv (i + 1) H3)
    (hd : ∀ H, Pv x.cps.size H → Q (.bl c) H) : ∃ W : Nat → Nat → Hp → Prop, (∃ m, W 0 m H2) ∧ GxL.GTurn c (Its x) g tt te vs σ Q W := by
  refine gx_by x.cps.size Pv h0 (fun i H hi p => hi) (fun H p => Nat.le_refl _) (fun i v H H' hi p y => ?_) hd
  obtain ⟨rfl, s, e, rfl⟩ := y
  exact hs i s _ e p
/-- a test of every item by a Bool, nothing changed but the tables: all(f(x) for x in xs), any(..) -/
def allB (c : Bool) {α : Type} (f : α → Bool) (xs : List α) : Bool := if c = true then xs.all f else xs.any f
/-! ### a def whose code object is known -/
section
variable {P : Program} {w : World} {K : PySem.W.Frag} {mg : Str → Option Value} {base : Heap}
theorem fun_okC {x qual : Str} {st : Stmt} {f cc : Addr} {fd : FuncData} {N ps : List Str} {k : Nat} {sp : Sp} (F : Fun K x qual st f fd) (hc : fd.code = .ref cc) (S : FnScope N ps (defScope st)) (len : ∀ vs H Q E, sp vs H Q E → vs.length = ps.length)
    (hbody : ∀ (A : Around) (outer : List Env) (s : Shared) (H : Hp) (vs : List V) (Q : VK) (E : XK), Room k (A.deeper (envOfC qual (defScope st) s.heap.objs.size f (.ref cc))) → sp vs H Q E →
      ∃ t, PSs (cxOf CX0 P w K mg base N qual (defScope st) f (.ref cc) A outer s H E).nox (defBody st) t ∧ t { nx := fun _ H' => Q .non H', rt := Q } (start N vs) H) : FnOk P w K mg base CX0 (k + 1) f fd ps sp := by
  obtain ⟨oc, od, kV, doc, pm, an, cdv, ct, osl, rfl, lk, hcd⟩ := F.ex
  obtain rfl : cdv = .ref cc := hc
  refine fn_of lk hcd S len fun A outer s H vs Q E hr hsp => ?_
  obtain ⟨t, h, q⟩ := hbody A outer s H vs Q E hr hsp
  exact ⟨t, h.nox, q⟩
end
/-! ### the end: a top def's table is empty at the law's entry -/
def TabsOf (q : Program) (mg : Str → Option Value) (h : Heap) : Prop := ∀ d ∈ recsOf q, ∃ a o fd c P, mg d.name = some (.ref a) ∧ h.get? a = some o ∧ o.data = .func fd ∧ fd.code = .ref c ∧ h.IsCode c P #[] ∧ h.TableAt c P #[]
theorem tab_of {q : Program} {K : PySem.W.Frag} {mg : Str → Option Value} {h : Heap} {x : Str} {a c P : Addr} {oc : Value} {od : Option Addr} {osl : Array (Option Value)} {fd : FuncData} (T : TabsOf q mg h) (KX : K.In h) (hx : (recsOf q).any (fun d => d.name == x) = true)
    (hm : mg x = some (.ref a)) (lk : K.lookup a = some ⟨oc, od, .func fd, osl⟩) (hc : fd.code = .ref c) (hh : PySem.W.codeHdIn K c P = true) : h.get? P = some { cls := .none, data := .fields #[] } := by
  obtain ⟨d, hd, e⟩ := List.any_eq_true.mp hx
  have e : d.name = x := by simpa using e
  obtain ⟨a', o, fd', c', P', m1, m2, m3, m4, m5, m6⟩ := T d hd
  rw [e, hm] at m1
  cases m1
  rw [KX _ _ lk] at m2
  cases m2
  cases m3
  rw [hc] at m4
  cases m4
  obtain ⟨o1, vs, _, _, _, _, _, _, _, g1, g2, g3, g4, _⟩ := PySem.W.codeHd_of_K KX hh
  obtain ⟨⟨o2, vs2, f1, f2, f3, f4⟩, f5⟩ := m6
  rw [g1] at f1
  cases f1
  rw [g3] at f3
  cases f3
  rw [g4] at f4
  cases f4
  exact f5
theorem walk_ofG {l : PySem.W.OpenLaw} {n k : Nat} {q : Program} {loose : List Str} {XP : (Str → Option Value) → Heap → Prop} {YP : World → Heap → Prop} {d : DefRec} {K : Params → PySem.W.Frag} {CX : World → CXT} {x : Str}
    (hn : l.most = some n) (hn2 : n ≤ sizeLine) (hdf : d.params.defaults = []) (hr : Room k callerA) (hY : ∀ (w : World) (h : Heap), YP w h → (K w.params).In h)
    (F : ∀ (w : World) (mg : Str → Option Value) (fa : Addr) (h : Heap), TabsOf q mg h → YP w h → (K w.params).In h → h.Ns mainGlobals mg → mg d.name = some (.ref fa) → LamX.LawAtS l w (K w.params) (CX w) k n x mg fa h)
    (hCX : ∀ (w : World) (H : Hp) (s : Shared) (e : Value) (s' : Shared), CX w [] H s (fun _ _ _ => False) e s' → False) :
    PySem.W.WalkO q loose XP YP l.row.toRowW d [] (fun f vs => PySem.call f vs) := by
  refine Att.attach_callB hn hdf fun w s₀ s₁ mg mb fa o pm cd doc a vs ns G Y ho hd hcd hmg hobj hints hlen hbits hg => ?_
  have KX := hY w _ Y
  obtain ⟨fd, cs, sp, hT, nT, C, hb, hsp, hF⟩ := F w mg fa _ G.T.tab Y KX G.T.g hmg
  exact LamX.law_callTs KX G.T.g G.T.b G.T.builtins G.T.nolimit hg hT nT C G.T.bmain hobj hints (Nat.le_trans hlen hn2) hr hF hb (fun H hH hS => hsp H a ns hlen hbits hH hS) fun H e s' => hCX w H s₁ e s'
end Rg
namespace Rg
open PySem PySem.Spec PyProof.Rows L2
/-! ### x is True, x is not False: bools told by value -/
theorem op_isV {X : Cx} : OpR X (compareOp .Is) (fun x y H Q => ∃ a c, x = .bl a ∧ y = .bl c ∧ Q (.bl (decide (a = c))) H) := by
  intro pins s σ H x y v u Q I rx ry h
  obtain ⟨a, c, rfl, rfl, q⟩ := h
  cases rx
  cases ry
  by_cases e : a = c
  · subst e
    rw [decide_eq_true rfl] at q
    exact wpAny_is_self rfl ⟨.bl true, H, I, rfl, q⟩
  · rw [decide_eq_false e] at q
    exact wpAny_is_other rfl (fun z => e (by injection z)) ⟨.bl false, H, I, rfl, q⟩
theorem op_notV {X : Cx} : OpR X (compareOp .IsNot) (fun x y H Q => ∃ a c, x = .bl a ∧ y = .bl c ∧ Q (.bl (!decide (a = c))) H) := by
  intro pins s σ H x y v u Q I rx ry h
  obtain ⟨a, c, rfl, rfl, q⟩ := h
  cases rx
  cases ry
  by_cases e : a = c
  · subst e
    rw [decide_eq_true rfl] at q
    exact wpAny_isNot_self rfl ⟨.bl false, H, I, rfl, q⟩
  · rw [decide_eq_false e] at q
    exact wpAny_isNot_other rfl (fun z => e (by injection z)) ⟨.bl true, H, I, rfl, q⟩
theorem take_snoc {α : Type} {l : List α} {i : Nat} {c : α} (h : l[i]? = some c) : l.take (i + 1) = l.take i ++ [c] := by
  rw [List.take_succ, h]
  rfl
theorem atN {α : Type} {xs : List α} {z : Int} {j : Nat} {v : α} (e : z = (j : Int)) (h : xs[j]? = some v) : atI xs z = some v := by
  subst e
  exact atI_nat h
theorem S_at {l : List Nat} {i c : Nat} (h : (SX.S l).cps[i]? = some c) : l[i]? = some c := by simpa using h
/-! ### a loop over the signs of a text -/
theorem for_str {x : Str} {g : TG} {tb : TS} {D : Ends} {σ : L2.St} {H : Hp} (Pv : Nat → L2.St → Hp → Prop) (h0 : Pv 0 σ H)
    (hs : ∀ i s σ H, x.cps[i]? = some s → Pv i σ H → g (.str ⟨#[s]⟩) σ H fun σ2 H2 => tb { D with nx := Pv (i + 1), ct := Pv (i + 1), bk := D.nx } σ2 H2) (hd : ∀ σ H, Pv x.cps.size σ H → D.nx σ H) :
    ∃ W : Nat → Nat → L2.St → Hp → Prop, (∃ m, W 0 m σ H) ∧ ∀ i m σ H, W i m σ H →
      ((Its x).stop i H ∧ D.nx σ H) ∨ ((Its x).go i H ∧ ∃ N : L2.St → Hp → Prop, (∀ σ' H', N σ' H' → ∃ m', m' < m ∧ W (i + 1) m' σ' H') ∧ ∀ v H', (Its x).yld i H v H' → g v σ H' fun σ2 H2 => tb { D with nx := N, ct := N, bk := D.nx } σ2 H2) := by
  refine ⟨fun i m σ H => m = x.cps.size - i ∧ i ≤ x.cps.size ∧ Pv i σ H, ⟨x.cps.size, by simp, Nat.zero_le _, h0⟩, ?_⟩
  rintro i m σ H ⟨rfl, hi, p⟩
  by_cases hlt : i < x.cps.size
  · refine .inr ⟨hlt, Pv (i + 1), fun σ' H' p' => ⟨x.cps.size - (i + 1), by omega, rfl, hlt, p'⟩, fun v H' y => ?_⟩
    obtain ⟨rfl, s, e, rfl⟩ := y
    exact hs i s σ _ e p
  · have e : i = x.cps.size := by omega
    subst e
    exact .inl ⟨Nat.le_refl _, hd σ H p⟩
end Rg
namespace Rg
open PySem PySem.Spec PyProof.Rows L2
/-! ### t[lo:hi], the whole of t: t itself -/
section
variable {prog : Program} {w : World} {A : Around} {E : Value → Shared → Prop} {s : Shared}
theorem getItem_tuple_all {t sl : Addr} {items : Array Value} {vl vu : Value} {lo hi : Option Int} {Q : Value → Shared → Prop} (ht : IsTup s.heap t items) (hs : s.heap.IsSliceOf sl vl vu .none) (pl : IsPart vl lo) (pu : IsPart vu hi)
    (hw : HT.sIx items.size 0 lo = 0 ∧ HT.sIx items.size items.size hi = items.size) (h : Q (.ref t) s) : wpAny (model prog w) A (getItem (.ref t) (.ref sl)) Q E s := by
  obtain ⟨os, hos, hcs, hds⟩ := id hs
  have hTs : s.TypeIs (.ref sl) "slice" := ⟨os, hos, hcs⟩
  unfold getItem
  try with_reducible refine wpAny_holding ?_
  first | refine wpAny_bind (wpAny_pure ?_) | skip
  refine wpAny_bind (wpAny_sequenceKey ht.typeIs (by decide) ?_)
  refine wpAny_bind (wpAny_callSpecial?_slot (name := Str.ofString "__getitem__") ht.typeIs PyProof.Rows.slot_tuple_getitem
    (wpAny_call_entry PyProof.Rows.slot_tuple_getitem ht.typeIs entry_tuple_getitem ?_ (args_tuple_getitem _ _)))
  show wpAny _ _ (Builtin.Tuple.tupleItemsOf (.ref t) >>= _) _ _ s
  refine wpAny_bind (tupleItemsOf_ ht ?_)
  refine wpAny_bind (wpAny_typeOf hTs ?_)
  rw [if_pos (by decide)]
  refine wpAny_bind (HT.sliceApplied_gen hs pl pu ?_)
  have hyes : (((HT.sIx items.size 0 lo : Nat) : Int) == 0 && (1 : Int) == 1 && (HT.sIx items.size items.size hi - HT.sIx items.size 0 lo) == items.size) = true := by
    rw [hw.1, hw.2]
    simp
  show wpAny _ _ (if (((HT.sIx items.size 0 lo : Nat) : Int) == 0 && (1 : Int) == 1 && (HT.sIx items.size items.size hi - HT.sIx items.size 0 lo) == items.size) = true then _ else _) _ _ s
  rw [if_pos hyes]
  refine wpAny_bind (m := Builtin.Tuple.tupleIsExact _) ?_
  unfold Builtin.Tuple.tupleIsExact
  refine wpAny_bind (wpAny_typeOf ht.typeIs (wpAny_pure ?_))
  show wpAny _ _ (if ((Value.type "tuple" == Value.type "tuple") = true) then _ else _) _ _ s
  rw [if_pos (by decide)]
  refine wpAny_bind (wpAny_rule (wpAny_pure ?_))
  exact ⟨_, rfl, wpAny_pure h⟩
end
/-- the whole of a tuple, by values -/
def rSlTA (K : PySem.W.Frag) : V → Option Int → Option Int → Hp → VK → Prop := fun x lo hi H Q => ∃ a xs, x = .ref a ∧ SqT K H a xs ∧ HT.sIx xs.length 0 lo = 0 ∧ HT.sIx xs.length xs.length hi = xs.length ∧ Q (.ref a) H
theorem sl_tupA {X : Cx} : SlR X (rSlTA X.K) := by
  intro pins s σ H x v vl vu lo hi sl Q I rx hs pl pu h
  obtain ⟨a, xs, rfl, hx, h1, h2, q⟩ := h
  cases rx
  obtain ⟨its, r, ht, hz⟩ := I.tuple hx
  have hlen : its.toArray.size = xs.length := by rw [List.size_toArray]; exact r.length.symm
  refine ⟨"tuple", _, PyProof.Rows.slot_tuple_getitem.lookup, ht.typeIs, ?_⟩
  exact getItem_tuple_all ht hs pl pu (by rw [hlen]; exact ⟨h1, h2⟩) ⟨.ref a, H, I, rfl, q⟩
theorem ixN_at {n : Nat} {z : Int} {i : Nat} (e : z = i) (h : i < n) : ixN n z = some i := by
  subst e
  exact Evl.ixN_nat h
theorem pe_ixTK {X : Cx} {K : PySem.W.Frag} {a b : Expr} {pos : Pos} {ta tb : TE} (ha : PE X a ta) (hb : PE X b tb) (hs : PlainIx b) (hK : X.K = K := by rfl) : PE X (.Subscript a b pos) (tOp (rIxT K) ta tb) := by
  subst hK
  exact pe_ix ix_tup ha hb hs
theorem op_repTK {X : Cx} {K : PySem.W.Frag} (hK : X.K = K := by rfl) : OpR X (binaryOp .Mult) (rRepT K) := by
  subst hK
  exact op_repT
/-! ### what is kept -/
section
variable {K : PySem.W.Frag} {Ps : List Addr} {H H1 : Hp} {a : Addr} {xs : List V}
theorem sameT (e : Same H H1) (h : SqT K H a xs) : SqT K H1 a xs := by
  rcases h with (h | ⟨o, h⟩) | h
  · exact .inl (.inl (e _ _ h))
  · exact .inl (.inr ⟨o, e _ _ h⟩)
  · exact .inr h
theorem Tk.seqT (k : Tk Ps H H1) (t : Tab Ps H) (h : SqT K H a xs) : SqT K H1 a xs := by
  rcases h with (h | ⟨o, h⟩) | h
  · exact .inl (.inl (k.at t h))
  · exact .inl (.inr ⟨o, k.at t h⟩)
  · exact .inr h
theorem Tk.seqL (k : Tk Ps H H1) (t : Tab Ps H) (h : SqL K H a xs) : SqL K H1 a xs := by
  rcases h with (h | ⟨o, h⟩) | h
  · exact .inl (.inl (k.at t h))
  · exact .inl (.inr ⟨o, k.at t h⟩)
  · exact .inr h
/-- what was new is written again -/
theorem Tk.put {o u : HO} (k : Tk Ps H H1) (h : H a = none) (e : H1 a = some o) (n : ∀ ps, o ≠ .tbl ps := by intro _ z; cases z) : Tk Ps H (upd H1 a u) := ⟨k.tab.upd e n, fun b v eb nb => by
  rw [upd_ne (ne_of_none eb h)]
  exact k.kp b v eb nb⟩
theorem tyT (h : SqT K H a xs) : TyX K H (.ref a) (.type "tuple") := by
  rcases h with (h | ⟨o, h⟩) | ⟨o, its, n, e, c, _⟩
  · exact .base (.tup h)
  · exact .fTuple h
  · exact .kTuple e c
end
/-! ### all, any over zip -/
theorem gx_zipL {K : PySem.W.Frag} {a b : Addr} {xs ys : List V} {c : Bool} {g : TG} {tt : TT} {te : TE} {vs : List Nat} {σ : L2.St} {Q : VK} {H2 : Hp} (hl : ys.length ≤ xs.length) (Pv : Nat → Hp → Prop) (h0 : Pv 0 H2) (hq : ∀ i H, Pv i H → SqL K H a xs ∧ SqL K H b ys)
    (hs : ∀ i x y T H, xs[i]? = some x → ys[i]? = some y → Pv i H → H T = none → g (.ref T) (wipe σ vs) (upd H T (.tup [x, y])) fun σ2 H2 => wipe σ2 vs = wipe σ vs ∧ tt σ2 H2 fun b H3 => if b = true then te σ2 H3 fun y H4 => ∃ k, y = .bl k ∧ if k = c then Pv (i + 1) H4 else Q (.bl (!c)) H4 else Pv (i + 1) H3)
    (hd : ∀ H, Pv ys.length H → Q (.bl c) H) : ∃ W : Nat → Nat → Hp → Prop, (∃ m, W 0 m H2) ∧ GxL.GTurn c (Itz K a b) g tt te vs σ Q W := by
  refine gx_by ys.length Pv h0 (fun i H hi p => ?_) (fun H p => ⟨xs, ys, (hq _ H p).1, (hq _ H p).2, .inr (Nat.le_refl _)⟩) (fun i x H H' hi p y => ?_) hd
  · exact ⟨xs, ys, xs[i], ys[i], (hq i H p).1, (hq i H p).2, List.getElem?_eq_getElem (by omega), List.getElem?_eq_getElem hi⟩
  · obtain ⟨T, x', y', rfl, hT, rfl, f1, f2⟩ := y
    exact hs i x' y' T H (f1 xs (hq i H p).1) (f2 ys (hq i H p).2) p hT
theorem gx_zipT {K : PySem.W.Frag} {a b : Addr} {xs ys : List V} {c : Bool} {g : TG} {tt : TT} {te : TE} {vs : List Nat} {σ : L2.St} {Q : VK} {H2 : Hp} (hl : ys.length ≤ xs.length) (Pv : Nat → Hp → Prop) (h0 : Pv 0 H2) (hq : ∀ i H, Pv i H → SqT K H a xs ∧ SqT K H b ys)
    (hs : ∀ i x y T H, xs[i]? = some x → ys[i]? = some y → Pv i H → H T = none → g (.ref T) (wipe σ vs) (upd H T (.tup [x, y])) fun σ2 H2 => wipe σ2 vs = wipe σ vs ∧ tt σ2 H2 fun b H3 => if b = true then te σ2 H3 fun y H4 => ∃ k, y = .bl k ∧ if k = c then Pv (i + 1) H4 else Q (.bl (!c)) H4 else Pv (i + 1) H3)
    (hd : ∀ H, Pv ys.length H → Q (.bl c) H) : ∃ W : Nat → Nat → Hp → Prop, (∃ m, W 0 m H2) ∧ GxL.GTurn c (RZ.ItzT K a b) g tt te vs σ Q W := by
  refine gx_by ys.length Pv h0 (fun i H hi p => ?_) (fun H p => ⟨xs, ys, (hq _ H p).1, (hq _ H p).2, .inr (Nat.le_refl _)⟩) (fun i x H H' hi p y => ?_) hd
  · exact ⟨xs, ys, xs[i], ys[i], (hq i H p).1, (hq i H p).2, List.getElem?_eq_getElem (by omega), List.getElem?_eq_getElem hi⟩
  · obtain ⟨T, x', y', rfl, hT, rfl, f1, f2⟩ := y
    exact hs i x' y' T H (f1 xs (hq i H p).1) (f2 ys (hq i H p).2) p hT
end Rg
namespace K01
open PySem PySem.Spec PyProof.Rows L2 Rg
def top (i : Nat) : Stmt := PySem.Challenge.pw_lotsandties_k01_writes_and_cuts.main.body.getD i (.Pass ⟨0, 0, 0, 0⟩)
abbrev s_is_number : Stmt := top 28
abbrev s_is_cell : Stmt := top 29
abbrev s_is_block : Stmt := top 30
abbrev s_is_cell_row : Stmt := top 31
abbrev s_is_ascending : Stmt := top 32
abbrev s_is_pair : Stmt := top 37
abbrev s_are_pairs : Stmt := top 38
abbrev s_are_revokes : Stmt := top 39
abbrev s_is_record : Stmt := top 40
abbrev s_fits_plan : Stmt := top 41
abbrev s_is_place : Stmt := top 44
abbrev s_is_content : Stmt := top 45
abbrev s_Lfeed : Stmt := top 48
abbrev s_Lpick : Stmt := top 49
abbrev s_Lsame : Stmt := top 50
abbrev s_Lstart : Stmt := top 51
abbrev s_Lagrees : Stmt := top 52
abbrev s_Lput : Stmt := top 53
abbrev s_Lplace : Stmt := top 54
abbrev s_Lcells : Stmt := top 55
abbrev s_Lrecord : Stmt := top 56
abbrev s_Lbusy : Stmt := top 57
abbrev s_Lbad_issue : Stmt := top 58
abbrev s_Lbad_head : Stmt := top 59
abbrev s_Lno_write : Stmt := top 60
abbrev s_Lno_cut : Stmt := top 61
abbrev s_Lissue : Stmt := top 62
abbrev s_Lsure : Stmt := top 63
abbrev s_Lbarrier : Stmt := top 64
abbrev s_Lhead : Stmt := top 65
abbrev s_Lbad : Stmt := top 66
abbrev s_Lcut : Stmt := top 67
abbrev s_law : Stmt := top 68
abbrev s_Plan___init__ : Stmt := inClass (top 24) 6
abbrev s_Plan_text : Stmt := inClass (top 24) 8
abbrev s_Disk___init__ : Stmt := inClass (top 46) 0
abbrev s_Disk_issue : Stmt := inClass (top 46) 3
abbrev s_Disk_busy : Stmt := inClass (top 46) 4
abbrev s_Disk_pending : Stmt := inClass (top 46) 5
abbrev s_Disk_sure : Stmt := inClass (top 46) 6
abbrev s_Disk_barrier : Stmt := inClass (top 46) 7
abbrev s_Disk_move_head : Stmt := inClass (top 46) 8
abbrev s_Disk_cut : Stmt := inClass (top 46) 9
abbrev s_Disk__settled : Stmt := inClass (top 46) 11
abbrev s_Disk__put : Stmt := inClass (top 46) 12
abbrev s_Disk_quiet : Stmt := inClass (top 46) 2
theorem sc_is_number : FnScope ["value", "least", "most"] ["value", "least", "most"] (defScope s_is_number) := ⟨rfl, rfl, rfl, by decide +kernel, rfl, by decide +kernel, by decide +kernel⟩
theorem sc_is_cell : FnScope ["value"] ["value"] (defScope s_is_cell) := ⟨rfl, rfl, rfl, by decide +kernel, rfl, by decide +kernel, by decide +kernel⟩
theorem sc_is_block : FnScope ["value"] ["value"] (defScope s_is_block) := ⟨rfl, rfl, rfl, by decide +kernel, rfl, by decide +kernel, by decide +kernel⟩
theorem sc_is_cell_row : FnScope ["value", "cell"] ["value"] (defScope s_is_cell_row) := ⟨rfl, rfl, rfl, by decide +kernel, rfl, by decide +kernel, by decide +kernel⟩
theorem sc_is_ascending : FnScope ["numbers", "low", "high"] ["numbers"] (defScope s_is_ascending) := ⟨rfl, rfl, rfl, by decide +kernel, rfl, by decide +kernel, by decide +kernel⟩
theorem sc_is_pair : FnScope ["value"] ["value"] (defScope s_is_pair) := ⟨rfl, rfl, rfl, by decide +kernel, rfl, by decide +kernel, by decide +kernel⟩
theorem sc_are_pairs : FnScope ["value", "pair"] ["value"] (defScope s_are_pairs) := ⟨rfl, rfl, rfl, by decide +kernel, rfl, by decide +kernel, by decide +kernel⟩
theorem sc_are_revokes : FnScope ["value", "block"] ["value"] (defScope s_are_revokes) := ⟨rfl, rfl, rfl, by decide +kernel, rfl, by decide +kernel, by decide +kernel⟩
theorem sc_is_record : FnScope ["record"] ["record"] (defScope s_is_record) := ⟨rfl, rfl, rfl, by decide +kernel, rfl, by decide +kernel, by decide +kernel⟩
theorem sc_fits_plan : FnScope ["record", "plan", "block", "slot"] ["record", "plan"] (defScope s_fits_plan) := ⟨rfl, rfl, rfl, by decide +kernel, rfl, by decide +kernel, by decide +kernel⟩
theorem sc_is_place : FnScope ["plan", "place"] ["plan", "place"] (defScope s_is_place) := ⟨rfl, rfl, rfl, by decide +kernel, rfl, by decide +kernel, by decide +kernel⟩
theorem sc_is_content : FnScope ["plan", "place", "what"] ["plan", "place", "what"] (defScope s_is_content) := ⟨rfl, rfl, rfl, by decide +kernel, rfl, by decide +kernel, by decide +kernel⟩
theorem sc_Lfeed : FnScope ["_law_script", "_law_feed_here", "_law_cell", "_law_rest", "_law_k"] ["_law_script"] (defScope s_Lfeed) := ⟨rfl, rfl, rfl, by decide +kernel, rfl, by decide +kernel, by decide +kernel⟩
theorem sc_Lpick : FnScope ["_law_feed_here", "_law_limit"] ["_law_feed_here", "_law_limit"] (defScope s_Lpick) := ⟨rfl, rfl, rfl, by decide +kernel, rfl, by decide +kernel, by decide +kernel⟩
theorem sc_Lsame : FnScope ["_law_actual", "_law_due", "_law_k"] ["_law_actual", "_law_due"] (defScope s_Lsame) := ⟨rfl, rfl, rfl, by decide +kernel, rfl, by decide +kernel, by decide +kernel⟩
theorem sc_Lstart : FnScope ["_law_x", "_law_s"] [] (defScope s_Lstart) := ⟨rfl, rfl, rfl, by decide +kernel, rfl, by decide +kernel, by decide +kernel⟩
theorem sc_Lagrees : FnScope ["_law_disk", "_law_book", "_law_home", "_law_log", "_law_numbers", "_law_pending", "_law_told", "_law_write"] ["_law_disk", "_law_book"] (defScope s_Lagrees) := ⟨rfl, rfl, rfl, by decide +kernel, rfl, by decide +kernel, by decide +kernel⟩
theorem sc_Lput : FnScope ["_law_book", "_law_write", "_law_home", "_law_log", "_law_numbers", "_law_pending", "_law_place_here"] ["_law_book", "_law_write"] (defScope s_Lput) := ⟨rfl, rfl, rfl, by decide +kernel, rfl, by decide +kernel, by decide +kernel⟩
theorem sc_Lplace : FnScope ["_law_feed_here", "_law_choice"] ["_law_feed_here"] (defScope s_Lplace) := ⟨rfl, rfl, rfl, by decide +kernel, rfl, by decide +kernel, by decide +kernel⟩
theorem sc_Lcells : FnScope ["_law_feed_here", "_law_cells_here", "_law_at"] ["_law_feed_here"] (defScope s_Lcells) := ⟨rfl, rfl, rfl, by decide +kernel, rfl, by decide +kernel, by decide +kernel⟩
theorem sc_Lrecord : FnScope ["_law_feed_here", "_law_lot", "_law_block", "_law_pairs", "_law_revokes"] ["_law_feed_here"] (defScope s_Lrecord) := ⟨rfl, rfl, rfl, by decide +kernel, rfl, by decide +kernel, by decide +kernel⟩
theorem sc_Lbusy : FnScope ["_law_disk", "_law_place_here", "_law_what", "e"] ["_law_disk", "_law_place_here", "_law_what"] (defScope s_Lbusy) := ⟨rfl, rfl, rfl, by decide +kernel, rfl, by decide +kernel, by decide +kernel⟩
theorem sc_Lbad_issue : FnScope ["_law_disk", "_law_place_here", "_law_what", "e"] ["_law_disk", "_law_place_here", "_law_what"] (defScope s_Lbad_issue) := ⟨rfl, rfl, rfl, by decide +kernel, rfl, by decide +kernel, by decide +kernel⟩
theorem sc_Lbad_head : FnScope ["_law_disk", "_law_p", "e"] ["_law_disk", "_law_p"] (defScope s_Lbad_head) := ⟨rfl, rfl, rfl, by decide +kernel, rfl, by decide +kernel, by decide +kernel⟩
theorem sc_Lno_write : FnScope ["_law_disk", "_law_number", "e"] ["_law_disk", "_law_number"] (defScope s_Lno_write) := ⟨rfl, rfl, rfl, by decide +kernel, rfl, by decide +kernel, by decide +kernel⟩
theorem sc_Lno_cut : FnScope ["_law_disk", "_law_keep", "e"] ["_law_disk", "_law_keep"] (defScope s_Lno_cut) := ⟨rfl, rfl, rfl, by decide +kernel, rfl, by decide +kernel, by decide +kernel⟩
theorem sc_Lissue : FnScope ["_law_disk", "_law_book", "_law_feed_here", "_law_home", "_law_log", "_law_numbers", "_law_pending", "_law_place_here", "_law_what", "_law_kept", "_law_busy_here", "_law_write", "_law_number"] ["_law_disk", "_law_book", "_law_feed_here"] (defScope s_Lissue) := ⟨rfl, rfl, rfl, by decide +kernel, rfl, by decide +kernel, by decide +kernel⟩
theorem sc_Lsure : FnScope ["_law_disk", "_law_book", "_law_feed_here", "_law_home", "_law_log", "_law_numbers", "_law_pending", "_law_at", "_law_write", "_law_waiting", "_law_gone", "_law_k", "_law_number"] ["_law_disk", "_law_book", "_law_feed_here"] (defScope s_Lsure) := ⟨rfl, rfl, rfl, by decide +kernel, rfl, by decide +kernel, by decide +kernel⟩
theorem sc_Lbarrier : FnScope ["_law_disk", "_law_book", "_law_home", "_law_log", "_law_numbers", "_law_pending", "_law_write"] ["_law_disk", "_law_book"] (defScope s_Lbarrier) := ⟨rfl, rfl, rfl, by decide +kernel, rfl, by decide +kernel, by decide +kernel⟩
theorem sc_Lhead : FnScope ["_law_disk", "_law_book", "_law_feed_here", "_law_numbers", "_law_p"] ["_law_disk", "_law_book", "_law_feed_here"] (defScope s_Lhead) := ⟨rfl, rfl, rfl, by decide +kernel, rfl, by decide +kernel, by decide +kernel⟩
theorem sc_Lbad : FnScope ["_law_disk", "_law_book", "_law_feed_here", "_law_near", "_law_cells_here", "_law_at", "_law_low", "_law_high", "_law_place_here", "_law_what", "_law_whole", "_law_records"] ["_law_disk", "_law_book", "_law_feed_here"] (defScope s_Lbad) := ⟨rfl, rfl, rfl, by decide +kernel, rfl, by decide +kernel, by decide +kernel⟩
theorem sc_Lcut : FnScope ["_law_disk", "_law_book", "_law_feed_here", "_law_home", "_law_log", "_law_numbers", "_law_pending", "_law_due", "_law_keep", "_law_write", "_law_cut_here", "_law_bad_here", "_law_row", "_law_cells_here"] ["_law_disk", "_law_book", "_law_feed_here"] (defScope s_Lcut) := ⟨rfl, rfl, rfl, by decide +kernel, rfl, by decide +kernel, by decide +kernel⟩
theorem sc_law : FnScope ["_law_script", "_law_feed_here", "_law_disk", "_law_book", "_law_k", "_law_choice", "_law_good", "_law_places", "_law_write", "_law_place_here", "_law_x", "_law_s"] ["_law_script"] (defScope s_law) := ⟨rfl, rfl, rfl, by decide +kernel, rfl, by decide +kernel, by decide +kernel⟩
theorem sc_Plan___init__ : FnScope ["self", "blocks", "nodes", "slots"] ["self", "blocks", "nodes", "slots"] (defScope s_Plan___init__) := ⟨rfl, rfl, rfl, by decide +kernel, rfl, by decide +kernel, by decide +kernel⟩
theorem sc_Plan_text : FnScope ["self"] ["self"] (defScope s_Plan_text) := ⟨rfl, rfl, rfl, by decide +kernel, rfl, by decide +kernel, by decide +kernel⟩
theorem sc_Disk___init__ : FnScope ["self", "plan", "_"] ["self", "plan"] (defScope s_Disk___init__) := ⟨rfl, rfl, rfl, by decide +kernel, rfl, by decide +kernel, by decide +kernel⟩
theorem sc_Disk_issue : FnScope ["self", "place", "what"] ["self", "place", "what"] (defScope s_Disk_issue) := ⟨rfl, rfl, rfl, by decide +kernel, rfl, by decide +kernel, by decide +kernel⟩
theorem sc_Disk_busy : FnScope ["self", "place", "taken", "_"] ["self", "place"] (defScope s_Disk_busy) := ⟨rfl, rfl, rfl, by decide +kernel, rfl, by decide +kernel, by decide +kernel⟩
theorem sc_Disk_pending : FnScope ["self", "number", "place", "what"] ["self"] (defScope s_Disk_pending) := ⟨rfl, rfl, rfl, by decide +kernel, rfl, by decide +kernel, by decide +kernel⟩
theorem sc_Disk_sure : FnScope ["self", "number", "place", "what"] ["self", "number"] (defScope s_Disk_sure) := ⟨rfl, rfl, rfl, by decide +kernel, rfl, by decide +kernel, by decide +kernel⟩
theorem sc_Disk_barrier : FnScope ["self", "number"] ["self"] (defScope s_Disk_barrier) := ⟨rfl, rfl, rfl, by decide +kernel, rfl, by decide +kernel, by decide +kernel⟩
theorem sc_Disk_move_head : FnScope ["self", "p"] ["self", "p"] (defScope s_Disk_move_head) := ⟨rfl, rfl, rfl, by decide +kernel, rfl, by decide +kernel, by decide +kernel⟩
theorem sc_Disk_cut : FnScope ["self", "keep", "found", "k", "number", "place", "what"] ["self", "keep"] (defScope s_Disk_cut) := ⟨rfl, rfl, rfl, by decide +kernel, rfl, by decide +kernel, by decide +kernel⟩
theorem sc_Disk__settled : FnScope ["self", "other"] ["self"] (defScope s_Disk__settled) := ⟨rfl, rfl, rfl, by decide +kernel, rfl, by decide +kernel, by decide +kernel⟩
theorem sc_Disk__put : FnScope ["self", "place", "what", "kind", "at"] ["self", "place", "what"] (defScope s_Disk__put) := ⟨rfl, rfl, rfl, by decide +kernel, rfl, by decide +kernel, by decide +kernel⟩
theorem sc_Disk_quiet : FnScope ["self"] ["self"] (defScope s_Disk_quiet) := ⟨rfl, rfl, rfl, by decide +kernel, rfl, by decide +kernel, by decide +kernel⟩

structure Tx (K : PySem.W.Frag) (mg : Str → Option Value) where
  f_is_number : Addr
  fd_is_number : FuncData
  F_is_number : Fun K "is_number" "is_number" s_is_number f_is_number fd_is_number
  mg_is_number : mg "is_number" = some (.ref f_is_number)
  f_is_cell : Addr
  fd_is_cell : FuncData
  F_is_cell : Fun K "is_cell" "is_cell" s_is_cell f_is_cell fd_is_cell
  mg_is_cell : mg "is_cell" = some (.ref f_is_cell)
  f_is_block : Addr
  fd_is_block : FuncData
  F_is_block : Fun K "is_block" "is_block" s_is_block f_is_block fd_is_block
  mg_is_block : mg "is_block" = some (.ref f_is_block)
  f_is_cell_row : Addr
  fd_is_cell_row : FuncData
  F_is_cell_row : Fun K "is_cell_row" "is_cell_row" s_is_cell_row f_is_cell_row fd_is_cell_row
  mg_is_cell_row : mg "is_cell_row" = some (.ref f_is_cell_row)
  cc_is_cell_row : Addr
  P_is_cell_row : Addr
  code_is_cell_row : fd_is_cell_row.code = .ref cc_is_cell_row
  ch_is_cell_row : PySem.W.codeHdIn K cc_is_cell_row P_is_cell_row = true
  cn_is_cell_row : K.lookup P_is_cell_row = none
  f_is_ascending : Addr
  fd_is_ascending : FuncData
  F_is_ascending : Fun K "is_ascending" "is_ascending" s_is_ascending f_is_ascending fd_is_ascending
  mg_is_ascending : mg "is_ascending" = some (.ref f_is_ascending)
  cc_is_ascending : Addr
  P_is_ascending : Addr
  code_is_ascending : fd_is_ascending.code = .ref cc_is_ascending
  ch_is_ascending : PySem.W.codeHdIn K cc_is_ascending P_is_ascending = true
  cn_is_ascending : K.lookup P_is_ascending = none
  f_is_pair : Addr
  fd_is_pair : FuncData
  F_is_pair : Fun K "_is_pair" "_is_pair" s_is_pair f_is_pair fd_is_pair
  mg_is_pair : mg "_is_pair" = some (.ref f_is_pair)
  f_are_pairs : Addr
  fd_are_pairs : FuncData
  F_are_pairs : Fun K "_are_pairs" "_are_pairs" s_are_pairs f_are_pairs fd_are_pairs
  mg_are_pairs : mg "_are_pairs" = some (.ref f_are_pairs)
  cc_are_pairs : Addr
  P_are_pairs : Addr
  code_are_pairs : fd_are_pairs.code = .ref cc_are_pairs
  ch_are_pairs : PySem.W.codeHdIn K cc_are_pairs P_are_pairs = true
  cn_are_pairs : K.lookup P_are_pairs = none
  f_are_revokes : Addr
  fd_are_revokes : FuncData
  F_are_revokes : Fun K "_are_revokes" "_are_revokes" s_are_revokes f_are_revokes fd_are_revokes
  mg_are_revokes : mg "_are_revokes" = some (.ref f_are_revokes)
  cc_are_revokes : Addr
  P_are_revokes : Addr
  code_are_revokes : fd_are_revokes.code = .ref cc_are_revokes
  ch_are_revokes : PySem.W.codeHdIn K cc_are_revokes P_are_revokes = true
  cn_are_revokes : K.lookup P_are_revokes = none
  f_is_record : Addr
  fd_is_record : FuncData
  F_is_record : Fun K "is_record" "is_record" s_is_record f_is_record fd_is_record
  mg_is_record : mg "is_record" = some (.ref f_is_record)
  f_fits_plan : Addr
  fd_fits_plan : FuncData
  F_fits_plan : Fun K "fits_plan" "fits_plan" s_fits_plan f_fits_plan fd_fits_plan
  mg_fits_plan : mg "fits_plan" = some (.ref f_fits_plan)
  cc_fits_plan : Addr
  P_fits_plan : Addr
  code_fits_plan : fd_fits_plan.code = .ref cc_fits_plan
  ch_fits_plan : PySem.W.codeHdIn K cc_fits_plan P_fits_plan = true
  cn_fits_plan : K.lookup P_fits_plan = none
  f_is_place : Addr
  fd_is_place : FuncData
  F_is_place : Fun K "_is_place" "_is_place" s_is_place f_is_place fd_is_place
  mg_is_place : mg "_is_place" = some (.ref f_is_place)
  f_is_content : Addr
  fd_is_content : FuncData
  F_is_content : Fun K "_is_content" "_is_content" s_is_content f_is_content fd_is_content
  mg_is_content : mg "_is_content" = some (.ref f_is_content)
  f_Lfeed : Addr
  fd_Lfeed : FuncData
  F_Lfeed : Fun K "_law_feed" "_law_feed" s_Lfeed f_Lfeed fd_Lfeed
  mg_Lfeed : mg "_law_feed" = some (.ref f_Lfeed)
  f_Lpick : Addr
  fd_Lpick : FuncData
  F_Lpick : Fun K "_law_pick" "_law_pick" s_Lpick f_Lpick fd_Lpick
  mg_Lpick : mg "_law_pick" = some (.ref f_Lpick)
  f_Lsame : Addr
  fd_Lsame : FuncData
  F_Lsame : Fun K "_law_same" "_law_same" s_Lsame f_Lsame fd_Lsame
  mg_Lsame : mg "_law_same" = some (.ref f_Lsame)
  f_Lstart : Addr
  fd_Lstart : FuncData
  F_Lstart : Fun K "_law_start" "_law_start" s_Lstart f_Lstart fd_Lstart
  mg_Lstart : mg "_law_start" = some (.ref f_Lstart)
  f_Lagrees : Addr
  fd_Lagrees : FuncData
  F_Lagrees : Fun K "_law_agrees" "_law_agrees" s_Lagrees f_Lagrees fd_Lagrees
  mg_Lagrees : mg "_law_agrees" = some (.ref f_Lagrees)
  f_Lput : Addr
  fd_Lput : FuncData
  F_Lput : Fun K "_law_put" "_law_put" s_Lput f_Lput fd_Lput
  mg_Lput : mg "_law_put" = some (.ref f_Lput)
  f_Lplace : Addr
  fd_Lplace : FuncData
  F_Lplace : Fun K "_law_place" "_law_place" s_Lplace f_Lplace fd_Lplace
  mg_Lplace : mg "_law_place" = some (.ref f_Lplace)
  f_Lcells : Addr
  fd_Lcells : FuncData
  F_Lcells : Fun K "_law_cells" "_law_cells" s_Lcells f_Lcells fd_Lcells
  mg_Lcells : mg "_law_cells" = some (.ref f_Lcells)
  f_Lrecord : Addr
  fd_Lrecord : FuncData
  F_Lrecord : Fun K "_law_record" "_law_record" s_Lrecord f_Lrecord fd_Lrecord
  mg_Lrecord : mg "_law_record" = some (.ref f_Lrecord)
  f_Lbusy : Addr
  fd_Lbusy : FuncData
  F_Lbusy : Fun K "_law_busy" "_law_busy" s_Lbusy f_Lbusy fd_Lbusy
  mg_Lbusy : mg "_law_busy" = some (.ref f_Lbusy)
  f_Lbad_issue : Addr
  fd_Lbad_issue : FuncData
  F_Lbad_issue : Fun K "_law_bad_issue" "_law_bad_issue" s_Lbad_issue f_Lbad_issue fd_Lbad_issue
  mg_Lbad_issue : mg "_law_bad_issue" = some (.ref f_Lbad_issue)
  f_Lbad_head : Addr
  fd_Lbad_head : FuncData
  F_Lbad_head : Fun K "_law_bad_head" "_law_bad_head" s_Lbad_head f_Lbad_head fd_Lbad_head
  mg_Lbad_head : mg "_law_bad_head" = some (.ref f_Lbad_head)
  f_Lno_write : Addr
  fd_Lno_write : FuncData
  F_Lno_write : Fun K "_law_no_write" "_law_no_write" s_Lno_write f_Lno_write fd_Lno_write
  mg_Lno_write : mg "_law_no_write" = some (.ref f_Lno_write)
  f_Lno_cut : Addr
  fd_Lno_cut : FuncData
  F_Lno_cut : Fun K "_law_no_cut" "_law_no_cut" s_Lno_cut f_Lno_cut fd_Lno_cut
  mg_Lno_cut : mg "_law_no_cut" = some (.ref f_Lno_cut)
  f_Lissue : Addr
  fd_Lissue : FuncData
  F_Lissue : Fun K "_law_issue" "_law_issue" s_Lissue f_Lissue fd_Lissue
  mg_Lissue : mg "_law_issue" = some (.ref f_Lissue)
  f_Lsure : Addr
  fd_Lsure : FuncData
  F_Lsure : Fun K "_law_sure" "_law_sure" s_Lsure f_Lsure fd_Lsure
  mg_Lsure : mg "_law_sure" = some (.ref f_Lsure)
  f_Lbarrier : Addr
  fd_Lbarrier : FuncData
  F_Lbarrier : Fun K "_law_barrier" "_law_barrier" s_Lbarrier f_Lbarrier fd_Lbarrier
  mg_Lbarrier : mg "_law_barrier" = some (.ref f_Lbarrier)
  f_Lhead : Addr
  fd_Lhead : FuncData
  F_Lhead : Fun K "_law_head" "_law_head" s_Lhead f_Lhead fd_Lhead
  mg_Lhead : mg "_law_head" = some (.ref f_Lhead)
  f_Lbad : Addr
  fd_Lbad : FuncData
  F_Lbad : Fun K "_law_bad" "_law_bad" s_Lbad f_Lbad fd_Lbad
  mg_Lbad : mg "_law_bad" = some (.ref f_Lbad)
  f_Lcut : Addr
  fd_Lcut : FuncData
  F_Lcut : Fun K "_law_cut" "_law_cut" s_Lcut f_Lcut fd_Lcut
  mg_Lcut : mg "_law_cut" = some (.ref f_Lcut)
  f_law : Addr
  fd_law : FuncData
  F_law : Fun K "law" "law" s_law f_law fd_law
  mg_law : mg "law" = some (.ref f_law)
  f_Plan___init__ : Addr
  fd_Plan___init__ : FuncData
  F_Plan___init__ : Fun K "__init__" "Plan.__init__" s_Plan___init__ f_Plan___init__ fd_Plan___init__
  f_Plan_text : Addr
  fd_Plan_text : FuncData
  F_Plan_text : Fun K "text" "Plan.text" s_Plan_text f_Plan_text fd_Plan_text
  f_Disk___init__ : Addr
  fd_Disk___init__ : FuncData
  F_Disk___init__ : Fun K "__init__" "Disk.__init__" s_Disk___init__ f_Disk___init__ fd_Disk___init__
  f_Disk_issue : Addr
  fd_Disk_issue : FuncData
  F_Disk_issue : Fun K "issue" "Disk.issue" s_Disk_issue f_Disk_issue fd_Disk_issue
  f_Disk_busy : Addr
  fd_Disk_busy : FuncData
  F_Disk_busy : Fun K "busy" "Disk.busy" s_Disk_busy f_Disk_busy fd_Disk_busy
  cc_Disk_busy : Addr
  P_Disk_busy : Addr
  code_Disk_busy : fd_Disk_busy.code = .ref cc_Disk_busy
  ch_Disk_busy : PySem.W.codeHdIn K cc_Disk_busy P_Disk_busy = true
  cn_Disk_busy : K.lookup P_Disk_busy = none
  f_Disk_pending : Addr
  fd_Disk_pending : FuncData
  F_Disk_pending : Fun K "pending" "Disk.pending" s_Disk_pending f_Disk_pending fd_Disk_pending
  f_Disk_sure : Addr
  fd_Disk_sure : FuncData
  F_Disk_sure : Fun K "sure" "Disk.sure" s_Disk_sure f_Disk_sure fd_Disk_sure
  f_Disk_barrier : Addr
  fd_Disk_barrier : FuncData
  F_Disk_barrier : Fun K "barrier" "Disk.barrier" s_Disk_barrier f_Disk_barrier fd_Disk_barrier
  f_Disk_move_head : Addr
  fd_Disk_move_head : FuncData
  F_Disk_move_head : Fun K "move_head" "Disk.move_head" s_Disk_move_head f_Disk_move_head fd_Disk_move_head
  f_Disk_cut : Addr
  dv_Disk_cut : Addr
  fd_Disk_cut : FuncData
  F_Disk_cut : FunD K "cut" "Disk.cut" (defArgs s_Disk_cut) (defBody s_Disk_cut) (defScope s_Disk_cut) [.ref dv_Disk_cut] [] f_Disk_cut fd_Disk_cut
  f_Disk__settled : Addr
  fd_Disk__settled : FuncData
  F_Disk__settled : Fun K "_settled" "Disk._settled" s_Disk__settled f_Disk__settled fd_Disk__settled
  f_Disk__put : Addr
  fd_Disk__put : FuncData
  F_Disk__put : Fun K "_put" "Disk._put" s_Disk__put f_Disk__put fd_Disk__put
  f_Disk_quiet : Addr
  fd_Disk_quiet : FuncData
  F_Disk_quiet : Fun K "quiet" "Disk.quiet" s_Disk_quiet f_Disk_quiet fd_Disk_quiet
  C_Plan : Addr
  mg_Plan : mg "Plan" = some (.ref C_Plan)
  cl_Plan : Cls K C_Plan
  na_Plan_blocks : NoAttr K C_Plan "blocks"
  na_Plan_nodes : NoAttr K C_Plan "nodes"
  na_Plan_slots : NoAttr K C_Plan "slots"
  na_Plan_maps : NoAttr K C_Plan "maps"
  na_Plan_first_node : NoAttr K C_Plan "first_node"
  na_Plan_first_data : NoAttr K C_Plan "first_data"
  mk_Plan : Mk K C_Plan f_Plan___init__
  mc_Plan : Value
  cr_Plan : ClX.CRead K C_Plan mc_Plan
  cv_Plan_WIDTH : ∃ u, ClX.CVal K C_Plan mc_Plan "WIDTH" (.int 8) u
  con_Plan_WIDTH : ∃ u, Con K C_Plan "WIDTH" (.int 8) u
  C_Disk : Addr
  mg_Disk : mg "Disk" = some (.ref C_Disk)
  cl_Disk : Cls K C_Disk
  na_Disk_plan : NoAttr K C_Disk "plan"
  na_Disk_home : NoAttr K C_Disk "home"
  na_Disk_log : NoAttr K C_Disk "log"
  na_Disk_head : NoAttr K C_Disk "head"
  na_Disk_last : NoAttr K C_Disk "last"
  na_Disk__pending : NoAttr K C_Disk "_pending"
  mk_Disk : Mk K C_Disk f_Disk___init__
  m_Plan_text : Meth K C_Plan "text" f_Plan_text
  m_Disk_issue : Meth K C_Disk "issue" f_Disk_issue
  m_Disk_busy : Meth K C_Disk "busy" f_Disk_busy
  m_Disk_pending : Meth K C_Disk "pending" f_Disk_pending
  m_Disk_sure : Meth K C_Disk "sure" f_Disk_sure
  m_Disk_barrier : Meth K C_Disk "barrier" f_Disk_barrier
  m_Disk_move_head : Meth K C_Disk "move_head" f_Disk_move_head
  m_Disk_cut : Meth K C_Disk "cut" f_Disk_cut
  m_Disk__settled : Meth K C_Disk "_settled" f_Disk__settled
  m_Disk__put : Meth K C_Disk "_put" f_Disk__put
  pr_Disk_quiet : ∃ p, PropOf K C_Disk "quiet" p f_Disk_quiet
  C_StoreError : Addr
  mg_StoreError : mg "StoreError" = some (.ref C_StoreError)
  be_StoreError : PySem.W.subIn K (.ref C_StoreError) (.type "BaseException") = some true
  te_StoreError : PySem.W.typeIn K (.ref C_StoreError) = some (.type "type")
  ie_StoreError : PySem.W.isClsIn K C_StoreError = true
  C_BadValue : Addr
  mg_BadValue : mg "BadValue" = some (.ref C_BadValue)
  be_BadValue : PySem.W.subIn K (.ref C_BadValue) (.type "BaseException") = some true
  te_BadValue : PySem.W.typeIn K (.ref C_BadValue) = some (.type "type")
  ie_BadValue : PySem.W.isClsIn K C_BadValue = true
  xe_BadValue : PySem.W.excIn K C_BadValue [.type "ValueError", .type "Exception", .type "BaseException", .type "object"] "ValueError.__new__" = true
  ke_BadValue : PySem.W.keepIn K (.ref C_BadValue) = true
  ec_BadValue : ExcC K C_BadValue
  C_Refused : Addr
  mg_Refused : mg "Refused" = some (.ref C_Refused)
  be_Refused : PySem.W.subIn K (.ref C_Refused) (.type "BaseException") = some true
  te_Refused : PySem.W.typeIn K (.ref C_Refused) = some (.type "type")
  ie_Refused : PySem.W.isClsIn K C_Refused = true
  C_NotNow : Addr
  mg_NotNow : mg "NotNow" = some (.ref C_NotNow)
  be_NotNow : PySem.W.subIn K (.ref C_NotNow) (.type "BaseException") = some true
  te_NotNow : PySem.W.typeIn K (.ref C_NotNow) = some (.type "type")
  ie_NotNow : PySem.W.isClsIn K C_NotNow = true
  C_PlaceBusy : Addr
  mg_PlaceBusy : mg "PlaceBusy" = some (.ref C_PlaceBusy)
  be_PlaceBusy : PySem.W.subIn K (.ref C_PlaceBusy) (.type "BaseException") = some true
  te_PlaceBusy : PySem.W.typeIn K (.ref C_PlaceBusy) = some (.type "type")
  ie_PlaceBusy : PySem.W.isClsIn K C_PlaceBusy = true
  xe_PlaceBusy : PySem.W.excIn K C_PlaceBusy [.type "ValueError", .type "Exception", .type "BaseException", .type "object"] "ValueError.__new__" = true
  ke_PlaceBusy : PySem.W.keepIn K (.ref C_PlaceBusy) = true
  ec_PlaceBusy : ExcC K C_PlaceBusy
  C_NoWrite : Addr
  mg_NoWrite : mg "NoWrite" = some (.ref C_NoWrite)
  be_NoWrite : PySem.W.subIn K (.ref C_NoWrite) (.type "BaseException") = some true
  te_NoWrite : PySem.W.typeIn K (.ref C_NoWrite) = some (.type "type")
  ie_NoWrite : PySem.W.isClsIn K C_NoWrite = true
  xe_NoWrite : PySem.W.excIn K C_NoWrite [.type "ValueError", .type "Exception", .type "BaseException", .type "object"] "ValueError.__new__" = true
  ke_NoWrite : PySem.W.keepIn K (.ref C_NoWrite) = true
  ec_NoWrite : ExcC K C_NoWrite
  sub_BadValue_StoreError : PySem.W.subIn K (.ref C_BadValue) (.ref C_StoreError) = some true
  sub_BadValue_BadValue : PySem.W.subIn K (.ref C_BadValue) (.ref C_BadValue) = some true
  sub_BadValue_Refused : PySem.W.subIn K (.ref C_BadValue) (.ref C_Refused) = some false
  sub_BadValue_NotNow : PySem.W.subIn K (.ref C_BadValue) (.ref C_NotNow) = some false
  sub_BadValue_PlaceBusy : PySem.W.subIn K (.ref C_BadValue) (.ref C_PlaceBusy) = some false
  sub_BadValue_NoWrite : PySem.W.subIn K (.ref C_BadValue) (.ref C_NoWrite) = some false
  sub_PlaceBusy_StoreError : PySem.W.subIn K (.ref C_PlaceBusy) (.ref C_StoreError) = some true
  sub_PlaceBusy_BadValue : PySem.W.subIn K (.ref C_PlaceBusy) (.ref C_BadValue) = some false
  sub_PlaceBusy_Refused : PySem.W.subIn K (.ref C_PlaceBusy) (.ref C_Refused) = some false
  sub_PlaceBusy_NotNow : PySem.W.subIn K (.ref C_PlaceBusy) (.ref C_NotNow) = some true
  sub_PlaceBusy_PlaceBusy : PySem.W.subIn K (.ref C_PlaceBusy) (.ref C_PlaceBusy) = some true
  sub_PlaceBusy_NoWrite : PySem.W.subIn K (.ref C_PlaceBusy) (.ref C_NoWrite) = some false
  sub_NoWrite_StoreError : PySem.W.subIn K (.ref C_NoWrite) (.ref C_StoreError) = some true
  sub_NoWrite_BadValue : PySem.W.subIn K (.ref C_NoWrite) (.ref C_BadValue) = some false
  sub_NoWrite_Refused : PySem.W.subIn K (.ref C_NoWrite) (.ref C_Refused) = some false
  sub_NoWrite_NotNow : PySem.W.subIn K (.ref C_NoWrite) (.ref C_NotNow) = some true
  sub_NoWrite_PlaceBusy : PySem.W.subIn K (.ref C_NoWrite) (.ref C_PlaceBusy) = some false
  sub_NoWrite_NoWrite : PySem.W.subIn K (.ref C_NoWrite) (.ref C_NoWrite) = some true
  bsub_BadValue_ValueError : PySem.W.subIn K (.ref C_BadValue) (.type "ValueError") = some true
  bsub_PlaceBusy_ValueError : PySem.W.subIn K (.ref C_PlaceBusy) (.type "ValueError") = some true
  bsub_NoWrite_ValueError : PySem.W.subIn K (.ref C_NoWrite) (.type "ValueError") = some true
  c_LEAST_BLOCKS : ∃ t, mg "LEAST_BLOCKS" = some (.int 8 t)
  c_MOST_BLOCKS : ∃ t, mg "MOST_BLOCKS" = some (.int 64 t)
  c_LEAST_NODES : ∃ t, mg "LEAST_NODES" = some (.int 2 t)
  c_MOST_NODES : ∃ t, mg "MOST_NODES" = some (.int 16 t)
  c_MOST_SLOTS : ∃ t, mg "MOST_SLOTS" = some (.int 200 t)
  c_LEAST_DATA : ∃ t, mg "LEAST_DATA" = some (.int 2 t)
  c_FIRST_MAP : ∃ t, mg "FIRST_MAP" = some (.int 2 t)
  c_CELL_MOST : ∃ t, mg "CELL_MOST" = some (.int 999999999 t)
  c_BLOCK_MOST : ∃ t, mg "BLOCK_MOST" = some (.int 63 t)
  c_MOST_LOT : ∃ t, mg "MOST_LOT" = some (.int 999999 t)
  c_MOST_SLOT : ∃ t, mg "MOST_SLOT" = some (.int 199 t)
  c_MOST_HEAD : ∃ t, mg "MOST_HEAD" = some (.int 999999 t)
  c_NO_SLOT : ∃ t, mg "NO_SLOT" = some (.int (-1) t)
  ek_Disk_cut : ∃ od n sl, K.lookup dv_Disk_cut = some ⟨.type "tuple", od, .seq #[] n, sl⟩
  b_ValueError : mg "ValueError" = none
  b_abs : mg "abs" = none
  b_all : mg "all" = none
  b_any : mg "any" = none
  b_bool : mg "bool" = none
  b_enumerate : mg "enumerate" = none
  b_int : mg "int" = none
  b_isinstance : mg "isinstance" = none
  b_len : mg "len" = none
  b_list : mg "list" = none
  b_range : mg "range" = none
  b_reversed : mg "reversed" = none
  b_str : mg "str" = none
  b_tuple : mg "tuple" = none
  b_zip : mg "zip" = none
/-- the defs that make generators: their tables -/
structure TBs {K : PySem.W.Frag} {mg : Str → Option Value} (T : Tx K mg) (base : Heap) : Prop where
  t_is_cell_row : LamX.TabB base mg T.cc_is_cell_row T.P_is_cell_row
  t_is_ascending : LamX.TabB base mg T.cc_is_ascending T.P_is_ascending
  t_are_pairs : LamX.TabB base mg T.cc_are_pairs T.P_are_pairs
  t_are_revokes : LamX.TabB base mg T.cc_are_revokes T.P_are_revokes
  t_fits_plan : LamX.TabB base mg T.cc_fits_plan T.P_fits_plan
  t_Disk_busy : LamX.TabB base mg T.cc_Disk_busy T.P_Disk_busy
def Tx.Ps {K : PySem.W.Frag} {mg : Str → Option Value} (T : Tx K mg) : List Addr := [T.P_is_cell_row, T.P_is_ascending, T.P_are_pairs, T.P_are_revokes, T.P_fits_plan, T.P_Disk_busy]
theorem Tx.in_is_cell_row {K : PySem.W.Frag} {mg : Str → Option Value} (T : Tx K mg) : T.P_is_cell_row ∈ T.Ps := by simp [Tx.Ps]
theorem Tx.in_is_ascending {K : PySem.W.Frag} {mg : Str → Option Value} (T : Tx K mg) : T.P_is_ascending ∈ T.Ps := by simp [Tx.Ps]
theorem Tx.in_are_pairs {K : PySem.W.Frag} {mg : Str → Option Value} (T : Tx K mg) : T.P_are_pairs ∈ T.Ps := by simp [Tx.Ps]
theorem Tx.in_are_revokes {K : PySem.W.Frag} {mg : Str → Option Value} (T : Tx K mg) : T.P_are_revokes ∈ T.Ps := by simp [Tx.Ps]
theorem Tx.in_fits_plan {K : PySem.W.Frag} {mg : Str → Option Value} (T : Tx K mg) : T.P_fits_plan ∈ T.Ps := by simp [Tx.Ps]
theorem Tx.in_Disk_busy {K : PySem.W.Frag} {mg : Str → Option Value} (T : Tx K mg) : T.P_Disk_busy ∈ T.Ps := by simp [Tx.Ps]

section
variable {P : Program} {w : World} {K : PySem.W.Frag} {mg : Str → Option Value} {base : Heap}
theorem b_is_number (T : Tx K mg) : Binds K T.fd_is_number ["value", "least", "most"] [] := T.F_is_number.binds (ps := ["value", "least", "most"]) fun _ _ _ _ _ _ us hl => match us, hl with | [_, _, _], _ => rfl
theorem b_is_cell (T : Tx K mg) : Binds K T.fd_is_cell ["value"] [] := T.F_is_cell.binds (ps := ["value"]) fun _ _ _ _ _ _ us hl => match us, hl with | [_], _ => rfl
theorem b_is_block (T : Tx K mg) : Binds K T.fd_is_block ["value"] [] := T.F_is_block.binds (ps := ["value"]) fun _ _ _ _ _ _ us hl => match us, hl with | [_], _ => rfl
theorem b_is_cell_row (T : Tx K mg) : Binds K T.fd_is_cell_row ["value"] [] := T.F_is_cell_row.binds (ps := ["value"]) fun _ _ _ _ _ _ us hl => match us, hl with | [_], _ => rfl
theorem b_is_ascending (T : Tx K mg) : Binds K T.fd_is_ascending ["numbers"] [] := T.F_is_ascending.binds (ps := ["numbers"]) fun _ _ _ _ _ _ us hl => match us, hl with | [_], _ => rfl
theorem b_is_pair (T : Tx K mg) : Binds K T.fd_is_pair ["value"] [] := T.F_is_pair.binds (ps := ["value"]) fun _ _ _ _ _ _ us hl => match us, hl with | [_], _ => rfl
theorem b_are_pairs (T : Tx K mg) : Binds K T.fd_are_pairs ["value"] [] := T.F_are_pairs.binds (ps := ["value"]) fun _ _ _ _ _ _ us hl => match us, hl with | [_], _ => rfl
theorem b_are_revokes (T : Tx K mg) : Binds K T.fd_are_revokes ["value"] [] := T.F_are_revokes.binds (ps := ["value"]) fun _ _ _ _ _ _ us hl => match us, hl with | [_], _ => rfl
theorem b_is_record (T : Tx K mg) : Binds K T.fd_is_record ["record"] [] := T.F_is_record.binds (ps := ["record"]) fun _ _ _ _ _ _ us hl => match us, hl with | [_], _ => rfl
theorem b_fits_plan (T : Tx K mg) : Binds K T.fd_fits_plan ["record", "plan"] [] := T.F_fits_plan.binds (ps := ["record", "plan"]) fun _ _ _ _ _ _ us hl => match us, hl with | [_, _], _ => rfl
theorem b_is_place (T : Tx K mg) : Binds K T.fd_is_place ["plan", "place"] [] := T.F_is_place.binds (ps := ["plan", "place"]) fun _ _ _ _ _ _ us hl => match us, hl with | [_, _], _ => rfl
theorem b_is_content (T : Tx K mg) : Binds K T.fd_is_content ["plan", "place", "what"] [] := T.F_is_content.binds (ps := ["plan", "place", "what"]) fun _ _ _ _ _ _ us hl => match us, hl with | [_, _, _], _ => rfl
theorem b_Lfeed (T : Tx K mg) : Binds K T.fd_Lfeed ["_law_script"] [] := T.F_Lfeed.binds (ps := ["_law_script"]) fun _ _ _ _ _ _ us hl => match us, hl with | [_], _ => rfl
theorem b_Lpick (T : Tx K mg) : Binds K T.fd_Lpick ["_law_feed_here", "_law_limit"] [] := T.F_Lpick.binds (ps := ["_law_feed_here", "_law_limit"]) fun _ _ _ _ _ _ us hl => match us, hl with | [_, _], _ => rfl
theorem b_Lsame (T : Tx K mg) : Binds K T.fd_Lsame ["_law_actual", "_law_due"] [] := T.F_Lsame.binds (ps := ["_law_actual", "_law_due"]) fun _ _ _ _ _ _ us hl => match us, hl with | [_, _], _ => rfl
theorem b_Lstart (T : Tx K mg) : Binds K T.fd_Lstart [] [] := T.F_Lstart.binds (ps := []) fun _ _ _ _ _ _ us hl => match us, hl with | [], _ => rfl
theorem b_Lagrees (T : Tx K mg) : Binds K T.fd_Lagrees ["_law_disk", "_law_book"] [] := T.F_Lagrees.binds (ps := ["_law_disk", "_law_book"]) fun _ _ _ _ _ _ us hl => match us, hl with | [_, _], _ => rfl
theorem b_Lput (T : Tx K mg) : Binds K T.fd_Lput ["_law_book", "_law_write"] [] := T.F_Lput.binds (ps := ["_law_book", "_law_write"]) fun _ _ _ _ _ _ us hl => match us, hl with | [_, _], _ => rfl
theorem b_Lplace (T : Tx K mg) : Binds K T.fd_Lplace ["_law_feed_here"] [] := T.F_Lplace.binds (ps := ["_law_feed_here"]) fun _ _ _ _ _ _ us hl => match us, hl with | [_], _ => rfl
theorem b_Lcells (T : Tx K mg) : Binds K T.fd_Lcells ["_law_feed_here"] [] := T.F_Lcells.binds (ps := ["_law_feed_here"]) fun _ _ _ _ _ _ us hl => match us, hl with | [_], _ => rfl
theorem b_Lrecord (T : Tx K mg) : Binds K T.fd_Lrecord ["_law_feed_here"] [] := T.F_Lrecord.binds (ps := ["_law_feed_here"]) fun _ _ _ _ _ _ us hl => match us, hl with | [_], _ => rfl
theorem b_Lbusy (T : Tx K mg) : Binds K T.fd_Lbusy ["_law_disk", "_law_place_here", "_law_what"] [] := T.F_Lbusy.binds (ps := ["_law_disk", "_law_place_here", "_law_what"]) fun _ _ _ _ _ _ us hl => match us, hl with | [_, _, _], _ => rfl
theorem b_Lbad_issue (T : Tx K mg) : Binds K T.fd_Lbad_issue ["_law_disk", "_law_place_here", "_law_what"] [] := T.F_Lbad_issue.binds (ps := ["_law_disk", "_law_place_here", "_law_what"]) fun _ _ _ _ _ _ us hl => match us, hl with | [_, _, _], _ => rfl
theorem b_Lbad_head (T : Tx K mg) : Binds K T.fd_Lbad_head ["_law_disk", "_law_p"] [] := T.F_Lbad_head.binds (ps := ["_law_disk", "_law_p"]) fun _ _ _ _ _ _ us hl => match us, hl with | [_, _], _ => rfl
theorem b_Lno_write (T : Tx K mg) : Binds K T.fd_Lno_write ["_law_disk", "_law_number"] [] := T.F_Lno_write.binds (ps := ["_law_disk", "_law_number"]) fun _ _ _ _ _ _ us hl => match us, hl with | [_, _], _ => rfl
theorem b_Lno_cut (T : Tx K mg) : Binds K T.fd_Lno_cut ["_law_disk", "_law_keep"] [] := T.F_Lno_cut.binds (ps := ["_law_disk", "_law_keep"]) fun _ _ _ _ _ _ us hl => match us, hl with | [_, _], _ => rfl
theorem b_Lissue (T : Tx K mg) : Binds K T.fd_Lissue ["_law_disk", "_law_book", "_law_feed_here"] [] := T.F_Lissue.binds (ps := ["_law_disk", "_law_book", "_law_feed_here"]) fun _ _ _ _ _ _ us hl => match us, hl with | [_, _, _], _ => rfl
theorem b_Lsure (T : Tx K mg) : Binds K T.fd_Lsure ["_law_disk", "_law_book", "_law_feed_here"] [] := T.F_Lsure.binds (ps := ["_law_disk", "_law_book", "_law_feed_here"]) fun _ _ _ _ _ _ us hl => match us, hl with | [_, _, _], _ => rfl
theorem b_Lbarrier (T : Tx K mg) : Binds K T.fd_Lbarrier ["_law_disk", "_law_book"] [] := T.F_Lbarrier.binds (ps := ["_law_disk", "_law_book"]) fun _ _ _ _ _ _ us hl => match us, hl with | [_, _], _ => rfl
theorem b_Lhead (T : Tx K mg) : Binds K T.fd_Lhead ["_law_disk", "_law_book", "_law_feed_here"] [] := T.F_Lhead.binds (ps := ["_law_disk", "_law_book", "_law_feed_here"]) fun _ _ _ _ _ _ us hl => match us, hl with | [_, _, _], _ => rfl
theorem b_Lbad (T : Tx K mg) : Binds K T.fd_Lbad ["_law_disk", "_law_book", "_law_feed_here"] [] := T.F_Lbad.binds (ps := ["_law_disk", "_law_book", "_law_feed_here"]) fun _ _ _ _ _ _ us hl => match us, hl with | [_, _, _], _ => rfl
theorem b_Lcut (T : Tx K mg) : Binds K T.fd_Lcut ["_law_disk", "_law_book", "_law_feed_here"] [] := T.F_Lcut.binds (ps := ["_law_disk", "_law_book", "_law_feed_here"]) fun _ _ _ _ _ _ us hl => match us, hl with | [_, _, _], _ => rfl
theorem b_law (T : Tx K mg) : Binds K T.fd_law ["_law_script"] [] := T.F_law.binds (ps := ["_law_script"]) fun _ _ _ _ _ _ us hl => match us, hl with | [_], _ => rfl
theorem b_Plan_text (T : Tx K mg) : Binds K T.fd_Plan_text ["self"] [] := T.F_Plan_text.binds (ps := ["self"]) fun _ _ _ _ _ _ us hl => match us, hl with | [_], _ => rfl
theorem b_Disk___init__ (T : Tx K mg) : Binds K T.fd_Disk___init__ ["self", "plan"] [] := T.F_Disk___init__.binds (ps := ["self", "plan"]) fun _ _ _ _ _ _ us hl => match us, hl with | [_, _], _ => rfl
theorem b_Disk_issue (T : Tx K mg) : Binds K T.fd_Disk_issue ["self", "place", "what"] [] := T.F_Disk_issue.binds (ps := ["self", "place", "what"]) fun _ _ _ _ _ _ us hl => match us, hl with | [_, _, _], _ => rfl
theorem b_Disk_busy (T : Tx K mg) : Binds K T.fd_Disk_busy ["self", "place"] [] := T.F_Disk_busy.binds (ps := ["self", "place"]) fun _ _ _ _ _ _ us hl => match us, hl with | [_, _], _ => rfl
theorem b_Disk_pending (T : Tx K mg) : Binds K T.fd_Disk_pending ["self"] [] := T.F_Disk_pending.binds (ps := ["self"]) fun _ _ _ _ _ _ us hl => match us, hl with | [_], _ => rfl
theorem b_Disk_sure (T : Tx K mg) : Binds K T.fd_Disk_sure ["self", "number"] [] := T.F_Disk_sure.binds (ps := ["self", "number"]) fun _ _ _ _ _ _ us hl => match us, hl with | [_, _], _ => rfl
theorem b_Disk_barrier (T : Tx K mg) : Binds K T.fd_Disk_barrier ["self"] [] := T.F_Disk_barrier.binds (ps := ["self"]) fun _ _ _ _ _ _ us hl => match us, hl with | [_], _ => rfl
theorem b_Disk_move_head (T : Tx K mg) : Binds K T.fd_Disk_move_head ["self", "p"] [] := T.F_Disk_move_head.binds (ps := ["self", "p"]) fun _ _ _ _ _ _ us hl => match us, hl with | [_, _], _ => rfl
theorem b_Disk_cut (T : Tx K mg) : Binds K T.fd_Disk_cut ["self", "keep"] [] := by
  obtain ⟨ds, hv, hb⟩ := T.F_Disk_cut.binds1 (ps := ["self", "keep"]) 2 1 (by simp) rfl (fun _ _ _ _ _ _ _ us its hu hi => match us, its, hu, hi with | [_, _], [_], _, _ => ⟨_, rfl, rfl⟩)
  cases hv
  exact hb
theorem b_Disk__settled (T : Tx K mg) : Binds K T.fd_Disk__settled ["self"] [] := T.F_Disk__settled.binds (ps := ["self"]) fun _ _ _ _ _ _ us hl => match us, hl with | [_], _ => rfl
theorem b_Disk__put (T : Tx K mg) : Binds K T.fd_Disk__put ["self", "place", "what"] [] := T.F_Disk__put.binds (ps := ["self", "place", "what"]) fun _ _ _ _ _ _ us hl => match us, hl with | [_, _, _], _ => rfl
theorem b_Disk_quiet (T : Tx K mg) : Binds K T.fd_Disk_quiet ["self"] [] := T.F_Disk_quiet.binds (ps := ["self"]) fun _ _ _ _ _ _ us hl => match us, hl with | [_], _ => rfl
end
end K01
namespace K01
open PySem PySem.Spec PyProof.Rows L2 Rg
section
variable {P : Program} {w : World} {K : PySem.W.Frag} {mg : Str → Option Value} {base : Heap}
/-! ### _law_pick -/
def sp_Lpick : Sp := fun vs H Q _ => ∃ (p : Addr) (fs : List Int) (lim : Int), vs = [.ref p, .int lim] ∧ H p = some (.lst (fs.map V.int)) ∧ 0 < lim ∧
  ∀ (r : Int) (fs' : List Int), 0 ≤ r → r < lim → fs'.length ≤ fs.length → Q (.int r) (upd H p (.lst (fs'.map V.int)))
theorem ok_Lpick (T : Tx K mg) : FnOk P w K mg base CX0 1 T.f_Lpick T.fd_Lpick ["_law_feed_here", "_law_limit"] sp_Lpick := by
  refine T.F_Lpick.ok sc_Lpick (fun vs H Q E h => ?_) (fun cdv A outer s H vs Q E hr h => ?_)
  · obtain ⟨p, fs, lim, rfl, _⟩ := h
    rfl
  · obtain ⟨p, fs, lim, rfl, hp, hl, k⟩ := h
    refine ⟨_, (pss_cons (ps_if (pt_cmpR op_eq (pe_callB call_len_seq rfl T.b_len (by decide +kernel) (pa_cons (pv 0) pa_nil)) pe_int (nomark _))
        (pss_one (ps_ret pe_int))
        pss_nil)
      (pss_one (ps_ret (pe_op op_mod (pe_callTy call_int1 rfl T.b_int (by decide +kernel) (pa_cons (pe_bm PySem.F.plainAttrs_list PySem.F.slot_list_pop PySem.F.type_list_pop mt_popAt (pv 0) (pa_cons pe_int pa_nil)) pa_nil)) (pv 1))))), ?_⟩
    refine ⟨_, rfl, p, fs.map V.int, rfl, .inl (.inl (.inl hp)), rfl, _, rfl, ite2 (fun e => ?_) (fun e => ?_)⟩
    · have := k 0 fs (Int.le_refl _) hl (Nat.le_refl _)
      rw [upd_id hp] at this
      exact this
    · cases fs with
      | nil => exact absurd (decide_eq_true rfl) e
      | cons x r =>
        refine ⟨.ref p, rfl, .inl ⟨rfl, _, .inl (.inl hp)⟩, p, _, 0, 0, .int x, rfl, rfl, hp, by decide, by decide, ?_, rfl, .inl ⟨x, rfl, ?_⟩⟩
        · rw [List.length_map]; simp [seqIndex?]
        · refine ⟨.int lim, rfl, _, _, rfl, rfl, hl, ?_⟩
          exact k _ r (Int.emod_nonneg _ (by omega)) (Int.emod_lt_of_pos _ hl) (by simp)

/-! ### _law_feed -/
def sp_Lfeed (K : PySem.W.Frag) : Sp := fun vs H Q _ => ∃ (a : Addr) (ns : List Int), vs = [.ref a] ∧ SqL K H a (ns.map V.int) ∧ ns.length ≤ 63 ∧
  ∀ (H' : Hp) (p : Addr) (fs : List Int), Same H H' → H p = none → H' p = some (.lst (fs.map V.int)) → fs.length ≤ 5000 → Q (.ref p) H'
theorem ok_Lfeed (T : Tx K mg) : FnOk P w K mg base CX0 1 T.f_Lfeed T.fd_Lfeed ["_law_script"] (sp_Lfeed K) := by
  refine T.F_Lfeed.ok sc_Lfeed (fun vs H Q E h => ?_) (fun cdv A outer s H vs Q E hr h => ?_)
  · obtain ⟨_, _, rfl, _⟩ := h; rfl
  · obtain ⟨a, ns, rfl, hS, hlen, k⟩ := h
    refine ⟨_, (pss_cons (ps_set (i := 1) sc_Lfeed.nd rfl (.inl rfl) (pe_lst pa_nil))
      (pss_cons (ps_for PassesOwn.never rfl (pi_list (pv 0)) (pg_name (i := 2) sc_Lfeed.nd rfl (.inl rfl))
        (pss_cons (ps_set (i := 3) sc_Lfeed.nd rfl (.inl rfl) (pe_callB call_abs rfl T.b_abs (by decide +kernel) (pa_cons (pv 2) pa_nil)))
        (Evl.pss_cut (ps_if (pt_cmpR op_lt (pv 3) (pe_op op_pow pe_int pe_int) (nomark _))
          (pss_cons (ps_set (i := 3) sc_Lfeed.nd rfl (.inl rfl) (pe_op op_mod (pe_callTy call_int1 rfl T.b_int (by decide +kernel) (pa_cons (pe_op op_add (pe_op op_mul (pv 3) pe_int) pe_int) pa_nil)) pe_int))
          (pss_cons (ps_expr (pe_bm PySem.F.plainAttrs_list PySem.F.slot_list_append PySem.F.type_list_append mt_append (pv 1) (pa_cons (pe_op op_mod (pe_callTy call_int1 rfl T.b_int (by decide +kernel) (pa_cons (pe_op op_add (pe_op op_mul (pv 3) pe_int) pe_int) pa_nil)) pe_int) pa_nil)))
          (pss_one (ps_set (i := 3) sc_Lfeed.nd rfl (.inl rfl) pe_int))))
          pss_nil)
        (pss_one (ps_for PassesOwn.never rfl (pi_range1 rfl T.b_range (pa_cons pe_int pa_nil)) (pg_name (i := 4) sc_Lfeed.nd rfl (.inl rfl))
          (pss_one (ps_if (pt_cmpR op_gt (pv 3) pe_int (nomark _))
            (pss_cons (ps_expr (pe_bm PySem.F.plainAttrs_list PySem.F.slot_list_append PySem.F.type_list_append mt_append (pv 1) (pa_cons (pe_op op_mod (pe_callTy call_int1 rfl T.b_int (by decide +kernel) (pa_cons (pv 3) pa_nil)) pe_int) pa_nil)))
            (pss_one (ps_set (i := 3) sc_Lfeed.nd rfl (.inl rfl) (pe_op op_fdiv (pv 3) pe_int))))
            pss_nil)))))))
      (pss_one (ps_ret (pv 1))))), ?_⟩
    refine ⟨Nat.zero_le _, fun p np => ?_⟩
    have s0 : Same H (upd H p (.lst [])) := same_upd np
    have npa : ∀ H2, SqL K H2 a (ns.map V.int) → True := fun _ _ => trivial
    refine ⟨_, rfl, a, rfl, ⟨_, s0.seq hS⟩, for_list (K := K) (a := a) (xs := ns.map V.int) (fun i σ H2 => ∃ (fs : List Int) (v2 v3 v4 : Option V), σ = [some (.ref a), some (.ref p), v2, v3, v4] ∧ H2 = upd H p (.lst (fs.map V.int)) ∧ fs.length ≤ 61 * i)
      ⟨[], none, none, none, rfl, rfl, Nat.zero_le _⟩ (fun i σ H2 _ ⟨_, _, _, _, _, e, _⟩ => by rw [e]; exact (same_upd np).seq hS) ?_ ?_⟩
    · rintro i y σ H2 hi ⟨fs, v2, v3, v4, rfl, rfl, hl⟩
      have hil : i < 63 := by
        have := (List.getElem?_eq_some_iff.mp hi).1
        rw [List.length_map] at this
        omega
      obtain ⟨z, rfl⟩ : ∃ z, y = V.int z := by
        rw [List.getElem?_map] at hi
        cases e : ns[i]? with
        | none => rw [e] at hi; cases hi
        | some z => rw [e] at hi; exact ⟨z, (Option.some.inj hi).symm⟩
      refine ⟨_, rfl, z, rfl, ?_⟩
      refine ⟨fun σ' H' => ∃ (fs : List Int) (R : Int) (v4 : Option V), σ' = [some (.ref a), some (.ref p), some (.int z), some (.int R), v4] ∧ H' = upd H p (.lst (fs.map V.int)) ∧ 0 ≤ R ∧ fs.length ≤ 61 * i + 1, ?_, ?_⟩
      · have hz : 0 ≤ (if z < 0 then -z else z) := by split <;> omega
        refine ⟨_, rfl, _, _, rfl, rfl, ⟨by decide, by decide, by decide⟩, _, _, rfl, rfl, _, rfl, ite2 (fun e => ?_) (fun e => ?_)⟩
        · have e1 : (if z < 0 then -z else z) < 10 ^ 18 := of_decide_eq_true e
          refine ⟨_, rfl, _, _, rfl, rfl, .inl ⟨by omega, by omega⟩, _, _, rfl, rfl, .inl ⟨_, rfl, _, _, rfl, rfl, (by show (0 : Int) < _; decide), ?_⟩⟩
          refine ⟨.ref p, rfl, .inl ⟨rfl, _, .inl (.inl upd_same)⟩, _, rfl, _, _, rfl, rfl, .inr ⟨by decide, by decide⟩, _, _, rfl, rfl, .inl ⟨_, rfl, _, _, rfl, rfl, (by show (0 : Int) < _; decide), p, _, _, rfl, rfl, upd_same, ?_, ?_⟩⟩
          · rw [List.length_map]; exact Nat.lt_of_lt_of_le (Nat.lt_succ_of_le hl) (by unfold sizeLine; omega)
          · exact ⟨fs ++ [_], 0, v4, rfl, upd_app, Int.le_refl _, by rw [List.length_append]; simp; omega⟩
        · exact ⟨fs, _, v4, rfl, rfl, hz, by omega⟩
      · rintro σ' H' ⟨fs, R, v4, rfl, rfl, hR, hl⟩
        refine ⟨60, rfl, by decide, by decide, for_range (lo := 0) (n := 60) (fun j σ' H' => ∃ (fs : List Int) (R : Int) (v4 : Option V), σ' = [some (.ref a), some (.ref p), some (.int z), some (.int R), v4] ∧ H' = upd H p (.lst (fs.map V.int)) ∧ 0 ≤ R ∧ fs.length ≤ 61 * i + 1 + j)
          ⟨fs, R, v4, rfl, rfl, hR, hl⟩ ?_ ?_⟩
        · rintro j σ' H' hj ⟨fs, R, v4, rfl, rfl, hR, hl⟩
          refine ⟨_, rfl, _, _, rfl, rfl, _, rfl, ite2 (fun e => ?_) (fun e => ?_)⟩
          · refine ⟨.ref p, rfl, .inl ⟨rfl, _, .inl (.inl upd_same)⟩, _, rfl, .inl ⟨_, rfl, _, _, rfl, rfl, (by show (0 : Int) < _; decide), p, _, _, rfl, rfl, upd_same, ?_, ?_⟩⟩
            · rw [List.length_map]; exact Nat.lt_of_lt_of_le (Nat.lt_succ_of_le hl) (by unfold sizeLine; omega)
            · refine ⟨_, rfl, _, _, rfl, rfl, ⟨by decide, by decide⟩, fs ++ [_], _, _, rfl, upd_app, Int.ediv_nonneg hR (by decide), by rw [List.length_append]; simp; omega⟩
          · exact ⟨fs, R, _, rfl, rfl, hR, by omega⟩
        · rintro σ' H' ⟨fs, R, v4, rfl, rfl, hR, hl⟩
          exact ⟨fs, _, _, _, rfl, rfl, by omega⟩
    · rintro σ H2 ⟨fs, v2, v3, v4, rfl, rfl, hl⟩
      rw [List.length_map] at hl
      exact ⟨_, rfl, k _ p fs (same_upd np) np upd_same (by omega)⟩
end
end K01
namespace K01
open PySem PySem.Spec PyProof.Rows L2 Rg
section
variable {P : Program} {w : World} {K : PySem.W.Frag} {mg : Str → Option Value} {base : Heap}
/-! ### plans -/
def planF (b n s : Int) : List (Str × V) := [("blocks", .int b), ("nodes", .int n), ("slots", .int s), ("maps", .int ((b + 8 - 1) / 8)), ("first_node", .int (2 + (b + 8 - 1) / 8)), ("first_data", .int (2 + (b + 8 - 1) / 8 + n))]
structure PlanAt (C : Addr) (H : Hp) (p : Addr) (b n s : Int) : Prop where
  ob : ∃ dx, H p = some (.ins C dx (planF b n s))
  b1 : 8 ≤ b
  b2 : b ≤ 64
  n1 : 2 ≤ n
  n2 : n ≤ 16
  s1 : b < s
  s2 : s ≤ 200
  d : 2 ≤ b - (2 + (b + 8 - 1) / 8 + n)
theorem PlanAt.same {C : Addr} {H H' : Hp} {p : Addr} {b n s : Int} (e : Same H H') (h : PlanAt C H p b n s) : PlanAt C H' p b n s :=
  let ⟨dx, z⟩ := h.ob
  ⟨⟨dx, e _ _ z⟩, h.b1, h.b2, h.n1, h.n2, h.s1, h.s2, h.d⟩
theorem PlanAt.of {C : Addr} {H H' : Hp} {p : Addr} {b n s : Int} (h : PlanAt C H p b n s) (e : ∀ o, H p = some o → H' p = some o) : PlanAt C H' p b n s :=
  let ⟨dx, z⟩ := h.ob
  ⟨⟨dx, e _ z⟩, h.b1, h.b2, h.n1, h.n2, h.s1, h.s2, h.d⟩
def sp_Plan_init (C : Addr) : Sp := fun vs H Q _ => ∃ (p dx : Addr) (b n s : Int), vs = [.ref p, .int b, .int n, .int s] ∧ H p = some (.ins C dx []) ∧ 8 ≤ b ∧ b ≤ 64 ∧ 2 ≤ n ∧ n ≤ 16 ∧ b < s ∧ s ≤ 200 ∧ 2 ≤ b - (2 + (b + 8 - 1) / 8 + n) ∧
  Q .non (upd H p (.ins C dx (planF b n s)))
theorem ok_Plan_init (T : Tx K mg) : FnOk P w K mg base CX0 1 T.f_Plan___init__ T.fd_Plan___init__ ["self", "blocks", "nodes", "slots"] (sp_Plan_init T.C_Plan) := by
  refine T.F_Plan___init__.ok sc_Plan___init__ (fun vs H Q E h => ?_) (fun cdv A outer s H vs Q E hr h => ?_)
  · obtain ⟨_, _, _, _, _, rfl, _⟩ := h; rfl
  · obtain ⟨p, dx, b, n, sl, rfl, hp, h1, h2, h3, h4, h5, h6, h7, k⟩ := h
    refine ⟨_, (pss_cons (ps_if (pt_not (pt_chain op_le op_le (pe_gc T.c_LEAST_BLOCKS) (pv 1) (pe_gc T.c_MOST_BLOCKS)))
        (pss_one ps_never)
        pss_nil)
      (pss_cons (ps_if (pt_not (pt_chain op_le op_le (pe_gc T.c_LEAST_NODES) (pv 2) (pe_gc T.c_MOST_NODES)))
        (pss_one ps_never)
        pss_nil)
      (pss_cons (ps_if (pt_not (pt_chain op_lt op_le (pv 1) (pv 3) (pe_gc T.c_MOST_SLOTS)))
        (pss_one ps_never)
        pss_nil)
      (pss_cons (ps_fld (pv 0) (pv 1) rfl)
      (pss_cons (ps_fld (pv 0) (pv 2) rfl)
      (pss_cons (ps_fld (pv 0) (pv 3) rfl)
      (pss_cons (ps_fld (pv 0) (pe_op op_fdiv (pe_op op_sub (pe_op op_add (pv 1) (pe_con (pv 0) rfl)) pe_int) (pe_con (pv 0) rfl)) rfl)
      (pss_cons (ps_fld (pv 0) (pe_op op_add (pe_gc T.c_FIRST_MAP) (pe_fld (pv 0) rfl)) rfl)
      (pss_cons (ps_fld (pv 0) (pe_op op_add (pe_fld (pv 0) rfl) (pv 2)) rfl)
      (pss_one (ps_if (pt_cmpR op_lt (pe_op op_sub (pv 1) (pe_fld (pv 0) rfl)) (pe_gc T.c_LEAST_DATA) (nomark _))
        (pss_one ps_never)
        pss_nil))))))))))), ?_⟩
    obtain ⟨uW, cW⟩ := T.con_Plan_WIDTH
    refine ⟨_, rfl, _, _, rfl, rfl, _, rfl, ?_⟩
    rw [decide_eq_true h1]
    refine iteT ⟨_, _, rfl, rfl, _, rfl, ?_⟩
    rw [decide_eq_true h2]
    refine iteF ⟨_, rfl, _, _, rfl, rfl, _, rfl, ?_⟩
    rw [decide_eq_true h3]
    refine iteT ⟨_, _, rfl, rfl, _, rfl, ?_⟩
    rw [decide_eq_true h4]
    refine iteF ⟨_, rfl, _, rfl, _, _, rfl, rfl, _, rfl, ?_⟩
    rw [decide_eq_true h5]
    refine iteT ⟨_, _, rfl, rfl, _, rfl, ?_⟩
    rw [decide_eq_true h6]
    refine iteF ⟨_, rfl, _, rfl, p, _, dx, _, rfl, hp, T.cl_Plan, T.na_Plan_blocks, (by show 0 < 1000; decide), ?_⟩
    refine ⟨_, rfl, _, rfl, p, _, dx, _, rfl, upd_same, T.cl_Plan, T.na_Plan_nodes, (by show 1 < 1000; decide), ?_⟩
    refine ⟨_, rfl, _, rfl, p, _, dx, _, rfl, upd_same, T.cl_Plan, T.na_Plan_slots, (by show 2 < 1000; decide), ?_⟩
    refine ⟨_, rfl, _, rfl, p, _, dx, _, _, _, rfl, upd_same, T.cl_Plan, cW, rfl, _, _, rfl, rfl, _, _, rfl, rfl, _, rfl, p, _, dx, _, _, _, rfl, upd_same, T.cl_Plan, cW, rfl, _, _, rfl, rfl, ⟨by decide, by decide⟩, ?_⟩
    refine ⟨_, rfl, p, _, dx, _, rfl, upd_same, T.cl_Plan, T.na_Plan_maps, (by show 3 < 1000; decide), ?_⟩
    refine ⟨_, rfl, p, _, dx, _, _, rfl, upd_same, T.cl_Plan, T.na_Plan_maps, rfl, _, _, rfl, rfl, _, rfl, p, _, dx, _, rfl, upd_same, T.cl_Plan, T.na_Plan_first_node, (by show 4 < 1000; decide), ?_⟩
    refine ⟨_, rfl, p, _, dx, _, _, rfl, upd_same, T.cl_Plan, T.na_Plan_first_node, rfl, _, rfl, _, _, rfl, rfl, _, rfl, p, _, dx, _, rfl, upd_same, T.cl_Plan, T.na_Plan_first_data, (by show 5 < 1000; decide), ?_⟩
    refine ⟨_, rfl, _, rfl, p, _, dx, _, _, rfl, upd_same, T.cl_Plan, T.na_Plan_first_data, rfl, _, _, rfl, rfl, _, _, rfl, rfl, _, rfl, ?_⟩
    rw [decide_eq_false (by omega)]
    refine iteF ?_
    rw [upd_upd, upd_upd, upd_upd, upd_upd, upd_upd]
    exact k
/-- the call Plan(b, nodes=n, slots=s) -/
theorem kb_Plan (T : Tx K mg) : KBn K T.fd_Plan___init__ ["self", "blocks", "nodes", "slots"] 2 ["nodes", "slots"] (fun us ws => us ++ ws) (fun us ws => us ++ ws) := by
  obtain ⟨oc, od, kV, doc, pm, an, cdv, ct, osl, e, lk, hcd⟩ := T.F_Plan___init__.ex
  refine ⟨fun s us ws _ l1 l2 => ?_, fun r1 r2 => r1.append r2⟩
  rw [e]
  match us, ws, l1, l2 with
  | [_, _], [_, _], _, _ => exact .of_eq rfl
end
end K01
namespace K01
open PySem PySem.Spec PyProof.Rows L2 Rg
/-! ### records -/
inductive Rec where
  | copy (lot x : Int) (c : List Int)
  | mark (lot : Int) (ps : List (Int × Int)) (rs : List Int)
def Rec.lot : Rec → Int
  | .copy l _ _ => l
  | .mark l _ _ => l
/-- eight cells -/
structure Cells (c : List Int) : Prop where
  len : c.length = 8
  ok : ∀ i ∈ c, 0 ≤ i ∧ i ≤ 999999999
def Asc (l : List Int) : Prop := ∀ i x y, l[i]? = some x → l[i + 1]? = some y → x < y
/-- a record that fits a plan of b blocks and s slots -/
def Fit (b s : Int) : Rec → Prop
  | .copy l x c => 1 ≤ l ∧ l ≤ 999999 ∧ 0 ≤ x ∧ x ≤ 63 ∧ x < b ∧ Cells c
  | .mark l ps rs => 1 ≤ l ∧ l ≤ 999999 ∧ ps.length ≤ 64 ∧ rs.length ≤ 64 ∧ (∀ p ∈ ps, 0 ≤ p.1 ∧ p.1 ≤ 63 ∧ p.1 < b ∧ -1 ≤ p.2 ∧ p.2 ≤ 199 ∧ p.2 < s) ∧ Asc (ps.map (·.1)) ∧ (∀ r ∈ rs, 0 ≤ r ∧ r ≤ 63 ∧ r < b) ∧ Asc rs
/-- pairs stand at pp -/
def PairsAt (K : PySem.W.Frag) (H : Hp) (pp : Addr) (ps : List (Int × Int)) : Prop :=
  ∃ qs : List Addr, SqT K H pp (qs.map V.ref) ∧ qs.length = ps.length ∧ ∀ (i : Nat) (q : Addr) (p : Int × Int), qs[i]? = some q → ps[i]? = some p → SqT K H q [.int p.1, .int p.2]
def RecAt (K : PySem.W.Frag) (H : Hp) (a : Addr) : Rec → Prop
  | .copy l x c => ∃ pc, SqT K H a [.str "copy", .int l, .int x, .ref pc] ∧ SqT K H pc (c.map V.int)
  | .mark l ps rs => ∃ pp pr, SqT K H a [.str "mark", .int l, .ref pp, .ref pr] ∧ PairsAt K H pp ps ∧ SqT K H pr (rs.map V.int)
section
variable {K : PySem.W.Frag} {Ps : List Addr} {H H1 : Hp} {a : Addr} {r : Rec}
theorem PairsAt.by {pp : Addr} {ps : List (Int × Int)} (h : PairsAt K H pp ps) (f : ∀ b xs, SqT K H b xs → SqT K H1 b xs) : PairsAt K H1 pp ps := by
  obtain ⟨qs, h1, h2, h3⟩ := h
  exact ⟨qs, f _ _ h1, h2, fun i q p e1 e2 => f _ _ (h3 i q p e1 e2)⟩
theorem RecAt.by (h : RecAt K H a r) (f : ∀ b xs, SqT K H b xs → SqT K H1 b xs) : RecAt K H1 a r := by
  cases r with
  | copy l x c => obtain ⟨pc, h1, h2⟩ := h; exact ⟨pc, f _ _ h1, f _ _ h2⟩
  | mark l ps rs => obtain ⟨pp, pr, h1, h2, h3⟩ := h; exact ⟨pp, pr, f _ _ h1, h2.by f, f _ _ h3⟩
theorem RecAt.same (h : RecAt K H a r) (e : Same H H1) : RecAt K H1 a r := h.by fun _ _ => sameT e
theorem RecAt.tk (h : RecAt K H a r) (t : Tab Ps H) (k : Tk Ps H H1) : RecAt K H1 a r := h.by fun _ _ => k.seqT t
theorem PairsAt.tk {pp : Addr} {ps : List (Int × Int)} (h : PairsAt K H pp ps) (t : Tab Ps H) (k : Tk Ps H H1) : PairsAt K H1 pp ps := h.by fun _ _ => k.seqT t
end
section
variable {P : Program} {w : World} {K : PySem.W.Frag} {mg : Str → Option Value} {base : Heap}
def sp_is_number : Sp := fun vs H Q _ => ∃ i lo hi : Int, vs = [.int i, .int lo, .int hi] ∧ Q (.bl (decide (lo ≤ i ∧ i ≤ hi))) H
theorem ok_is_number (T : Tx K mg) : FnOk P w K mg base CX0 1 T.f_is_number T.fd_is_number ["value", "least", "most"] sp_is_number := by
  refine T.F_is_number.ok sc_is_number (fun vs H Q E h => ?_) (fun cdv A outer s H vs Q E hr h => ?_)
  · obtain ⟨_, _, _, rfl, _⟩ := h; rfl
  · obtain ⟨i, lo, hi, rfl, k⟩ := h
    refine ⟨_, (pss_one (ps_ret (pe_and (pe_callB call_isi rfl T.b_isinstance (by decide +kernel) (pa_cons (pv 0) (pa_cons (pe_bltn (v := .ty "int") rfl T.b_int (by decide +kernel) rfl) pa_nil))) (pe_and (pe_not (pe_callB call_isi rfl T.b_isinstance (by decide +kernel) (pa_cons (pv 0) (pa_cons (pe_bltn (v := .ty "bool") rfl T.b_bool (by decide +kernel) rfl) pa_nil)))) (pe_one (pe_chain op_le op_le (pv 1) (pv 0) (pv 2))))))), ?_⟩
    refine ⟨_, rfl, _, _, _, _, true, rfl, .ty _, .base (.int _), kit_ty (by decide +kernel), _, rfl, iteT ⟨_, rfl, _, _, _, _, false, rfl, .ty _, .base (.int _), kit_ty (by decide +kernel), _, rfl, _, rfl, iteT ⟨_, rfl, _, rfl, _, _, rfl, rfl, _, rfl, ite2 (fun h1 => ?_) fun h1 => ?_⟩⟩⟩
    · have h1 := of_decide_eq_true h1
      refine ⟨_, rfl, _, _, rfl, rfl, ?_⟩
      rw [show decide (lo ≤ i ∧ i ≤ hi) = decide (i ≤ hi) by simp [h1]] at k
      exact k
    · have h1 : ¬ lo ≤ i := fun z => h1 (decide_eq_true z)
      rw [show decide (lo ≤ i ∧ i ≤ hi) = false by simp [h1]] at k
      exact k
def sp_is_in (lo hi : Int) : Sp := fun vs H Q _ => ∃ i : Int, vs = [.int i] ∧ Q (.bl (decide (lo ≤ i ∧ i ≤ hi))) H
theorem ok_is_cell (T : Tx K mg) : FnOk P w K mg base CX0 2 T.f_is_cell T.fd_is_cell ["value"] (sp_is_in 0 999999999) := by
  refine T.F_is_cell.ok sc_is_cell (fun vs H Q E h => ?_) (fun cdv A outer s H vs Q E hr h => ?_)
  · obtain ⟨_, rfl, _⟩ := h; rfl
  · obtain ⟨i, rfl, k⟩ := h
    refine ⟨_, (pss_one (ps_ret (pe_call (ok_is_number T) hr rfl T.mg_is_number T.F_is_number.kp (b_is_number T) .nil pass0 (pa_cons (pv 0) (pa_cons pe_int (pa_cons (pe_gc T.c_CELL_MOST) pa_nil)))))), ?_⟩
    exact ⟨_, rfl, i, 0, 999999999, rfl, k⟩
theorem ok_is_block (T : Tx K mg) : FnOk P w K mg base CX0 2 T.f_is_block T.fd_is_block ["value"] (sp_is_in 0 63) := by
  refine T.F_is_block.ok sc_is_block (fun vs H Q E h => ?_) (fun cdv A outer s H vs Q E hr h => ?_)
  · obtain ⟨_, rfl, _⟩ := h; rfl
  · obtain ⟨i, rfl, k⟩ := h
    refine ⟨_, (pss_one (ps_ret (pe_call (ok_is_number T) hr rfl T.mg_is_number T.F_is_number.kp (b_is_number T) .nil pass0 (pa_cons (pv 0) (pa_cons pe_int (pa_cons (pe_gc T.c_BLOCK_MOST) pa_nil)))))), ?_⟩
    exact ⟨_, rfl, i, 0, 63, rfl, k⟩
def sp_is_cell_row (K : PySem.W.Frag) (Ps : List Addr) : Sp := fun vs H Q _ => ∃ (a : Addr) (c : List Int), vs = [.ref a] ∧ SqT K H a (c.map V.int) ∧ Cells c ∧ Tab Ps H ∧ ∀ H', Tk Ps H H' → Q (.bl true) H'
theorem ok_is_cell_row (T : Tx K mg) (B : TBs T base) : FnOk P w K mg base CX0 6 T.f_is_cell_row T.fd_is_cell_row ["value"] (sp_is_cell_row K T.Ps) := by
  refine fun_okC T.F_is_cell_row T.code_is_cell_row sc_is_cell_row (fun vs H Q E h => ?_) (fun A outer s H vs Q E hr h => ?_)
  · obtain ⟨_, _, rfl, _⟩ := h; rfl
  · obtain ⟨a, c, rfl, hS, hc, ht, k⟩ := h
    refine ⟨_, (pss_one (ps_ret (pe_and (pe_callB call_isiT rfl T.b_isinstance (by decide +kernel) (pa_cons (pv 0) (pa_cons (pe_tup (pa_cons (pe_bltn (v := .ty "list") rfl T.b_list (by decide +kernel) rfl) (pa_cons (pe_bltn (v := .ty "tuple") rfl T.b_tuple (by decide +kernel) rfl) pa_nil))) pa_nil))) (pe_and (pe_cmpR op_eq (pe_callB call_len_seq rfl T.b_len (by decide +kernel) (pa_cons (pv 0) pa_nil)) (pe_cv T.mg_Plan T.cr_Plan T.cv_Plan_WIDTH) (nomark _)) (pe_one (GxL.pe_allG (k := 2) (own := [("cell", 1)]) (g := gName 1) (tt := tYes) hr rfl T.b_all B.t_is_cell_row rfl (GxL.gsc_by (by decide +kernel)) (blkOk_by (N := ["value", "cell"]) (sc := defScope s_is_cell_row) (by decide +kernel)) sc_is_cell_row.nd (pi_tup (pv 0)) (fun _ _ _ _ _ => pg_name (i := 1) sc_is_cell_row.nd rfl (Or.inl rfl)) (fun _ _ _ _ _ _ => pts_nil) (fun _ _ _ _ _ hr2 => pe_call (ok_is_cell T) hr2 rfl T.mg_is_cell T.F_is_cell.kp (b_is_cell T) .nil pass0 (pa_cons (pv 1) pa_nil)))))))), ?_⟩
    refine ⟨_, rfl, (by show 2 ≤ sizeLine; decide), fun t nt => ?_⟩
    have st := same_upd (o := .tup [.ty "list", .ty "tuple"]) nt
    have e0 := upd_same (H := H) (a := t) (o := .tup [.ty "list", .ty "tuple"])
    have t0 := Tk.of ht st
    generalize upd H t (.tup [.ty "list", .ty "tuple"]) = H1 at st e0 t0 ⊢
    have hS1 := sameT st hS
    refine ⟨_, t, _, _, _, true, rfl, e0, .cons (.ty _) (.cons (.ty _) .nil), tyT hS1, kitAny_cons (b := false) (kit_ty (by decide +kernel)) (fun _ => kitAny_cons (b := true) (kit_ty (by decide +kernel)) (fun z => by cases z) (fun _ => rfl)) (fun z => by cases z), _, rfl, iteT ?_⟩
    refine ⟨_, rfl, a, _, rfl, .inr hS1, rfl, _, rfl, ?_⟩
    rw [List.length_map, hc.len, dec_iv, decide_eq_true (by decide)]
    refine iteT ⟨_, rfl, a, rfl, ⟨_, hS1⟩, t0.tab _ T.in_is_cell_row, fun H2 hT => gx_tup (K := K) (a := a) (xs := c.map V.int) (fun i H3 => Tk T.Ps H1 H3) (Tk.tabbed t0.tab T.in_is_cell_row hT) (fun i H3 _ kk => kk.seqT t0.tab hS1) (fun i y H3 hi kk => ?_) fun H3 kk => k H3 (t0.trans kk)⟩
    rw [List.getElem?_map] at hi
    obtain ⟨x, hx, rfl⟩ := Option.map_eq_some_iff.mp hi
    have hb := hc.ok x (List.mem_of_getElem? hx)
    refine ⟨rfl, yes_ ⟨_, rfl, x, rfl, _, rfl, ?_⟩⟩
    rw [decide_eq_true (show 0 ≤ x ∧ x ≤ 999999999 from hb), if_pos rfl]
    exact kk
end
end K01
namespace K01
open PySem PySem.Spec PyProof.Rows L2 Rg
theorem cut1 (xs : List V) : cutV xs (some (1 : Int)) none = xs.drop 1 := by
  unfold cutV
  rw [HT.sIx_none]
  have e : HT.sIx xs.length 0 (some (1 : Int)) = min 1 xs.length := HT.sIx_nat _ _ 1
  rw [e]
  rcases xs with _ | ⟨x, r⟩
  · rfl
  · show ((x :: r).drop (min 1 (r.length + 1))).take (r.length + 1 - min 1 (r.length + 1)) = r
    rw [Nat.min_eq_left (by omega)]
    show r.take (r.length + 1 - 1) = r
    rw [Nat.add_sub_cancel, List.take_length]
section
variable {P : Program} {w : World} {K : PySem.W.Frag} {mg : Str → Option Value} {base : Heap}
def sp_is_ascending (K : PySem.W.Frag) (Ps : List Addr) : Sp := fun vs H Q _ => ∃ (a : Addr) (l : List Int), vs = [.ref a] ∧ (SqL K H a (l.map V.int) ∨ SqT K H a (l.map V.int)) ∧ Asc l ∧ Tab Ps H ∧ ∀ H', Tk Ps H H' → Q (.bl true) H'
theorem ok_is_ascending (T : Tx K mg) (B : TBs T base) : FnOk P w K mg base CX0 4 T.f_is_ascending T.fd_is_ascending ["numbers"] (sp_is_ascending K T.Ps) := by
  refine fun_okC T.F_is_ascending T.code_is_ascending sc_is_ascending (fun vs H Q E h => ?_) (fun A outer s H vs Q E hr h => ?_)
  · obtain ⟨_, _, rfl, _⟩ := h; rfl
  · obtain ⟨a, l, rfl, hS, hc, ht, k⟩ := h
    refine ⟨_, (pss_one (ps_ret (GxL.pe_allG (k := 0) (own := [("low", 1), ("high", 2)]) (g := _) (tt := tYes) hr rfl T.b_all B.t_is_ascending rfl (GxL.gsc_by (by decide +kernel)) (blkOk_by (N := ["numbers", "low", "high"]) (sc := defScope s_is_ascending) (by decide +kernel)) sc_is_ascending.nd (RZ.pi_zipA rfl T.b_zip (pa_cons (pv 0) (pa_cons (pe_slice (SlR.or sl_list (SlR.or sl_tup sl_tupA)) (pv 0) (po_some pe_int) po_none) pa_nil)))
      (fun _ _ _ _ _ => pg_tupK (K := K) (n := 2) rfl (pgs_cons (pg_name (i := 1) sc_is_ascending.nd rfl (.inl rfl)) (pgs_cons (pg_name (i := 2) sc_is_ascending.nd rfl (.inl rfl)) pgs_nil))) (fun _ _ _ _ _ _ => pts_nil) (fun _ _ _ _ _ _ => pe_cmpR op_lt (pv 1) (pv 2) (nomark _))))), ?_⟩
    -- a turn
    have turn : ∀ (H1 H3 : Hp) (i : Nat) (x y : V) (q : Addr), Tk T.Ps H1 H3 → (l.map V.int)[i]? = some x → ((l.map V.int).drop 1)[i]? = some y → H3 q = none →
        ∃ u v : Int, x = .int u ∧ y = .int v ∧ u < v ∧ Tk T.Ps H1 (upd H3 q (.tup [x, y])) := fun H1 H3 i x y q kk hx hy hq => by
      rw [List.getElem?_map] at hx
      rw [List.getElem?_drop, List.getElem?_map, Nat.add_comm] at hy
      obtain ⟨u, hu, rfl⟩ := Option.map_eq_some_iff.mp hx
      obtain ⟨v, hv, rfl⟩ := Option.map_eq_some_iff.mp hy
      exact ⟨u, v, rfl, rfl, hc i u v hu hv, kk.new hq⟩
    rcases hS with hS | hS
    · refine ⟨_, rfl, _, rfl, _, rfl, .inl ⟨a, _, rfl, hS, fun p np => ?_⟩⟩
      rw [cut1]
      have st := same_upd (o := .lst ((l.map V.int).drop 1)) np
      have e0 := upd_same (H := H) (a := p) (o := .lst ((l.map V.int).drop 1))
      have t0 := Tk.of ht st
      generalize upd H p (.lst ((l.map V.int).drop 1)) = H1 at st e0 t0 ⊢
      have hS1 := st.seq hS
      refine ⟨a, p, _, _, rfl, .inl ⟨hS1, .of e0, t0.tab _ T.in_is_ascending, fun H2 hT => gx_zipL (K := K) (a := a) (b := p) (xs := l.map V.int) (ys := (l.map V.int).drop 1) (by rw [List.length_drop]; omega) (fun i H3 => Tk T.Ps H1 H3) (Tk.tabbed t0.tab T.in_is_ascending hT)
        (fun i H3 kk => ⟨kk.seqL t0.tab hS1, kk.seqL t0.tab (.of e0)⟩) (fun i x y q H3 hx hy kk hq => ?_) fun H3 kk => k H3 (t0.trans kk)⟩⟩
      obtain ⟨u, v, rfl, rfl, hlt, k2⟩ := turn H1 H3 i x y q kk hx hy hq
      refine ⟨q, _, rfl, .of upd_same, rfl, _, _, rfl, _, _, rfl, rfl, rfl, yes_ ⟨_, rfl, _, rfl, _, _, rfl, rfl, _, rfl, ?_⟩⟩
      rw [decide_eq_true hlt, if_pos rfl]
      exact k2
    · have walk : ∀ (p : Addr) (H1 : Hp), Tk T.Ps H H1 → SqT K H1 a (l.map V.int) → SqT K H1 p ((l.map V.int).drop 1) → ∀ σ : L2.St, σ = [some (.ref a), none, none] →
          GxR.TabG H1 T.P_is_ascending ∧ ∀ H2, GxR.Tabbed T.P_is_ascending H1 H2 → ∃ W : Nat → Nat → Hp → Prop, (∃ m, W 0 m H2) ∧ GxL.GTurn true (RZ.ItzT K a p) (gTup K 2 (gCons (gName 1) (gCons (gName 2) gNil))) tYes (tOp (rI0 fun i j => .bl (decide (i < j))) (tVar 1) (tVar 2)) [1, 2] σ Q W := by
        intro p H1 t0 hS1 e0 σ hσ
        subst hσ
        refine ⟨t0.tab _ T.in_is_ascending, fun H2 hT => gx_zipT (K := K) (a := a) (b := p) (xs := l.map V.int) (ys := (l.map V.int).drop 1) (by rw [List.length_drop]; omega) (fun i H3 => Tk T.Ps H1 H3) (Tk.tabbed t0.tab T.in_is_ascending hT)
          (fun i H3 kk => ⟨kk.seqT t0.tab hS1, kk.seqT t0.tab e0⟩) (fun i x y q H3 hx hy kk hq => ?_) fun H3 kk => k H3 (t0.trans kk)⟩
        obtain ⟨u, v, rfl, rfl, hlt, k2⟩ := turn H1 H3 i x y q kk hx hy hq
        refine ⟨q, _, rfl, .of upd_same, rfl, _, _, rfl, _, _, rfl, rfl, rfl, yes_ ⟨_, rfl, _, rfl, _, _, rfl, rfl, _, rfl, ?_⟩⟩
        rw [decide_eq_true hlt, if_pos rfl]
        exact k2
      by_cases hl : l = []
      · subst hl
        refine ⟨_, rfl, _, rfl, _, rfl, .inr (.inr ⟨a, _, rfl, hS, rfl, rfl, ?_⟩)⟩
        exact ⟨a, a, _, _, rfl, .inr ⟨hS, hS, walk a H (.refl ht) hS hS _ rfl⟩⟩
      · refine ⟨_, rfl, _, rfl, _, rfl, .inr (.inl ⟨a, _, rfl, hS, fun z => ?_, fun p np => ?_⟩)⟩
        · have e : HT.sIx (l.map V.int).length 0 (some (1 : Int)) = min 1 (l.map V.int).length := HT.sIx_nat _ _ 1
          have z1 := z.1
          rw [e, List.length_map] at z1
          have : l.length ≠ 0 := fun q => hl (List.length_eq_zero_iff.mp q)
          omega
        · rw [cut1]
          have st := same_upd (o := .tup ((l.map V.int).drop 1)) np
          have e0 := upd_same (H := H) (a := p) (o := .tup ((l.map V.int).drop 1))
          have t0 := Tk.of ht st
          generalize upd H p (.tup ((l.map V.int).drop 1)) = H1 at st e0 t0 ⊢
          exact ⟨a, p, _, _, rfl, .inr ⟨sameT st hS, .of e0, walk p H1 t0 (sameT st hS) (.of e0) _ rfl⟩⟩
end
end K01
namespace K01
open PySem PySem.Spec PyProof.Rows L2 Rg
structure PrOk (p : Int × Int) : Prop where
  b : 0 ≤ p.1 ∧ p.1 ≤ 63
  s : -1 ≤ p.2 ∧ p.2 ≤ 199
section
variable {P : Program} {w : World} {K : PySem.W.Frag} {mg : Str → Option Value} {base : Heap}
def sp_is_pair (K : PySem.W.Frag) : Sp := fun vs H Q _ => ∃ (a : Addr) (p : Int × Int), vs = [.ref a] ∧ SqT K H a [.int p.1, .int p.2] ∧ PrOk p ∧ Q (.bl true) H
theorem ok_is_pair (T : Tx K mg) : FnOk P w K mg base CX0 3 T.f_is_pair T.fd_is_pair ["value"] (sp_is_pair K) := by
  refine T.F_is_pair.ok sc_is_pair (fun vs H Q E h => ?_) (fun cdv A outer s H vs Q E hr h => ?_)
  · obtain ⟨_, _, rfl, _⟩ := h; rfl
  · obtain ⟨a, p, rfl, hS, hp, k⟩ := h
    have hr1 := hr.mono (show 1 ≤ 2 by decide)
    refine ⟨_, (pss_cons (ps_if (PW.pt (pw_or (pt_not (pt_val (pe_callB call_isi rfl T.b_isinstance (by decide +kernel) (pa_cons (pv 0) (pa_cons (pe_bltn (v := .ty "tuple") rfl T.b_tuple (by decide +kernel) rfl) pa_nil))))) (pw_or1 (pt_cmpR op_ne (pe_callB call_len_seq rfl T.b_len (by decide +kernel) (pa_cons (pv 0) pa_nil)) pe_int (nomark _)))))
        (pss_one (ps_ret pe_bl))
        pss_nil)
      (pss_one (ps_ret (pe_and (pe_call (ok_is_block T) hr rfl T.mg_is_block T.F_is_block.kp (b_is_block T) .nil pass0 (pa_cons (pe_ix ix_tup (pv 0) pe_int (fun _ _ => rfl)) pa_nil)) (pe_one (pe_call (ok_is_number T) hr1 rfl T.mg_is_number T.F_is_number.kp (b_is_number T) .nil pass0 (pa_cons (pe_ix ix_tup (pv 0) pe_int (fun _ _ => rfl)) (pa_cons (pe_gc T.c_NO_SLOT) (pa_cons (pe_gc T.c_MOST_SLOT) pa_nil))))))))), ?_⟩
    refine ⟨_, rfl, _, _, _, _, true, rfl, .ty _, tyT hS, kit_ty (by decide +kernel), _, rfl, iteF ⟨_, rfl, a, _, rfl, .inr hS, rfl, _, rfl, iteF ?_⟩⟩
    refine ⟨_, rfl, a, _, 0, .int p.1, rfl, rfl, hS, rfl, p.1, rfl, _, rfl, ?_⟩
    rw [decide_eq_true hp.b]
    refine iteT ⟨_, rfl, a, _, 1, .int p.2, rfl, rfl, hS, rfl, p.2, -1, 199, rfl, ?_⟩
    rw [decide_eq_true hp.s]
    exact k
def sp_are_pairs (K : PySem.W.Frag) (Ps : List Addr) : Sp := fun vs H Q _ => ∃ (a : Addr) (ps : List (Int × Int)), vs = [.ref a] ∧ PairsAt K H a ps ∧ ps.length ≤ 64 ∧ (∀ p ∈ ps, PrOk p) ∧ Asc (ps.map (·.1)) ∧ Tab Ps H ∧ ∀ H', Tk Ps H H' → Q (.bl true) H'
theorem ok_are_pairs (T : Tx K mg) (B : TBs T base) : FnOk P w K mg base CX0 7 T.f_are_pairs T.fd_are_pairs ["value"] (sp_are_pairs K T.Ps) := by
  refine fun_okC T.F_are_pairs T.code_are_pairs sc_are_pairs (fun vs H Q E h => ?_) (fun A outer s H vs Q E hr h => ?_)
  · obtain ⟨_, _, rfl, _⟩ := h; rfl
  · obtain ⟨a, ps, rfl, hS, hz, hp, hc, ht, k⟩ := h
    have hr4 := hr.mono (show 4 ≤ 6 by decide)
    refine ⟨_, (pss_cons (ps_if (PW.pt (pw_or (pt_not (pt_val (pe_callB call_isi rfl T.b_isinstance (by decide +kernel) (pa_cons (pv 0) (pa_cons (pe_bltn (v := .ty "tuple") rfl T.b_tuple (by decide +kernel) rfl) pa_nil))))) (pw_or1 (pt_not (pt_val (GxL.pe_allG (k := 3) (own := [("pair", 1)]) (g := gName 1) (tt := tYes) hr rfl T.b_all B.t_are_pairs rfl (GxL.gsc_by (by decide +kernel)) (blkOk_by (N := ["value", "pair"]) (sc := defScope s_are_pairs) (by decide +kernel)) sc_are_pairs.nd (pi_tup (pv 0)) (fun _ _ _ _ _ => pg_name (i := 1) sc_are_pairs.nd rfl (Or.inl rfl)) (fun _ _ _ _ _ _ => pts_nil) (fun _ _ _ _ _ hr2 => pe_call (ok_is_pair T) hr2 rfl T.mg_is_pair T.F_is_pair.kp (b_is_pair T) .nil pass0 (pa_cons (pv 1) pa_nil))))))))
        (pss_one (ps_ret pe_bl))
        pss_nil)
      (pss_one (ps_ret (pe_call (ok_is_ascending T B) hr4 rfl T.mg_is_ascending T.F_is_ascending.kp (b_is_ascending T) .nil pass0 (pa_cons (pe_lc rfl (own := [("pair", 1)]) (g := gName 1) (tt := tYes) sc_are_pairs.nd (pi_tup (pv 0)) (blkOk_by (N := ["value", "pair"]) (sc := defScope s_are_pairs) (by decide +kernel)) (fun _ _ _ _ _ => pg_name (i := 1) sc_are_pairs.nd rfl (Or.inl rfl)) (fun _ _ _ _ _ => pts_nil) (fun _ _ _ _ _ => (pe_ixTK (K := K) (pv 1) pe_int (fun _ _ => rfl)))) pa_nil))))), ?_⟩
    obtain ⟨qs, h1, h2, h3⟩ := hS
    have at_ : ∀ (i : Nat) (y : V), (qs.map V.ref)[i]? = some y → ∃ q p, y = .ref q ∧ qs[i]? = some q ∧ ps[i]? = some p := fun i y hi => by
      rw [List.getElem?_map] at hi
      obtain ⟨q, hq, rfl⟩ := Option.map_eq_some_iff.mp hi
      have hlt := (List.getElem?_eq_some_iff.mp hq).1
      exact ⟨q, ps[i], rfl, hq, List.getElem?_eq_getElem (by omega)⟩
    refine ⟨_, rfl, _, _, _, _, true, rfl, .ty _, tyT h1, kit_ty (by decide +kernel), _, rfl, iteF ?_⟩
    refine ⟨_, rfl, a, rfl, ⟨_, h1⟩, ht _ T.in_are_pairs, fun H2 hT => gx_tup (K := K) (a := a) (xs := qs.map V.ref) (fun i H3 => Tk T.Ps H H3) (Tk.tabbed ht T.in_are_pairs hT) (fun i H3 _ kk => kk.seqT ht h1) (fun i y H3 hi kk => ?_) fun H3 kk => ?_⟩
    · obtain ⟨q, p, rfl, e1, e2⟩ := at_ i y hi
      refine ⟨rfl, yes_ ⟨_, rfl, q, p, rfl, kk.seqT ht (h3 i q p e1 e2), hp p (List.mem_of_getElem? e2), _, rfl, ?_⟩⟩
      rw [if_pos rfl]
      exact kk
    · refine ⟨_, rfl, iteF ?_⟩
      have h1' := kk.seqT ht h1
      refine ⟨_, rfl, a, rfl, ⟨_, h1'⟩, fun D hD => ?_⟩
      refine lc_tup (K := K) (a := a) (xs := qs.map V.ref) (fun i H4 => Tk T.Ps H3 H4 ∧ H4 D = some (.lst (((ps.map (·.1)).take i).map V.int))) ⟨(Tk.refl kk.tab).new hD, upd_same⟩ (fun i H4 _ ⟨k4, _⟩ => k4.seqT kk.tab h1') ?_ ?_
      · rintro i y H4 hi ⟨k4, eD⟩
        obtain ⟨q, p, rfl, e1, e2⟩ := at_ i y hi
        refine ⟨rfl, yes_ ⟨_, rfl, q, _, 0, .int p.1, rfl, rfl, k4.seqT kk.tab (kk.seqT ht (h3 i q p e1 e2)), rfl, ?_⟩⟩
        refine ⟨_, eD, ?_, k4.put hD eD, ?_⟩
        · rw [List.length_map, List.length_take, List.length_map]
          exact Nat.lt_of_le_of_lt (show min i ps.length ≤ 64 by omega) (by decide)
        · rw [upd_same, take_snoc (c := p.1) (by rw [List.getElem?_map, e2]; rfl), List.map_append]
          rfl
      · rintro H4 ⟨k4, eD⟩
        rw [List.take_of_length_le (by simp [h2])] at eD
        exact ⟨D, _, rfl, .inl (.of eD), hc, k4.tab, fun H5 k5 => k H5 (kk.trans (k4.trans k5))⟩
def sp_are_revokes (K : PySem.W.Frag) (Ps : List Addr) : Sp := fun vs H Q _ => ∃ (a : Addr) (rs : List Int), vs = [.ref a] ∧ SqT K H a (rs.map V.int) ∧ (∀ r ∈ rs, 0 ≤ r ∧ r ≤ 63) ∧ Asc rs ∧ Tab Ps H ∧ ∀ H', Tk Ps H H' → Q (.bl true) H'
theorem ok_are_revokes (T : Tx K mg) (B : TBs T base) : FnOk P w K mg base CX0 6 T.f_are_revokes T.fd_are_revokes ["value"] (sp_are_revokes K T.Ps) := by
  refine fun_okC T.F_are_revokes T.code_are_revokes sc_are_revokes (fun vs H Q E h => ?_) (fun A outer s H vs Q E hr h => ?_)
  · obtain ⟨_, _, rfl, _⟩ := h; rfl
  · obtain ⟨a, rs, rfl, hS, hp, hc, ht, k⟩ := h
    have hr4 := hr.mono (show 4 ≤ 5 by decide)
    refine ⟨_, (pss_one (ps_ret (pe_and (pe_callB call_isi rfl T.b_isinstance (by decide +kernel) (pa_cons (pv 0) (pa_cons (pe_bltn (v := .ty "tuple") rfl T.b_tuple (by decide +kernel) rfl) pa_nil))) (pe_and (GxL.pe_allG (k := 2) (own := [("block", 1)]) (g := gName 1) (tt := tYes) hr rfl T.b_all B.t_are_revokes rfl (GxL.gsc_by (by decide +kernel)) (blkOk_by (N := ["value", "block"]) (sc := defScope s_are_revokes) (by decide +kernel)) sc_are_revokes.nd (pi_tup (pv 0)) (fun _ _ _ _ _ => pg_name (i := 1) sc_are_revokes.nd rfl (Or.inl rfl)) (fun _ _ _ _ _ _ => pts_nil) (fun _ _ _ _ _ hr2 => pe_call (ok_is_block T) hr2 rfl T.mg_is_block T.F_is_block.kp (b_is_block T) .nil pass0 (pa_cons (pv 1) pa_nil))) (pe_one (pe_call (ok_is_ascending T B) hr4 rfl T.mg_is_ascending T.F_is_ascending.kp (b_is_ascending T) .nil pass0 (pa_cons (pv 0) pa_nil))))))), ?_⟩
    refine ⟨_, rfl, _, _, _, _, true, rfl, .ty _, tyT hS, kit_ty (by decide +kernel), _, rfl, iteT ?_⟩
    refine ⟨_, rfl, a, rfl, ⟨_, hS⟩, ht _ T.in_are_revokes, fun H2 hT => gx_tup (K := K) (a := a) (xs := rs.map V.int) (fun i H3 => Tk T.Ps H H3) (Tk.tabbed ht T.in_are_revokes hT) (fun i H3 _ kk => kk.seqT ht hS) (fun i y H3 hi kk => ?_) fun H3 kk => ⟨_, rfl, iteT ⟨_, rfl, a, rs, rfl, .inr (kk.seqT ht hS), hc, kk.tab, fun H4 k4 => k H4 (kk.trans k4)⟩⟩⟩
    rw [List.getElem?_map] at hi
    obtain ⟨x, hx, rfl⟩ := Option.map_eq_some_iff.mp hi
    refine ⟨rfl, yes_ ⟨_, rfl, x, rfl, _, rfl, ?_⟩⟩
    rw [decide_eq_true (show 0 ≤ x ∧ x ≤ 63 from hp x (List.mem_of_getElem? hx)), if_pos rfl]
    exact kk
def sp_is_record (K : PySem.W.Frag) (Ps : List Addr) (b s : Int) : Sp := fun vs H Q _ => ∃ (a : Addr) (r : Rec), vs = [.ref a] ∧ RecAt K H a r ∧ Fit b s r ∧ Tab Ps H ∧ ∀ H', Tk Ps H H' → Q (.bl true) H'
theorem ok_is_record (T : Tx K mg) (B : TBs T base) (b sl : Int) : FnOk P w K mg base CX0 8 T.f_is_record T.fd_is_record ["record"] (sp_is_record K T.Ps b sl) := by
  refine T.F_is_record.ok sc_is_record (fun vs H Q E h => ?_) (fun cdv A outer s H vs Q E hr h => ?_)
  · obtain ⟨_, _, rfl, _⟩ := h; rfl
  · obtain ⟨a, r, rfl, hR, hf, ht, k⟩ := h
    have hr1 := hr.mono (show 1 ≤ 7 by decide)
    have hr2 := hr.mono (show 2 ≤ 7 by decide)
    have hr6 := hr.mono (show 6 ≤ 7 by decide)
    refine ⟨_, (pss_cons (ps_if (PW.pt (pw_or (pt_not (pt_val (pe_callB call_isi rfl T.b_isinstance (by decide +kernel) (pa_cons (pv 0) (pa_cons (pe_bltn (v := .ty "tuple") rfl T.b_tuple (by decide +kernel) rfl) pa_nil))))) (pw_or (pt_cmpR op_ne (pe_callB call_len_seq rfl T.b_len (by decide +kernel) (pa_cons (pv 0) pa_nil)) pe_int (nomark _)) (pw_or1 (pt_not (pt_val (pe_call (ok_is_number T) hr1 rfl T.mg_is_number T.F_is_number.kp (b_is_number T) .nil pass0 (pa_cons (pe_ix ix_tup (pv 0) pe_int (fun _ _ => rfl)) (pa_cons pe_int (pa_cons (pe_gc T.c_MOST_LOT) pa_nil))))))))))
        (pss_one (ps_ret pe_bl))
        pss_nil)
      (pss_cons (ps_if (pt_cmpR op_eq (pe_ix ix_tup (pv 0) pe_int (fun _ _ => rfl)) pe_str (nomark _))
        (pss_one (ps_ret (pe_and (pe_call (ok_is_block T) hr2 rfl T.mg_is_block T.F_is_block.kp (b_is_block T) .nil pass0 (pa_cons (pe_ix ix_tup (pv 0) pe_int (fun _ _ => rfl)) pa_nil)) (pe_and (pe_callB call_isi rfl T.b_isinstance (by decide +kernel) (pa_cons (pe_ix ix_tup (pv 0) pe_int (fun _ _ => rfl)) (pa_cons (pe_bltn (v := .ty "tuple") rfl T.b_tuple (by decide +kernel) rfl) pa_nil))) (pe_one (pe_call (ok_is_cell_row T B) hr6 rfl T.mg_is_cell_row T.F_is_cell_row.kp (b_is_cell_row T) .nil pass0 (pa_cons (pe_ix ix_tup (pv 0) pe_int (fun _ _ => rfl)) pa_nil)))))))
        pss_nil)
      (pss_one (ps_ret (pe_and (pe_cmpR op_eq (pe_ix ix_tup (pv 0) pe_int (fun _ _ => rfl)) pe_str (nomark _)) (pe_and (pe_call (ok_are_pairs T B) hr rfl T.mg_are_pairs T.F_are_pairs.kp (b_are_pairs T) .nil pass0 (pa_cons (pe_ix ix_tup (pv 0) pe_int (fun _ _ => rfl)) pa_nil)) (pe_one (pe_call (ok_are_revokes T B) hr6 rfl T.mg_are_revokes T.F_are_revokes.kp (b_are_revokes T) .nil pass0 (pa_cons (pe_ix ix_tup (pv 0) pe_int (fun _ _ => rfl)) pa_nil))))))))), ?_⟩
    cases r with
    | copy lot x c =>
      obtain ⟨pc, h1, h2⟩ := hR
      obtain ⟨f1, f2, f3, f4, f5, f6⟩ := hf
      refine ⟨_, rfl, _, _, _, _, true, rfl, .ty _, tyT h1, kit_ty (by decide +kernel), _, rfl, iteF ⟨_, rfl, a, _, rfl, .inr h1, rfl, _, rfl, iteF ?_⟩⟩
      refine ⟨_, rfl, a, _, 1, .int lot, rfl, rfl, h1, rfl, lot, 1, 999999, rfl, _, rfl, ?_⟩
      rw [decide_eq_true (show 1 ≤ lot ∧ lot ≤ 999999 from ⟨f1, f2⟩)]
      refine iteF ⟨_, rfl, a, _, 0, .str "copy", rfl, rfl, h1, rfl, rfl, _, rfl, iteT ?_⟩
      refine ⟨_, rfl, a, _, 2, .int x, rfl, rfl, h1, rfl, x, rfl, _, rfl, ?_⟩
      rw [decide_eq_true (show 0 ≤ x ∧ x ≤ 63 from ⟨f3, f4⟩)]
      refine iteT ⟨_, rfl, a, _, 3, .ref pc, rfl, rfl, h1, rfl, _, _, _, _, true, rfl, .ty _, tyT h2, kit_ty (by decide +kernel), _, rfl, iteT ?_⟩
      exact ⟨_, rfl, a, _, 3, .ref pc, rfl, rfl, h1, rfl, pc, c, rfl, h2, f6, ht, k⟩
    | mark lot ps rs =>
      obtain ⟨pp, pr, h1, h2, h3⟩ := hR
      obtain ⟨f1, f2, f3, f4, f5, f6, f7, f8⟩ := hf
      refine ⟨_, rfl, _, _, _, _, true, rfl, .ty _, tyT h1, kit_ty (by decide +kernel), _, rfl, iteF ⟨_, rfl, a, _, rfl, .inr h1, rfl, _, rfl, iteF ?_⟩⟩
      refine ⟨_, rfl, a, _, 1, .int lot, rfl, rfl, h1, rfl, lot, 1, 999999, rfl, _, rfl, ?_⟩
      rw [decide_eq_true (show 1 ≤ lot ∧ lot ≤ 999999 from ⟨f1, f2⟩)]
      refine iteF ⟨_, rfl, a, _, 0, .str "mark", rfl, rfl, h1, rfl, rfl, _, rfl, iteF ?_⟩
      refine ⟨_, rfl, a, _, 0, .str "mark", rfl, rfl, h1, rfl, rfl, _, rfl, iteT ?_⟩
      refine ⟨_, rfl, a, _, 2, .ref pp, rfl, rfl, h1, rfl, pp, ps, rfl, h2, f3, fun p hp => ⟨⟨(f5 p hp).1, (f5 p hp).2.1⟩, (f5 p hp).2.2.2.1, (f5 p hp).2.2.2.2.1⟩, f6, ht, fun H1 k1 => ⟨_, rfl, iteT ?_⟩⟩
      exact ⟨_, rfl, a, _, 3, .ref pr, rfl, rfl, k1.seqT ht h1, rfl, pr, rs, rfl, k1.seqT ht h3, fun r hr => ⟨(f7 r hr).1, (f7 r hr).2.1⟩, f8, k1.tab, fun H2 k2 => k H2 (k1.trans k2)⟩
end
end K01
namespace K01
open PySem PySem.Spec PyProof.Rows L2 Rg
theorem PlanAt.tk {C : Addr} {Ps : List Addr} {H H' : Hp} {p : Addr} {b n s : Int} (h : PlanAt C H p b n s) (t : Tab Ps H) (k : Tk Ps H H') : PlanAt C H' p b n s :=
  let ⟨dx, z⟩ := h.ob
  h.of fun o e => by rw [z] at e; cases e; exact k.at t z
/-- a place of a disk, by its tuple -/
inductive Plc where
  | home (at_ : Int) | log (at_ : Int)
def PlcAt (K : PySem.W.Frag) (H : Hp) (a : Addr) : Plc → Prop
  | .home i => SqT K H a [.str "home", .int i]
  | .log i => SqT K H a [.str "log", .int i]
def Rng (b s : Int) : Plc → Prop
  | .home i => 0 ≤ i ∧ i ≤ b - 1
  | .log i => 0 ≤ i ∧ i ≤ s - 1
/-- what may stand at a place -/
def WhatAt (K : PySem.W.Frag) (H : Hp) (a : Addr) (b s : Int) : Plc → Prop
  | .home i => 0 ≤ i ∧ i ≤ b - 1 ∧ ∃ c, SqT K H a (c.map V.int) ∧ Cells c
  | .log i => 0 ≤ i ∧ i ≤ s - 1 ∧ ∃ r, RecAt K H a r ∧ Fit b s r
section
variable {K : PySem.W.Frag} {Ps : List Addr} {H H1 : Hp} {a : Addr} {q : Plc} {b s : Int}
theorem PlcAt.by (h : PlcAt K H a q) (f : ∀ b xs, SqT K H b xs → SqT K H1 b xs) : PlcAt K H1 a q := by
  cases q with
  | home i => exact f _ _ h
  | log i => exact f _ _ h
theorem WhatAt.by (h : WhatAt K H a b s q) (f : ∀ b xs, SqT K H b xs → SqT K H1 b xs) : WhatAt K H1 a b s q := by
  cases q with
  | home i => obtain ⟨h1, h2, c, h3, h4⟩ := h; exact ⟨h1, h2, c, f _ _ h3, h4⟩
  | log i => obtain ⟨h1, h2, r, h3, h4⟩ := h; exact ⟨h1, h2, r, h3.by f, h4⟩
theorem WhatAt.rng (h : WhatAt K H a b s q) : Rng b s q := by
  cases q with
  | home i => exact ⟨h.1, h.2.1⟩
  | log i => exact ⟨h.1, h.2.1⟩
theorem WhatAt.tup (h : WhatAt K H a b s q) : ∃ xs, SqT K H a xs := by
  cases q with
  | home i => obtain ⟨h1, h2, c, h3, h4⟩ := h; exact ⟨_, h3⟩
  | log i =>
    obtain ⟨h1, h2, r, h3, h4⟩ := h
    cases r with
    | copy l x c => obtain ⟨pc, e, _⟩ := h3; exact ⟨_, e⟩
    | mark l ps rs => obtain ⟨pp, pr, e, _⟩ := h3; exact ⟨_, e⟩
theorem PlcAt.tup (h : PlcAt K H a q) : ∃ xs, SqT K H a xs := by
  cases q with
  | home i => exact ⟨_, h⟩
  | log i => exact ⟨_, h⟩
end
section
variable {P : Program} {w : World} {K : PySem.W.Frag} {mg : Str → Option Value} {base : Heap}
def sp_fits_plan (K : PySem.W.Frag) (CP : Addr) (Ps : List Addr) : Sp := fun vs H Q _ => ∃ (a p : Addr) (b n s : Int) (r : Rec), vs = [.ref a, .ref p] ∧ RecAt K H a r ∧ Fit b s r ∧ PlanAt CP H p b n s ∧ Tab Ps H ∧ ∀ H', Tk Ps H H' → Q (.bl true) H'
theorem ok_fits_plan (T : Tx K mg) (B : TBs T base) : FnOk P w K mg base CX0 4 T.f_fits_plan T.fd_fits_plan ["record", "plan"] (sp_fits_plan K T.C_Plan T.Ps) := by
  refine fun_okC T.F_fits_plan T.code_fits_plan sc_fits_plan (fun vs H Q E h => ?_) (fun A outer s H vs Q E hr h => ?_)
  · obtain ⟨_, _, _, _, _, _, rfl, _⟩ := h; rfl
  · obtain ⟨a, p, b, n, sl, r, rfl, hR, hf, hP, ht, k⟩ := h
    refine ⟨_, (pss_cons (ps_if (pt_cmpR op_eq (pe_ix ix_tup (pv 0) pe_int (fun _ _ => rfl)) pe_str (nomark _))
        (pss_one (ps_ret (pe_cmpR op_lt (pe_ix ix_tup (pv 0) pe_int (fun _ _ => rfl)) (pe_fld (pv 1) rfl) (nomark _))))
        pss_nil)
      (pss_cons (ps_if (pt_not (pt_val (GxL.pe_allG (k := 0) (own := [("block", 2), ("slot", 3)]) (g := _) (tt := tYes) hr rfl T.b_all B.t_fits_plan rfl (GxL.gsc_by (by decide +kernel)) (blkOk_by (N := ["record", "plan", "block", "slot"]) (sc := defScope s_fits_plan) (by decide +kernel)) sc_fits_plan.nd (pi_tup (pe_ix ix_tup (pv 0) pe_int (fun _ _ => rfl)))
          (fun _ _ _ _ _ => pg_tupK (K := K) (n := 2) rfl (pgs_cons (pg_name (i := 2) sc_fits_plan.nd rfl (.inl rfl)) (pgs_cons (pg_name (i := 3) sc_fits_plan.nd rfl (.inl rfl)) pgs_nil))) (fun _ _ _ _ _ _ => pts_nil) (fun _ _ _ _ _ _ => pe_and (pe_cmpR op_lt (pv 2) (pe_fldK (K := K) (pv 1) rfl) (nomark _)) (pe_one (pe_cmpR op_lt (pv 3) (pe_fldK (K := K) (pv 1) rfl) (nomark _)))))))
        (pss_one (ps_ret pe_bl))
        pss_nil)
      (pss_one (ps_ret (GxL.pe_allG (k := 0) (own := [("block", 2)]) (g := gName 2) (tt := tYes) hr rfl T.b_all B.t_fits_plan rfl (GxL.gsc_by (by decide +kernel)) (blkOk_by (N := ["record", "plan", "block", "slot"]) (sc := defScope s_fits_plan) (by decide +kernel)) sc_fits_plan.nd (pi_tup (pe_ix ix_tup (pv 0) pe_int (fun _ _ => rfl)))
          (fun _ _ _ _ _ => pg_name (i := 2) sc_fits_plan.nd rfl (Or.inl rfl)) (fun _ _ _ _ _ _ => pts_nil) (fun _ _ _ _ _ _ => pe_cmpR op_lt (pv 2) (pe_fldK (K := K) (pv 1) rfl) (nomark _))))))), ?_⟩
    obtain ⟨dx, hpo⟩ := hP.ob
    cases r with
    | copy lot x c =>
      obtain ⟨pc, h1, h2⟩ := hR
      obtain ⟨f1, f2, f3, f4, f5, f6⟩ := hf
      refine ⟨_, rfl, a, _, 0, .str "copy", rfl, rfl, h1, rfl, rfl, _, rfl, iteT ?_⟩
      refine ⟨_, rfl, a, _, 2, .int x, rfl, rfl, h1, rfl, _, rfl, p, _, _, _, _, rfl, hpo, T.cl_Plan, T.na_Plan_blocks, rfl, _, _, rfl, rfl, ?_⟩
      show Q (.bl (decide (x < b))) H
      rw [decide_eq_true f5]
      exact k H (.refl ht)
    | mark lot ps rs =>
      obtain ⟨pp, pr, h1, ⟨qs, g1, g2, g3⟩, h3⟩ := hR
      obtain ⟨f1, f2, f3, f4, f5, f6, f7, f8⟩ := hf
      refine ⟨_, rfl, a, _, 0, .str "mark", rfl, rfl, h1, rfl, rfl, _, rfl, iteF ?_⟩
      refine ⟨_, rfl, a, _, 2, .ref pp, rfl, rfl, h1, rfl, pp, rfl, ⟨_, g1⟩, ht _ T.in_fits_plan, fun H2 hT => gx_tup (K := K) (a := pp) (xs := qs.map V.ref) (fun i H3 => Tk T.Ps H H3) (Tk.tabbed ht T.in_fits_plan hT) (fun i H3 _ kk => kk.seqT ht g1) (fun i y H3 hi kk => ?_) fun H3 kk => ⟨_, rfl, iteF ?_⟩⟩
      · rw [List.getElem?_map] at hi
        obtain ⟨q, hq, rfl⟩ := Option.map_eq_some_iff.mp hi
        have hlt := (List.getElem?_eq_some_iff.mp hq).1
        have e2 : ps[i]? = some ps[i] := List.getElem?_eq_getElem (by omega)
        have hb := f5 _ (List.mem_of_getElem? e2)
        refine ⟨q, _, rfl, kk.seqT ht (g3 i q _ hq e2), rfl, _, _, rfl, _, _, rfl, rfl, rfl, yes_ ?_⟩
        refine ⟨_, rfl, _, rfl, p, _, _, _, _, rfl, kk.at ht hpo, T.cl_Plan, T.na_Plan_blocks, rfl, _, _, rfl, rfl, _, rfl, ?_⟩
        rw [decide_eq_true hb.2.2.1]
        refine iteT ⟨_, rfl, _, rfl, p, _, _, _, _, rfl, kk.at ht hpo, T.cl_Plan, T.na_Plan_slots, rfl, _, _, rfl, rfl, _, rfl, ?_⟩
        rw [decide_eq_true hb.2.2.2.2.2, if_pos rfl]
        exact kk
      · refine ⟨_, rfl, a, _, 3, .ref pr, rfl, rfl, kk.seqT ht h1, rfl, pr, rfl, ⟨_, kk.seqT ht h3⟩, kk.tab _ T.in_fits_plan, fun H4 hT => gx_tup (K := K) (a := pr) (xs := rs.map V.int) (fun i H5 => Tk T.Ps H H5) (kk.trans (Tk.tabbed kk.tab T.in_fits_plan hT)) (fun i H3 _ kk => kk.seqT ht h3) (fun i y H3 hi kk => ?_) fun H3 kk => k H3 kk⟩
        rw [List.getElem?_map] at hi
        obtain ⟨x, hx, rfl⟩ := Option.map_eq_some_iff.mp hi
        refine ⟨rfl, yes_ ⟨_, rfl, _, rfl, p, _, _, _, _, rfl, kk.at ht hpo, T.cl_Plan, T.na_Plan_blocks, rfl, _, _, rfl, rfl, _, rfl, ?_⟩⟩
        rw [decide_eq_true (f7 x (List.mem_of_getElem? hx)).2.2, if_pos rfl]
        exact kk
def sp_is_place (K : PySem.W.Frag) (CP : Addr) : Sp := fun vs H Q _ => ∃ (p a : Addr) (b n s : Int) (q : Plc), vs = [.ref p, .ref a] ∧ PlcAt K H a q ∧ Rng b s q ∧ PlanAt CP H p b n s ∧ Q (.bl true) H
theorem ok_is_place (T : Tx K mg) : FnOk P w K mg base CX0 2 T.f_is_place T.fd_is_place ["plan", "place"] (sp_is_place K T.C_Plan) := by
  refine T.F_is_place.ok sc_is_place (fun vs H Q E h => ?_) (fun cdv A outer s H vs Q E hr h => ?_)
  · obtain ⟨_, _, _, _, _, _, rfl, _⟩ := h; rfl
  · obtain ⟨p, a, b, n, sl, q, rfl, hq, hb, hP, k⟩ := h
    refine ⟨_, (pss_cons (ps_if (PW.pt (pw_or (pt_not (pt_val (pe_callB call_isi rfl T.b_isinstance (by decide +kernel) (pa_cons (pv 1) (pa_cons (pe_bltn (v := .ty "tuple") rfl T.b_tuple (by decide +kernel) rfl) pa_nil))))) (pw_or1 (pt_cmpR op_ne (pe_callB call_len_seq rfl T.b_len (by decide +kernel) (pa_cons (pv 1) pa_nil)) pe_int (nomark _)))))
        (pss_one (ps_ret pe_bl))
        pss_nil)
      (pss_cons (ps_if (pt_cmpR op_eq (pe_ix ix_tup (pv 1) pe_int (fun _ _ => rfl)) pe_str (nomark _))
        (pss_one (ps_ret (pe_call (ok_is_number T) hr rfl T.mg_is_number T.F_is_number.kp (b_is_number T) .nil pass0 (pa_cons (pe_ix ix_tup (pv 1) pe_int (fun _ _ => rfl)) (pa_cons pe_int (pa_cons (pe_op op_sub (pe_fld (pv 0) rfl) pe_int) pa_nil))))))
        pss_nil)
      (pss_one (ps_ret (pe_and (pe_cmpR op_eq (pe_ix ix_tup (pv 1) pe_int (fun _ _ => rfl)) pe_str (nomark _)) (pe_one (pe_call (ok_is_number T) hr rfl T.mg_is_number T.F_is_number.kp (b_is_number T) .nil pass0 (pa_cons (pe_ix ix_tup (pv 1) pe_int (fun _ _ => rfl)) (pa_cons pe_int (pa_cons (pe_op op_sub (pe_fld (pv 0) rfl) pe_int) pa_nil)))))))))), ?_⟩
    obtain ⟨dx, hpo⟩ := hP.ob
    cases q with
    | home i =>
      have hq : SqT K H a [.str "home", .int i] := hq
      refine ⟨_, rfl, _, _, _, _, true, rfl, .ty _, tyT hq, kit_ty (by decide +kernel), _, rfl, iteF ⟨_, rfl, a, _, rfl, .inr hq, rfl, _, rfl, iteF ?_⟩⟩
      refine ⟨_, rfl, a, _, 0, .str "home", rfl, rfl, hq, rfl, rfl, _, rfl, iteT ?_⟩
      refine ⟨_, rfl, a, _, 1, .int i, rfl, rfl, hq, rfl, _, rfl, p, _, _, _, _, rfl, hpo, T.cl_Plan, T.na_Plan_blocks, rfl, _, _, rfl, rfl, i, 0, _, rfl, ?_⟩
      rw [decide_eq_true (show 0 ≤ i ∧ i ≤ b - 1 from hb)]
      exact k
    | log i =>
      have hq : SqT K H a [.str "log", .int i] := hq
      refine ⟨_, rfl, _, _, _, _, true, rfl, .ty _, tyT hq, kit_ty (by decide +kernel), _, rfl, iteF ⟨_, rfl, a, _, rfl, .inr hq, rfl, _, rfl, iteF ?_⟩⟩
      refine ⟨_, rfl, a, _, 0, .str "log", rfl, rfl, hq, rfl, rfl, _, rfl, iteF ?_⟩
      refine ⟨_, rfl, a, _, 0, .str "log", rfl, rfl, hq, rfl, rfl, _, rfl, iteT ?_⟩
      refine ⟨_, rfl, a, _, 1, .int i, rfl, rfl, hq, rfl, _, rfl, p, _, _, _, _, rfl, hpo, T.cl_Plan, T.na_Plan_slots, rfl, _, _, rfl, rfl, i, 0, _, rfl, ?_⟩
      rw [decide_eq_true (show 0 ≤ i ∧ i ≤ sl - 1 from hb)]
      exact k
def sp_is_content (K : PySem.W.Frag) (CP : Addr) (Ps : List Addr) : Sp := fun vs H Q _ => ∃ (p a u : Addr) (b n s : Int) (q : Plc), vs = [.ref p, .ref a, .ref u] ∧ PlcAt K H a q ∧ WhatAt K H u b s q ∧ PlanAt CP H p b n s ∧ Tab Ps H ∧ ∀ H', Tk Ps H H' → Q (.bl true) H'
theorem ok_is_content (T : Tx K mg) (B : TBs T base) : FnOk P w K mg base CX0 9 T.f_is_content T.fd_is_content ["plan", "place", "what"] (sp_is_content K T.C_Plan T.Ps) := by
  refine T.F_is_content.ok sc_is_content (fun vs H Q E h => ?_) (fun cdv A outer s H vs Q E hr h => ?_)
  · obtain ⟨_, _, _, _, _, _, _, rfl, _⟩ := h; rfl
  · obtain ⟨p, a, u, b, n, sl, q, rfl, hq, hw, hP, ht, k⟩ := h
    have hr6 := hr.mono (show 6 ≤ 8 by decide)
    have hr4 := hr.mono (show 4 ≤ 8 by decide)
    refine ⟨_, (pss_cons (ps_if (pt_cmpR op_eq (pe_ix ix_tup (pv 1) pe_int (fun _ _ => rfl)) pe_str (nomark _))
        (pss_one (ps_ret (pe_call (ok_is_cell_row T B) hr6 rfl T.mg_is_cell_row T.F_is_cell_row.kp (b_is_cell_row T) .nil pass0 (pa_cons (pv 2) pa_nil))))
        pss_nil)
      (pss_one (ps_ret (pe_and (pe_call (ok_is_record T B b sl) hr rfl T.mg_is_record T.F_is_record.kp (b_is_record T) .nil pass0 (pa_cons (pv 2) pa_nil)) (pe_one (pe_call (ok_fits_plan T B) hr4 rfl T.mg_fits_plan T.F_fits_plan.kp (b_fits_plan T) .nil pass0 (pa_cons (pv 2) (pa_cons (pv 0) pa_nil)))))))), ?_⟩
    cases q with
    | home i =>
      have hq : SqT K H a [.str "home", .int i] := hq
      obtain ⟨h1, h2, c, h3, h4⟩ := hw
      refine ⟨_, rfl, a, _, 0, .str "home", rfl, rfl, hq, rfl, rfl, _, rfl, iteT ?_⟩
      exact ⟨_, rfl, u, c, rfl, h3, h4, ht, k⟩
    | log i =>
      have hq : SqT K H a [.str "log", .int i] := hq
      obtain ⟨h1, h2, r, h3, h4⟩ := hw
      refine ⟨_, rfl, a, _, 0, .str "log", rfl, rfl, hq, rfl, rfl, _, rfl, iteF ?_⟩
      refine ⟨_, rfl, u, r, rfl, h3, h4, ht, fun H1 k1 => ⟨_, rfl, iteT ?_⟩⟩
      exact ⟨_, rfl, _, rfl, u, p, b, n, sl, r, rfl, h3.tk ht k1, h4, hP.tk ht k1, k1.tab, fun H2 k2 => k H2 (k1.trans k2)⟩
end
end K01
namespace K01
open PySem PySem.Spec PyProof.Rows L2 Rg
/-! ### disks -/
structure DA where
  p : Addr
  ho : Addr
  lg : Addr
  pd : Addr
def dskF (A : DA) (hd la : Int) : List (Str × V) := [("plan", .ref A.p), ("home", .ref A.ho), ("log", .ref A.lg), ("head", .int hd), ("last", .int la), ("_pending", .ref A.pd)]
structure DAt (CD CP : Addr) (H : Hp) (d : Addr) (A : DA) (b n s hd la : Int) (hs gs : List V) (kv : List (Key × V)) : Prop where
  ob : ∃ dx, H d = some (.ins CD dx (dskF A hd la))
  pl : PlanAt CP H A.p b n s
  ho : H A.ho = some (.lst hs)
  lg : H A.lg = some (.lst gs)
  pd : H A.pd = some (.dK kv)
  pne : A.p ≠ d
  hne : A.ho ≠ A.lg
  hl : (hs.length : Int) = b
  gl : (gs.length : Int) = s
section
variable {CD CP : Addr} {Ps : List Addr} {H H' : Hp} {d : Addr} {A : DA} {b n s hd la : Int} {hs gs : List V} {kv : List (Key × V)}
theorem DAt.by (h : DAt CD CP H d A b n s hd la hs gs kv) (f : ∀ a o, H a = some o → (∀ ps, o ≠ .tbl ps) → H' a = some o) : DAt CD CP H' d A b n s hd la hs gs kv :=
  let ⟨dx, z⟩ := h.ob
  let ⟨px, y⟩ := h.pl.ob
  ⟨⟨dx, f _ _ z (by intro _ z; cases z)⟩, h.pl.of fun o e => by rw [y] at e; cases e; exact f _ _ y (by intro _ z; cases z), f _ _ h.ho (by intro _ z; cases z), f _ _ h.lg (by intro _ z; cases z), f _ _ h.pd (by intro _ z; cases z), h.pne, h.hne, h.hl, h.gl⟩
theorem DAt.tk (h : DAt CD CP H d A b n s hd la hs gs kv) (t : Tab Ps H) (k : Tk Ps H H') : DAt CD CP H' d A b n s hd la hs gs kv := h.by fun _ _ e q => k.at t e q
theorem DAt.same (h : DAt CD CP H d A b n s hd la hs gs kv) (e : Same H H') : DAt CD CP H' d A b n s hd la hs gs kv := h.by fun _ _ z _ => e _ _ z
/-- the numbers are written -/
theorem DAt.num (h : DAt CD CP H d A b n s hd la hs gs kv) {dx : Addr} (hd' la' : Int) : DAt CD CP (upd H d (.ins CD dx (dskF A hd' la'))) d A b n s hd' la' hs gs kv := by
  obtain ⟨dz, z⟩ := h.ob
  obtain ⟨px, y⟩ := h.pl.ob
  have n1 : A.ho ≠ d := ne_of h.ho z (by intro q; cases q)
  have n2 : A.lg ≠ d := ne_of h.lg z (by intro q; cases q)
  have n3 : A.pd ≠ d := ne_of h.pd z (by intro q; cases q)
  exact ⟨⟨dx, upd_same⟩, h.pl.of fun o e => by rw [upd_ne h.pne]; exact e, by rw [upd_ne n1]; exact h.ho, by rw [upd_ne n2]; exact h.lg, by rw [upd_ne n3]; exact h.pd, h.pne, h.hne, h.hl, h.gl⟩
theorem DAt.pend (h : DAt CD CP H d A b n s hd la hs gs kv) (kv' : List (Key × V)) : DAt CD CP (upd H A.pd (.dK kv')) d A b n s hd la hs gs kv' := by
  obtain ⟨dz, z⟩ := h.ob
  obtain ⟨px, y⟩ := h.pl.ob
  have n1 : d ≠ A.pd := ne_of z h.pd (by intro q; cases q)
  have n2 : A.p ≠ A.pd := ne_of y h.pd (by intro q; cases q)
  have n3 : A.ho ≠ A.pd := ne_of h.ho h.pd (by intro q; cases q)
  have n4 : A.lg ≠ A.pd := ne_of h.lg h.pd (by intro q; cases q)
  exact ⟨⟨dz, by rw [upd_ne n1]; exact z⟩, h.pl.of fun o e => by rw [upd_ne n2]; exact e, by rw [upd_ne n3]; exact h.ho, by rw [upd_ne n4]; exact h.lg, upd_same, h.pne, h.hne, h.hl, h.gl⟩
theorem DAt.setL (h : DAt CD CP H d A b n s hd la hs gs kv) (i : Nat) (v : V) : DAt CD CP (upd H A.lg (.lst (gs.set i v))) d A b n s hd la hs (gs.set i v) kv := by
  obtain ⟨dz, z⟩ := h.ob
  obtain ⟨px, y⟩ := h.pl.ob
  have n1 : d ≠ A.lg := ne_of z h.lg (by intro q; cases q)
  have n2 : A.p ≠ A.lg := ne_of y h.lg (by intro q; cases q)
  have n4 : A.pd ≠ A.lg := ne_of h.pd h.lg (by intro q; cases q)
  exact ⟨⟨dz, by rw [upd_ne n1]; exact z⟩, h.pl.of fun o e => by rw [upd_ne n2]; exact e, by rw [upd_ne h.hne]; exact h.ho, upd_same, by rw [upd_ne n4]; exact h.pd, h.pne, h.hne, h.hl, by rw [List.length_set]; exact h.gl⟩
theorem DAt.setH (h : DAt CD CP H d A b n s hd la hs gs kv) (i : Nat) (v : V) : DAt CD CP (upd H A.ho (.lst (hs.set i v))) d A b n s hd la (hs.set i v) gs kv := by
  obtain ⟨dz, z⟩ := h.ob
  obtain ⟨px, y⟩ := h.pl.ob
  have n1 : d ≠ A.ho := ne_of z h.ho (by intro q; cases q)
  have n2 : A.p ≠ A.ho := ne_of y h.ho (by intro q; cases q)
  have n4 : A.pd ≠ A.ho := ne_of h.pd h.ho (by intro q; cases q)
  exact ⟨⟨dz, by rw [upd_ne n1]; exact z⟩, h.pl.of fun o e => by rw [upd_ne n2]; exact e, upd_same, by rw [upd_ne h.hne.symm]; exact h.lg, by rw [upd_ne n4]; exact h.pd, h.pne, h.hne, by rw [List.length_set]; exact h.hl, h.gl⟩
end
section
variable {P : Program} {w : World} {K : PySem.W.Frag} {mg : Str → Option Value} {base : Heap}
/-- nothing pends: no place is busy -/
def sp_busy (CD CP : Addr) (Ps : List Addr) : Sp := fun vs H Q _ => ∃ (d : Addr) (v : V) (A : DA) (b n s hd la : Int) (hs gs : List V), vs = [.ref d, v] ∧ DAt CD CP H d A b n s hd la hs gs [] ∧ Tab Ps H ∧ ∀ H', Tk Ps H H' → Q (.bl false) H'
theorem ok_busy (T : Tx K mg) (B : TBs T base) : FnOk P w K mg base CX0 4 T.f_Disk_busy T.fd_Disk_busy ["self", "place"] (sp_busy T.C_Disk T.C_Plan T.Ps) := by
  refine fun_okC T.F_Disk_busy T.code_Disk_busy sc_Disk_busy (fun vs H Q E h => ?_) (fun A outer s H vs Q E hr h => ?_)
  · obtain ⟨_, _, _, _, _, _, _, _, _, _, rfl, _⟩ := h; rfl
  · obtain ⟨d, v, A, b, n, sl, hd, la, hs, gs, rfl, D, ht, k⟩ := h
    refine ⟨_, (pss_one (ps_ret (pe_lock (GxL.pe_anyG (k := 0) (own := [("taken", 2), ("_", 3)]) (g := _) (tt := tYes) hr rfl T.b_any B.t_Disk_busy rfl (GxL.gsc_by (by decide +kernel)) (blkOk_by (N := ["self", "place", "taken", "_"]) (sc := defScope s_Disk_busy) (by decide +kernel)) sc_Disk_busy.nd (pi_values (pe_fld (pv 0) rfl))
      (fun _ _ _ _ _ => pg_tupK (K := K) (n := 2) rfl (pgs_cons (pg_name (i := 2) sc_Disk_busy.nd rfl (.inl rfl)) (pgs_cons (pg_name (i := 3) sc_Disk_busy.nd rfl (.inl rfl)) pgs_nil))) (fun _ _ _ _ _ _ => pts_nil) (fun _ _ _ _ _ _ => pe_cmpR op_eq (pv 1) (pv 2) (nomark _)))))), ?_⟩
    obtain ⟨dx, ho⟩ := D.ob
    have n1 : d ≠ A.pd := ne_of ho D.pd (by intro q; cases q)
    refine ⟨A.pd, _, D.pd, trivial, fun od => ?_⟩
    have t1 : Tab T.Ps (upd H A.pd (.frz od (.dK []))) := ht.upd D.pd (by intro _ q; cases q)
    refine ⟨_, rfl, d, _, _, _, _, rfl, by rw [upd_ne n1]; exact ho, T.cl_Disk, T.na_Disk__pending, rfl, A.pd, od, [], rfl, upd_same, t1 _ T.in_Disk_busy, fun H2 hT => ?_⟩
    have np : A.pd ≠ T.P_Disk_busy := ht.ne T.in_Disk_busy D.pd (by intro _ q; cases q)
    have e2 : H2 A.pd = some (.frz od (.dK [])) := by rw [hT.2 _ np]; exact upd_same
    refine gx_by 0 (fun _ H3 => H3 = H2) rfl (fun i H3 hi _ => absurd hi (Nat.not_lt_zero _)) (fun H3 e => ?_) (fun i _ _ _ hi => absurd hi (Nat.not_lt_zero _)) (fun H3 e => ?_)
    · subst e
      exact ⟨e2, Nat.le_refl _⟩
    · subst e
      refine ⟨e2, k _ ⟨?_, fun x o hx nx => ?_⟩⟩
      · exact (Tk.tabbed t1 T.in_Disk_busy hT).tab.upd e2 (by intro _ q; cases q)
      · by_cases z : x = A.pd
        · rw [z, upd_same, ← D.pd, ← z]
          exact hx
        · rw [upd_ne z, hT.2 x fun q => nx (q ▸ T.in_Disk_busy), upd_ne z]
          exact hx
def sp_move_head (CD CP : Addr) : Sp := fun vs H Q _ => ∃ (d : Addr) (m : Int) (A : DA) (b n s hd la : Int) (hs gs : List V) (kv : List (Key × V)) (dx : Addr), vs = [.ref d, .int m] ∧ H d = some (.ins CD dx (dskF A hd la)) ∧ DAt CD CP H d A b n s hd la hs gs kv ∧ 0 ≤ m ∧ m ≤ 999999 ∧ Q .non (upd H d (.ins CD dx (dskF A m la)))
theorem ok_move_head (T : Tx K mg) : FnOk P w K mg base CX0 2 T.f_Disk_move_head T.fd_Disk_move_head ["self", "p"] (sp_move_head T.C_Disk T.C_Plan) := by
  refine T.F_Disk_move_head.ok sc_Disk_move_head (fun vs H Q E h => ?_) (fun cdv A outer s H vs Q E hr h => ?_)
  · obtain ⟨_, _, _, _, _, _, _, _, _, _, _, _, rfl, _⟩ := h; rfl
  · obtain ⟨d, m, A, b, n, sl, hd, la, hs, gs, kv, dx, rfl, ho, D, h0, h1, k⟩ := h
    refine ⟨_, (pss_cons (ps_if (pt_not (pt_val (pe_call (ok_is_number T) hr rfl T.mg_is_number T.F_is_number.kp (b_is_number T) .nil pass0 (pa_cons (pv 1) (pa_cons pe_int (pa_cons (pe_gc T.c_MOST_HEAD) pa_nil))))))
        (pss_one ps_never)
        pss_nil)
      (pss_one (ps_fld (pv 0) (pv 1) rfl))), ?_⟩
    refine ⟨_, rfl, m, 0, 999999, rfl, _, rfl, ?_⟩
    rw [decide_eq_true (show 0 ≤ m ∧ m ≤ 999999 from ⟨h0, h1⟩)]
    exact iteF ⟨_, rfl, _, rfl, d, _, _, _, rfl, ho, T.cl_Disk, T.na_Disk_head, by show 6 < 1000; decide, k⟩
/-- a place takes what is put there -/
def sp_put (CD CP : Addr) (K : PySem.W.Frag) : Sp := fun vs H Q _ => ∃ (d a : Addr) (v : V) (A : DA) (b n s hd la : Int) (hs gs : List V) (kv : List (Key × V)) (q : Plc), vs = [.ref d, .ref a, v] ∧ DAt CD CP H d A b n s hd la hs gs kv ∧ PlcAt K H a q ∧ match q with
  | .home i => 0 ≤ i ∧ i ≤ b - 1 ∧ Q .non (upd H A.ho (.lst (hs.set i.toNat v)))
  | .log i => 0 ≤ i ∧ i ≤ s - 1 ∧ Q .non (upd H A.lg (.lst (gs.set i.toNat v)))
theorem ok_put (T : Tx K mg) : FnOk P w K mg base CX0 1 T.f_Disk__put T.fd_Disk__put ["self", "place", "what"] (sp_put T.C_Disk T.C_Plan K) := by
  refine T.F_Disk__put.ok sc_Disk__put (fun vs H Q E h => ?_) (fun cdv A outer s H vs Q E hr h => ?_)
  · obtain ⟨_, _, _, _, _, _, _, _, _, _, _, _, _, rfl, _⟩ := h; rfl
  · obtain ⟨d, a, v, A, b, n, sl, hd, la, hs, gs, kv, q, rfl, D, hq, k⟩ := h
    refine ⟨_, (pss_cons (ps_asg (pv 1) (pg_tup rfl (pgs_cons (pg_name (i := 3) sc_Disk__put.nd rfl (.inl rfl)) (pgs_cons (pg_name (i := 4) sc_Disk__put.nd rfl (.inl rfl)) pgs_nil))))
      (pss_one (ps_if (pt_cmpR op_eq (pv 3) pe_str (nomark _))
        (pss_one (ps_asg (pv 2) (pg_sub (pe_fld (pv 0) rfl) (pv 4) set_list)))
        (pss_one (ps_asg (pv 2) (pg_sub (pe_fld (pv 0) rfl) (pv 4) set_list)))))), ?_⟩
    obtain ⟨dx, ho⟩ := D.ob
    cases q with
    | home i =>
      have hq : SqT K H a [.str "home", .int i] := hq
      obtain ⟨h0, h1, k⟩ := k
      have := D.hl
      refine ⟨_, rfl, a, _, rfl, hq, rfl, _, _, rfl, _, _, rfl, rfl, _, rfl, rfl, _, rfl, iteT ?_⟩
      exact ⟨_, rfl, _, rfl, d, _, _, _, _, rfl, ho, T.cl_Disk, T.na_Disk_home, rfl, _, rfl, A.ho, hs, i, i.toNat, rfl, rfl, D.ho, ixN_at (by omega) (by omega), k⟩
    | log i =>
      have hq : SqT K H a [.str "log", .int i] := hq
      obtain ⟨h0, h1, k⟩ := k
      have := D.gl
      refine ⟨_, rfl, a, _, rfl, hq, rfl, _, _, rfl, _, _, rfl, rfl, _, rfl, rfl, _, rfl, iteF ?_⟩
      exact ⟨_, rfl, _, rfl, d, _, _, _, _, rfl, ho, T.cl_Disk, T.na_Disk_log, rfl, _, rfl, A.lg, gs, i, i.toNat, rfl, rfl, D.lg, ixN_at (by omega) (by omega), k⟩
end
end K01
namespace K01
open PySem PySem.Spec PyProof.Rows L2 Rg
section
variable {P : Program} {w : World} {K : PySem.W.Frag} {mg : Str → Option Value} {base : Heap}
/-- nothing pends; a good write is taken -/
def sp_issue (CD CP : Addr) (K : PySem.W.Frag) (Ps : List Addr) : Sp := fun vs H Q _ => ∃ (d a u : Addr) (A : DA) (b n s hd la : Int) (hs gs : List V) (q : Plc), vs = [.ref d, .ref a, .ref u] ∧ DAt CD CP H d A b n s hd la hs gs [] ∧ PlcAt K H a q ∧ WhatAt K H u b s q ∧ Tab Ps H ∧
  ∀ (H' : Hp) (t : Addr), Tab Ps H' → Kp (d :: A.pd :: Ps) H H' → DAt CD CP H' d A b n s hd (la + 1) hs gs [(Sum.inl (la + 1), .ref t)] → H' t = some (.tup [.ref a, .ref u]) → Q (.int (la + 1)) H'
theorem ok_issue (T : Tx K mg) (B : TBs T base) : FnOk P w K mg base CX0 10 T.f_Disk_issue T.fd_Disk_issue ["self", "place", "what"] (sp_issue T.C_Disk T.C_Plan K T.Ps) := by
  refine T.F_Disk_issue.ok sc_Disk_issue (fun vs H Q E h => ?_) (fun cdv A outer s H vs Q E hr h => ?_)
  · obtain ⟨_, _, _, _, _, _, _, _, _, _, _, _, rfl, _⟩ := h; rfl
  · obtain ⟨d, a, u, A, b, n, sl, hd, la, hs, gs, q, rfl, D, hq, hw, ht, k⟩ := h
    have hr2 := hr.mono (show 2 ≤ 9 by decide)
    have hr4 := hr.mono (show 4 ≤ 9 by decide)
    refine ⟨_, (pss_cons (ps_if (PW.pt (pw_or (pt_not (pt_val (pe_call (ok_is_place T) hr2 rfl T.mg_is_place T.F_is_place.kp (b_is_place T) .nil pass0 (pa_cons (pe_fld (pv 0) rfl) (pa_cons (pv 1) pa_nil))))) (pw_or1 (pt_not (pt_val (pe_call (ok_is_content T B) hr rfl T.mg_is_content T.F_is_content.kp (b_is_content T) .nil pass0 (pa_cons (pe_fld (pv 0) rfl) (pa_cons (pv 1) (pa_cons (pv 2) pa_nil)))))))))
        (pss_one ps_never)
        pss_nil)
      (pss_cons (ps_if (pt_val (pe_meth (pv 0) T.cl_Disk T.m_Disk_busy (ok_busy T B) hr4 (b_Disk_busy T) .nil pass0 (pa_cons (pv 1) pa_nil)))
        (pss_one ps_never)
        pss_nil)
      (pss_cons (ps_fldaug (pv 0) pe_int in_add)
      (pss_cons (ps_dput (hu_of hr) (pe_fld (pv 0) rfl) (pe_fld (pv 0) rfl) (pe_tup (pa_cons (pv 1) (pa_cons (pe_tupleOf rfl T.b_tuple (pv 2)) pa_nil))) rfl)
      (pss_one (ps_ret (pe_fld (pv 0) rfl))))))), ?_⟩
    obtain ⟨dx, ho⟩ := D.ob
    refine ⟨_, rfl, d, _, _, _, _, rfl, ho, T.cl_Disk, T.na_Disk_plan, rfl, _, rfl, A.p, a, b, n, sl, q, rfl, hq, hw.rng, D.pl, _, rfl, iteF ?_⟩
    refine ⟨_, rfl, d, _, _, _, _, rfl, ho, T.cl_Disk, T.na_Disk_plan, rfl, _, rfl, _, rfl, A.p, a, u, b, n, sl, q, rfl, hq, hw, D.pl, ht, fun H1 k1 => ⟨_, rfl, iteF ?_⟩⟩
    have D1 := D.tk ht k1
    refine ⟨_, rfl, d, _, _, rfl, k1.at ht ho, rfl, _, rfl, d, _, A, b, n, sl, hd, la, hs, gs, rfl, D1, k1.tab, fun H2 k2 => ⟨_, rfl, iteF ?_⟩⟩
    have D2 := D1.tk k1.tab k2
    have k12 := k1.trans k2
    have ho2 := k12.at ht ho
    have hw2 := hw.by (H1 := H2) fun _ _ => k12.seqT ht
    obtain ⟨xs, hT⟩ := hw2.tup
    refine ⟨_, rfl, d, _, _, _, _, rfl, ho2, T.cl_Disk, T.na_Disk_last, rfl, la, 1, rfl, rfl, _, _, ho2, by show 6 < 1000; decide, ?_⟩
    have D3 : DAt T.C_Disk T.C_Plan (upd H2 d (.ins T.C_Disk dx (dskF A hd (la + 1)))) d A b n sl hd (la + 1) hs gs [] := D2.num hd (la + 1)
    have T3 : Tab T.Ps (upd H2 d (.ins T.C_Disk dx (dskF A hd (la + 1)))) := k12.tab.upd ho2 (by intro _ z; cases z)
    have K3 : Kp (d :: A.pd :: T.Ps) H (upd H2 d (.ins T.C_Disk dx (dskF A hd (la + 1)))) := fun x o hx nx => by
      rw [upd_ne fun z => nx (by simp [z])]
      exact k12.kp x o hx fun z => nx (by simp [z])
    have hT3 : SqT K (upd H2 d (.ins T.C_Disk dx (dskF A hd (la + 1)))) u xs := by
      rcases hT with (e | ⟨o, e⟩) | e
      · exact .inl (.inl (by rw [upd_ne (ne_of e ho2 (by intro z; cases z))]; exact e))
      · exact .inl (.inr ⟨o, by rw [upd_ne (ne_of e ho2 (by intro z; cases z))]; exact e⟩)
      · exact .inr e
    have o3 := upd_same (H := H2) (a := d) (o := .ins T.C_Disk dx (dskF A hd (la + 1)))
    show tSeq _ _ _ _ (upd H2 d (.ins T.C_Disk dx (dskF A hd (la + 1))))
    generalize upd H2 d (.ins T.C_Disk dx (dskF A hd (la + 1))) = H3 at D3 T3 K3 hT3 o3 ⊢
    refine ⟨_, rfl, _, rfl, .inr ⟨u, xs, rfl, hT3, ?_⟩⟩
    refine ⟨by show 2 ≤ sizeLine; decide, fun t nt => ?_⟩
    have D4 := D3.same (same_upd (o := .tup [.ref a, .ref u]) nt)
    have T4 := T3.new (o := .tup [.ref a, .ref u]) nt
    have o4 : upd H3 t (.tup [.ref a, .ref u]) d = _ := (upd_ne (ne_of_none o3 nt)).trans o3
    have t4 := upd_same (H := H3) (a := t) (o := .tup [.ref a, .ref u])
    have K4 : Kp (d :: A.pd :: T.Ps) H (upd H3 t (.tup [.ref a, .ref u])) := K3.new nt
    generalize upd H3 t (.tup [.ref a, .ref u]) = H4 at D4 T4 o4 t4 K4 ⊢
    refine ⟨_, rfl, d, _, _, _, _, rfl, o4, T.cl_Disk, T.na_Disk__pending, rfl, _, rfl, d, _, _, _, _, rfl, o4, T.cl_Disk, T.na_Disk_last, rfl, A.pd, _, rfl, DPut.k (k := Sum.inl (la + 1)) D4.pd (by decide), ?_⟩
    have D5 := D4.pend [(Sum.inl (la + 1), .ref t)]
    have nd : d ≠ A.pd := ne_of o4 D4.pd (by intro z; cases z)
    refine ⟨_, rfl, d, _, _, _, _, rfl, by rw [upd_ne nd]; exact o4, T.cl_Disk, T.na_Disk_last, rfl, ?_⟩
    refine k _ t (T4.upd D4.pd (by intro _ z; cases z)) (K4.own (by simp)) D5 ?_
    rw [upd_ne (ne_of t4 D4.pd (by intro z; cases z))]
    exact t4
end
end K01
namespace K01
open PySem PySem.Spec PyProof.Rows L2 Rg
def putH (q : Plc) (v : V) (hs : List V) : List V := match q with
  | .home i => hs.set i.toNat v
  | .log _ => hs
def putG (q : Plc) (v : V) (gs : List V) : List V := match q with
  | .home _ => gs
  | .log i => gs.set i.toNat v
def zer8 : List V := [.int 0, .int 0, .int 0, .int 0, .int 0, .int 0, .int 0, .int 0]
section
variable {P : Program} {w : World} {K : PySem.W.Frag} {mg : Str → Option Value} {base : Heap}
def sp_sure (CD CP : Addr) (K : PySem.W.Frag) (Ps : List Addr) : Sp := fun vs H Q _ => ∃ (d a u t : Addr) (m : Int) (A : DA) (b n s hd la : Int) (hs gs : List V) (q : Plc), vs = [.ref d, .int m] ∧ DAt CD CP H d A b n s hd la hs gs [(Sum.inl m, .ref t)] ∧ H t = some (.tup [.ref a, .ref u]) ∧ PlcAt K H a q ∧ Rng b s q ∧ Tab Ps H ∧
  ∀ H' : Hp, Tab Ps H' → Kp [A.pd, A.ho, A.lg] H H' → DAt CD CP H' d A b n s hd la (putH q (.ref u) hs) (putG q (.ref u) gs) [] → Q .non H'
theorem ok_sure (T : Tx K mg) : FnOk P w K mg base CX0 2 T.f_Disk_sure T.fd_Disk_sure ["self", "number"] (sp_sure T.C_Disk T.C_Plan K T.Ps) := by
  refine T.F_Disk_sure.ok sc_Disk_sure (fun vs H Q E h => ?_) (fun cdv A outer s H vs Q E hr h => ?_)
  · obtain ⟨_, _, _, _, _, _, _, _, _, _, _, _, _, _, rfl, _⟩ := h; rfl
  · obtain ⟨d, a, u, t, m, A, b, n, sl, hd, la, hs, gs, q, rfl, D, et, hq, rg, ht, k⟩ := h
    refine ⟨_, (pss_cons (ps_if (pt_cmp (pc_dnotin (hu_of hr) (pv 1) (pe_fld (pv 0) rfl)) rfl)
        (pss_one ps_never)
        pss_nil)
      (pss_cons (ps_asg (pe_dpop1 (pe_fld (pv 0) rfl) (pv 1) ⟨rfl, rfl, rfl, rfl⟩) (pg_tup rfl (pgs_cons (pg_name (i := 2) sc_Disk_sure.nd rfl (.inl rfl)) (pgs_cons (pg_name (i := 3) sc_Disk_sure.nd rfl (.inl rfl)) pgs_nil))))
      (pss_one (ps_expr (pe_meth (pv 0) T.cl_Disk T.m_Disk__put (ok_put T) hr (b_Disk__put T) .nil pass0 (pa_cons (pv 2) (pa_cons (pv 3) pa_nil))))))), ?_⟩
    obtain ⟨dx, ho⟩ := D.ob
    have ev : valV [((Sum.inl m : Key), V.ref t)] (Sum.inl m) = some (.ref t) := valV_pos rfl
    have ed : dropK [((Sum.inl m : Key), V.ref t)] (Sum.inl m) = [] := by simp [dropK]
    refine ⟨_, rfl, _, rfl, d, _, _, _, _, rfl, ho, T.cl_Disk, T.na_Disk__pending, rfl, A.pd, some (.ref t), rfl, ?_, _, rfl, iteF ?_⟩
    · rw [← ev]
      exact DGet.k (k := Sum.inl m) D.pd
    refine ⟨_, rfl, d, _, _, _, _, rfl, ho, T.cl_Disk, T.na_Disk__pending, rfl, A.pd, rfl, .inl ⟨_, .inl D.pd⟩, _, rfl, _, Sum.inl m, .ref t, D.pd, rfl, ev, ?_⟩
    rw [ed]
    have D1 := D.pend []
    have nd : d ≠ A.pd := ne_of ho D.pd (by intro z; cases z)
    have nt : t ≠ A.pd := ne_of et D.pd (by intro z; cases z)
    have hq1 : PlcAt K (upd H A.pd (.dK [])) a q := hq.by fun c xs h => by
      rcases h with (e | ⟨o, e⟩) | e
      · exact .inl (.inl (by rw [upd_ne (ne_of e D.pd (by intro z; cases z))]; exact e))
      · exact .inl (.inr ⟨o, by rw [upd_ne (ne_of e D.pd (by intro z; cases z))]; exact e⟩)
      · exact .inr e
    refine ⟨t, _, rfl, .of (by rw [upd_ne nt]; exact et), rfl, _, _, rfl, _, _, rfl, rfl, _, rfl, d, _, _, rfl, by rw [upd_ne nd]; exact ho, rfl, _, rfl, _, rfl, d, a, _, A, b, n, sl, hd, la, hs, gs, [], q, rfl, D1, hq1, ?_⟩
    have T1 : Tab T.Ps (upd H A.pd (.dK [])) := ht.upd D.pd (by intro _ z; cases z)
    cases q with
    | home i =>
      exact ⟨rg.1, rg.2, k _ (T1.upd D1.ho (by intro _ z; cases z)) ((Kp.refl.own (by simp)).own (by simp)) (D1.setH i.toNat (.ref u))⟩
    | log i =>
      exact ⟨rg.1, rg.2, k _ (T1.upd D1.lg (by intro _ z; cases z)) ((Kp.refl.own (by simp)).own (by simp)) (D1.setL i.toNat (.ref u))⟩
def sp_Disk_init (CD CP : Addr) : Sp := fun vs H Q _ => ∃ (d dx p : Addr) (b n s : Int), vs = [.ref d, .ref p] ∧ H d = some (.ins CD dx []) ∧ PlanAt CP H p b n s ∧ p ≠ d ∧
  ∀ (H' : Hp) (A : DA) (ts : List Addr), A.p = p → Kp [d] H H' → H A.ho = none → H A.lg = none → H A.pd = none → DAt CD CP H' d A b n s 0 0 (ts.map V.ref) (List.replicate s.toNat .non) [] → (∀ t ∈ ts, H' t = some (.tup zer8)) → Q .non H'
theorem ok_Disk_init (T : Tx K mg) : FnOk P w K mg base CX0 1 T.f_Disk___init__ T.fd_Disk___init__ ["self", "plan"] (sp_Disk_init T.C_Disk T.C_Plan) := by
  refine T.F_Disk___init__.ok sc_Disk___init__ (fun vs H Q E h => ?_) (fun cdv A outer s H vs Q E hr h => ?_)
  · obtain ⟨_, _, _, _, _, _, rfl, _⟩ := h; rfl
  · obtain ⟨d, dx, p, b, n, sl, rfl, ho, hP, npd, k⟩ := h
    refine ⟨_, (pss_cons (ps_fld (pv 0) (pv 1) rfl)
      (pss_cons (ps_fld (pv 0) (pe_lc rfl (own := [("_", 2)]) (g := gName 2) (tt := tYes) sc_Disk___init__.nd (pi_range1 rfl T.b_range (pa_cons (pe_fld (pv 1) rfl) pa_nil)) (blkOk_by (N := ["self", "plan", "_"]) (sc := defScope s_Disk___init__) (by decide +kernel)) (fun _ _ _ _ _ => pg_name (i := 2) sc_Disk___init__.nd rfl (Or.inl rfl)) (fun _ _ _ _ _ => pts_nil) (fun _ _ _ _ _ => (pe_op (op_repTK (K := K)) (pe_tup (pa_cons pe_int pa_nil)) (pe_cv T.mg_Plan T.cr_Plan T.cv_Plan_WIDTH)))) rfl)
      (pss_cons (ps_fld (pv 0) (pe_lc rfl (own := [("_", 2)]) (g := gName 2) (tt := tYes) sc_Disk___init__.nd (pi_range1 rfl T.b_range (pa_cons (pe_fld (pv 1) rfl) pa_nil)) (blkOk_by (N := ["self", "plan", "_"]) (sc := defScope s_Disk___init__) (by decide +kernel)) (fun _ _ _ _ _ => pg_name (i := 2) sc_Disk___init__.nd rfl (Or.inl rfl)) (fun _ _ _ _ _ => pts_nil) (fun _ _ _ _ _ => pe_non)) rfl)
      (pss_cons (ps_fld (pv 0) pe_int rfl)
      (pss_cons (ps_fld (pv 0) pe_int rfl)
      (pss_one (ps_fld (pv 0) pe_dnewK rfl))))))), ?_⟩
    obtain ⟨px, hpo⟩ := hP.ob
    have hb0 : 8 ≤ b := hP.b1
    have hb1 : b ≤ 64 := hP.b2
    have hs0 : b < sl := hP.s1
    have hs1 : sl ≤ 200 := hP.s2
    refine ⟨_, rfl, _, rfl, d, _, _, _, rfl, ho, T.cl_Disk, T.na_Disk_plan, by show 0 < 1000; decide, ?_⟩
    have o1 := upd_same (H := H) (a := d) (o := .ins T.C_Disk dx [("plan", .ref p)])
    have p1 : upd H d (.ins T.C_Disk dx [("plan", .ref p)]) p = _ := (upd_ne npd).trans hpo
    have k1 : Kp [d] H (upd H d (.ins T.C_Disk dx [("plan", .ref p)])) := Kp.refl.own1
    show tSeq _ _ _ _ (upd H d (.ins T.C_Disk dx [("plan", .ref p)]))
    generalize upd H d (.ins T.C_Disk dx [("plan", .ref p)]) = H1 at o1 p1 k1 ⊢
    -- the home places
    refine ⟨_, rfl, p, _, _, _, _, rfl, p1, T.cl_Plan, T.na_Plan_blocks, rfl, b, rfl, by omega, by omega, fun D nD => ?_⟩
    refine lc_range (lo := 0) (n := b.toNat) (fun i H2 => ∃ ts : List Addr, ts.length = i ∧ H2 D = some (.lst (ts.map V.ref)) ∧ (∀ t ∈ ts, H2 t = some (.tup zer8)) ∧ Same H1 H2) ⟨[], rfl, upd_same, by simp, same_upd nD⟩ ?_ ?_
    · rintro i H2 hi ⟨ts, h1, h2, h3, S2⟩
      refine ⟨rfl, yes_ ⟨by show 1 ≤ sizeLine; decide, fun t0 nt0 => ⟨t0, 8, _, rfl, rfl, .of upd_same, by simp, by decide, by decide, by decide, fun t nt => ?_⟩⟩⟩
      have e0 : (List.replicate (8 : Int).toNat [V.int 0]).flatten = zer8 := by decide
      rw [e0]
      have nDt0 : D ≠ t0 := ne_of_none h2 nt0
      have eD : upd (upd H2 t0 (.tup [.int 0])) t (.tup zer8) D = some (.lst (ts.map V.ref)) := by
        rw [upd_ne (ne_of_none (by rw [upd_ne nDt0]; exact h2) nt), upd_ne nDt0]
        exact h2
      refine ⟨_, eD, ?_, ts ++ [t], by simp [h1], ?_, fun x hx => ?_, fun x o hx => ?_⟩
      · rw [List.length_map, h1]
        exact Nat.lt_of_lt_of_le (show i < 64 by omega) (by decide)
      · rw [upd_same, List.map_append]
        rfl
      · have key : ∀ y, (upd (upd H2 t0 (.tup [.int 0])) t (.tup zer8)) y = some (.tup zer8) → upd (upd (upd H2 t0 (.tup [.int 0])) t (.tup zer8)) D (.lst (ts.map V.ref ++ [.ref t])) y = some (.tup zer8) := fun y ey => by
          rw [upd_ne fun z => by rw [z, eD] at ey; cases ey]
          exact ey
        rcases List.mem_append.mp hx with z | z
        · refine key x ?_
          have ex := h3 x z
          have n1 : x ≠ t0 := ne_of_none ex nt0
          rw [upd_ne (ne_of_none (by rw [upd_ne n1]; exact ex) nt), upd_ne n1]
          exact ex
        · have : x = t := by simpa using z
          exact key x (by rw [this]; exact upd_same)
      · have hx2 := S2 x o hx
        have n1 : x ≠ t0 := ne_of_none hx2 nt0
        rw [upd_ne (ne_of_none hx nD), upd_ne (ne_of_none (by rw [upd_ne n1]; exact hx2) nt), upd_ne n1]
        exact hx2
    rintro H2 ⟨ts, l2, e2, z2, S2⟩
    have o2 := S2 _ _ o1
    have p2 := S2 _ _ p1
    have nDd : D ≠ d := ne_of e2 o2 (by intro z; cases z)
    have zd : ∀ t ∈ ts, t ≠ d := fun t ht => ne_of (z2 t ht) o2 (by intro z; cases z)
    refine ⟨_, rfl, d, _, _, _, rfl, o2, T.cl_Disk, T.na_Disk_home, by show 1 < 1000; decide, ?_⟩
    have o3 := upd_same (H := H2) (a := d) (o := .ins T.C_Disk dx [("plan", .ref p), ("home", .ref D)])
    have p3 : upd H2 d (.ins T.C_Disk dx [("plan", .ref p), ("home", .ref D)]) p = _ := (upd_ne npd).trans p2
    have e3 : upd H2 d (.ins T.C_Disk dx [("plan", .ref p), ("home", .ref D)]) D = _ := (upd_ne nDd).trans e2
    have z3 : ∀ t ∈ ts, upd H2 d (.ins T.C_Disk dx [("plan", .ref p), ("home", .ref D)]) t = some (.tup zer8) := fun t ht => (upd_ne (zd t ht)).trans (z2 t ht)
    have k3 : Kp [d] H (upd H2 d (.ins T.C_Disk dx [("plan", .ref p), ("home", .ref D)])) := (k1.same S2).own1
    show tSeq _ _ _ _ (upd H2 d (.ins T.C_Disk dx [("plan", .ref p), ("home", .ref D)]))
    generalize upd H2 d (.ins T.C_Disk dx [("plan", .ref p), ("home", .ref D)]) = H3 at o3 p3 e3 z3 k3 ⊢
    -- the log
    refine ⟨_, rfl, p, _, _, _, _, rfl, p3, T.cl_Plan, T.na_Plan_slots, rfl, sl, rfl, by omega, by omega, fun G nG => ?_⟩
    refine lc_range (lo := 0) (n := sl.toNat) (fun i H4 => H4 = upd H3 G (.lst (List.replicate i .non))) rfl ?_ ?_
    · rintro i H4 hi rfl
      refine ⟨rfl, yes_ ⟨_, upd_same, ?_, ?_⟩⟩
      · rw [List.length_replicate]
        exact Nat.lt_of_lt_of_le (show i < 200 by omega) (by decide)
      · rw [upd_upd, List.replicate_succ']
    rintro H4 e4
    have S4 : Same H3 H4 := by rw [e4]; exact same_upd nG
    have g4 : H4 G = some (.lst (List.replicate sl.toNat .non)) := by rw [e4]; exact upd_same
    have o4 := S4 _ _ o3
    have p4 := S4 _ _ p3
    have d4 := S4 _ _ e3
    have nGd : G ≠ d := ne_of g4 o4 (by intro z; cases z)
    have nDG : D ≠ G := ne_of_none e3 nG
    refine ⟨_, rfl, d, _, _, _, rfl, o4, T.cl_Disk, T.na_Disk_log, by show 2 < 1000; decide, ?_⟩
    refine ⟨_, rfl, d, _, _, _, rfl, upd_same, T.cl_Disk, T.na_Disk_head, by show 3 < 1000; decide, ?_⟩
    refine ⟨_, rfl, d, _, _, _, rfl, upd_same, T.cl_Disk, T.na_Disk_last, by show 4 < 1000; decide, fun pd npd2 => ?_⟩
    rw [upd_upd, upd_upd] at npd2 ⊢
    have nPd : pd ≠ d := fun z => by rw [z, upd_same] at npd2; cases npd2
    have npd3 : H4 pd = none := by rw [upd_ne nPd] at npd2; exact npd2
    refine ⟨_, rfl, d, _, _, _, rfl, by rw [upd_ne nPd.symm]; exact upd_same, T.cl_Disk, T.na_Disk__pending, by show 5 < 1000; decide, ?_⟩
    rw [upd_comm nPd.symm, upd_upd]
    refine k _ ⟨p, D, G, pd⟩ ts rfl ?_ (k1.free (by simpa using nDd) nD) (k3.free (by simpa using nGd) nG) ((k3.same S4).free (by simpa using nPd) npd3) ⟨⟨dx, upd_same⟩, hP.of fun o e => ?_, ?_, ?_, ?_, npd, nDG, ?_, ?_⟩ fun t ht => ?_
    · exact (((k3.same S4).new npd3).own1 (p := d))
    · rw [hpo] at e
      cases e
      rw [upd_ne npd, upd_ne (ne_of_none p4 npd3)]
      exact p4
    · show upd _ d _ D = _
      rw [upd_ne nDd, upd_ne (ne_of_none d4 npd3)]
      exact d4
    · show upd _ d _ G = _
      rw [upd_ne nGd, upd_ne (ne_of_none g4 npd3)]
      exact g4
    · show upd _ d _ pd = _
      rw [upd_ne nPd, upd_same]
    · rw [List.length_map, l2]
      omega
    · rw [List.length_replicate]
      omega
    · have := S4 _ _ (z3 t ht)
      rw [upd_ne (zd t ht), upd_ne (ne_of_none this npd3)]
      exact this
end
end K01
namespace K01
open PySem PySem.Spec PyProof.Rows L2 Rg
/-- a comprehension that keeps some of l, i looked at -/
def PvG {α : Type} (f : α → V) (H0 : Hp) (D : Addr) (l : List α) (p : α → Bool) (i : Nat) (H' : Hp) : Prop := Same H0 H' ∧ H' D = some (.lst (((l.take i).filter p).map f))
theorem PvG.start {α : Type} {f : α → V} {H0 : Hp} {D : Addr} {l : List α} {p : α → Bool} (h : H0 D = none) : PvG f H0 D l p 0 (upd H0 D (.lst [])) := ⟨same_upd h, upd_same⟩
theorem take_getG {α : Type} {l : List α} {i : Nat} {x : α} (h : l[i]? = some x) : l.take (i + 1) = l.take i ++ [x] := by
  rw [List.take_add_one, h]
  rfl
theorem PvG.yes {α : Type} {f : α → V} {H0 H' H2 : Hp} {D : Addr} {l : List α} {p : α → Bool} {i : Nat} {x : α} (h : PvG f H0 D l p i H') (hD : H0 D = none) (S : Same H' H2) (hx : l[i]? = some x) (hl : l.length < 1000) (hp : p x = true) :
    ∃ acc, H2 D = some (.lst acc) ∧ acc.length < sizeLine ∧ PvG f H0 D l p (i + 1) (upd H2 D (.lst (acc ++ [f x]))) := by
  refine ⟨_, S _ _ h.2, ?_, fun a o z => ?_, ?_⟩
  · rw [List.length_map]
    have h1 := List.length_filter_le p (l.take i)
    have h2 := List.length_take_le i l
    have hi := (List.getElem?_eq_some_iff.mp hx).1
    exact lt_line (by omega)
  · rw [upd_ne (ne_of_none z hD)]
    exact S _ _ (h.1 _ _ z)
  · rw [upd_same, take_getG hx, List.filter_append, List.map_append, List.filter_cons, if_pos hp]
    rfl
theorem PvG.no {α : Type} {f : α → V} {H0 H' H2 : Hp} {D : Addr} {l : List α} {p : α → Bool} {i : Nat} {x : α} (h : PvG f H0 D l p i H') (S : Same H' H2) (hx : l[i]? = some x) (hp : p x = false) : PvG f H0 D l p (i + 1) H2 := by
  refine ⟨h.1.trans S, ?_⟩
  rw [take_getG hx, List.filter_append, List.filter_cons, if_neg (by rw [hp]; decide), List.filter_nil, List.append_nil]
  exact S _ _ h.2
theorem PvG.all {α : Type} {f : α → V} {H0 H' : Hp} {D : Addr} {l : List α} {p : α → Bool} {n : Nat} (h : PvG f H0 D l p n H') (e : n = l.length) : Same H0 H' ∧ H' D = some (.lst ((l.filter p).map f)) := by
  subst e
  have := h.2
  rw [List.take_length] at this
  exact ⟨h.1, this⟩
end K01
namespace K01
open PySem PySem.Spec PyProof.Rows L2 Rg
/-! ### walks over a dict's values, a set of whole numbers -/
theorem lc_vals {d : Addr} {od : Obj} {kvs : List (Key × V)} {g : TG} {tt : TT} {te : TE} {vs : List Nat} {σ : L2.St} {H1 : Hp} {D : Addr} {Qd : Hp → Prop} (Pv : Nat → Hp → Prop) (h0 : Pv 0 (upd H1 D (.lst []))) (hl : ∀ i H, i ≤ kvs.length → Pv i H → H d = some (.frz od (.dK kvs)))
    (hs : ∀ i k x H, kvs[i]? = some (k, x) → Pv i H → g x (wipe σ vs) H fun σ2 H2 => wipe σ2 vs = wipe σ vs ∧ tt σ2 H2 fun b H3 =>
      if b = true then te σ2 H3 fun y H4 => ∃ acc, H4 D = some (.lst acc) ∧ acc.length < sizeLine ∧ Pv (i + 1) (upd H4 D (.lst (acc ++ [y]))) else Pv (i + 1) H3) (hd : ∀ H, Pv kvs.length H → Qd H) :
    ∃ W : Nat → Nat → Hp → Prop, (∃ m, W 0 m (upd H1 D (.lst []))) ∧ ∀ i m H, W i m H →
      ((Itd d od kvs).stop i H ∧ Qd H) ∨ ((Itd d od kvs).go i H ∧ ∃ Nx : Hp → Prop, (∀ H', Nx H' → ∃ m', m' < m ∧ W (i + 1) m' H') ∧ ∀ x H', (Itd d od kvs).yld i H x H' → g x (wipe σ vs) H' fun σ2 H2 => wipe σ2 vs = wipe σ vs ∧ tt σ2 H2 fun b H3 =>
        if b = true then te σ2 H3 fun y H4 => ∃ acc, H4 D = some (.lst acc) ∧ acc.length < sizeLine ∧ Nx (upd H4 D (.lst (acc ++ [y]))) else Nx H3) := by
  refine ⟨fun i m H => m = kvs.length - i ∧ i ≤ kvs.length ∧ Pv i H, ⟨kvs.length, by simp, Nat.zero_le _, h0⟩, ?_⟩
  rintro i m H ⟨rfl, hi, p⟩
  have q := hl i H hi p
  by_cases hlt : i < kvs.length
  · refine .inr ⟨⟨q, hlt⟩, Pv (i + 1), fun H' p' => ⟨kvs.length - (i + 1), by omega, rfl, hlt, p'⟩, fun x H' y => ?_⟩
    obtain ⟨e, k, ek⟩ := y
    subst e
    exact hs i k x _ ek p
  · have e : i = kvs.length := by omega
    subst e
    exact .inl ⟨⟨q, Nat.le_refl _⟩, hd H p⟩
theorem sc_listI {w : World} {K : PySem.W.Frag} {a : Addr} {xs : List V} {g : TG} {tt : TT} {te : TE} {vs : List Nat} {σ : L2.St} {H1 : Hp} {D : Addr} {Qd : Hp → Prop} (Pv : Nat → Hp → Prop) (h0 : Pv 0 (upd H1 D (SetO w D (fun _ => false) 0))) (hl : ∀ i H, i ≤ xs.length → Pv i H → SqL K H a xs)
    (hs : ∀ i x H, xs[i]? = some x → Pv i H → g x (wipe σ vs) H fun σ2 H2 => wipe σ2 vs = wipe σ vs ∧ tt σ2 H2 fun b H3 =>
      if b = true then te σ2 H3 fun y H4 => ∃ (c : Int) (S : Int → Bool) (n : Nat), y = .int c ∧ H4 D = some (SetO w D S n) ∧ n + 1 < scanBound ∧ Pv (i + 1) (upd H4 D (SetO w D (fun j => S j || decide (j = c)) (if S c = true then n else n + 1))) else Pv (i + 1) H3) (hd : ∀ H, Pv xs.length H → Qd H) :
    ∃ W : Nat → Nat → Hp → Prop, (∃ m, W 0 m (upd H1 D (SetO w D (fun _ => false) 0))) ∧ ∀ i m H, W i m H →
      ((Itl K a).stop i H ∧ Qd H) ∨ ((Itl K a).go i H ∧ ∃ Nx : Hp → Prop, (∀ H', Nx H' → ∃ m', m' < m ∧ W (i + 1) m' H') ∧ ∀ x H', (Itl K a).yld i H x H' → g x (wipe σ vs) H' fun σ2 H2 => wipe σ2 vs = wipe σ vs ∧ tt σ2 H2 fun b H3 =>
        if b = true then te σ2 H3 fun y H4 => ∃ (c : Int) (S : Int → Bool) (n : Nat), y = .int c ∧ H4 D = some (SetO w D S n) ∧ n + 1 < scanBound ∧ Nx (upd H4 D (SetO w D (fun j => S j || decide (j = c)) (if S c = true then n else n + 1))) else Nx H3) := by
  refine ⟨fun i m H => m = xs.length - i ∧ i ≤ xs.length ∧ Pv i H, ⟨xs.length, by simp, Nat.zero_le _, h0⟩, ?_⟩
  rintro i m H ⟨rfl, hi, p⟩
  have q := hl i H hi p
  by_cases hlt : i < xs.length
  · refine .inr ⟨⟨xs, xs[i], q, by simp [hlt]⟩, Pv (i + 1), fun H' p' => ⟨xs.length - (i + 1), by omega, rfl, hlt, p'⟩, fun x H' y => ?_⟩
    obtain ⟨e, y⟩ := y
    subst e
    exact hs i x _ (y xs q) p
  · have e : i = xs.length := by omega
    subst e
    exact .inl ⟨⟨xs, q, Nat.le_refl _⟩, hd H p⟩
/-- the set that a comprehension over l gathers, i looked at -/
def PvZ (w : World) (H0 : Hp) (D : Addr) (l : List Int) (p : Int → Bool) (i : Nat) (H' : Hp) : Prop := Same H0 H' ∧ ∃ (S : Int → Bool) (n : Nat), H' D = some (SetO w D S n) ∧ (∀ k, S k = true ↔ k ∈ (l.take i).filter p) ∧ n ≤ i
theorem PvZ.start {w : World} {H0 : Hp} {D : Addr} {l : List Int} {p : Int → Bool} (h : H0 D = none) : PvZ w H0 D l p 0 (upd H0 D (SetO w D (fun _ => false) 0)) := ⟨same_upd h, _, 0, upd_same, by simp, Nat.le_refl _⟩
theorem PvZ.yes {w : World} {H0 H' : Hp} {D : Addr} {l : List Int} {p : Int → Bool} {i : Nat} {x : Int} (h : PvZ w H0 D l p i H') (hD : H0 D = none) (hx : l[i]? = some x) (hl : l.length < 1000) (hp : p x = true) :
    ∃ (c : Int) (S : Int → Bool) (n : Nat), V.int x = .int c ∧ H' D = some (SetO w D S n) ∧ n + 1 < scanBound ∧ PvZ w H0 D l p (i + 1) (upd H' D (SetO w D (fun j => S j || decide (j = c)) (if S c = true then n else n + 1))) := by
  obtain ⟨s, S, n, e, hS, hn⟩ := h
  have hi := (List.getElem?_eq_some_iff.mp hx).1
  refine ⟨x, S, n, rfl, e, by unfold scanBound; omega, fun a o z => ?_, _, _, upd_same, fun k => ?_, ?_⟩
  · rw [upd_ne (ne_of_none z hD)]
    exact s _ _ z
  · rw [take_getG hx, List.filter_append, List.mem_append, ← hS k, List.filter_cons, if_pos hp]
    simp
  · split <;> omega
theorem PvZ.no {w : World} {H0 H' : Hp} {D : Addr} {l : List Int} {p : Int → Bool} {i : Nat} {x : Int} (h : PvZ w H0 D l p i H') (hx : l[i]? = some x) (hp : p x = false) : PvZ w H0 D l p (i + 1) H' := by
  obtain ⟨s, S, n, e, hS, hn⟩ := h
  refine ⟨s, S, n, e, fun k => ?_, by omega⟩
  rw [take_getG hx, List.filter_append, List.filter_cons, if_neg (by rw [hp]; decide), List.filter_nil, List.append_nil]
  exact hS k
/-- two lists that rise are one, if they hold the same -/
theorem asc_ext : ∀ {a b : List Int}, a.Pairwise (· < ·) → b.Pairwise (· < ·) → (∀ k, k ∈ a ↔ k ∈ b) → a = b
  | [], [], _, _, _ => rfl
  | [], y :: b, _, _, h => by have := (h y).mpr (by simp); cases this
  | x :: a, [], _, _, h => by have := (h x).mp (by simp); cases this
  | x :: a, y :: b, ha, hb, h => by
    obtain ⟨a1, a2⟩ := List.pairwise_cons.mp ha
    obtain ⟨b1, b2⟩ := List.pairwise_cons.mp hb
    have exy : x = y := by
      have p1 : x ∈ y :: b := (h x).mp (by simp)
      have p2 : y ∈ x :: a := (h y).mpr (by simp)
      rcases List.mem_cons.mp p1 with q | q
      · exact q
      · rcases List.mem_cons.mp p2 with r | r
        · exact r.symm
        · have := a1 y r
          have := b1 x q
          omega
    subst exy
    rw [asc_ext a2 b2 fun k => ?_]
    constructor
    · intro z
      rcases List.mem_cons.mp ((h k).mp (by simp [z])) with q | q
      · have := a1 k z; omega
      · exact q
    · intro z
      rcases List.mem_cons.mp ((h k).mpr (by simp [z])) with q | q
      · have := b1 k z; omega
      · exact q
end K01
namespace K01
open PySem PySem.Spec PyProof.Rows L2 Rg
/-! ### disks with several pending writes -/
instance : DecidableEq Plc := fun a b => match a, b with
  | .home i, .home j => if h : i = j then isTrue (by rw [h]) else isFalse fun e => h (by injection e)
  | .log i, .log j => if h : i = j then isTrue (by rw [h]) else isFalse fun e => h (by injection e)
  | .home _, .log _ => isFalse fun e => by cases e
  | .log _, .home _ => isFalse fun e => by cases e
/-- what a write has: cells or a record -/
inductive Ct where
  | cells (c : List Int) | rcd (r : Rec)
def CtAt (K : PySem.W.Frag) (H : Hp) (a : Addr) : Ct → Prop
  | .cells c => SqT K H a (c.map V.int)
  | .rcd r => RecAt K H a r
def CtFit (b s : Int) : Plc → Ct → Prop
  | .home i, .cells c => 0 ≤ i ∧ i ≤ b - 1 ∧ Cells c
  | .log i, .rcd r => 0 ≤ i ∧ i ≤ s - 1 ∧ Fit b s r
  | _, _ => False
/-- handed in: cells as a list, too -/
def CtIn (K : PySem.W.Frag) (H : Hp) (a : Addr) (w : Ct) : Prop := CtAt K H a w ∨ ∃ c, w = .cells c ∧ H a = some (.lst (c.map V.int))
theorem CtAt.by {K : PySem.W.Frag} {H H1 : Hp} {a : Addr} {w : Ct} (h : CtAt K H a w) (f : ∀ b xs, SqT K H b xs → SqT K H1 b xs) : CtAt K H1 a w := by
  cases w with
  | cells c => exact f _ _ h
  | rcd r => exact RecAt.by h f
theorem CtAt.tup {K : PySem.W.Frag} {H : Hp} {a : Addr} {w : Ct} (h : CtAt K H a w) : ∃ xs, SqT K H a xs := by
  cases w with
  | cells c => exact ⟨_, h⟩
  | rcd r =>
    cases r with
    | copy l x c => obtain ⟨pc, e, _⟩ := h; exact ⟨_, e⟩
    | mark l ps rs => obtain ⟨pp, pr, e, _⟩ := h; exact ⟨_, e⟩
theorem CtAt.what {K : PySem.W.Frag} {H : Hp} {a : Addr} {w : Ct} {b s : Int} {q : Plc} (h : CtAt K H a w) (f : CtFit b s q w) : WhatAt K H a b s q := by
  cases q with
  | home i =>
    cases w with
    | cells c => exact ⟨f.1, f.2.1, c, h, f.2.2⟩
    | rcd r => exact f.elim
  | log i =>
    cases w with
    | cells c => exact f.elim
    | rcd r => exact ⟨f.1, f.2.1, r, h, f.2.2⟩
theorem CtFit.rng {b s : Int} {q : Plc} {w : Ct} (f : CtFit b s q w) : Rng b s q := by
  cases q with
  | home i =>
    cases w with
    | cells c => exact ⟨f.1, f.2.1⟩
    | rcd r => exact f.elim
  | log i =>
    cases w with
    | cells c => exact f.elim
    | rcd r => exact ⟨f.1, f.2.1⟩
/-- a pending write: its number, its tuple, its place's tuple, its content, its place, what it has -/
structure Pw where
  (m : Int) (t a u : Addr) (q : Plc) (w : Ct)
def pwK (ps : List Pw) : List (Key × V) := ps.map fun p => (Sum.inl p.m, .ref p.t)
structure PwAt (K : PySem.W.Frag) (H : Hp) (b s : Int) (p : Pw) : Prop where
  t : H p.t = some (.tup [.ref p.a, .ref p.u])
  a : PlcAt K H p.a p.q
  u : CtAt K H p.u p.w
  f : CtFit b s p.q p.w
def PwsAt (K : PySem.W.Frag) (H : Hp) (b s : Int) (ps : List Pw) : Prop := ∀ p ∈ ps, PwAt K H b s p
theorem PwsAt.by {K : PySem.W.Frag} {H H1 : Hp} {b s : Int} {ps : List Pw} (h : PwsAt K H b s ps) (f : ∀ b xs, SqT K H b xs → SqT K H1 b xs) (g : ∀ a xs, H a = some (.tup xs) → H1 a = some (.tup xs)) : PwsAt K H1 b s ps := fun p hp =>
  ⟨g _ _ (h p hp).t, (h p hp).a.by f, (h p hp).u.by f, (h p hp).f⟩
/-- the numbers of pending writes, the places -/
structure PwOk (la : Int) (ps : List Pw) : Prop where
  n : (ps.map (·.m)).Nodup
  le : ∀ p ∈ ps, p.m ≤ la
  q : (ps.map (·.q)).Nodup
theorem dropK_no {κ : Type} [DecidableEq κ] : ∀ (kvs : List (κ × V)) (k : κ), (∀ p ∈ kvs, p.1 ≠ k) → dropK kvs k = kvs := fun kvs k h => by
  unfold dropK
  rw [List.filter_eq_self]
  intro p hp
  simp [h p hp]
def pwOut (m : Int) (ps : List Pw) : List Pw := ps.filter fun p => !decide (p.m = m)
theorem pwK_drop (m : Int) (ps : List Pw) : dropK (pwK ps) (Sum.inl m) = pwK (pwOut m ps) := by
  unfold dropK pwK pwOut
  rw [List.filter_map]
  congr 1
  refine List.filter_congr fun p _ => ?_
  show decide ((Sum.inl p.m : Key) ≠ Sum.inl m) = !decide (p.m = m)
  by_cases e : p.m = m
  · rw [e]; simp
  · simp [e]
theorem pwK_get : ∀ {ps : List Pw}, (ps.map (·.m)).Nodup → ∀ {p : Pw}, p ∈ ps → valV (pwK ps) (Sum.inl p.m) = some (.ref p.t)
  | [], _, p, hp => by cases hp
  | a :: ps, hn, p, hp => by
    rw [List.map_cons, List.nodup_cons] at hn
    rcases List.mem_cons.mp hp with rfl | hp
    · exact valV_pos rfl
    · have ne : ¬ a.m = p.m := fun z => hn.1 (by rw [z]; exact List.mem_map.mpr ⟨p, hp, rfl⟩)
      exact (valV_neg fun z => ne (Sum.inl.inj z)).trans (pwK_get hn.2 hp)
theorem pwK_none : ∀ {ps : List Pw} {m : Int}, (∀ p ∈ ps, p.m ≠ m) → valV (pwK ps) (Sum.inl m) = none
  | [], _, _ => rfl
  | a :: ps, m, h => (valV_neg fun z => h a (by simp) (Sum.inl.inj z)).trans (pwK_none fun p hp => h p (by simp [hp]))
section
variable {P : Program} {w : World} {K : PySem.W.Frag} {mg : Str → Option Value} {base : Heap}
def sp_is_cell_rowL (K : PySem.W.Frag) (Ps : List Addr) : Sp := fun vs H Q _ => ∃ (a : Addr) (c : List Int), vs = [.ref a] ∧ H a = some (.lst (c.map V.int)) ∧ Cells c ∧ Tab Ps H ∧ ∀ H', Tk Ps H H' → Q (.bl true) H'
theorem ok_is_cell_rowL (T : Tx K mg) (B : TBs T base) : FnOk P w K mg base CX0 6 T.f_is_cell_row T.fd_is_cell_row ["value"] (sp_is_cell_rowL K T.Ps) := by
  refine fun_okC T.F_is_cell_row T.code_is_cell_row sc_is_cell_row (fun vs H Q E h => ?_) (fun A outer s H vs Q E hr h => ?_)
  · obtain ⟨_, _, rfl, _⟩ := h; rfl
  · obtain ⟨a, c, rfl, hS, hc, ht, k⟩ := h
    refine ⟨_, (pss_one (ps_ret (pe_and (pe_callB call_isiT rfl T.b_isinstance (by decide +kernel) (pa_cons (pv 0) (pa_cons (pe_tup (pa_cons (pe_bltn (v := .ty "list") rfl T.b_list (by decide +kernel) rfl) (pa_cons (pe_bltn (v := .ty "tuple") rfl T.b_tuple (by decide +kernel) rfl) pa_nil))) pa_nil))) (pe_and (pe_cmpR op_eq (pe_callB call_len_seq rfl T.b_len (by decide +kernel) (pa_cons (pv 0) pa_nil)) (pe_cv T.mg_Plan T.cr_Plan T.cv_Plan_WIDTH) (nomark _)) (pe_one (GxL.pe_allG (k := 2) (own := [("cell", 1)]) (g := gName 1) (tt := tYes) hr rfl T.b_all B.t_is_cell_row rfl (GxL.gsc_by (by decide +kernel)) (blkOk_by (N := ["value", "cell"]) (sc := defScope s_is_cell_row) (by decide +kernel)) sc_is_cell_row.nd (pi_list (pv 0)) (fun _ _ _ _ _ => pg_name (i := 1) sc_is_cell_row.nd rfl (Or.inl rfl)) (fun _ _ _ _ _ _ => pts_nil) (fun _ _ _ _ _ hr2 => pe_call (ok_is_cell T) hr2 rfl T.mg_is_cell T.F_is_cell.kp (b_is_cell T) .nil pass0 (pa_cons (pv 1) pa_nil)))))))), ?_⟩
    refine ⟨_, rfl, (by show 2 ≤ sizeLine; decide), fun t nt => ?_⟩
    have st := same_upd (o := .tup [.ty "list", .ty "tuple"]) nt
    have e0 := upd_same (H := H) (a := t) (o := .tup [.ty "list", .ty "tuple"])
    have t0 := Tk.of ht st
    generalize upd H t (.tup [.ty "list", .ty "tuple"]) = H1 at st e0 t0 ⊢
    have hS1 := st _ _ hS
    refine ⟨_, t, _, _, _, true, rfl, e0, .cons (.ty _) (.cons (.ty _) .nil), .base (.lst hS1), kitAny_cons (b := true) (kit_ty (by decide +kernel)) (fun z => by cases z) (fun _ => rfl), _, rfl, iteT ?_⟩
    refine ⟨_, rfl, a, _, rfl, .inl (.of hS1), rfl, _, rfl, ?_⟩
    rw [List.length_map, hc.len, dec_iv, decide_eq_true (by decide)]
    refine iteT ⟨_, rfl, a, rfl, ⟨_, .of hS1⟩, t0.tab _ T.in_is_cell_row, fun H2 hT => gx_list (K := K) (a := a) (xs := c.map V.int) (fun i H3 => Tk T.Ps H1 H3) (Tk.tabbed t0.tab T.in_is_cell_row hT) (fun i H3 _ kk => .of (kk.at t0.tab hS1)) (fun i y H3 hi kk => ?_) fun H3 kk => k H3 (t0.trans kk)⟩
    rw [List.getElem?_map] at hi
    obtain ⟨x, hx, rfl⟩ := Option.map_eq_some_iff.mp hi
    have hb := hc.ok x (List.mem_of_getElem? hx)
    refine ⟨rfl, yes_ ⟨_, rfl, x, rfl, _, rfl, ?_⟩⟩
    rw [decide_eq_true (show 0 ≤ x ∧ x ≤ 999999999 from hb), if_pos rfl]
    exact kk
def sp_is_contentI (K : PySem.W.Frag) (CP : Addr) (Ps : List Addr) : Sp := fun vs H Q _ => ∃ (p a u : Addr) (b n s : Int) (q : Plc) (w : Ct), vs = [.ref p, .ref a, .ref u] ∧ PlcAt K H a q ∧ CtIn K H u w ∧ CtFit b s q w ∧ PlanAt CP H p b n s ∧ Tab Ps H ∧ ∀ H', Tk Ps H H' → Q (.bl true) H'
theorem ok_is_contentI (T : Tx K mg) (B : TBs T base) : FnOk P w K mg base CX0 9 T.f_is_content T.fd_is_content ["plan", "place", "what"] (sp_is_contentI K T.C_Plan T.Ps) := by
  refine T.F_is_content.ok sc_is_content (fun vs H Q E h => ?_) (fun cdv A outer s H vs Q E hr h => ?_)
  · obtain ⟨_, _, _, _, _, _, _, _, rfl, _⟩ := h; rfl
  · obtain ⟨p, a, u, b, n, sl, q, w, rfl, hq, hw, hf, hP, ht, k⟩ := h
    have hr6 := hr.mono (show 6 ≤ 8 by decide)
    have hr4 := hr.mono (show 4 ≤ 8 by decide)
    rcases hw with hw | ⟨c, rfl, hw⟩
    · refine ⟨_, (pss_cons (ps_if (pt_cmpR op_eq (pe_ix ix_tup (pv 1) pe_int (fun _ _ => rfl)) pe_str (nomark _))
          (pss_one (ps_ret (pe_call (ok_is_cell_row T B) hr6 rfl T.mg_is_cell_row T.F_is_cell_row.kp (b_is_cell_row T) .nil pass0 (pa_cons (pv 2) pa_nil))))
          pss_nil)
        (pss_one (ps_ret (pe_and (pe_call (ok_is_record T B b sl) hr rfl T.mg_is_record T.F_is_record.kp (b_is_record T) .nil pass0 (pa_cons (pv 2) pa_nil)) (pe_one (pe_call (ok_fits_plan T B) hr4 rfl T.mg_fits_plan T.F_fits_plan.kp (b_fits_plan T) .nil pass0 (pa_cons (pv 2) (pa_cons (pv 0) pa_nil)))))))), ?_⟩
      have hw := hw.what hf
      cases q with
      | home i =>
        have hq : SqT K H a [.str "home", .int i] := hq
        obtain ⟨h1, h2, c, h3, h4⟩ := hw
        refine ⟨_, rfl, a, _, 0, .str "home", rfl, rfl, hq, rfl, rfl, _, rfl, iteT ?_⟩
        exact ⟨_, rfl, u, c, rfl, h3, h4, ht, k⟩
      | log i =>
        have hq : SqT K H a [.str "log", .int i] := hq
        obtain ⟨h1, h2, r, h3, h4⟩ := hw
        refine ⟨_, rfl, a, _, 0, .str "log", rfl, rfl, hq, rfl, rfl, _, rfl, iteF ?_⟩
        refine ⟨_, rfl, u, r, rfl, h3, h4, ht, fun H1 k1 => ⟨_, rfl, iteT ?_⟩⟩
        exact ⟨_, rfl, _, rfl, u, p, b, n, sl, r, rfl, h3.tk ht k1, h4, hP.tk ht k1, k1.tab, fun H2 k2 => k H2 (k1.trans k2)⟩
    · refine ⟨_, (pss_cons (ps_if (pt_cmpR op_eq (pe_ix ix_tup (pv 1) pe_int (fun _ _ => rfl)) pe_str (nomark _))
          (pss_one (ps_ret (pe_call (ok_is_cell_rowL T B) hr6 rfl T.mg_is_cell_row T.F_is_cell_row.kp (b_is_cell_row T) .nil pass0 (pa_cons (pv 2) pa_nil))))
          pss_nil)
        (pss_one (ps_ret (pe_and (pe_call (ok_is_record T B b sl) hr rfl T.mg_is_record T.F_is_record.kp (b_is_record T) .nil pass0 (pa_cons (pv 2) pa_nil)) (pe_one (pe_call (ok_fits_plan T B) hr4 rfl T.mg_fits_plan T.F_fits_plan.kp (b_fits_plan T) .nil pass0 (pa_cons (pv 2) (pa_cons (pv 0) pa_nil)))))))), ?_⟩
      cases q with
      | home i =>
        have hq : SqT K H a [.str "home", .int i] := hq
        refine ⟨_, rfl, a, _, 0, .str "home", rfl, rfl, hq, rfl, rfl, _, rfl, iteT ?_⟩
        exact ⟨_, rfl, u, c, rfl, hw, hf.2.2, ht, k⟩
      | log i => exact hf.elim
end
end K01
namespace K01
open PySem PySem.Spec PyProof.Rows L2 Rg
def dPlc : Plc → PyData
  | .home i => .tuple [.str "home", .int i]
  | .log i => .tuple [.str "log", .int i]
theorem dpPlc {K : PySem.W.Frag} {H : Hp} {a : Addr} {q : Plc} (h : PlcAt K H a q) : Dp K H (.ref a) (dPlc q) := by
  cases q with
  | home i => exact .tup h (.cons (.str _) (.cons (.int _) .nil))
  | log i => exact .tup h (.cons (.str _) (.cons (.int _) .nil))
theorem sh2 {z : Str} (hz : PyData.canLay0 (.str z) = true) (a : Int) : SeqAt.shaped (.tuple [.str z, .int a]) = true := by
  unfold SeqAt.shaped
  rw [Bool.and_eq_true]
  exact ⟨by show (PyData.canLay0 (.str z) && true) = true; rw [hz]; rfl, rfl⟩
theorem shPlc (q : Plc) : SeqAt.shaped (dPlc q) = true := by
  cases q with
  | home i => exact sh2 (by decide +kernel) i
  | log i => exact sh2 (by decide +kernel) i
theorem eqPlc (q r : Plc) : PyData.eqv (dPlc q) (dPlc r) = decide (q = r) := by
  have hl : ("home" : Str) ≠ "log" := by decide +kernel
  cases q with
  | home i =>
    cases r with
    | home j => simp [dPlc, PyData.eqv, PyData.eqvAll]; rfl
    | log j => simp [dPlc, PyData.eqv, PyData.eqvAll, hl]
  | log i =>
    cases r with
    | home j => simp [dPlc, PyData.eqv, PyData.eqvAll, hl.symm]
    | log j => simp [dPlc, PyData.eqv, PyData.eqvAll]; rfl
def taken (q : Plc) (ps : List Pw) : Bool := ps.any fun p => decide (p.q = q)
section
variable {K : PySem.W.Frag}
theorem op_eqDK {X : Cx} (hu : X.A.units + 64 < cLine) (hK : X.K = K := by rfl) : OpR X (compareOp .Eq) (rEqD K) := by
  subst hK
  exact op_eqD hu
end
section
variable {P : Program} {w : World} {K : PySem.W.Frag} {mg : Str → Option Value} {base : Heap}
def sp_busyG (CD CP : Addr) (K : PySem.W.Frag) (Ps : List Addr) : Sp := fun vs H Q _ => ∃ (d a : Addr) (A : DA) (b n s hd la : Int) (hs gs : List V) (ps : List Pw) (q : Plc), vs = [.ref d, .ref a] ∧ DAt CD CP H d A b n s hd la hs gs (pwK ps) ∧ PwsAt K H b s ps ∧ PlcAt K H a q ∧ Tab Ps H ∧ ∀ H', Tk Ps H H' → Q (.bl (taken q ps)) H'
theorem ok_busyG (T : Tx K mg) (B : TBs T base) : FnOk P w K mg base CX0 4 T.f_Disk_busy T.fd_Disk_busy ["self", "place"] (sp_busyG T.C_Disk T.C_Plan K T.Ps) := by
  refine fun_okC T.F_Disk_busy T.code_Disk_busy sc_Disk_busy (fun vs H Q E h => ?_) (fun A outer s H vs Q E hr h => ?_)
  · obtain ⟨_, _, _, _, _, _, _, _, _, _, _, _, rfl, _⟩ := h; rfl
  · obtain ⟨d, a, A, b, n, sl, hd, la, hs, gs, ps, q, rfl, D, hps, hq, ht, k⟩ := h
    refine ⟨_, (pss_one (ps_ret (pe_lock (GxL.pe_anyG (k := 0) (own := [("taken", 2), ("_", 3)]) (g := _) (tt := tYes) hr rfl T.b_any B.t_Disk_busy rfl (GxL.gsc_by (by decide +kernel)) (blkOk_by (N := ["self", "place", "taken", "_"]) (sc := defScope s_Disk_busy) (by decide +kernel)) sc_Disk_busy.nd (pi_values (pe_fld (pv 0) rfl))
      (fun _ _ _ _ _ => pg_tupK (K := K) (n := 2) rfl (pgs_cons (pg_name (i := 2) sc_Disk_busy.nd rfl (.inl rfl)) (pgs_cons (pg_name (i := 3) sc_Disk_busy.nd rfl (.inl rfl)) pgs_nil))) (fun _ _ _ _ _ _ => pts_nil) (fun _ _ _ _ _ hr2 => pe_cmpR (op_eqDK (K := K) hr2.units) (pv 1) (pv 2) (nomark _)))))), ?_⟩
    obtain ⟨dx, ho⟩ := D.ob
    have n1 : d ≠ A.pd := ne_of ho D.pd (by intro q; cases q)
    refine ⟨A.pd, _, D.pd, trivial, fun od => ?_⟩
    have t1 : Tab T.Ps (upd H A.pd (.frz od (.dK (pwK ps)))) := ht.upd D.pd (by intro _ q; cases q)
    refine ⟨_, rfl, d, _, _, _, _, rfl, by rw [upd_ne n1]; exact ho, T.cl_Disk, T.na_Disk__pending, rfl, A.pd, od, pwK ps, rfl, upd_same, t1 _ T.in_Disk_busy, fun H2 hT => ?_⟩
    have np : A.pd ≠ T.P_Disk_busy := ht.ne T.in_Disk_busy D.pd (by intro _ q; cases q)
    have tk2 := Tk.tabbed t1 T.in_Disk_busy hT
    have kp1 : ∀ {x : Addr} {o : HO}, H x = some o → x ≠ A.pd → (upd H A.pd (.frz od (.dK (pwK ps)))) x = some o := fun e z => by rw [upd_ne z]; exact e
    have fin : ∀ {H3 : Hp} {v : Bool}, Tk T.Ps (upd H A.pd (.frz od (.dK (pwK ps)))) H3 → v = taken q ps → H3 A.pd = some (.frz od (.dK (pwK ps))) ∧ Q (.bl v) (upd H3 A.pd (.dK (pwK ps))) := fun {H3 v} k3 ev => by
      have e3 := k3.at t1 upd_same
      refine ⟨e3, ?_⟩
      rw [ev]
      refine k _ ⟨k3.tab.upd e3 (by intro _ q; cases q), fun x o hx nx => ?_⟩
      by_cases z : x = A.pd
      · rw [z, upd_same, ← D.pd, ← z]
        exact hx
      · rw [upd_ne z]
        exact k3.kp x o (kp1 hx z) nx
    have lp : (pwK ps).length = ps.length := by unfold pwK; rw [List.length_map]
    refine gx_by ps.length (fun i H3 => Tk T.Ps (upd H A.pd (.frz od (.dK (pwK ps)))) H3 ∧ ∀ p ∈ ps.take i, ¬ p.q = q) ⟨tk2, by simp⟩ (fun i H3 hi x => ⟨x.1.at t1 upd_same, by rw [lp]; exact hi⟩) (fun H3 x => ⟨x.1.at t1 upd_same, by rw [lp]; exact Nat.le_refl _⟩) ?_ fun H3 x => ?_
    · rintro i x H3 H4 hi ⟨tk3, al⟩ ⟨rfl, kx, hk⟩
      have hk : (ps.map fun p => ((Sum.inl p.m : Key), V.ref p.t))[i]? = some (kx, x) := hk
      rw [List.getElem?_map] at hk
      obtain ⟨p, hp, ep⟩ := Option.map_eq_some_iff.mp hk
      cases ep
      have hm := List.mem_of_getElem? hp
      have pa := hps p hm
      have et := tk3.at t1 (kp1 pa.t (ne_of pa.t D.pd (by intro z; cases z)))
      have f1 : ∀ {b : Addr} {xs : List V}, SqT K H b xs → SqT K H4 b xs := fun {b xs} h => tk3.seqT t1 (by
        rcases h with (e | ⟨o, e⟩) | e
        · exact .inl (.inl (kp1 e (ne_of e D.pd (by intro z; cases z))))
        · exact .inl (.inr ⟨o, kp1 e (ne_of e D.pd (by intro z; cases z))⟩)
        · exact .inr e)
      refine ⟨p.t, _, rfl, .of et, rfl, _, _, rfl, _, _, rfl, rfl, rfl, yes_ ⟨_, rfl, _, rfl, _, _, dpPlc (hq.by fun _ _ => f1), dpPlc (pa.a.by fun _ _ => f1), shPlc _, shPlc _, _, rfl, ?_⟩⟩
      rw [eqPlc]
      by_cases e : q = p.q
      · rw [decide_eq_true e, if_neg (by decide)]
        refine fin tk3 ?_
        symm
        unfold taken
        exact List.any_eq_true.mpr ⟨p, hm, decide_eq_true e.symm⟩
      · rw [decide_eq_false e, if_pos rfl]
        refine ⟨tk3, fun y hy => ?_⟩
        rw [List.take_add_one, hp] at hy
        rcases List.mem_append.mp hy with z | z
        · exact al y z
        · have : y = p := by simpa using z
          rw [this]
          exact fun z => e z.symm
    · refine fin x.1 ?_
      symm
      unfold taken
      rw [List.any_eq_false]
      intro p hp
      rw [List.take_length] at x
      rw [decide_eq_false (x.2 p hp)]
      decide
end
end K01
namespace K01
open PySem PySem.Spec PyProof.Rows L2 Rg
section
variable {P : Program} {w : World} {K : PySem.W.Frag} {mg : Str → Option Value} {base : Heap}
theorem pwK_snoc (ps : List Pw) (p : Pw) : pwK ps ++ [(Sum.inl p.m, V.ref p.t)] = pwK (ps ++ [p]) := by unfold pwK; rw [List.map_append]; rfl
theorem PwOk.add {la : Int} {ps : List Pw} {p : Pw} (h : PwOk la ps) (em : p.m = la + 1) (hq : taken p.q ps = false) : PwOk (la + 1) (ps ++ [p]) := by
  refine ⟨?_, fun x hx => ?_, ?_⟩
  · rw [List.map_append, List.nodup_append]
    refine ⟨h.n, by simp, fun a ha b hb => ?_⟩
    obtain ⟨x, hx, rfl⟩ := List.mem_map.mp ha
    have : b = p.m := by simpa using hb
    have := h.le x hx
    omega
  · rcases List.mem_append.mp hx with z | z
    · have := h.le x z
      omega
    · rw [List.mem_singleton.mp z]
      omega
  · rw [List.map_append, List.nodup_append]
    refine ⟨h.q, by simp, fun a ha b hb e => ?_⟩
    obtain ⟨x, hx, rfl⟩ := List.mem_map.mp ha
    have eb : b = p.q := by simpa using hb
    unfold taken at hq
    have := List.any_eq_false.mp hq x hx
    exact this (decide_eq_true (e.trans eb))
/-- a good write to a place that is not busy -/
def sp_issueG (CD CP : Addr) (K : PySem.W.Frag) (Ps : List Addr) : Sp := fun vs H Q _ => ∃ (d a u : Addr) (A : DA) (b n s hd la : Int) (hs gs : List V) (ps : List Pw) (q : Plc) (w : Ct), vs = [.ref d, .ref a, .ref u] ∧ DAt CD CP H d A b n s hd la hs gs (pwK ps) ∧ PwsAt K H b s ps ∧ PwOk la ps ∧ ps.length < 1000 ∧ PlcAt K H a q ∧ CtIn K H u w ∧ CtFit b s q w ∧ taken q ps = false ∧ Tab Ps H ∧
  ∀ (H' : Hp) (t u' : Addr), Tab Ps H' → Kp (d :: A.pd :: Ps) H H' → (∀ b xs, SqT K H b xs → SqT K H' b xs) → DAt CD CP H' d A b n s hd (la + 1) hs gs (pwK (ps ++ [⟨la + 1, t, a, u', q, w⟩])) → PwsAt K H' b s (ps ++ [⟨la + 1, t, a, u', q, w⟩]) → PwOk (la + 1) (ps ++ [⟨la + 1, t, a, u', q, w⟩]) → ((∀ xs, H u ≠ some (.lst xs)) → u' = u) → H t = none → Q (.int (la + 1)) H'
theorem seqT_tk {Ps : List Addr} {H H1 : Hp} (ht : Tab Ps H) (k : Tk Ps H H1) {b : Addr} {xs : List V} (h : SqT K H b xs) : SqT K H1 b xs := k.seqT ht h
theorem ok_issueG (T : Tx K mg) (B : TBs T base) : FnOk P w K mg base CX0 10 T.f_Disk_issue T.fd_Disk_issue ["self", "place", "what"] (sp_issueG T.C_Disk T.C_Plan K T.Ps) := by
  refine T.F_Disk_issue.ok sc_Disk_issue (fun vs H Q E h => ?_) (fun cdv A outer s H vs Q E hr h => ?_)
  · obtain ⟨_, _, _, _, _, _, _, _, _, _, _, _, _, _, rfl, _⟩ := h; rfl
  · obtain ⟨d, a, u, A, b, n, sl, hd, la, hs, gs, ps, q, w, rfl, D, hps, ok, hlen, hq, hw, hf, nq, ht, k⟩ := h
    have hr2 := hr.mono (show 2 ≤ 9 by decide)
    have hr4 := hr.mono (show 4 ≤ 9 by decide)
    refine ⟨_, (pss_cons (ps_if (PW.pt (pw_or (pt_not (pt_val (pe_call (ok_is_place T) hr2 rfl T.mg_is_place T.F_is_place.kp (b_is_place T) .nil pass0 (pa_cons (pe_fld (pv 0) rfl) (pa_cons (pv 1) pa_nil))))) (pw_or1 (pt_not (pt_val (pe_call (ok_is_contentI T B) hr rfl T.mg_is_content T.F_is_content.kp (b_is_content T) .nil pass0 (pa_cons (pe_fld (pv 0) rfl) (pa_cons (pv 1) (pa_cons (pv 2) pa_nil)))))))))
        (pss_one ps_never)
        pss_nil)
      (pss_cons (ps_if (pt_val (pe_meth (pv 0) T.cl_Disk T.m_Disk_busy (ok_busyG T B) hr4 (b_Disk_busy T) .nil pass0 (pa_cons (pv 1) pa_nil)))
        (pss_one ps_never)
        pss_nil)
      (pss_cons (ps_fldaug (pv 0) pe_int in_add)
      (pss_cons (ps_dput (hu_of hr) (pe_fld (pv 0) rfl) (pe_fld (pv 0) rfl) (pe_tup (pa_cons (pv 1) (pa_cons (pe_tupleOf rfl T.b_tuple (pv 2)) pa_nil))) rfl)
      (pss_one (ps_ret (pe_fld (pv 0) rfl))))))), ?_⟩
    obtain ⟨dx, ho⟩ := D.ob
    refine ⟨_, rfl, d, _, _, _, _, rfl, ho, T.cl_Disk, T.na_Disk_plan, rfl, _, rfl, A.p, a, b, n, sl, q, rfl, hq, hf.rng, D.pl, _, rfl, iteF ?_⟩
    refine ⟨_, rfl, d, _, _, _, _, rfl, ho, T.cl_Disk, T.na_Disk_plan, rfl, _, rfl, _, rfl, A.p, a, u, b, n, sl, q, w, rfl, hq, hw, hf, D.pl, ht, fun H1 k1 => ⟨_, rfl, iteF ?_⟩⟩
    have D1 := D.tk ht k1
    have f1 : ∀ b xs, SqT K H b xs → SqT K H1 b xs := fun _ _ => seqT_tk ht k1
    have g1 : ∀ x xs, H x = some (.tup xs) → H1 x = some (.tup xs) := fun x xs e => k1.at ht e
    refine ⟨_, rfl, d, _, _, rfl, k1.at ht ho, rfl, _, rfl, d, a, A, b, n, sl, hd, la, hs, gs, ps, q, rfl, D1, hps.by f1 g1, hq.by f1, k1.tab, fun H2 k2 => ⟨_, rfl, ?_⟩⟩
    rw [nq]
    refine iteF ?_
    have D2 := D1.tk k1.tab k2
    have k12 := k1.trans k2
    have ho2 := k12.at ht ho
    refine ⟨_, rfl, d, _, _, _, _, rfl, ho2, T.cl_Disk, T.na_Disk_last, rfl, la, 1, rfl, rfl, _, _, ho2, by show 6 < 1000; decide, ?_⟩
    have D3 : DAt T.C_Disk T.C_Plan (upd H2 d (.ins T.C_Disk dx (dskF A hd (la + 1)))) d A b n sl hd (la + 1) hs gs (pwK ps) := D2.num hd (la + 1)
    have T3 : Tab T.Ps (upd H2 d (.ins T.C_Disk dx (dskF A hd (la + 1)))) := k12.tab.upd ho2 (by intro _ z; cases z)
    have K3 : Kp (d :: A.pd :: T.Ps) H (upd H2 d (.ins T.C_Disk dx (dskF A hd (la + 1)))) := fun x o hx nx => by
      rw [upd_ne fun z => nx (by simp [z])]
      exact k12.kp x o hx fun z => nx (by simp [z])
    have g3 : ∀ x o, H x = some o → x ≠ d → (∀ ps, o ≠ .tbl ps) → upd H2 d (.ins T.C_Disk dx (dskF A hd (la + 1))) x = some o := fun x o e z n => by
      rw [upd_ne z]
      exact k12.at ht e n
    have f3 : ∀ b xs, SqT K H b xs → SqT K (upd H2 d (.ins T.C_Disk dx (dskF A hd (la + 1)))) b xs := fun b xs h => by
      rcases seqT_tk ht k12 h with (e | ⟨o, e⟩) | e
      · exact .inl (.inl (by rw [upd_ne (ne_of e ho2 (by intro z; cases z))]; exact e))
      · exact .inl (.inr ⟨o, by rw [upd_ne (ne_of e ho2 (by intro z; cases z))]; exact e⟩)
      · exact .inr e
    have o3 := upd_same (H := H2) (a := d) (o := .ins T.C_Disk dx (dskF A hd (la + 1)))
    show tSeq _ _ _ _ (upd H2 d (.ins T.C_Disk dx (dskF A hd (la + 1))))
    have l3 : ∀ c, w = .cells c → H u = some (.lst (c.map V.int)) → upd H2 d (.ins T.C_Disk dx (dskF A hd (la + 1))) u = some (.lst (c.map V.int)) := fun c _ e => g3 u _ e (ne_of e ho (by intro z; cases z)) (by intro _ z; cases z)
    have tn : ∀ x xs, H x = some (.tup xs) → upd H2 d (.ins T.C_Disk dx (dskF A hd (la + 1))) x = some (.tup xs) := fun x xs e => g3 x _ e (ne_of e ho (by intro z; cases z)) (by intro _ z; cases z)
    generalize upd H2 d (.ins T.C_Disk dx (dskF A hd (la + 1))) = H3 at D3 T3 K3 f3 o3 l3 tn ⊢
    clear g3
    -- the tuple of the content
    have go : ∀ (H4 : Hp) (u' : Addr), Same H3 H4 → CtAt K H4 u' w → ((∀ xs, H u ≠ some (.lst xs)) → u' = u) → ∀ t, H4 t = none → ∀ H5, H5 = upd H4 t (.tup [.ref a, .ref u']) → Q (.int (la + 1)) (upd H5 A.pd (.dK (putK (pwK ps) (Sum.inl (la + 1)) (.ref t)))) ∧ H5 A.pd = some (.dK (pwK ps)) ∧ H5 d = some (.ins T.C_Disk dx (dskF A hd (la + 1))) := fun H4 u' s4 cu eu t nt H5 e5 => by
      have s5 : Same H3 H5 := by rw [e5]; exact s4.trans (same_upd nt)
      have s45 : Same H4 H5 := by rw [e5]; exact same_upd nt
      have et : H5 t = some (.tup [.ref a, .ref u']) := by rw [e5]; exact upd_same
      have D5 := D3.same s5
      have nn : ∀ p ∈ ps, p.m ≠ la + 1 := fun p hp z => by have := ok.le p hp; omega
      rw [putK_new _ (pwK_none nn)]
      have epk := pwK_snoc ps ⟨la + 1, t, a, u', q, w⟩
      have epk : pwK ps ++ [(Sum.inl (la + 1), V.ref t)] = pwK (ps ++ [⟨la + 1, t, a, u', q, w⟩]) := epk
      rw [epk]
      have nt3 := s4.free nt
      have ntH : H t = none := K3.free (fun z => by
        simp only [List.mem_cons] at z
        rcases z with z | z | z
        · rw [z, o3] at nt3; cases nt3
        · rw [z, D3.pd] at nt3; cases nt3
        · exact T3.ninN nt3 z) nt3
      have up : ∀ x o, H5 x = some o → (∀ kv, o ≠ .dK kv) → (upd H5 A.pd (.dK (pwK (ps ++ [⟨la + 1, t, a, u', q, w⟩])))) x = some o := fun x o e n => by
        rw [upd_ne (fun z => by rw [z, D5.pd] at e; exact n _ (Option.some.inj e).symm)]
        exact e
      have f6 : ∀ b xs, SqT K H5 b xs → SqT K (upd H5 A.pd (.dK (pwK (ps ++ [⟨la + 1, t, a, u', q, w⟩])))) b xs := fun b xs h => by
        rcases h with (e | ⟨o, e⟩) | e
        · exact .inl (.inl (up _ _ e (by intro _ z; cases z)))
        · exact .inl (.inr ⟨o, up _ _ e (by intro _ z; cases z)⟩)
        · exact .inr e
      have f5 : ∀ b xs, SqT K H b xs → SqT K (upd H5 A.pd (.dK (pwK (ps ++ [⟨la + 1, t, a, u', q, w⟩])))) b xs := fun b xs h => f6 _ _ (sameT s5 (f3 _ _ h))
      refine ⟨k _ t u' ((T3.same s5).upd D5.pd (by intro _ z; cases z)) ((K3.same s5).own (by simp)) f5 (D5.pend _) (fun p hp => ?_) (ok.add rfl nq) eu ntH, D5.pd, s5 _ _ o3⟩
      rcases List.mem_append.mp hp with z | z
      · exact (PwsAt.by (H1 := upd H5 A.pd (.dK (pwK (ps ++ [⟨la + 1, t, a, u', q, w⟩])))) hps f5 fun x xs e => up _ _ (s5 _ _ (tn _ _ e)) (by intro _ z; cases z)) p z
      · rw [List.mem_singleton.mp z]
        exact ⟨up _ _ et (by intro _ z; cases z), hq.by f5, (cu.by fun _ _ => sameT s45).by f6, hf⟩
    refine ⟨_, rfl, _, rfl, ?_⟩
    rcases hw with hw | ⟨c, rfl, hw⟩
    · obtain ⟨xs, hx⟩ := hw.tup
      refine .inr ⟨u, xs, rfl, f3 _ _ hx, by show 2 ≤ sizeLine; decide, fun t nt => ?_⟩
      obtain ⟨kq, e1, e2⟩ := go H3 u (Same.refl _) (hw.by f3) (fun _ => rfl) t nt _ rfl
      generalize upd H3 t (.tup [.ref a, .ref u]) = H5 at kq e1 e2 ⊢
      refine ⟨_, rfl, d, _, _, _, _, rfl, e2, T.cl_Disk, T.na_Disk__pending, rfl, _, rfl, d, _, _, _, _, rfl, e2, T.cl_Disk, T.na_Disk_last, rfl, A.pd, _, rfl, DPut.k (k := Sum.inl (la + 1)) e1 (lt_line (by unfold pwK; rw [List.length_map]; omega)), ?_⟩
      refine ⟨_, rfl, d, _, _, _, _, rfl, by rw [upd_ne (ne_of e2 e1 (by intro z; cases z))]; exact e2, T.cl_Disk, T.na_Disk_last, rfl, kq⟩
    · refine .inl ⟨u, c.map V.int, rfl, .of (l3 c rfl hw), fun r nr => ⟨by show 2 ≤ sizeLine; decide, fun t nt => ?_⟩⟩
      have cu : CtAt K (upd H3 r (.tup (c.map V.int))) r (.cells c) := SqT.of upd_same
      obtain ⟨kq, e1, e2⟩ := go (upd H3 r (.tup (c.map V.int))) r (same_upd nr) cu (fun z => absurd hw (z _)) t nt _ rfl
      generalize upd (upd H3 r (.tup (c.map V.int))) t (.tup [.ref a, .ref r]) = H5 at kq e1 e2 ⊢
      refine ⟨_, rfl, d, _, _, _, _, rfl, e2, T.cl_Disk, T.na_Disk__pending, rfl, _, rfl, d, _, _, _, _, rfl, e2, T.cl_Disk, T.na_Disk_last, rfl, A.pd, _, rfl, DPut.k (k := Sum.inl (la + 1)) e1 (lt_line (by unfold pwK; rw [List.length_map]; omega)), ?_⟩
      refine ⟨_, rfl, d, _, _, _, _, rfl, by rw [upd_ne (ne_of e2 e1 (by intro z; cases z))]; exact e2, T.cl_Disk, T.na_Disk_last, rfl, kq⟩
end
end K01
namespace K01
open PySem PySem.Spec PyProof.Rows L2 Rg
theorem PwOk.out {la : Int} {ps : List Pw} (h : PwOk la ps) (m : Int) : PwOk la (pwOut m ps) :=
  ⟨h.n.sublist (List.Sublist.map _ List.filter_sublist), fun p hp => h.le p (List.mem_filter.mp hp).1, h.q.sublist (List.Sublist.map _ List.filter_sublist)⟩
theorem PwsAt.out {K : PySem.W.Frag} {H : Hp} {b s : Int} {ps : List Pw} (h : PwsAt K H b s ps) (m : Int) : PwsAt K H b s (pwOut m ps) := fun p hp => h p (List.mem_filter.mp hp).1
/-- all pending writes put in their order -/
def putsH : List Pw → List V → List V
  | [], hs => hs
  | p :: ps, hs => putsH ps (putH p.q (.ref p.u) hs)
def putsG : List Pw → List V → List V
  | [], gs => gs
  | p :: ps, gs => putsG ps (putG p.q (.ref p.u) gs)
section
variable {P : Program} {w : World} {K : PySem.W.Frag} {mg : Str → Option Value} {base : Heap}
def sp_sureG (CD CP : Addr) (K : PySem.W.Frag) (Ps : List Addr) : Sp := fun vs H Q _ => ∃ (d : Addr) (p : Pw) (A : DA) (b n s hd la : Int) (hs gs : List V) (ps : List Pw), vs = [.ref d, .int p.m] ∧ DAt CD CP H d A b n s hd la hs gs (pwK ps) ∧ PwsAt K H b s ps ∧ PwOk la ps ∧ p ∈ ps ∧ Tab Ps H ∧
  ∀ H' : Hp, Tab Ps H' → Kp [A.pd, A.ho, A.lg] H H' → (∀ b xs, SqT K H b xs → SqT K H' b xs) → DAt CD CP H' d A b n s hd la (putH p.q (.ref p.u) hs) (putG p.q (.ref p.u) gs) (pwK (pwOut p.m ps)) → PwsAt K H' b s (pwOut p.m ps) → Q .non H'
theorem ok_sureG (T : Tx K mg) : FnOk P w K mg base CX0 2 T.f_Disk_sure T.fd_Disk_sure ["self", "number"] (sp_sureG T.C_Disk T.C_Plan K T.Ps) := by
  refine T.F_Disk_sure.ok sc_Disk_sure (fun vs H Q E h => ?_) (fun cdv A outer s H vs Q E hr h => ?_)
  · obtain ⟨_, _, _, _, _, _, _, _, _, _, _, rfl, _⟩ := h; rfl
  · obtain ⟨d, p, A, b, n, sl, hd, la, hs, gs, ps, rfl, D, hps, ok, hp, ht, k⟩ := h
    refine ⟨_, (pss_cons (ps_if (pt_cmp (pc_dnotin (hu_of hr) (pv 1) (pe_fld (pv 0) rfl)) rfl)
        (pss_one ps_never)
        pss_nil)
      (pss_cons (ps_asg (pe_dpop1 (pe_fld (pv 0) rfl) (pv 1) ⟨rfl, rfl, rfl, rfl⟩) (pg_tup rfl (pgs_cons (pg_name (i := 2) sc_Disk_sure.nd rfl (.inl rfl)) (pgs_cons (pg_name (i := 3) sc_Disk_sure.nd rfl (.inl rfl)) pgs_nil))))
      (pss_one (ps_expr (pe_meth (pv 0) T.cl_Disk T.m_Disk__put (ok_put T) hr (b_Disk__put T) .nil pass0 (pa_cons (pv 2) (pa_cons (pv 3) pa_nil))))))), ?_⟩
    obtain ⟨dx, ho⟩ := D.ob
    have ev := pwK_get ok.n hp
    have pa := hps p hp
    have ed := pwK_drop p.m ps
    refine ⟨_, rfl, _, rfl, d, _, _, _, _, rfl, ho, T.cl_Disk, T.na_Disk__pending, rfl, A.pd, some (.ref p.t), rfl, ?_, _, rfl, iteF ?_⟩
    · rw [← ev]
      exact DGet.k (k := Sum.inl p.m) D.pd
    refine ⟨_, rfl, d, _, _, _, _, rfl, ho, T.cl_Disk, T.na_Disk__pending, rfl, A.pd, rfl, .inl ⟨_, .inl D.pd⟩, _, rfl, _, Sum.inl p.m, .ref p.t, D.pd, rfl, ev, ?_⟩
    rw [ed]
    have D1 := D.pend (pwK (pwOut p.m ps))
    have nd : d ≠ A.pd := ne_of ho D.pd (by intro z; cases z)
    have up1 : ∀ x o, H x = some o → (∀ kv, o ≠ .dK kv) → upd H A.pd (.dK (pwK (pwOut p.m ps))) x = some o := fun x o e n => by
      rw [upd_ne (fun z => by rw [z, D.pd] at e; exact n _ (Option.some.inj e).symm)]
      exact e
    have f1 : ∀ b xs, SqT K H b xs → SqT K (upd H A.pd (.dK (pwK (pwOut p.m ps)))) b xs := fun b xs h => by
      rcases h with (e | ⟨o, e⟩) | e
      · exact .inl (.inl (up1 _ _ e (by intro _ z; cases z)))
      · exact .inl (.inr ⟨o, up1 _ _ e (by intro _ z; cases z)⟩)
      · exact .inr e
    have T1 : Tab T.Ps (upd H A.pd (.dK (pwK (pwOut p.m ps)))) := ht.upd D.pd (by intro _ z; cases z)
    have P1 := (hps.out p.m).by f1 fun x xs e => up1 x _ e (by intro _ z; cases z)
    have t1 := up1 _ _ pa.t (by intro _ z; cases z)
    have o1 := up1 _ _ ho (by intro _ z; cases z)
    have K1 : Kp [A.pd, A.ho, A.lg] H (upd H A.pd (.dK (pwK (pwOut p.m ps)))) := Kp.refl.own (by simp)
    generalize upd H A.pd (.dK (pwK (pwOut p.m ps))) = H1 at D1 f1 T1 P1 t1 o1 K1 ⊢
    refine ⟨p.t, _, rfl, .of t1, rfl, _, _, rfl, _, _, rfl, rfl, _, rfl, d, _, _, rfl, o1, rfl, _, rfl, _, rfl, d, p.a, _, A, b, n, sl, hd, la, hs, gs, pwK (pwOut p.m ps), p.q, rfl, D1, pa.a.by f1, ?_⟩
    have rg := pa.f.rng
    have fin : ∀ {x : Addr} {xs ys : List V}, x ∈ [A.ho, A.lg] → H1 x = some (.lst xs) → (D2 : DAt T.C_Disk T.C_Plan (upd H1 x (.lst ys)) d A b n sl hd la (putH p.q (.ref p.u) hs) (putG p.q (.ref p.u) gs) (pwK (pwOut p.m ps))) → Q .non (upd H1 x (.lst ys)) := fun {x xs ys} hx e D2 => by
      have up2 : ∀ y o, H1 y = some o → (∀ kv, o ≠ .lst kv) → upd H1 x (.lst ys) y = some o := fun y o e2 n => by
        rw [upd_ne (fun z => by rw [z, e] at e2; exact n _ (Option.some.inj e2).symm)]
        exact e2
      have f2 : ∀ b xs, SqT K H1 b xs → SqT K (upd H1 x (.lst ys)) b xs := fun b xs h => by
        rcases h with (e | ⟨o, e⟩) | e
        · exact .inl (.inl (up2 _ _ e (by intro _ z; cases z)))
        · exact .inl (.inr ⟨o, up2 _ _ e (by intro _ z; cases z)⟩)
        · exact .inr e
      refine k _ (T1.upd e (by intro _ z; cases z)) (K1.own ?_) (fun b xs h => f2 _ _ (f1 _ _ h)) D2 (P1.by f2 fun x xs e => up2 x _ e (by intro _ z; cases z))
      simp only [List.mem_cons, List.not_mem_nil, or_false] at hx ⊢
      exact .inr hx
    cases hq : p.q with
    | home i =>
      rw [hq] at rg fin
      exact ⟨rg.1, rg.2, fin (by simp) D1.ho (D1.setH i.toNat (.ref p.u))⟩
    | log i =>
      rw [hq] at rg fin
      exact ⟨rg.1, rg.2, fin (by simp) D1.lg (D1.setL i.toNat (.ref p.u))⟩
theorem pwOut_head {la : Int} {p : Pw} {ps : List Pw} (h : PwOk la (p :: ps)) : pwOut p.m (p :: ps) = ps := by
  unfold pwOut
  rw [List.filter_cons, if_neg (by simp), List.filter_eq_self]
  intro x hx
  have := (List.nodup_cons.mp (show (p.m :: ps.map (·.m)).Nodup from h.n)).1
  have : ¬ x.m = p.m := fun z => this (by rw [← z]; exact List.mem_map.mpr ⟨x, hx, rfl⟩)
  rw [decide_eq_false this]
  rfl
theorem PwOk.tail {la : Int} {p : Pw} {ps : List Pw} (h : PwOk la (p :: ps)) : PwOk la ps :=
  ⟨(List.nodup_cons.mp (show (p.m :: ps.map (·.m)).Nodup from h.n)).2, fun x hx => h.le x (by simp [hx]), (List.nodup_cons.mp (show (p.q :: ps.map (·.q)).Nodup from h.q)).2⟩
theorem putsH_snoc : ∀ (ps : List Pw) (p : Pw) (hs : List V), putsH (ps ++ [p]) hs = putH p.q (.ref p.u) (putsH ps hs)
  | [], _, _ => rfl
  | _ :: ps, p, _ => putsH_snoc ps p _
theorem putsG_snoc : ∀ (ps : List Pw) (p : Pw) (hs : List V), putsG (ps ++ [p]) hs = putG p.q (.ref p.u) (putsG ps hs)
  | [], _, _ => rfl
  | _ :: ps, p, _ => putsG_snoc ps p _
def sp_barrier (CD CP : Addr) (K : PySem.W.Frag) (Ps : List Addr) : Sp := fun vs H Q _ => ∃ (d : Addr) (A : DA) (b n s hd la : Int) (hs gs : List V) (ps : List Pw), vs = [.ref d] ∧ DAt CD CP H d A b n s hd la hs gs (pwK ps) ∧ PwsAt K H b s ps ∧ PwOk la ps ∧ ps.length < 1000 ∧ Tab Ps H ∧
  ∀ H' : Hp, Tab Ps H' → Kp [A.pd, A.ho, A.lg] H H' → (∀ b xs, SqT K H b xs → SqT K H' b xs) → DAt CD CP H' d A b n s hd la (putsH ps hs) (putsG ps gs) [] → Q .non H'
theorem ok_barrier (T : Tx K mg) : FnOk P w K mg base CX0 3 T.f_Disk_barrier T.fd_Disk_barrier ["self"] (sp_barrier T.C_Disk T.C_Plan K T.Ps) := by
  refine T.F_Disk_barrier.ok sc_Disk_barrier (fun vs H Q E h => ?_) (fun cdv A outer s H vs Q E hr h => ?_)
  · obtain ⟨_, _, _, _, _, _, _, _, _, _, rfl, _⟩ := h; rfl
  · obtain ⟨d, A, b, n, sl, hd, la, hs, gs, ps, rfl, D, hps, ok, hlen, ht, k⟩ := h
    refine ⟨_, (pss_one (ps_for PassesOwn.never rfl (pi_list (pe_callTy (call_listD rfl) rfl T.b_list (by decide +kernel) (pa_cons (pe_fld (pv 0) rfl) pa_nil))) (pg_name (i := 1) sc_Disk_barrier.nd rfl (.inl rfl))
        (pss_one (ps_expr (pe_meth (pv 0) T.cl_Disk T.m_Disk_sure (ok_sureG T) hr (b_Disk_sure T) .nil pass0 (pa_cons (pv 1) pa_nil)))))), ?_⟩
    obtain ⟨dx, ho⟩ := D.ob
    refine ⟨_, rfl, d, _, _, _, _, rfl, ho, T.cl_Disk, T.na_Disk__pending, rfl, A.pd, _, rfl, .of D.pd, ?_⟩
    (intro l n_l; generalize he_l : upd _ l _ = H1; obtain ⟨e_l, s_l, f_l⟩ := new_f he_l n_l; clear he_l)
    have el : (pwK ps).map (fun kv => kV kv.1) = ps.map fun p => V.int p.m := by unfold pwK; rw [List.map_map]; rfl
    rw [el] at e_l
    have ht1 := ht.same s_l
    refine ⟨l, rfl, ⟨_, .of e_l⟩, ?_⟩
    refine for_list (K := K) (a := l) (xs := ps.map fun p => V.int p.m) (fun i σ H' => ∃ v1 : Option V, σ = [some (.ref d), v1] ∧ Tab T.Ps H' ∧ Kp [A.pd, A.ho, A.lg] H1 H' ∧ (∀ b xs, SqT K H b xs → SqT K H' b xs) ∧ DAt T.C_Disk T.C_Plan H' d A b n sl hd la (putsH (ps.take i) hs) (putsG (ps.take i) gs) (pwK (ps.drop i)) ∧ PwsAt K H' b sl (ps.drop i) ∧ PwOk la (ps.drop i)) ⟨none, rfl, ht1, Kp.refl, fun _ _ h => sameT s_l h, D.same s_l, hps.by (fun _ _ h => sameT s_l h) (fun _ _ e => s_l _ _ e), ok⟩ (fun i σ H' _ ⟨_, _, _, k', _⟩ => .of (k' _ _ e_l ?_)) ?_ ?_
    · have n1 := (ne_of_none D.pd n_l).symm
      have n2 := (ne_of_none D.ho n_l).symm
      have n3 := (ne_of_none D.lg n_l).symm
      simp [n1, n2, n3]
    · rintro i y σ H2 hi ⟨v1, rfl, t2, k2, f2, D2, P2, O2⟩
      rw [List.getElem?_map] at hi
      obtain ⟨p, hp, rfl⟩ := Option.map_eq_some_iff.mp hi
      obtain ⟨hl, eg⟩ := List.getElem?_eq_some_iff.mp hp
      have edr : ps.drop i = p :: ps.drop (i + 1) := by rw [List.drop_eq_getElem_cons hl, eg]
      rw [edr] at D2 P2 O2
      obtain ⟨dx2, ho2⟩ := D2.ob
      ((try dsimp only); (first | (refine Rg.sg (σ' := [some (.ref d), some (.int p.m)]) ?_ ?_; focus exact rfl) | (refine Rg.sgG (σ' := [some (.ref d), some (.int p.m)]) ?_ ?_; focus exact rfl)))
      refine ⟨_, rfl, d, _, _, rfl, ho2, rfl, _, rfl, d, p, A, b, n, sl, hd, la, _, _, _, rfl, D2, P2, O2, by simp, t2, fun H3 t3 k3 f3 D3 P3 => ?_⟩
      rw [pwOut_head O2] at D3 P3
      rw [← putsH_snoc, ← putsG_snoc, ← take_getG hp] at D3
      exact ⟨_, rfl, t3, k2.trans k3, fun b xs h => f3 _ _ (f2 _ _ h), D3, P3, O2.tail⟩
    · rintro σ H2 ⟨v1, rfl, t2, k2, f2, D2, P2, O2⟩
      rw [List.length_map, List.take_length, List.drop_length] at D2
      exact k H2 t2 ((Kp.of s_l).trans k2) f2 D2
end
end K01
namespace K01
open PySem PySem.Spec PyProof.Rows L2 Rg
/-- places that stand apart, each with what it holds -/
structure Fr (L : List (Addr × HO)) (H : Hp) : Prop where
  at_ : ∀ p ∈ L, H p.1 = some p.2
  nd : (L.map (·.1)).Nodup
theorem Fr.get {L : List (Addr × HO)} {H : Hp} (F : Fr L H) (i : Nat) {a : Addr} {o : HO} (h : L[i]? = some (a, o)) : H a = some o := F.at_ _ (List.mem_of_getElem? h)
theorem Fr.keep {L : List (Addr × HO)} {H H' : Hp} (F : Fr L H) (h : ∀ p ∈ L, ∀ o, H p.1 = some o → H' p.1 = some o) : Fr L H' := ⟨fun p hp => h p hp _ (F.at_ p hp), F.nd⟩
theorem Fr.same {L : List (Addr × HO)} {H H' : Hp} (F : Fr L H) (h : Same H H') : Fr L H' := F.keep fun _ _ _ e => h _ _ e
theorem Fr.put {L : List (Addr × HO)} {H : Hp} (F : Fr L H) (i : Nat) {a : Addr} {o o' : HO} (h : L[i]? = some (a, o)) : Fr (L.set i (a, o')) (upd H a o') := by
  have hi : i < L.length := (List.getElem?_eq_some_iff.mp h).1
  have e : (L.set i (a, o')).map (·.1) = L.map (·.1) := by
    apply List.ext_getElem?
    intro j
    rw [List.getElem?_map, List.getElem?_map]
    by_cases q : i = j
    · subst q
      rw [List.getElem?_set_self hi, h]
      rfl
    · rw [List.getElem?_set_ne q]
  refine ⟨fun p hp => ?_, by rw [e]; exact F.nd⟩
  obtain ⟨j, hj, ej⟩ := List.getElem_of_mem hp
  by_cases q : i = j
  · subst q
    rw [List.getElem_set_self] at ej
    rw [← ej]
    exact upd_same
  · rw [List.getElem_set_ne q] at ej
    have hjl : j < L.length := by rw [List.length_set] at hj; exact hj
    have hpL : p ∈ L := by rw [← ej]; exact List.getElem_mem hjl
    rw [upd_ne]
    · exact F.at_ p hpL
    · intro z
      have n1 : (L.map (·.1))[i]? = some a := by rw [List.getElem?_map, h]; rfl
      have n2 : (L.map (·.1))[j]? = some a := by rw [List.getElem?_map, List.getElem?_eq_getElem hjl, ej, ← z]; rfl
      have il : i < (L.map (·.1)).length := by rw [List.length_map]; exact hi
      have jl : j < (L.map (·.1)).length := by rw [List.length_map]; exact hjl
      rw [List.getElem?_eq_getElem il] at n1
      rw [List.getElem?_eq_getElem jl] at n2
      exact q ((List.getElem_inj F.nd).mp ((Option.some.inj n1).trans (Option.some.inj n2).symm))
theorem Fr.held {L : List (Addr × HO)} {H : Hp} (F : Fr L H) {a : Addr} (h : H a = none) : ∀ p ∈ L, p.1 ≠ a := fun p hp z => by
  have := F.at_ p hp
  rw [z, h] at this
  cases this
/-- one more, at a new place -/
theorem Fr.cons {L : List (Addr × HO)} {H : Hp} (F : Fr L H) {a : Addr} {o : HO} (h : H a = none) : Fr ((a, o) :: L) (upd H a o) := by
  refine ⟨fun p hp => ?_, ?_⟩
  · rcases List.mem_cons.mp hp with rfl | hp
    · exact upd_same
    · rw [upd_ne (F.held h p hp)]
      exact F.at_ p hp
  · rw [List.map_cons, List.nodup_cons]
    refine ⟨fun z => ?_, F.nd⟩
    obtain ⟨p, hp, e⟩ := List.mem_map.mp z
    exact F.held h p hp e
theorem Fr.nil {H : Hp} : Fr [] H := ⟨fun _ h => absurd h List.not_mem_nil, List.nodup_nil⟩
end K01
namespace K01
open PySem PySem.Spec PyProof.Rows L2 Rg
/-- places of one's own: some of the caller's (S), the rest new -/
structure Wr (S : List Addr) (H0 : Hp) (L : List (Addr × HO)) (H : Hp) : Prop where
  F : Fr L H
  k : Kp S H0 H
  n : ∀ p ∈ L, p.1 ∈ S ∨ H0 p.1 = none
theorem Wr.at1 {S : List Addr} {H0 H : Hp} {L : List (Addr × HO)} (W : Wr S H0 L H) (i : Nat) {a : Addr} {o : HO} (h : L[i]? = some (a, o)) : H a = some o := W.F.get i h
theorem Wr.put {S : List Addr} {H0 H : Hp} {L : List (Addr × HO)} (W : Wr S H0 L H) (i : Nat) {a : Addr} {o o' : HO} (h : L[i]? = some (a, o)) : Wr S H0 (L.set i (a, o')) (upd H a o') := by
  refine ⟨W.F.put i h, ?_, fun p hp => ?_⟩
  · rcases W.n _ (List.mem_of_getElem? h) with z | z
    · exact W.k.own z
    · exact W.k.put z
  · rcases List.mem_or_eq_of_mem_set hp with z | z
    · exact W.n p z
    · rw [z]
      exact W.n (a, o) (List.mem_of_getElem? h)
theorem Wr.cons {S : List Addr} {H0 H : Hp} {L : List (Addr × HO)} (W : Wr S H0 L H) {a : Addr} {o : HO} (h : H a = none) : Wr S H0 ((a, o) :: L) (upd H a o) := by
  refine ⟨W.F.cons h, W.k.new h, fun p hp => ?_⟩
  rcases List.mem_cons.mp hp with z | z
  · rw [z]
    by_cases e : a ∈ S
    · exact .inl e
    · exact .inr (W.k.free e h)
  · exact W.n p z
theorem Wr.new {S : List Addr} {H0 H H' : Hp} {L : List (Addr × HO)} (W : Wr S H0 L H) {a : Addr} {o : HO} (h : H a = none) (e : H' a = some o) (s : Same H H') : Wr S H0 ((a, o) :: L) H' := by
  refine ⟨⟨fun p hp => ?_, ?_⟩, W.k.same s, fun p hp => ?_⟩
  · rcases List.mem_cons.mp hp with rfl | hp
    · exact e
    · exact s _ _ (W.F.at_ p hp)
  · rw [List.map_cons, List.nodup_cons]
    refine ⟨fun z => ?_, W.F.nd⟩
    obtain ⟨q, hq, e2⟩ := List.mem_map.mp z
    exact W.F.held h q hq e2
  rcases List.mem_cons.mp hp with z | z
  · rw [z]
    by_cases e : a ∈ S
    · exact .inl e
    · exact .inr (W.k.free e h)
  · exact W.n p z
theorem Wr.set {S : List Addr} {H0 H H' : Hp} {L : List (Addr × HO)} (W : Wr S H0 L H) (i : Nat) {a : Addr} {o o' : HO} (h : L[i]? = some (a, o)) (e : H' a = some o') (k : Kp [a] H H') : Wr S H0 (L.set i (a, o')) H' := by
  have W2 := W.put (o' := o') i h
  refine ⟨⟨fun p hp => ?_, W2.F.nd⟩, fun x u ex n => ?_, W2.n⟩
  · by_cases z : p.1 = a
    · have := W2.F.at_ p hp
      rw [z, upd_same] at this
      rw [z, ← Option.some.inj this]
      exact e
    · have := W2.F.at_ p hp
      rw [upd_ne z] at this
      exact k.at1 this z
  · by_cases z : x = a
    · rcases W.n _ (List.mem_of_getElem? h) with q | q
      · exact absurd (z ▸ q) n
      · rw [z, q] at ex; cases ex
    · exact k.at1 (W.k x u ex n) z
theorem Wr.same {S : List Addr} {H0 H H' : Hp} {L : List (Addr × HO)} (W : Wr S H0 L H) (h : Same H H') : Wr S H0 L H' := ⟨W.F.same h, W.k.same h, W.n⟩
theorem Wr.kpL {S S' : List Addr} {H0 H H' : Hp} {L : List (Addr × HO)} (W : Wr S H0 L H) (hl : ∀ p ∈ L, ∃ xs, p.2 = .lst xs) (k : Kp S' H H') (h : ∀ x ∈ S', H0 x = none ∧ ∃ u, H x = some u ∧ ∀ xs, u ≠ .lst xs) : Wr S H0 L H' := by
  have ap : ∀ p ∈ L, p.1 ∉ S' := fun p hp z => by
    obtain ⟨_, u, eu, nu⟩ := h _ z
    obtain ⟨xs, ex⟩ := hl p hp
    have := W.F.at_ p hp
    rw [eu, ex] at this
    exact nu xs (Option.some.inj this)
  refine ⟨W.F.keep fun p hp o e => k _ _ e (ap p hp), fun x o e n => k x o (W.k x o e n) fun z => ?_, W.n⟩
  rw [(h x z).1] at e
  cases e
theorem Wr.ne {S : List Addr} {H0 H : Hp} {L : List (Addr × HO)} (W : Wr S H0 L H) (i j : Nat) {a b : Addr} {o u : HO} (h : L[i]? = some (a, o)) (h' : L[j]? = some (b, u)) (hij : i ≠ j) : a ≠ b := fun z => by
  have e1 : (L.map (·.1))[i]? = some a := by rw [List.getElem?_map, h]; rfl
  have e2 : (L.map (·.1))[j]? = some a := by rw [List.getElem?_map, h', z]; rfl
  have hi := (List.getElem?_eq_some_iff.mp e1).1
  have hj := (List.getElem?_eq_some_iff.mp e2).1
  have p := List.pairwise_iff_getElem.mp W.F.nd
  have f1 := (List.getElem?_eq_some_iff.mp e1).2
  have f2 := (List.getElem?_eq_some_iff.mp e2).2
  rcases Nat.lt_or_gt_of_ne hij with q | q
  · exact p i j hi hj q (f1.trans f2.symm)
  · exact p j i hj hi q (f2.trans f1.symm)
theorem Wr.free {q : Addr} {H0 H : Hp} {L : List (Addr × HO)} (W : Wr [q] H0 L H) (i j : Nat) {a : Addr} {o u : HO} (h : L[i]? = some (a, o)) (h' : L[j]? = some (q, u)) (hij : i ≠ j) : H0 a = none := by
  rcases W.n _ (List.mem_of_getElem? h) with z | z
  · exact absurd (List.mem_singleton.mp z) (W.ne i j h h' hij)
  · exact z
theorem nd_take {α : Type} {l : List α} (h : l.Nodup) {i : Nat} {x : α} (hx : l[i]? = some x) : x ∉ l.take i := fun z => by
  have h2 := h
  rw [← List.take_append_drop i l] at h2
  have hd : x ∈ l.drop i := List.mem_of_getElem? (i := 0) (by rw [List.getElem?_drop]; exact hx)
  exact (List.nodup_append.mp h2).2.2 x z x hd rfl
end K01
namespace K01
open PySem PySem.Spec PyProof.Rows L2 Rg
section
variable {P : Program} {w : World} {K : PySem.W.Frag} {mg : Str → Option Value} {base : Heap}
/-! ### Disk._settled, Disk.quiet -/
def sp_settled (CD CP : Addr) : Sp := fun vs H Q _ => ∃ (d : Addr) (A : DA) (b n s hd la : Int) (hs gs : List V) (kv : List (Key × V)), vs = [.ref d] ∧ DAt CD CP H d A b n s hd la hs gs kv ∧
  ∀ (H' : Hp) (d' : Addr) (A' : DA), Same H H' → H d' = none → H A'.ho = none → H A'.lg = none → H A'.pd = none → A'.p = A.p → DAt CD CP H' d' A' b n s hd 0 hs gs [] → Q (.ref d') H'
theorem ok_settled (T : Tx K mg) : FnOk P w K mg base CX0 3 T.f_Disk__settled T.fd_Disk__settled ["self"] (sp_settled T.C_Disk T.C_Plan) := by
  refine T.F_Disk__settled.ok sc_Disk__settled (fun vs H Q E h => ?_) (fun cdv A0 outer s H vs Q E hr h => ?_)
  · obtain ⟨_, _, _, _, _, _, _, _, _, _, rfl, _⟩ := h; rfl
  · obtain ⟨d, A, b, n, sl, hd, la, hs, gs, kv, rfl, D, k⟩ := h
    refine ⟨_, (pss_cons (ps_set (i := 1) sc_Disk__settled.nd rfl (.inl rfl) (pe_make T.mk_Disk (ok_Disk_init T) hr rfl T.mg_Disk (b_Disk___init__ T) .nil pass0 (pa_cons (pe_fld (pv 0) rfl) pa_nil)))
      (pss_cons (ps_fld (pv 1) (pe_listof (K := K) (pe_fld (pv 0) rfl) T.b_list) rfl)
      (pss_cons (ps_fld (pv 1) (pe_listof (K := K) (pe_fld (pv 0) rfl) T.b_list) rfl)
      (pss_cons (ps_fld (pv 1) (pe_fld (pv 0) rfl) rfl)
      (pss_one (ps_ret (pv 1))))))), ?_⟩
    obtain ⟨dxo, hob⟩ := D.ob
    refine ⟨_, rfl, d, _, _, _, _, rfl, hob, T.cl_Disk, T.na_Disk_plan, rfl, fun x dx nx ndx nex => ?_⟩
    have s1 : Same H (upd (upd H dx (.own x)) x (.ins T.C_Disk dx [])) := (same_upd ndx).trans (same_upd (by rw [upd_ne nex.symm]; exact nx))
    obtain ⟨pxo, hpo⟩ := D.pl.ob
    refine ⟨x, dx, A.p, b, n, sl, rfl, upd_same, D.pl.same s1, (fun z => by rw [z, nx] at hpo; cases hpo), fun H1 A1 ts eA k1 n1 n2 n3 D1 hz => ⟨rfl, ?_⟩⟩
    have S1 : Same H H1 := fun y o e => k1.at1 (s1 _ _ e) (ne_of_none e nx)
    have fr1 : ∀ y, H1 y = none → H y = none := fun y e => S1.free e
    obtain ⟨dx1, ob1⟩ := D1.ob
    have D' := D.by fun y o e _ => S1 y o e
    refine ⟨_, rfl, d, _, _, _, _, rfl, S1 _ _ hob, T.cl_Disk, T.na_Disk_home, rfl, A.ho, _, rfl, .inl (.of D'.ho), ?_⟩
    (intro q1 n_q1; generalize he_q1 : upd _ q1 _ = H2; obtain ⟨e_q1, s_q1, f_q1⟩ := new_f he_q1 n_q1; clear he_q1)
    refine ⟨_, rfl, x, _, _, _, rfl, s_q1 _ _ ob1, T.cl_Disk, T.na_Disk_home, (by show 6 < 1000; decide), ?_⟩
    have ndx_ : d ≠ x := ne_of_none hob nx
    (generalize he_y2 : upd _ x _ = H3; obtain ⟨e_y2, k_y2, f_y2⟩ := own_f he_y2; clear he_y2)
    have h3d := k_y2.at1 (s_q1 _ _ (S1 _ _ hob)) ndx_
    have ne_x : ∀ {y : Addr} {o : HO}, H y = some o → y ≠ x := fun e => ne_of_none e nx
    have e3 : ∀ {y : Addr} {o : HO}, H y = some o → H3 y = some o := fun {y o} e => k_y2.at1 (s_q1 _ _ (S1 _ _ e)) (ne_x e)
    refine ⟨_, rfl, d, _, _, _, _, rfl, h3d, T.cl_Disk, T.na_Disk_log, rfl, A.lg, _, rfl, .inl (.of (e3 D.lg)), ?_⟩
    (intro q2 n_q2; generalize he_q2 : upd _ q2 _ = H4; obtain ⟨e_q2, s_q2, f_q2⟩ := new_f he_q2 n_q2; clear he_q2)
    refine ⟨_, rfl, x, _, _, _, rfl, s_q2 _ _ e_y2, T.cl_Disk, T.na_Disk_log, (by show 6 < 1000; decide), ?_⟩
    (generalize he_y4 : upd _ x _ = H5; obtain ⟨e_y4, k_y4, f_y4⟩ := own_f he_y4; clear he_y4)
    have e5 : ∀ {y : Addr} {o : HO}, H y = some o → H5 y = some o := fun {y o} e => k_y4.at1 (s_q2 _ _ (e3 e)) (ne_x e)
    refine ⟨_, rfl, d, _, _, _, _, rfl, e5 hob, T.cl_Disk, T.na_Disk_head, rfl, _, rfl, x, _, _, _, rfl, e_y4, T.cl_Disk, T.na_Disk_head, (by show 6 < 1000; decide), ?_⟩
    (generalize he_y6 : upd _ x _ = H6; obtain ⟨e_y6, k_y6, f_y6⟩ := own_f he_y6; clear he_y6)
    have S6 : Same H H6 := fun y o e => k_y6.at1 (e5 e) (ne_x e)
    have q1x : q1 ≠ x := fun z => by rw [z, ob1] at n_q1; cases n_q1
    have q2x : q2 ≠ x := fun z => by rw [z, e_y2] at n_q2; cases n_q2
    have eq1 : H6 q1 = some (.lst hs) := k_y6.at1 (k_y4.at1 (s_q2 _ _ (k_y2.at1 e_q1 q1x)) q1x) q1x
    have eq2 : H6 q2 = some (.lst gs) := k_y6.at1 (k_y4.at1 e_q2 q2x) q2x
    have q12 : q1 ≠ q2 := fun z => by rw [← z, k_y2.at1 e_q1 q1x] at n_q2; cases n_q2
    have nq1 : H q1 = none := fr1 _ n_q1
    have nq2 : H q2 = none := by
      cases e : H q2 with
      | none => rfl
      | some o => rw [e3 e] at n_q2; cases n_q2
    have pdx : A1.pd ≠ x := fun z => by
      have := D1.pd
      rw [z, ob1] at this
      cases this
    have epd : H6 A1.pd = some (.dK []) := k_y6.at1 (k_y4.at1 (s_q2 _ _ (k_y2.at1 (s_q1 _ _ D1.pd) pdx)) pdx) pdx
    refine ⟨_, rfl, k H6 x ⟨A.p, q1, q2, A1.pd⟩ S6 nx nq1 nq2 (un (un n3)) rfl { ob := ⟨dx1, ?_⟩, pl := D.pl.of fun o e => S6 _ _ e, ho := eq1, lg := eq2, pd := epd, pne := ne_x hpo, hne := q12, hl := D.hl, gl := D.gl }⟩
    rw [e_y6, ← eA]
    rfl
def sp_quiet (CD CP : Addr) : Sp := fun vs H Q _ => ∃ (d : Addr) (A : DA) (b n s hd la : Int) (hs gs : List V) (kv : List (Key × V)), vs = [.ref d] ∧ DAt CD CP H d A b n s hd la hs gs kv ∧ Q (.bl (decide (kv = []))) H
theorem ok_quiet (T : Tx K mg) : FnOk P w K mg base CX0 1 T.f_Disk_quiet T.fd_Disk_quiet ["self"] (sp_quiet T.C_Disk T.C_Plan) := by
  refine T.F_Disk_quiet.ok sc_Disk_quiet (fun vs H Q E h => ?_) (fun cdv A0 outer s H vs Q E hr h => ?_)
  · obtain ⟨_, _, _, _, _, _, _, _, _, _, rfl, _⟩ := h; rfl
  · obtain ⟨d, A, b, n, sl, hd, la, hs, gs, kv, rfl, D, k⟩ := h
    refine ⟨_, (pss_one (ps_ret (pe_cmpR op_eq (pe_callB call_lenD rfl T.b_len (by decide +kernel) (pa_cons (pe_fld (pv 0) rfl) pa_nil)) pe_int (nomark _)))), ?_⟩
    obtain ⟨dxo, hob⟩ := D.ob
    refine ⟨_, rfl, d, _, _, _, _, rfl, hob, T.cl_Disk, T.na_Disk__pending, rfl, A.pd, _, rfl, D.pd, rfl, ?_⟩
    have e : decide (V.int (kv.length : Int) = V.int 0) = decide (kv = []) := by
      rw [dec_iv]
      cases kv with
      | nil => rfl
      | cons p r =>
        rw [decide_eq_false (by intro z; simp at z; omega), decide_eq_false (by intro z; cases z)]
    rw [e]
    exact k
end
end K01
namespace K01
open PySem PySem.Spec PyProof.Rows L2 Rg
section
variable {P : Program} {w : World} {K : PySem.W.Frag} {mg : Str → Option Value} {base : Heap}
/-! ### Disk.pending -/
/-- what is told of pending writes -/
def TdAt (H : Hp) (rs : List Addr) (ps : List Pw) : Prop := rs.length = ps.length ∧ ∀ (i : Nat) (r : Addr) (p : Pw), rs[i]? = some r → ps[i]? = some p → H r = some (.tup [.int p.m, .ref p.a, .ref p.u])
def sp_pending (CD CP : Addr) (K : PySem.W.Frag) : Sp := fun vs H Q _ => ∃ (d : Addr) (A : DA) (b n s hd la : Int) (hs gs : List V) (ps : List Pw), vs = [.ref d] ∧ DAt CD CP H d A b n s hd la hs gs (pwK ps) ∧ PwsAt K H b s ps ∧ ps.length < 1000 ∧
  ∀ (H' : Hp) (r : Addr) (rs : List Addr), Same H H' → H r = none → H' r = some (.lst (rs.map V.ref)) → TdAt H' rs ps → Q (.ref r) H'
theorem ok_pending (T : Tx K mg) : FnOk P w K mg base CX0 1 T.f_Disk_pending T.fd_Disk_pending ["self"] (sp_pending T.C_Disk T.C_Plan K) := by
  refine T.F_Disk_pending.ok sc_Disk_pending (fun vs H Q E h => ?_) (fun cdv A0 outer s H vs Q E hr h => ?_)
  · obtain ⟨_, _, _, _, _, _, _, _, _, _, rfl, _⟩ := h; rfl
  · obtain ⟨d, A, b, n, sl, hd, la, hs, gs, ps, rfl, D, hp, lp, k⟩ := h
    refine ⟨_, (pss_one (ps_ret (pe_lock (pe_lc rfl (own := [("number", 1), ("place", 2), ("what", 3)]) (g := _) (tt := tYes) sc_Disk_pending.nd (pi_items (pe_fld (pv 0) rfl)) (blkOk_by (N := ["self", "number", "place", "what"]) (sc := defScope s_Disk_pending) (by decide +kernel)) (fun _ _ _ _ _ => (pg_tupK (K := K) (n := 2) rfl (pgs_cons (pg_name (i := 1) sc_Disk_pending.nd rfl (.inl rfl)) (pgs_cons (pg_tupK (K := K) (n := 2) rfl (pgs_cons (pg_name (i := 2) sc_Disk_pending.nd rfl (.inl rfl)) (pgs_cons (pg_name (i := 3) sc_Disk_pending.nd rfl (.inl rfl)) pgs_nil))) pgs_nil)))) (fun _ _ _ _ _ => pts_nil) (fun _ _ _ _ _ => (pe_tup (pa_cons (pv 1) (pa_cons (pv 2) (pa_cons (pv 3) pa_nil))))))))), ?_⟩
    obtain ⟨dxo, hob⟩ := D.ob
    refine ⟨A.pd, _, D.pd, trivial, fun od => ?_⟩
    have ndp : d ≠ A.pd := fun z => by have := D.pd; rw [← z, hob] at this; cases this
    have hob1 : upd H A.pd (.frz od (.dK (pwK ps))) d = some (.ins T.C_Disk dxo (dskF A hd la)) := by rw [upd_ne ndp]; exact hob
    refine ⟨_, rfl, d, _, _, _, _, rfl, hob1, T.cl_Disk, T.na_Disk__pending, rfl, A.pd, od, _, rfl, upd_same, fun D2 hD2 => ?_⟩
    have nD : D2 ≠ A.pd := fun z => by rw [z, upd_same] at hD2; cases hD2
    have lk : (pwK ps).length = ps.length := by unfold pwK; rw [List.length_map]
    obtain ⟨H0, eH0⟩ : ∃ H0, H0 = upd H A.pd (.frz od (.dK (pwK ps))) := ⟨_, rfl⟩
    rw [← eH0] at hD2 ⊢
    refine lc_it walk_items (fun i H' => ∃ rs : List Addr, Same H0 H' ∧ H' D2 = some (.lst (rs.map V.ref)) ∧ TdAt H' rs (ps.take i)) ⟨[], same_upd hD2, upd_same, rfl, fun i r p h => by cases h⟩ (fun i H' _ ⟨_, S, _⟩ => S _ _ (by rw [eH0]; exact upd_same)) ?_ ?_
    · rintro i y H' H2 hi ⟨rs, S, e1, e2⟩ ⟨T1, v1, v2, rfl, nT, rfl, g1, g2⟩
      rw [lk] at hi
      have ep := List.getElem?_eq_getElem hi
      obtain ⟨p, epp⟩ : ∃ p, p = ps[i] := ⟨_, rfl⟩
      rw [← epp] at ep
      have eK : (pwK ps)[i]? = some (Sum.inl p.m, .ref p.t) := by unfold pwK; rw [List.getElem?_map, ep]; rfl
      have g1 : (pwK ps)[i]?.map (fun kv => kV kv.1) = some v1 := g1
      have g2 : (pwK ps)[i]?.map Prod.snd = some v2 := g2
      rw [eK] at g1 g2
      cases g1
      cases g2
      have st := same_upd (o := .tup [kV (Sum.inl p.m), .ref p.t]) nT
      have P0 := hp p (List.mem_of_getElem? ep)
      have tp : p.t ≠ A.pd := fun z => by have := P0.t; rw [z, D.pd] at this; cases this
      have et0 : H0 p.t = some (.tup [.ref p.a, .ref p.u]) := by rw [eH0, upd_ne tp]; exact P0.t
      refine ⟨T1, _, rfl, .of upd_same, rfl, _, _, rfl, _, _, rfl, ⟨p.t, _, rfl, .of (st _ _ (S _ _ et0)), rfl, _, _, rfl, _, _, rfl, rfl, rfl, rfl, ?_⟩⟩
      refine yes_ ⟨_, rfl, _, rfl, _, rfl, (by show 3 ≤ sizeLine; decide), fun q hq => ?_⟩
      have sq := same_upd (o := .tup [.int p.m, .ref p.a, .ref p.u]) hq
      have S2 := (S.trans st).trans sq
      have e1' := sq _ _ (st _ _ e1)
      have hqD : q ≠ D2 := fun z => by rw [z, st _ _ e1] at hq; cases hq
      have lr : rs.length = i := by rw [e2.1, List.length_take]; omega
      refine ⟨_, e1', small1000 (by rw [List.length_map]; omega), rs ++ [q], fun x o e => ?_, by rw [upd_same, List.map_append]; rfl, by rw [List.length_append, lr, List.length_take]; show i + 1 = _; omega, fun j r p' a1 a2 => ?_⟩
      · rw [upd_ne (ne_of_none e hD2)]
        exact S2 _ _ e
      · by_cases c : j < i
        · rw [List.getElem?_append_left (by omega)] at a1
          rw [List.getElem?_take, if_pos (by omega)] at a2
          have := sq _ _ (st _ _ (e2.2 j r p' a1 (by rw [List.getElem?_take, if_pos c]; exact a2)))
          rw [upd_ne (ne_of this e1' (by intro z; cases z))]
          exact this
        · have ej : j = i := by
            have := (List.getElem?_eq_some_iff.mp a1).1
            rw [List.length_append] at this
            simp only [List.length_cons, List.length_nil] at this
            omega
          subst ej
          rw [List.getElem?_append_right (by omega), lr, Nat.sub_self] at a1
          rw [List.getElem?_take, if_pos (by omega), ep] at a2
          cases a1
          cases a2
          rw [upd_ne hqD]
          exact upd_same
    rintro H' ⟨rs, S, e1, e2⟩
    rw [lk, List.take_length] at e2
    refine ⟨S _ _ (by rw [eH0]; exact upd_same), ?_⟩
    have nH : H D2 = none := by rw [eH0, upd_ne nD] at hD2; exact hD2
    refine k _ D2 rs (fun x o e => ?_) nH (by rw [upd_ne nD]; exact e1) ⟨e2.1, fun j r p a1 a2 => ?_⟩
    · by_cases z : x = A.pd
      · rw [z, upd_same]
        rw [z, D.pd] at e
        exact e
      · rw [upd_ne z]
        exact S _ _ (by rw [eH0, upd_ne z]; exact e)
    · have := e2.2 j r p a1 a2
      rw [upd_ne]
      · exact this
      · intro z
        have e3 := S _ _ (show H0 A.pd = _ by rw [eH0]; exact upd_same)
        rw [z, e3] at this
        cases this
end
end K01
namespace K01
open PySem PySem.Spec PyProof.Rows L2 Rg
theorem cutTake (xs : List V) (k : Nat) : cutV xs none (some (k : Int)) = xs.take k := by
  unfold cutV
  rw [HT.sIx_none, HT.sIx_nat, List.drop_zero, Nat.sub_zero]
  by_cases h : k ≤ xs.length
  · rw [Nat.min_eq_left h]
  · rw [Nat.min_eq_right (by omega), List.take_of_length_le (Nat.le_refl _), List.take_of_length_le (by omega)]
theorem flatIs (l : List Int) : (l.map V.int).all flatV = true := by
  rw [List.all_eq_true]
  intro x hx
  obtain ⟨y, _, rfl⟩ := List.mem_map.mp hx
  rfl
theorem inV_int (x : Int) (l : List Int) : inV (.int x) (l.map V.int) = decide (x ∈ l) := by
  induction l with
  | nil => simp [inV]
  | cons y l ih =>
    have : inV (.int x) ((y :: l).map V.int) = (eqV (.int y) (.int x) || inV (.int x) (l.map V.int)) := rfl
    rw [this, ih]
    simp only [eqV]
    by_cases e : y = x
    · subst e; simp
    · have e' : x ≠ y := fun z => e z.symm
      simp [e, e']
theorem putsH_app (a b : List Pw) (hs : List V) : putsH (a ++ b) hs = putsH b (putsH a hs) := by
  induction a generalizing hs with
  | nil => rfl
  | cons p a ih => exact ih _
theorem putsG_app (a b : List Pw) (gs : List V) : putsG (a ++ b) gs = putsG b (putsG a gs) := by
  induction a generalizing gs with
  | nil => rfl
  | cons p a ih => exact ih _
section
variable {P : Program} {w : World} {K : PySem.W.Frag} {mg : Str → Option Value} {base : Heap}
/-- the rule for a def with defaults, as Fun.ok -/
theorem funD_ok {x qual : Str} {st : Stmt} {f : Addr} {fd : FuncData} {dvs : List V} {kws : List (Str × V)} {N ps : List Str} {k : Nat} {sp : Sp} (F : FunD K x qual (defArgs st) (defBody st) (defScope st) dvs kws f fd) (S : FnScope N ps (defScope st)) (len : ∀ vs H Q E, sp vs H Q E → vs.length = ps.length)
    (hbody : ∀ (cdv : Value) (A : Around) (outer : List Env) (s : Shared) (H : Hp) (vs : List V) (Q : VK) (E : XK), Room k (A.deeper (envOfC qual (defScope st) s.heap.objs.size f cdv)) → sp vs H Q E →
      ∃ t, PSs (cxOf CX0 P w K mg base N qual (defScope st) f cdv A outer s H E).nox (defBody st) t ∧ t { nx := fun _ H' => Q .non H', rt := Q } (start N vs) H) : FnOk P w K mg base CX0 (k + 1) f fd ps sp :=
  F.ok S len fun cdv A outer s H vs Q E hr hsp => let ⟨t, h, q⟩ := hbody cdv A outer s H vs Q E hr hsp; ⟨t, h.nox, q⟩
/-! ### Disk.cut, where each number is pending, once -/
def sp_cut (CD CP : Addr) (K : PySem.W.Frag) : Sp := fun vs H Q _ => ∃ (d kp : Addr) (A : DA) (b n s hd la : Int) (hs gs : List V) (ps qs : List Pw), vs = [.ref d, .ref kp] ∧ DAt CD CP H d A b n s hd la hs gs (pwK ps) ∧ PwsAt K H b s ps ∧ PwOk la ps ∧ ps.length < 1000 ∧ (∀ q ∈ qs, q ∈ ps) ∧ (qs.map (·.m)).Nodup ∧ qs.length < 1000 ∧ H kp = some (.lst ((qs.map (·.m)).map V.int)) ∧
  ∀ (H' : Hp) (d' : Addr) (A' : DA), Same H H' → H d' = none → H A'.ho = none → H A'.lg = none → H A'.pd = none → A'.p = A.p → DAt CD CP H' d' A' b n s hd 0 (putsH qs hs) (putsG qs gs) [] → Q (.ref d') H'
theorem ok_cut (T : Tx K mg) : FnOk P w K mg base CX0 4 T.f_Disk_cut T.fd_Disk_cut ["self", "keep"] (sp_cut T.C_Disk T.C_Plan K) := by
  refine funD_ok T.F_Disk_cut sc_Disk_cut (fun vs H Q E h => ?_) (fun cdv A0 outer s H vs Q E hr h => ?_)
  · obtain ⟨_, _, _, _, _, _, _, _, _, _, _, _, rfl, _⟩ := h; rfl
  · obtain ⟨d, kp, A, b, n, sl, hd, la, hs, gs, ps, qs, rfl, D, hps, ok, lp, hq, nq, lq, ek, k⟩ := h
    have hr1 : Room 1 _ := hr.mono (by decide)
    refine ⟨_, (pss_cons (ps_set (i := 2) sc_Disk_cut.nd rfl (.inl rfl) (pe_meth0 (pv 0) T.cl_Disk T.m_Disk__settled (ok_settled T) hr (b_Disk__settled T) .nil pass0))
      (pss_cons (ps_for PassesOwn.never rfl (pi_enumA rfl T.b_enumerate (pa_cons (pv 1) pa_nil)) (pg_tup rfl (pgs_cons (pg_name (i := 3) sc_Disk_cut.nd rfl (.inl rfl)) (pgs_cons (pg_name (i := 4) sc_Disk_cut.nd rfl (.inl rfl)) pgs_nil)))
        (pss_cons (ps_if (PW.pt (pw_or (pt_cmp (pc_dnotin (hu_of hr) (pv 4) (pe_fld (pv 0) rfl)) rfl) (pw_or1 (pt_cmpR op_in_seq (pv 4) (pe_slice sl_list (pv 1) po_none (po_some (pv 3))) rfl))))
          (pss_one ps_never)
          pss_nil)
        (pss_cons (ps_asg (pe_dget (hu_of hr) (pe_fld (pv 0) rfl) (pv 4) (fun _ _ => rfl)) (pg_tup rfl (pgs_cons (pg_name (i := 5) sc_Disk_cut.nd rfl (.inl rfl)) (pgs_cons (pg_name (i := 6) sc_Disk_cut.nd rfl (.inl rfl)) pgs_nil))))
        (pss_one (ps_expr (pe_meth (pv 2) T.cl_Disk T.m_Disk__put (ok_put T) hr1 (b_Disk__put T) .nil pass0 (pa_cons (pv 5) (pa_cons (pv 6) pa_nil))))))))
      (pss_one (ps_ret (pv 2))))), ?_⟩
    obtain ⟨dxo, hob⟩ := D.ob
    refine ⟨_, rfl, d, _, _, rfl, hob, rfl, d, A, b, n, sl, hd, la, hs, gs, _, rfl, D, fun H1 x A1 S1 nx n1 n2 n3 eA D1 => ?_⟩
    ((try dsimp only); (first | (refine Rg.sg (σ' := [some (.ref d), some (.ref kp), some (.ref x), none, none, none, none]) ?_ ?_; focus exact rfl) | (refine Rg.sgG (σ' := [some (.ref d), some (.ref kp), some (.ref x), none, none, none, none]) ?_ ?_; focus exact rfl)))
    have nkh : kp ≠ A1.ho := fun z => by rw [z, n1] at ek; cases ek
    have nkl : kp ≠ A1.lg := fun z => by rw [z, n2] at ek; cases ek
    have keepH : ∀ {H2 : Hp} {y : Addr} {o : HO}, Kp [A1.ho, A1.lg] H1 H2 → H y = some o → H2 y = some o := fun {H2 y o} kk e => kk _ _ (S1 _ _ e) (by
      simp only [List.mem_cons, List.not_mem_nil, or_false, not_or]
      constructor
      · intro z; rw [z, n1] at e; cases e
      · intro z; rw [z, n2] at e; cases e)
    refine ⟨_, rfl, kp, _, rfl, .inl (S1 _ _ ek), fun J hJ => ?_⟩
    refine for_it hJ (fun i σ H2 => ∃ u3 u4 u5 u6 : Option V, σ = [some (.ref d), some (.ref kp), some (.ref x), u3, u4, u5, u6] ∧ Kp [A1.ho, A1.lg] H1 H2 ∧ DAt T.C_Disk T.C_Plan H2 x A1 b n sl hd 0 (putsH (qs.take i) hs) (putsG (qs.take i) gs) []) ⟨none, none, none, none, rfl, Kp.refl, D1⟩ (fun i σ H2 _ ⟨_, _, _, _, _, kk, _⟩ => by rw [keepH kk ek, S1 _ _ ek]) ?_ ?_
    · rintro i v σ H2 H3 hi ⟨u3, u4, u5, u6, rfl, kk, D2⟩ ⟨T1, v1, v2, rfl, nT, rfl, g1, g2⟩
      rw [List.length_map, List.length_map] at hi
      have ep := List.getElem?_eq_getElem hi
      obtain ⟨p, epp⟩ : ∃ p, p = qs[i] := ⟨_, rfl⟩
      rw [← epp] at ep
      have g2 : ((qs.map (·.m)).map V.int)[i]? = some v2 := g2
      rw [List.getElem?_map, List.getElem?_map, ep] at g2
      cases g1
      cases g2
      have hp := hq p (List.mem_of_getElem? ep)
      have st := same_upd (o := .tup [.int (i : Int), .int p.m]) nT
      have k3 : Kp [A1.ho, A1.lg] H1 (upd H2 T1 (.tup [.int (i : Int), .int p.m])) := kk.same st
      have D3 := D2.by fun y o e _ => st y o e
      refine ⟨T1, _, rfl, .of upd_same, rfl, _, _, rfl, _, _, rfl, rfl, ?_⟩
      generalize upd H2 T1 (.tup [.int (i : Int), .int p.m]) = H3 at k3 D3 ⊢
      ((try dsimp only); (first | (refine Rg.sg (σ' := [some (.ref d), some (.ref kp), some (.ref x), some (.int (i : Int)), some (.int p.m), u5, u6]) ?_ ?_; focus exact rfl) | (refine Rg.sgG (σ' := [some (.ref d), some (.ref kp), some (.ref x), some (.int (i : Int)), some (.int p.m), u5, u6]) ?_ ?_; focus exact rfl)))
      have ev := pwK_get ok.n hp
      have dg : ∀ {Hx : Hp}, Hx A.pd = some (.dK (pwK ps)) → DGet Hx A.pd (.int p.m) (some (.ref p.t)) := fun e => by
        have := DGet.k (k := Sum.inl p.m) e
        rw [ev] at this
        exact this
      refine ⟨_, rfl, _, rfl, d, _, _, _, _, rfl, keepH k3 hob, T.cl_Disk, T.na_Disk__pending, rfl, A.pd, some (.ref p.t), rfl, dg (keepH k3 D.pd), _, rfl, iteF ?_⟩
      refine ⟨_, rfl, _, rfl, _, rfl, _, rfl, kp, _, rfl, .of (keepH k3 ek), ?_⟩
      rw [cutTake, ← List.map_take]
      (intro z n_z; generalize he_z : upd _ z _ = H4; obtain ⟨e_z, s_z, f_z⟩ := new_f he_z n_z; clear he_z)
      refine ⟨z, _, rfl, .inl (.of e_z), rfl, flatIs _, _, rfl, ?_⟩
      rw [if_neg (by decide), inV_int]
      have nin : p.m ∉ (qs.map (·.m)).take i := fun hm => by
        obtain ⟨j, hj, ej⟩ := List.getElem_of_mem hm
        rw [List.length_take] at hj
        rw [List.getElem_take] at ej
        have l2 : i < (qs.map (·.m)).length := by rw [List.length_map]; exact hi
        have h2 : (qs.map (·.m))[i] = p.m := by rw [List.getElem_map, ← epp]
        have := (List.getElem_inj nq).mp (ej.trans h2.symm)
        omega
      refine wF nin ?_
      have k4 := k3.same s_z
      have D4 := D3.by fun y o e _ => s_z y o e
      refine ⟨_, rfl, d, _, _, _, _, rfl, keepH k4 hob, T.cl_Disk, T.na_Disk__pending, rfl, _, rfl, A.pd, .ref p.t, rfl, dg (keepH k4 D.pd), ?_⟩
      have P0 := hps p hp
      refine ⟨p.t, _, rfl, .of (keepH k4 P0.t), rfl, _, _, rfl, _, _, rfl, rfl, ?_⟩
      ((try dsimp only); (first | (refine Rg.sg (σ' := [some (.ref d), some (.ref kp), some (.ref x), some (.int (i : Int)), some (.int p.m), some (.ref p.a), some (.ref p.u)]) ?_ ?_; focus exact rfl) | (refine Rg.sgG (σ' := [some (.ref d), some (.ref kp), some (.ref x), some (.int (i : Int)), some (.int p.m), some (.ref p.a), some (.ref p.u)]) ?_ ?_; focus exact rfl)))
      obtain ⟨dx4, ob4⟩ := D4.ob
      have SH4 : Same H H4 := fun y o e => keepH k4 e
      have pa4 := P0.a.by fun b xs h => sameT SH4 h
      have rg := P0.f.rng
      have eH : putsH (qs.take (i + 1)) hs = putH p.q (.ref p.u) (putsH (qs.take i) hs) := by
        rw [List.take_succ, ep]
        exact putsH_snoc _ _ _
      have eG : putsG (qs.take (i + 1)) gs = putG p.q (.ref p.u) (putsG (qs.take i) gs) := by
        rw [List.take_succ, ep]
        exact putsG_snoc _ _ _
      refine ⟨_, rfl, x, dx4, _, rfl, ob4, rfl, _, rfl, _, rfl, x, p.a, .ref p.u, A1, b, n, sl, hd, 0, _, _, [], p.q, rfl, D4, pa4, ?_⟩
      cases hpq : p.q with
      | home j =>
        rw [hpq] at rg eH eG
        refine ⟨rg.1, rg.2, _, _, _, _, rfl, k4.own (by simp), ?_⟩
        rw [eH, eG]
        exact D4.setH j.toNat (.ref p.u)
      | log j =>
        rw [hpq] at rg eH eG
        refine ⟨rg.1, rg.2, _, _, _, _, rfl, k4.own (by simp), ?_⟩
        rw [eH, eG]
        exact D4.setL j.toNat (.ref p.u)
    rintro σ H2 ⟨u3, u4, u5, u6, rfl, kk, D2⟩
    rw [List.length_map, List.length_map, List.take_length] at D2
    refine ⟨_, rfl, k H2 x A1 (fun y o e => keepH kk e) nx n1 n2 n3 eA D2⟩
end
end K01
namespace K01
open PySem PySem.Spec PyProof.Rows L2 Rg
/-- no row of cells -/
def BadRow (xs : List V) : Prop := xs.length ≠ 8 ∨ ∃ c : List Int, xs = c.map V.int ∧ ¬ Cells c
section
variable {P : Program} {w : World} {K : PySem.W.Frag} {mg : Str → Option Value} {base : Heap}
def sp_cell_rowBT (K : PySem.W.Frag) (Ps : List Addr) : Sp := fun vs H Q _ => ∃ (a : Addr) (xs : List V), vs = [.ref a] ∧ SqT K H a xs ∧ BadRow xs ∧ Tab Ps H ∧ ∀ H', Tk Ps H H' → Q (.bl false) H'
theorem ok_cell_rowBT (T : Tx K mg) (B : TBs T base) : FnOk P w K mg base CX0 6 T.f_is_cell_row T.fd_is_cell_row ["value"] (sp_cell_rowBT K T.Ps) := by
  refine fun_okC T.F_is_cell_row T.code_is_cell_row sc_is_cell_row (fun vs H Q E h => ?_) (fun A outer s H vs Q E hr h => ?_)
  · obtain ⟨_, _, rfl, _⟩ := h; rfl
  · obtain ⟨a, xs, rfl, hS, hb, ht, k⟩ := h
    refine ⟨_, (pss_one (ps_ret (pe_and (pe_callB call_isiT rfl T.b_isinstance (by decide +kernel) (pa_cons (pv 0) (pa_cons (pe_tup (pa_cons (pe_bltn (v := .ty "list") rfl T.b_list (by decide +kernel) rfl) (pa_cons (pe_bltn (v := .ty "tuple") rfl T.b_tuple (by decide +kernel) rfl) pa_nil))) pa_nil))) (pe_and (pe_cmpR op_eq (pe_callB call_len_seq rfl T.b_len (by decide +kernel) (pa_cons (pv 0) pa_nil)) (pe_cv T.mg_Plan T.cr_Plan T.cv_Plan_WIDTH) (nomark _)) (pe_one (GxL.pe_allG (k := 2) (own := [("cell", 1)]) (g := gName 1) (tt := tYes) hr rfl T.b_all B.t_is_cell_row rfl (GxL.gsc_by (by decide +kernel)) (blkOk_by (N := ["value", "cell"]) (sc := defScope s_is_cell_row) (by decide +kernel)) sc_is_cell_row.nd (pi_tup (pv 0)) (fun _ _ _ _ _ => pg_name (i := 1) sc_is_cell_row.nd rfl (Or.inl rfl)) (fun _ _ _ _ _ _ => pts_nil) (fun _ _ _ _ _ hr2 => pe_call (ok_is_cell T) hr2 rfl T.mg_is_cell T.F_is_cell.kp (b_is_cell T) .nil pass0 (pa_cons (pv 1) pa_nil)))))))), ?_⟩
    refine ⟨_, rfl, (by show 2 ≤ sizeLine; decide), fun t nt => ?_⟩
    have st := same_upd (o := .tup [.ty "list", .ty "tuple"]) nt
    have e0 := upd_same (H := H) (a := t) (o := .tup [.ty "list", .ty "tuple"])
    have t0 := Tk.of ht st
    generalize upd H t (.tup [.ty "list", .ty "tuple"]) = H1 at st e0 t0 ⊢
    have hS1 := sameT st hS
    refine ⟨_, t, _, _, _, true, rfl, e0, .cons (.ty _) (.cons (.ty _) .nil), tyT hS1, kitAny_cons (b := false) (kit_ty (by decide +kernel)) (fun _ => kitAny_cons (b := true) (kit_ty (by decide +kernel)) (fun z => by cases z) (fun _ => rfl)) (fun z => by cases z), _, rfl, iteT ?_⟩
    refine ⟨_, rfl, a, _, rfl, .inr hS1, rfl, _, rfl, ?_⟩
    rw [dec_iv]
    by_cases e : xs.length = 8
    · rw [decide_eq_true (by omega)]
      rcases hb with hb | ⟨c, rfl, hc⟩
      · exact absurd e hb
      refine iteT ⟨_, rfl, a, rfl, ⟨_, hS1⟩, t0.tab _ T.in_is_cell_row, fun H2 hT => gx_tup (K := K) (a := a) (xs := c.map V.int) (fun i H3 => Tk T.Ps H1 H3 ∧ ∀ x ∈ c.take i, 0 ≤ x ∧ x ≤ 999999999) ⟨Tk.tabbed t0.tab T.in_is_cell_row hT, fun x hx => by rw [List.take_zero] at hx; cases hx⟩ (fun i H3 _ kk => kk.1.seqT t0.tab hS1) (fun i y H3 hi kk => ?_) fun H3 kk => ?_⟩
      · rw [List.getElem?_map] at hi
        obtain ⟨x, hx, rfl⟩ := Option.map_eq_some_iff.mp hi
        refine ⟨rfl, yes_ ⟨_, rfl, x, rfl, _, rfl, ?_⟩⟩
        by_cases q : 0 ≤ x ∧ x ≤ 999999999
        · rw [decide_eq_true q, if_pos rfl]
          refine ⟨kk.1, fun y hy => ?_⟩
          rw [List.take_succ, hx] at hy
          rcases List.mem_append.mp hy with z | z
          · exact kk.2 y z
          · rw [List.mem_singleton.mp (show y ∈ [x] from z)]
            exact q
        · rw [decide_eq_false q]
          exact k H3 (t0.trans kk.1)
      · exfalso
        rw [List.length_map] at e kk
        rw [List.take_length] at kk
        exact hc ⟨e, kk.2⟩
    · rw [decide_eq_false (by omega)]
      exact iteF (k H1 t0)
def sp_cell_rowBL (K : PySem.W.Frag) (Ps : List Addr) : Sp := fun vs H Q _ => ∃ (a : Addr) (xs : List V), vs = [.ref a] ∧ H a = some (.lst xs) ∧ BadRow xs ∧ Tab Ps H ∧ ∀ H', Tk Ps H H' → Q (.bl false) H'
theorem ok_cell_rowBL (T : Tx K mg) (B : TBs T base) : FnOk P w K mg base CX0 6 T.f_is_cell_row T.fd_is_cell_row ["value"] (sp_cell_rowBL K T.Ps) := by
  refine fun_okC T.F_is_cell_row T.code_is_cell_row sc_is_cell_row (fun vs H Q E h => ?_) (fun A outer s H vs Q E hr h => ?_)
  · obtain ⟨_, _, rfl, _⟩ := h; rfl
  · obtain ⟨a, xs, rfl, hS, hb, ht, k⟩ := h
    refine ⟨_, (pss_one (ps_ret (pe_and (pe_callB call_isiT rfl T.b_isinstance (by decide +kernel) (pa_cons (pv 0) (pa_cons (pe_tup (pa_cons (pe_bltn (v := .ty "list") rfl T.b_list (by decide +kernel) rfl) (pa_cons (pe_bltn (v := .ty "tuple") rfl T.b_tuple (by decide +kernel) rfl) pa_nil))) pa_nil))) (pe_and (pe_cmpR op_eq (pe_callB call_len_seq rfl T.b_len (by decide +kernel) (pa_cons (pv 0) pa_nil)) (pe_cv T.mg_Plan T.cr_Plan T.cv_Plan_WIDTH) (nomark _)) (pe_one (GxL.pe_allG (k := 2) (own := [("cell", 1)]) (g := gName 1) (tt := tYes) hr rfl T.b_all B.t_is_cell_row rfl (GxL.gsc_by (by decide +kernel)) (blkOk_by (N := ["value", "cell"]) (sc := defScope s_is_cell_row) (by decide +kernel)) sc_is_cell_row.nd (pi_list (pv 0)) (fun _ _ _ _ _ => pg_name (i := 1) sc_is_cell_row.nd rfl (Or.inl rfl)) (fun _ _ _ _ _ _ => pts_nil) (fun _ _ _ _ _ hr2 => pe_call (ok_is_cell T) hr2 rfl T.mg_is_cell T.F_is_cell.kp (b_is_cell T) .nil pass0 (pa_cons (pv 1) pa_nil)))))))), ?_⟩
    refine ⟨_, rfl, (by show 2 ≤ sizeLine; decide), fun t nt => ?_⟩
    have st := same_upd (o := .tup [.ty "list", .ty "tuple"]) nt
    have e0 := upd_same (H := H) (a := t) (o := .tup [.ty "list", .ty "tuple"])
    have t0 := Tk.of ht st
    generalize upd H t (.tup [.ty "list", .ty "tuple"]) = H1 at st e0 t0 ⊢
    have hS1 := st _ _ hS
    refine ⟨_, t, _, _, _, true, rfl, e0, .cons (.ty _) (.cons (.ty _) .nil), .base (.lst hS1), kitAny_cons (b := true) (kit_ty (by decide +kernel)) (fun z => by cases z) (fun _ => rfl), _, rfl, iteT ?_⟩
    refine ⟨_, rfl, a, _, rfl, .inl (.of hS1), rfl, _, rfl, ?_⟩
    rw [dec_iv]
    by_cases e : xs.length = 8
    · rw [decide_eq_true (by omega)]
      rcases hb with hb | ⟨c, rfl, hc⟩
      · exact absurd e hb
      refine iteT ⟨_, rfl, a, rfl, ⟨_, .of hS1⟩, t0.tab _ T.in_is_cell_row, fun H2 hT => gx_list (K := K) (a := a) (xs := c.map V.int) (fun i H3 => Tk T.Ps H1 H3 ∧ ∀ x ∈ c.take i, 0 ≤ x ∧ x ≤ 999999999) ⟨Tk.tabbed t0.tab T.in_is_cell_row hT, fun x hx => by rw [List.take_zero] at hx; cases hx⟩ (fun i H3 _ kk => .of (kk.1.at t0.tab hS1)) (fun i y H3 hi kk => ?_) fun H3 kk => ?_⟩
      · rw [List.getElem?_map] at hi
        obtain ⟨x, hx, rfl⟩ := Option.map_eq_some_iff.mp hi
        refine ⟨rfl, yes_ ⟨_, rfl, x, rfl, _, rfl, ?_⟩⟩
        by_cases q : 0 ≤ x ∧ x ≤ 999999999
        · rw [decide_eq_true q, if_pos rfl]
          refine ⟨kk.1, fun y hy => ?_⟩
          rw [List.take_succ, hx] at hy
          rcases List.mem_append.mp hy with z | z
          · exact kk.2 y z
          · rw [List.mem_singleton.mp (show y ∈ [x] from z)]
            exact q
        · rw [decide_eq_false q]
          exact k H3 (t0.trans kk.1)
      · exfalso
        rw [List.length_map] at e kk
        rw [List.take_length] at kk
        exact hc ⟨e, kk.2⟩
    · rw [decide_eq_false (by omega)]
      exact iteF (k H1 t0)
end
end K01
namespace K01
open PySem PySem.Spec PyProof.Rows L2 Rg
/-- no place of a disk -/
def BadPl (b s : Int) (xs : List V) : Prop := xs.length ≠ 2 ∨ ∃ i : Int, (xs = [.str "home", .int i] ∧ ¬ (0 ≤ i ∧ i ≤ b - 1)) ∨ (xs = [.str "log", .int i] ∧ ¬ (0 ≤ i ∧ i ≤ s - 1)) ∨ xs = [.str "lot", .int i]
def FitP (b s : Int) : Rec → Prop
  | .copy _ x _ => x < b
  | .mark _ ps rs => (∀ p ∈ ps, p.1 < b ∧ p.2 < s) ∧ ∀ r ∈ rs, r < b
/-- no record -/
def BadRec (K : PySem.W.Frag) (H : Hp) (u : Addr) : Prop := (∃ xs, H u = some (.lst xs)) ∨ (∃ xs, SqT K H u xs ∧ xs.length ≠ 4) ∨ (∃ (l x : Int) (v : V), SqT K H u [.str "copy", .int l, .int x, v] ∧ ¬ (1 ≤ l ∧ l ≤ 999999)) ∨
  ∃ (l x : Int) (pc : Addr) (xs : List V), SqT K H u [.str "copy", .int l, .int x, .ref pc] ∧ H pc = some (.lst xs) ∧ 1 ≤ l ∧ l ≤ 999999 ∧ 0 ≤ x ∧ x ≤ 63
section
variable {P : Program} {w : World} {K : PySem.W.Frag} {mg : Str → Option Value} {base : Heap}
def sp_placeB (K : PySem.W.Frag) (CP : Addr) : Sp := fun vs H Q _ => ∃ (p a : Addr) (b n s : Int) (xs : List V), vs = [.ref p, .ref a] ∧ SqT K H a xs ∧ BadPl b s xs ∧ PlanAt CP H p b n s ∧ Q (.bl false) H
theorem ok_placeB (T : Tx K mg) : FnOk P w K mg base CX0 2 T.f_is_place T.fd_is_place ["plan", "place"] (sp_placeB K T.C_Plan) := by
  refine T.F_is_place.ok sc_is_place (fun vs H Q E h => ?_) (fun cdv A outer s H vs Q E hr h => ?_)
  · obtain ⟨_, _, _, _, _, _, rfl, _⟩ := h; rfl
  · obtain ⟨p, a, b, n, sl, xs, rfl, hq, hb, hP, k⟩ := h
    refine ⟨_, (pss_cons (ps_if (PW.pt (pw_or (pt_not (pt_val (pe_callB call_isi rfl T.b_isinstance (by decide +kernel) (pa_cons (pv 1) (pa_cons (pe_bltn (v := .ty "tuple") rfl T.b_tuple (by decide +kernel) rfl) pa_nil))))) (pw_or1 (pt_cmpR op_ne (pe_callB call_len_seq rfl T.b_len (by decide +kernel) (pa_cons (pv 1) pa_nil)) pe_int (nomark _)))))
        (pss_one (ps_ret pe_bl))
        pss_nil)
      (pss_cons (ps_if (pt_cmpR op_eq (pe_ix ix_tup (pv 1) pe_int (fun _ _ => rfl)) pe_str (nomark _))
        (pss_one (ps_ret (pe_call (ok_is_number T) hr rfl T.mg_is_number T.F_is_number.kp (b_is_number T) .nil pass0 (pa_cons (pe_ix ix_tup (pv 1) pe_int (fun _ _ => rfl)) (pa_cons pe_int (pa_cons (pe_op op_sub (pe_fld (pv 0) rfl) pe_int) pa_nil))))))
        pss_nil)
      (pss_one (ps_ret (pe_and (pe_cmpR op_eq (pe_ix ix_tup (pv 1) pe_int (fun _ _ => rfl)) pe_str (nomark _)) (pe_one (pe_call (ok_is_number T) hr rfl T.mg_is_number T.F_is_number.kp (b_is_number T) .nil pass0 (pa_cons (pe_ix ix_tup (pv 1) pe_int (fun _ _ => rfl)) (pa_cons pe_int (pa_cons (pe_op op_sub (pe_fld (pv 0) rfl) pe_int) pa_nil)))))))))), ?_⟩
    obtain ⟨dx, hpo⟩ := hP.ob
    refine ⟨_, rfl, _, _, _, _, true, rfl, .ty _, tyT hq, kit_ty (by decide +kernel), _, rfl, iteF ⟨_, rfl, a, _, rfl, .inr hq, rfl, _, rfl, ?_⟩⟩
    rcases hb with hb | ⟨i, ⟨rfl, hb⟩ | ⟨rfl, hb⟩ | rfl⟩
    · exact wNe (fun _ => k) fun e => absurd (by omega) hb
    · refine iteF ⟨_, rfl, a, _, 0, .str "home", rfl, rfl, hq, rfl, rfl, _, rfl, iteT ?_⟩
      refine ⟨_, rfl, a, _, 1, .int i, rfl, rfl, hq, rfl, _, rfl, p, _, _, _, _, rfl, hpo, T.cl_Plan, T.na_Plan_blocks, rfl, _, _, rfl, rfl, i, 0, _, rfl, ?_⟩
      rw [decide_eq_false hb]
      exact k
    · refine iteF ⟨_, rfl, a, _, 0, .str "log", rfl, rfl, hq, rfl, rfl, _, rfl, iteF ?_⟩
      refine ⟨_, rfl, a, _, 0, .str "log", rfl, rfl, hq, rfl, rfl, _, rfl, iteT ?_⟩
      refine ⟨_, rfl, a, _, 1, .int i, rfl, rfl, hq, rfl, _, rfl, p, _, _, _, _, rfl, hpo, T.cl_Plan, T.na_Plan_slots, rfl, _, _, rfl, rfl, i, 0, _, rfl, ?_⟩
      rw [decide_eq_false hb]
      exact k
    · refine iteF ⟨_, rfl, a, _, 0, .str "lot", rfl, rfl, hq, rfl, rfl, _, rfl, iteF ?_⟩
      exact ⟨_, rfl, a, _, 0, .str "lot", rfl, rfl, hq, rfl, rfl, _, rfl, iteF k⟩
def sp_fits_planB (K : PySem.W.Frag) (CP : Addr) (Ps : List Addr) : Sp := fun vs H Q _ => ∃ (a p : Addr) (b n s : Int) (r : Rec), vs = [.ref a, .ref p] ∧ RecAt K H a r ∧ ¬ FitP b s r ∧ PlanAt CP H p b n s ∧ Tab Ps H ∧ ∀ H', Tk Ps H H' → Q (.bl false) H'
theorem ok_fits_planB (T : Tx K mg) (B : TBs T base) : FnOk P w K mg base CX0 4 T.f_fits_plan T.fd_fits_plan ["record", "plan"] (sp_fits_planB K T.C_Plan T.Ps) := by
  refine fun_okC T.F_fits_plan T.code_fits_plan sc_fits_plan (fun vs H Q E h => ?_) (fun A outer s H vs Q E hr h => ?_)
  · obtain ⟨_, _, _, _, _, _, rfl, _⟩ := h; rfl
  · obtain ⟨a, p, b, n, sl, r, rfl, hR, hf, hP, ht, k⟩ := h
    refine ⟨_, (pss_cons (ps_if (pt_cmpR op_eq (pe_ix ix_tup (pv 0) pe_int (fun _ _ => rfl)) pe_str (nomark _))
        (pss_one (ps_ret (pe_cmpR op_lt (pe_ix ix_tup (pv 0) pe_int (fun _ _ => rfl)) (pe_fld (pv 1) rfl) (nomark _))))
        pss_nil)
      (pss_cons (ps_if (pt_not (pt_val (GxL.pe_allG (k := 0) (own := [("block", 2), ("slot", 3)]) (g := _) (tt := tYes) hr rfl T.b_all B.t_fits_plan rfl (GxL.gsc_by (by decide +kernel)) (blkOk_by (N := ["record", "plan", "block", "slot"]) (sc := defScope s_fits_plan) (by decide +kernel)) sc_fits_plan.nd (pi_tup (pe_ix ix_tup (pv 0) pe_int (fun _ _ => rfl)))
          (fun _ _ _ _ _ => pg_tupK (K := K) (n := 2) rfl (pgs_cons (pg_name (i := 2) sc_fits_plan.nd rfl (.inl rfl)) (pgs_cons (pg_name (i := 3) sc_fits_plan.nd rfl (.inl rfl)) pgs_nil))) (fun _ _ _ _ _ _ => pts_nil) (fun _ _ _ _ _ _ => pe_and (pe_cmpR op_lt (pv 2) (pe_fldK (K := K) (pv 1) rfl) (nomark _)) (pe_one (pe_cmpR op_lt (pv 3) (pe_fldK (K := K) (pv 1) rfl) (nomark _)))))))
        (pss_one (ps_ret pe_bl))
        pss_nil)
      (pss_one (ps_ret (GxL.pe_allG (k := 0) (own := [("block", 2)]) (g := gName 2) (tt := tYes) hr rfl T.b_all B.t_fits_plan rfl (GxL.gsc_by (by decide +kernel)) (blkOk_by (N := ["record", "plan", "block", "slot"]) (sc := defScope s_fits_plan) (by decide +kernel)) sc_fits_plan.nd (pi_tup (pe_ix ix_tup (pv 0) pe_int (fun _ _ => rfl)))
          (fun _ _ _ _ _ => pg_name (i := 2) sc_fits_plan.nd rfl (Or.inl rfl)) (fun _ _ _ _ _ _ => pts_nil) (fun _ _ _ _ _ _ => pe_cmpR op_lt (pv 2) (pe_fldK (K := K) (pv 1) rfl) (nomark _))))))), ?_⟩
    obtain ⟨dx, hpo⟩ := hP.ob
    cases r with
    | copy lot x c =>
      obtain ⟨pc, h1, h2⟩ := hR
      have hf : ¬ x < b := hf
      refine ⟨_, rfl, a, _, 0, .str "copy", rfl, rfl, h1, rfl, rfl, _, rfl, iteT ?_⟩
      refine ⟨_, rfl, a, _, 2, .int x, rfl, rfl, h1, rfl, _, rfl, p, _, _, _, _, rfl, hpo, T.cl_Plan, T.na_Plan_blocks, rfl, _, _, rfl, rfl, ?_⟩
      show Q (.bl (decide (x < b))) H
      rw [decide_eq_false hf]
      exact k H (.refl ht)
    | mark lot ps rs =>
      obtain ⟨pp, pr, h1, ⟨qs, g1, g2, g3⟩, h3⟩ := hR
      have hf : ¬ ((∀ p ∈ ps, p.1 < b ∧ p.2 < sl) ∧ ∀ r ∈ rs, r < b) := hf
      refine ⟨_, rfl, a, _, 0, .str "mark", rfl, rfl, h1, rfl, rfl, _, rfl, iteF ?_⟩
      refine ⟨_, rfl, a, _, 2, .ref pp, rfl, rfl, h1, rfl, pp, rfl, ⟨_, g1⟩, ht _ T.in_fits_plan, fun H2 hT => gx_tup (K := K) (a := pp) (xs := qs.map V.ref) (fun i H3 => Tk T.Ps H H3 ∧ ∀ p ∈ ps.take i, p.1 < b ∧ p.2 < sl) ⟨Tk.tabbed ht T.in_fits_plan hT, fun x hx => by rw [List.take_zero] at hx; cases hx⟩ (fun i H3 _ kk => kk.1.seqT ht g1) (fun i y H3 hi kk => ?_) fun H3 kk => ⟨_, rfl, iteF ?_⟩⟩
      · rw [List.getElem?_map] at hi
        obtain ⟨q, hq, rfl⟩ := Option.map_eq_some_iff.mp hi
        have hlt := (List.getElem?_eq_some_iff.mp hq).1
        have e2 : ps[i]? = some ps[i] := List.getElem?_eq_getElem (by omega)
        refine ⟨q, _, rfl, kk.1.seqT ht (g3 i q _ hq e2), rfl, _, _, rfl, _, _, rfl, rfl, rfl, yes_ ?_⟩
        refine ⟨_, rfl, _, rfl, p, _, _, _, _, rfl, kk.1.at ht hpo, T.cl_Plan, T.na_Plan_blocks, rfl, _, _, rfl, rfl, _, rfl, ?_⟩
        by_cases c1 : ps[i].1 < b
        · rw [decide_eq_true c1]
          refine iteT ⟨_, rfl, _, rfl, p, _, _, _, _, rfl, kk.1.at ht hpo, T.cl_Plan, T.na_Plan_slots, rfl, _, _, rfl, rfl, _, rfl, ?_⟩
          by_cases c2 : ps[i].2 < sl
          · rw [decide_eq_true c2, if_pos rfl]
            refine ⟨kk.1, fun y hy => ?_⟩
            rw [List.take_succ, e2] at hy
            rcases List.mem_append.mp hy with z | z
            · exact kk.2 y z
            · rw [List.mem_singleton.mp (show y ∈ [ps[i]] from z)]
              exact ⟨c1, c2⟩
          · rw [decide_eq_false c2]
            exact ⟨_, rfl, iteT (k H3 kk.1)⟩
        · rw [decide_eq_false c1]
          refine iteF ⟨_, rfl, ?_⟩
          exact ⟨_, rfl, iteT (k H3 kk.1)⟩
      · have h9 : ∀ p ∈ ps, p.1 < b ∧ p.2 < sl := by
          have := kk.2
          rw [List.length_map, g2, List.take_length] at this
          exact this
        have kk := kk.1
        refine ⟨_, rfl, a, _, 3, .ref pr, rfl, rfl, kk.seqT ht h1, rfl, pr, rfl, ⟨_, kk.seqT ht h3⟩, kk.tab _ T.in_fits_plan, fun H4 hT => gx_tup (K := K) (a := pr) (xs := rs.map V.int) (fun i H5 => Tk T.Ps H H5 ∧ ∀ r ∈ rs.take i, r < b) ⟨kk.trans (Tk.tabbed kk.tab T.in_fits_plan hT), fun x hx => by rw [List.take_zero] at hx; cases hx⟩ (fun i H3 _ kk => kk.1.seqT ht h3) (fun i y H3 hi kk => ?_) fun H3 kk => ?_⟩
        · rw [List.getElem?_map] at hi
          obtain ⟨x, hx, rfl⟩ := Option.map_eq_some_iff.mp hi
          refine ⟨rfl, yes_ ⟨_, rfl, _, rfl, p, _, _, _, _, rfl, kk.1.at ht hpo, T.cl_Plan, T.na_Plan_blocks, rfl, _, _, rfl, rfl, _, rfl, ?_⟩⟩
          by_cases c : x < b
          · rw [decide_eq_true c, if_pos rfl]
            refine ⟨kk.1, fun y hy => ?_⟩
            rw [List.take_succ, hx] at hy
            rcases List.mem_append.mp hy with z | z
            · exact kk.2 y z
            · rw [List.mem_singleton.mp (show y ∈ [x] from z)]
              exact c
          · rw [decide_eq_false c]
            exact k H3 kk.1
        · exfalso
          have := kk.2
          rw [List.length_map, List.take_length] at this
          exact hf ⟨h9, this⟩
def sp_recordB (K : PySem.W.Frag) (Ps : List Addr) : Sp := fun vs H Q _ => ∃ a : Addr, vs = [.ref a] ∧ BadRec K H a ∧ Tab Ps H ∧ ∀ H', Tk Ps H H' → Q (.bl false) H'
theorem ok_recordB (T : Tx K mg) (B : TBs T base) : FnOk P w K mg base CX0 8 T.f_is_record T.fd_is_record ["record"] (sp_recordB K T.Ps) := by
  refine T.F_is_record.ok sc_is_record (fun vs H Q E h => ?_) (fun cdv A outer s H vs Q E hr h => ?_)
  · obtain ⟨_, rfl, _⟩ := h; rfl
  · obtain ⟨a, rfl, hB, ht, k⟩ := h
    have hr1 := hr.mono (show 1 ≤ 7 by decide)
    have hr2 := hr.mono (show 2 ≤ 7 by decide)
    have hr6 := hr.mono (show 6 ≤ 7 by decide)
    refine ⟨_, (pss_cons (ps_if (PW.pt (pw_or (pt_not (pt_val (pe_callB call_isi rfl T.b_isinstance (by decide +kernel) (pa_cons (pv 0) (pa_cons (pe_bltn (v := .ty "tuple") rfl T.b_tuple (by decide +kernel) rfl) pa_nil))))) (pw_or (pt_cmpR op_ne (pe_callB call_len_seq rfl T.b_len (by decide +kernel) (pa_cons (pv 0) pa_nil)) pe_int (nomark _)) (pw_or1 (pt_not (pt_val (pe_call (ok_is_number T) hr1 rfl T.mg_is_number T.F_is_number.kp (b_is_number T) .nil pass0 (pa_cons (pe_ix ix_tup (pv 0) pe_int (fun _ _ => rfl)) (pa_cons pe_int (pa_cons (pe_gc T.c_MOST_LOT) pa_nil))))))))))
        (pss_one (ps_ret pe_bl))
        pss_nil)
      (pss_cons (ps_if (pt_cmpR op_eq (pe_ix ix_tup (pv 0) pe_int (fun _ _ => rfl)) pe_str (nomark _))
        (pss_one (ps_ret (pe_and (pe_call (ok_is_block T) hr2 rfl T.mg_is_block T.F_is_block.kp (b_is_block T) .nil pass0 (pa_cons (pe_ix ix_tup (pv 0) pe_int (fun _ _ => rfl)) pa_nil)) (pe_and (pe_callB call_isi rfl T.b_isinstance (by decide +kernel) (pa_cons (pe_ix ix_tup (pv 0) pe_int (fun _ _ => rfl)) (pa_cons (pe_bltn (v := .ty "tuple") rfl T.b_tuple (by decide +kernel) rfl) pa_nil))) (pe_one (pe_call (ok_is_cell_row T B) hr6 rfl T.mg_is_cell_row T.F_is_cell_row.kp (b_is_cell_row T) .nil pass0 (pa_cons (pe_ix ix_tup (pv 0) pe_int (fun _ _ => rfl)) pa_nil)))))))
        pss_nil)
      (pss_one (ps_ret (pe_and (pe_cmpR op_eq (pe_ix ix_tup (pv 0) pe_int (fun _ _ => rfl)) pe_str (nomark _)) (pe_and (pe_call (ok_are_pairs T B) hr rfl T.mg_are_pairs T.F_are_pairs.kp (b_are_pairs T) .nil pass0 (pa_cons (pe_ix ix_tup (pv 0) pe_int (fun _ _ => rfl)) pa_nil)) (pe_one (pe_call (ok_are_revokes T B) hr6 rfl T.mg_are_revokes T.F_are_revokes.kp (b_are_revokes T) .nil pass0 (pa_cons (pe_ix ix_tup (pv 0) pe_int (fun _ _ => rfl)) pa_nil))))))))), ?_⟩
    have k0 := k H (.refl ht)
    rcases hB with ⟨xs, h1⟩ | ⟨xs, h1, hl⟩ | ⟨l, x, v, h1, hl⟩ | ⟨l, x, pc, xs, h1, h2, f1, f2, f3, f4⟩
    · exact ⟨_, rfl, _, _, _, _, false, rfl, .ty _, .base (.lst h1), kit_ty (by decide +kernel), _, rfl, iteT k0⟩
    · refine ⟨_, rfl, _, _, _, _, true, rfl, .ty _, tyT h1, kit_ty (by decide +kernel), _, rfl, iteF ⟨_, rfl, a, _, rfl, .inr h1, rfl, _, rfl, ?_⟩⟩
      exact wNe (fun _ => k0) fun e => absurd (by omega) hl
    · refine ⟨_, rfl, _, _, _, _, true, rfl, .ty _, tyT h1, kit_ty (by decide +kernel), _, rfl, iteF ⟨_, rfl, a, _, rfl, .inr h1, rfl, _, rfl, iteF ?_⟩⟩
      refine ⟨_, rfl, a, _, 1, .int l, rfl, rfl, h1, rfl, l, 1, 999999, rfl, _, rfl, ?_⟩
      rw [decide_eq_false hl]
      exact iteT k0
    · refine ⟨_, rfl, _, _, _, _, true, rfl, .ty _, tyT h1, kit_ty (by decide +kernel), _, rfl, iteF ⟨_, rfl, a, _, rfl, .inr h1, rfl, _, rfl, iteF ?_⟩⟩
      refine ⟨_, rfl, a, _, 1, .int l, rfl, rfl, h1, rfl, l, 1, 999999, rfl, _, rfl, ?_⟩
      rw [decide_eq_true (show 1 ≤ l ∧ l ≤ 999999 from ⟨f1, f2⟩)]
      refine iteF ⟨_, rfl, a, _, 0, .str "copy", rfl, rfl, h1, rfl, rfl, _, rfl, iteT ?_⟩
      refine ⟨_, rfl, a, _, 2, .int x, rfl, rfl, h1, rfl, x, rfl, _, rfl, ?_⟩
      rw [decide_eq_true (show 0 ≤ x ∧ x ≤ 63 from ⟨f3, f4⟩)]
      exact iteT ⟨_, rfl, a, _, 3, .ref pc, rfl, rfl, h1, rfl, _, _, _, _, false, rfl, .ty _, .base (.lst h2), kit_ty (by decide +kernel), _, rfl, iteF k0⟩
end
end K01
namespace K01
open PySem PySem.Spec PyProof.Rows L2 Rg
/-- no content for a place -/
def BadWhat (K : PySem.W.Frag) (H : Hp) (u : Addr) (b s : Int) : Plc → Prop
  | .home _ => ∃ xs, (SqT K H u xs ∨ H u = some (.lst xs)) ∧ BadRow xs
  | .log _ => BadRec K H u ∨ ∃ r, RecAt K H u r ∧ Fit 64 200 r ∧ ¬ FitP b s r
section
variable {P : Program} {w : World} {K : PySem.W.Frag} {mg : Str → Option Value} {base : Heap}
def sp_contentB (K : PySem.W.Frag) (CP : Addr) (Ps : List Addr) : Sp := fun vs H Q _ => ∃ (p a u : Addr) (b n s : Int) (q : Plc), vs = [.ref p, .ref a, .ref u] ∧ PlcAt K H a q ∧ BadWhat K H u b s q ∧ PlanAt CP H p b n s ∧ Tab Ps H ∧ ∀ H', Tk Ps H H' → Q (.bl false) H'
theorem ok_contentB (T : Tx K mg) (B : TBs T base) : FnOk P w K mg base CX0 9 T.f_is_content T.fd_is_content ["plan", "place", "what"] (sp_contentB K T.C_Plan T.Ps) := by
  refine T.F_is_content.ok sc_is_content (fun vs H Q E h => ?_) (fun cdv A outer s H vs Q E hr h => ?_)
  · obtain ⟨_, _, _, _, _, _, _, rfl, _⟩ := h; rfl
  · obtain ⟨p, a, u, b, n, sl, q, rfl, hq, hw, hP, ht, k⟩ := h
    have hr6 := hr.mono (show 6 ≤ 8 by decide)
    have hr4 := hr.mono (show 4 ≤ 8 by decide)
    cases q with
    | home i =>
      have hq : SqT K H a [.str "home", .int i] := hq
      obtain ⟨xs, hx | hx, hb⟩ := hw
      · refine ⟨_, (pss_cons (ps_if (pt_cmpR op_eq (pe_ix ix_tup (pv 1) pe_int (fun _ _ => rfl)) pe_str (nomark _))
        (pss_one (ps_ret (pe_call (ok_cell_rowBT T B) hr6 rfl T.mg_is_cell_row T.F_is_cell_row.kp (b_is_cell_row T) .nil pass0 (pa_cons (pv 2) pa_nil))))
        pss_nil)
      (pss_one (ps_ret (pe_and (pe_call (ok_recordB T B) hr rfl T.mg_is_record T.F_is_record.kp (b_is_record T) .nil pass0 (pa_cons (pv 2) pa_nil)) (pe_one (pe_call (ok_fits_planB T B) hr4 rfl T.mg_fits_plan T.F_fits_plan.kp (b_fits_plan T) .nil pass0 (pa_cons (pv 2) (pa_cons (pv 0) pa_nil)))))))), ?_⟩
        refine ⟨_, rfl, a, _, 0, .str "home", rfl, rfl, hq, rfl, rfl, _, rfl, iteT ?_⟩
        exact ⟨_, rfl, u, xs, rfl, hx, hb, ht, k⟩
      · refine ⟨_, (pss_cons (ps_if (pt_cmpR op_eq (pe_ix ix_tup (pv 1) pe_int (fun _ _ => rfl)) pe_str (nomark _))
        (pss_one (ps_ret (pe_call (ok_cell_rowBL T B) hr6 rfl T.mg_is_cell_row T.F_is_cell_row.kp (b_is_cell_row T) .nil pass0 (pa_cons (pv 2) pa_nil))))
        pss_nil)
      (pss_one (ps_ret (pe_and (pe_call (ok_recordB T B) hr rfl T.mg_is_record T.F_is_record.kp (b_is_record T) .nil pass0 (pa_cons (pv 2) pa_nil)) (pe_one (pe_call (ok_fits_planB T B) hr4 rfl T.mg_fits_plan T.F_fits_plan.kp (b_fits_plan T) .nil pass0 (pa_cons (pv 2) (pa_cons (pv 0) pa_nil)))))))), ?_⟩
        refine ⟨_, rfl, a, _, 0, .str "home", rfl, rfl, hq, rfl, rfl, _, rfl, iteT ?_⟩
        exact ⟨_, rfl, u, xs, rfl, hx, hb, ht, k⟩
    | log i =>
      have hq : SqT K H a [.str "log", .int i] := hq
      rcases hw with hb | ⟨r, hR, hf, hb⟩
      · refine ⟨_, (pss_cons (ps_if (pt_cmpR op_eq (pe_ix ix_tup (pv 1) pe_int (fun _ _ => rfl)) pe_str (nomark _))
        (pss_one (ps_ret (pe_call (ok_cell_rowBT T B) hr6 rfl T.mg_is_cell_row T.F_is_cell_row.kp (b_is_cell_row T) .nil pass0 (pa_cons (pv 2) pa_nil))))
        pss_nil)
      (pss_one (ps_ret (pe_and (pe_call (ok_recordB T B) hr rfl T.mg_is_record T.F_is_record.kp (b_is_record T) .nil pass0 (pa_cons (pv 2) pa_nil)) (pe_one (pe_call (ok_fits_planB T B) hr4 rfl T.mg_fits_plan T.F_fits_plan.kp (b_fits_plan T) .nil pass0 (pa_cons (pv 2) (pa_cons (pv 0) pa_nil)))))))), ?_⟩
        refine ⟨_, rfl, a, _, 0, .str "log", rfl, rfl, hq, rfl, rfl, _, rfl, iteF ?_⟩
        exact ⟨_, rfl, u, rfl, hb, ht, fun H1 k1 => ⟨_, rfl, iteF (k H1 k1)⟩⟩
      · refine ⟨_, (pss_cons (ps_if (pt_cmpR op_eq (pe_ix ix_tup (pv 1) pe_int (fun _ _ => rfl)) pe_str (nomark _))
        (pss_one (ps_ret (pe_call (ok_cell_rowBT T B) hr6 rfl T.mg_is_cell_row T.F_is_cell_row.kp (b_is_cell_row T) .nil pass0 (pa_cons (pv 2) pa_nil))))
        pss_nil)
      (pss_one (ps_ret (pe_and (pe_call (ok_is_record T B 64 200) hr rfl T.mg_is_record T.F_is_record.kp (b_is_record T) .nil pass0 (pa_cons (pv 2) pa_nil)) (pe_one (pe_call (ok_fits_planB T B) hr4 rfl T.mg_fits_plan T.F_fits_plan.kp (b_fits_plan T) .nil pass0 (pa_cons (pv 2) (pa_cons (pv 0) pa_nil)))))))), ?_⟩
        refine ⟨_, rfl, a, _, 0, .str "log", rfl, rfl, hq, rfl, rfl, _, rfl, iteF ?_⟩
        refine ⟨_, rfl, u, r, rfl, hR, hf, ht, fun H1 k1 => ⟨_, rfl, iteT ?_⟩⟩
        exact ⟨_, rfl, _, rfl, u, p, b, n, sl, r, rfl, hR.tk ht k1, hb, hP.tk ht k1, k1.tab, fun H2 k2 => k H2 (k1.trans k2)⟩
/-! ### Disk.issue of what is no place, of what is no content -/
def sp_issueV (CD CP CB : Addr) (K : PySem.W.Frag) (Ps : List Addr) : Sp := fun vs H _ E => ∃ (d a u : Addr) (A : DA) (b n s hd la : Int) (hs gs : List V) (kv : List (Key × V)), vs = [.ref d, .ref a, .ref u] ∧ DAt CD CP H d A b n s hd la hs gs kv ∧ Tab Ps H ∧
  ((∃ xs, SqT K H a xs ∧ BadPl b s xs) ∨ ∃ q, PlcAt K H a q ∧ Rng b s q ∧ BadWhat K H u b s q) ∧ ∀ H', Tk Ps H H' → E (.ref CB) none H'
theorem ok_issueV (T : Tx K mg) (B : TBs T base) : FnOk P w K mg base (L2N.CX P w) 10 T.f_Disk_issue T.fd_Disk_issue ["self", "place", "what"] (sp_issueV T.C_Disk T.C_Plan T.C_BadValue K T.Ps) := by
  refine T.F_Disk_issue.okN sc_Disk_issue (fun vs H Q E h => ?_) (fun cdv A outer s H vs Q E hr h => ?_)
  · obtain ⟨_, _, _, _, _, _, _, _, _, _, _, _, rfl, _⟩ := h; rfl
  · obtain ⟨d, a, u, A, b, n, sl, hd, la, hs, gs, kv, rfl, D, ht, hb, k⟩ := h
    have hr2 := hr.mono (show 2 ≤ 9 by decide)
    obtain ⟨dx, ho⟩ := D.ob
    rcases hb with ⟨xs, hx, hb⟩ | ⟨q, hq, hb, hw⟩
    · refine ⟨_, (pss_cons (ps_if (PW.pt (pw_or (pt_not (pt_val (pe_call (ok_placeB T) hr2 rfl T.mg_is_place T.F_is_place.kp (b_is_place T) .nil pass0 (pa_cons (pe_fld (pv 0) rfl) (pa_cons (pv 1) pa_nil))))) (pw_or1 (pt_not (pt_val (pe_call (ok_contentB T B) hr rfl T.mg_is_content T.F_is_content.kp (b_is_content T) .nil pass0 (pa_cons (pe_fld (pv 0) rfl) (pa_cons (pv 1) (pa_cons (pv 2) pa_nil)))))))))
        (pss_one (L2N.ps_raise rfl (L2N.takes_of rfl rfl rfl rfl) (L2N.pmk_own PySem.F.excBase_ValueError T.xe_BadValue T.mg_BadValue T.ke_BadValue (raises_own T.be_BadValue T.te_BadValue) rfl)))
        pss_nil)
      (pss_cons ps_never (pss_cons ps_never (pss_cons ps_never (pss_one ps_never))))), ?_⟩
      exact ⟨_, rfl, d, _, _, _, _, rfl, ho, T.cl_Disk, T.na_Disk_plan, rfl, _, rfl, A.p, a, b, n, sl, xs, rfl, hx, hb, D.pl, _, rfl, iteT (k H (.refl ht))⟩
    · refine ⟨_, (pss_cons (ps_if (PW.pt (pw_or (pt_not (pt_val (pe_call (ok_is_place T) hr2 rfl T.mg_is_place T.F_is_place.kp (b_is_place T) .nil pass0 (pa_cons (pe_fld (pv 0) rfl) (pa_cons (pv 1) pa_nil))))) (pw_or1 (pt_not (pt_val (pe_call (ok_contentB T B) hr rfl T.mg_is_content T.F_is_content.kp (b_is_content T) .nil pass0 (pa_cons (pe_fld (pv 0) rfl) (pa_cons (pv 1) (pa_cons (pv 2) pa_nil)))))))))
        (pss_one (L2N.ps_raise rfl (L2N.takes_of rfl rfl rfl rfl) (L2N.pmk_own PySem.F.excBase_ValueError T.xe_BadValue T.mg_BadValue T.ke_BadValue (raises_own T.be_BadValue T.te_BadValue) rfl)))
        pss_nil)
      (pss_cons ps_never (pss_cons ps_never (pss_cons ps_never (pss_one ps_never))))), ?_⟩
      refine ⟨_, rfl, d, _, _, _, _, rfl, ho, T.cl_Disk, T.na_Disk_plan, rfl, _, rfl, A.p, a, b, n, sl, q, rfl, hq, hb, D.pl, _, rfl, iteF ?_⟩
      exact ⟨_, rfl, d, _, _, _, _, rfl, ho, T.cl_Disk, T.na_Disk_plan, rfl, _, rfl, _, rfl, A.p, a, u, b, n, sl, q, rfl, hq, hw, D.pl, ht, fun H1 k1 => ⟨_, rfl, iteT (k H1 k1)⟩⟩
def sp_move_headV (CB : Addr) : Sp := fun vs H _ E => ∃ (d : Addr) (m : Int), vs = [.ref d, .int m] ∧ ¬ (0 ≤ m ∧ m ≤ 999999) ∧ E (.ref CB) none H
theorem ok_move_headV (T : Tx K mg) : FnOk P w K mg base (L2N.CX P w) 2 T.f_Disk_move_head T.fd_Disk_move_head ["self", "p"] (sp_move_headV T.C_BadValue) := by
  refine T.F_Disk_move_head.okN sc_Disk_move_head (fun vs H Q E h => ?_) (fun cdv A outer s H vs Q E hr h => ?_)
  · obtain ⟨_, _, rfl, _⟩ := h; rfl
  · obtain ⟨d, m, rfl, hm, k⟩ := h
    refine ⟨_, (pss_cons (ps_if (pt_not (pt_val (pe_call (ok_is_number T) hr rfl T.mg_is_number T.F_is_number.kp (b_is_number T) .nil pass0 (pa_cons (pv 1) (pa_cons pe_int (pa_cons (pe_gc T.c_MOST_HEAD) pa_nil))))))
        (pss_one (L2N.ps_raise rfl (L2N.takes_of rfl rfl rfl rfl) (L2N.pmk_own PySem.F.excBase_ValueError T.xe_BadValue T.mg_BadValue T.ke_BadValue (raises_own T.be_BadValue T.te_BadValue) rfl)))
        pss_nil)
      (pss_one ps_never)), ?_⟩
    refine ⟨_, rfl, m, 0, 999999, rfl, _, rfl, ?_⟩
    rw [decide_eq_false hm]
    exact iteT k
end
end K01
namespace K01
open PySem PySem.Spec PyProof.Rows L2 Rg PyProof
/-- over a tuple that is known by any way -/
def iEnumT (K : PySem.W.Frag) (ta : TA) : TI := fun σ H R => ta σ H fun vs H1 => ∃ a xs, vs = [.ref a] ∧ SqT K H1 a xs ∧ ∀ J, Walk J xs.length (fun H' => SqT K H' a xs) (YPair (fun i => some (.int (i : Nat))) (fun i => xs[i]?)) → R J H1
theorem pi_enumT {K : PySem.W.Frag} {X : Cx} {e : Expr} {ta : TA} {p pos tpos : Pos} {elts : List Expr} {kk : Nat} (hg : Gl X "enumerate") (hm : X.mg "enumerate" = none) (ha : PA X [e] ta) (hK : X.K = K := by rfl) (hs : starEach [e] X.env = [(false, eval e X.env)] := by rfl) :
    PI X (.Tuple elts kk tpos) (.Call (.Name "enumerate" p) [e] [] pos) (iEnumT K ta) := by
  subst hK
  refine ⟨fun pins s σ H R I h => ?_⟩
  refine Call_ (ld_blt I hg hm boot_enumerate (PyProof.Rows.callWith_type1 (thn (ha.run pos pins s σ H _ I h) fun us s1 ⟨vs, H1, I1, r1, q1⟩ => ?_) hs rfl))
  obtain ⟨a, xs, ex, hw, q⟩ := q1
  subst ex
  cases r1 with
  | cons r rr =>
    cases rr
    cases r
    have fp : ∀ b, b = s1.heap.objs.size + 1 ∨ b = s1.heap.objs.size → FpOk X pins H1 b := fun b e' => by
      have hle : s1.heap.objs.size ≤ b := by
        rcases e' with z | z
        · rw [z]; exact Nat.le_add_right _ _
        · rw [z]; exact Nat.le_refl _
      exact I1.fpOk hle (I1.hok.fresh hle)
    have q := q (IteT X.K a) walk_enumT
    obtain ⟨its, rv, p', hz⟩ := I1.tuple hw
    refine call_enumerate_tuple p' fun h' he hit hsz hk => wpAny_pyIter_enum he ?_
    have I2 : Inv X pins σ H1 { s1 with heap := h' } := I1.kept (t' := s1.toks) hk
    exact ⟨s1.heap.objs.size + 1, [s1.heap.objs.size + 1, s1.heap.objs.size], _, _, H1, rfl, I2, turn_enumT a (s1.heap.objs.size + 1) s1.heap.objs.size, ⟨⟨.none, he⟩, hit, Nat.succ_ne_self _⟩, fun b hb => fp b (by simpa using hb), q⟩
theorem nwh {n i : Nat} (hi : i < n) : ¬ (HT.sIx n 0 none = 0 ∧ HT.sIx n n (some (i : Int)) = n) := fun z => by
  have := z.2
  rw [HT.sIx_nat] at this
  omega
section
variable {P : Program} {w : World} {K : PySem.W.Frag} {mg : Str → Option Value} {base : Heap}
def sp_cutT (CD CP : Addr) (K : PySem.W.Frag) : Sp := fun vs H Q _ => ∃ (d kp : Addr) (A : DA) (b n s hd la : Int) (hs gs : List V) (ps qs : List Pw), vs = [.ref d, .ref kp] ∧ DAt CD CP H d A b n s hd la hs gs (pwK ps) ∧ PwsAt K H b s ps ∧ PwOk la ps ∧ ps.length < 1000 ∧ (∀ q ∈ qs, q ∈ ps) ∧ (qs.map (·.m)).Nodup ∧ qs.length < 1000 ∧ SqT K H kp ((qs.map (·.m)).map V.int) ∧
  ∀ (H' : Hp) (d' : Addr) (A' : DA), Same H H' → H d' = none → H A'.ho = none → H A'.lg = none → H A'.pd = none → A'.p = A.p → DAt CD CP H' d' A' b n s hd 0 (putsH qs hs) (putsG qs gs) [] → Q (.ref d') H'
theorem ok_cutT (T : Tx K mg) : FnOk P w K mg base CX0 4 T.f_Disk_cut T.fd_Disk_cut ["self", "keep"] (sp_cutT T.C_Disk T.C_Plan K) := by
  refine funD_ok T.F_Disk_cut sc_Disk_cut (fun vs H Q E h => ?_) (fun cdv A0 outer s H vs Q E hr h => ?_)
  · obtain ⟨_, _, _, _, _, _, _, _, _, _, _, _, rfl, _⟩ := h; rfl
  · obtain ⟨d, kp, A, b, n, sl, hd, la, hs, gs, ps, qs, rfl, D, hps, ok, lp, hq, nq, lq, ek, k⟩ := h
    have hr1 : Room 1 _ := hr.mono (by decide)
    refine ⟨_, (pss_cons (ps_set (i := 2) sc_Disk_cut.nd rfl (.inl rfl) (pe_meth0 (pv 0) T.cl_Disk T.m_Disk__settled (ok_settled T) hr (b_Disk__settled T) .nil pass0))
      (pss_cons (ps_for PassesOwn.never rfl (pi_enumT (K := K) rfl T.b_enumerate (pa_cons (pv 1) pa_nil)) (pg_tup rfl (pgs_cons (pg_name (i := 3) sc_Disk_cut.nd rfl (.inl rfl)) (pgs_cons (pg_name (i := 4) sc_Disk_cut.nd rfl (.inl rfl)) pgs_nil)))
        (pss_cons (ps_if (PW.pt (pw_or (pt_cmp (pc_dnotin (hu_of hr) (pv 4) (pe_fld (pv 0) rfl)) rfl) (pw_or1 (pt_cmpR op_in_seq (pv 4) (pe_slice sl_tup (pv 1) po_none (po_some (pv 3))) rfl))))
          (pss_one ps_never)
          pss_nil)
        (pss_cons (ps_asg (pe_dget (hu_of hr) (pe_fld (pv 0) rfl) (pv 4) (fun _ _ => rfl)) (pg_tup rfl (pgs_cons (pg_name (i := 5) sc_Disk_cut.nd rfl (.inl rfl)) (pgs_cons (pg_name (i := 6) sc_Disk_cut.nd rfl (.inl rfl)) pgs_nil))))
        (pss_one (ps_expr (pe_meth (pv 2) T.cl_Disk T.m_Disk__put (ok_put T) hr1 (b_Disk__put T) .nil pass0 (pa_cons (pv 5) (pa_cons (pv 6) pa_nil))))))))
      (pss_one (ps_ret (pv 2))))), ?_⟩
    obtain ⟨dxo, hob⟩ := D.ob
    refine ⟨_, rfl, d, _, _, rfl, hob, rfl, d, A, b, n, sl, hd, la, hs, gs, _, rfl, D, fun H1 x A1 S1 nx n1 n2 n3 eA D1 => ?_⟩
    ((try dsimp only); (first | (refine Rg.sg (σ' := [some (.ref d), some (.ref kp), some (.ref x), none, none, none, none]) ?_ ?_; focus exact rfl) | (refine Rg.sgG (σ' := [some (.ref d), some (.ref kp), some (.ref x), none, none, none, none]) ?_ ?_; focus exact rfl)))
    have keepH : ∀ {H2 : Hp} {y : Addr} {o : HO}, Kp [A1.ho, A1.lg] H1 H2 → H y = some o → H2 y = some o := fun {H2 y o} kk e => kk _ _ (S1 _ _ e) (by
      simp only [List.mem_cons, List.not_mem_nil, or_false, not_or]
      constructor
      · intro z; rw [z, n1] at e; cases e
      · intro z; rw [z, n2] at e; cases e)
    have keepS : ∀ {H2 : Hp} {y : Addr} {xs : List V}, Kp [A1.ho, A1.lg] H1 H2 → SqT K H y xs → SqT K H2 y xs := fun {H2 y xs} kk e => sameT (fun z o q => keepH kk q) e
    refine ⟨_, rfl, kp, _, rfl, sameT S1 ek, fun J hJ => ?_⟩
    refine for_it hJ (fun i σ H2 => ∃ u3 u4 u5 u6 : Option V, σ = [some (.ref d), some (.ref kp), some (.ref x), u3, u4, u5, u6] ∧ Kp [A1.ho, A1.lg] H1 H2 ∧ DAt T.C_Disk T.C_Plan H2 x A1 b n sl hd 0 (putsH (qs.take i) hs) (putsG (qs.take i) gs) []) ⟨none, none, none, none, rfl, Kp.refl, D1⟩ (fun i σ H2 _ ⟨_, _, _, _, _, kk, _⟩ => keepS kk ek) ?_ ?_
    · rintro i v σ H2 H3 hi ⟨u3, u4, u5, u6, rfl, kk, D2⟩ ⟨T1, v1, v2, rfl, nT, rfl, g1, g2⟩
      rw [List.length_map, List.length_map] at hi
      have ep := List.getElem?_eq_getElem hi
      obtain ⟨p, epp⟩ : ∃ p, p = qs[i] := ⟨_, rfl⟩
      rw [← epp] at ep
      have g2 : ((qs.map (·.m)).map V.int)[i]? = some v2 := g2
      rw [List.getElem?_map, List.getElem?_map, ep] at g2
      cases g1
      cases g2
      have hp := hq p (List.mem_of_getElem? ep)
      have st := same_upd (o := .tup [.int (i : Int), .int p.m]) nT
      have k3 : Kp [A1.ho, A1.lg] H1 (upd H2 T1 (.tup [.int (i : Int), .int p.m])) := kk.same st
      have D3 := D2.by fun y o e _ => st y o e
      refine ⟨T1, _, rfl, .of upd_same, rfl, _, _, rfl, _, _, rfl, rfl, ?_⟩
      generalize upd H2 T1 (.tup [.int (i : Int), .int p.m]) = H3 at k3 D3 ⊢
      ((try dsimp only); (first | (refine Rg.sg (σ' := [some (.ref d), some (.ref kp), some (.ref x), some (.int (i : Int)), some (.int p.m), u5, u6]) ?_ ?_; focus exact rfl) | (refine Rg.sgG (σ' := [some (.ref d), some (.ref kp), some (.ref x), some (.int (i : Int)), some (.int p.m), u5, u6]) ?_ ?_; focus exact rfl)))
      have ev := pwK_get ok.n hp
      have dg : ∀ {Hx : Hp}, Hx A.pd = some (.dK (pwK ps)) → DGet Hx A.pd (.int p.m) (some (.ref p.t)) := fun e => by
        have := DGet.k (k := Sum.inl p.m) e
        rw [ev] at this
        exact this
      refine ⟨_, rfl, _, rfl, d, _, _, _, _, rfl, keepH k3 hob, T.cl_Disk, T.na_Disk__pending, rfl, A.pd, some (.ref p.t), rfl, dg (keepH k3 D.pd), _, rfl, iteF ?_⟩
      refine ⟨_, rfl, _, rfl, _, rfl, _, rfl, kp, _, rfl, keepS k3 ek, nwh (by rw [List.length_map, List.length_map]; exact hi), ?_⟩
      rw [cutTake, ← List.map_take]
      (intro z n_z; generalize he_z : upd _ z _ = H4; obtain ⟨e_z, s_z, f_z⟩ := new_f he_z n_z; clear he_z)
      refine ⟨z, _, rfl, .inr (.of e_z), rfl, flatIs _, _, rfl, ?_⟩
      rw [if_neg (by decide), inV_int]
      have nin : p.m ∉ (qs.map (·.m)).take i := fun hm => by
        obtain ⟨j, hj, ej⟩ := List.getElem_of_mem hm
        rw [List.length_take] at hj
        rw [List.getElem_take] at ej
        have l2 : i < (qs.map (·.m)).length := by rw [List.length_map]; exact hi
        have h2 : (qs.map (·.m))[i] = p.m := by rw [List.getElem_map, ← epp]
        have := (List.getElem_inj nq).mp (ej.trans h2.symm)
        omega
      refine wF nin ?_
      have k4 := k3.same s_z
      have D4 := D3.by fun y o e _ => s_z y o e
      refine ⟨_, rfl, d, _, _, _, _, rfl, keepH k4 hob, T.cl_Disk, T.na_Disk__pending, rfl, _, rfl, A.pd, .ref p.t, rfl, dg (keepH k4 D.pd), ?_⟩
      have P0 := hps p hp
      refine ⟨p.t, _, rfl, .of (keepH k4 P0.t), rfl, _, _, rfl, _, _, rfl, rfl, ?_⟩
      ((try dsimp only); (first | (refine Rg.sg (σ' := [some (.ref d), some (.ref kp), some (.ref x), some (.int (i : Int)), some (.int p.m), some (.ref p.a), some (.ref p.u)]) ?_ ?_; focus exact rfl) | (refine Rg.sgG (σ' := [some (.ref d), some (.ref kp), some (.ref x), some (.int (i : Int)), some (.int p.m), some (.ref p.a), some (.ref p.u)]) ?_ ?_; focus exact rfl)))
      obtain ⟨dx4, ob4⟩ := D4.ob
      have SH4 : Same H H4 := fun y o e => keepH k4 e
      have pa4 := P0.a.by fun b xs h => sameT SH4 h
      have rg := P0.f.rng
      have eH : putsH (qs.take (i + 1)) hs = putH p.q (.ref p.u) (putsH (qs.take i) hs) := by
        rw [List.take_succ, ep]
        exact putsH_snoc _ _ _
      have eG : putsG (qs.take (i + 1)) gs = putG p.q (.ref p.u) (putsG (qs.take i) gs) := by
        rw [List.take_succ, ep]
        exact putsG_snoc _ _ _
      refine ⟨_, rfl, x, dx4, _, rfl, ob4, rfl, _, rfl, _, rfl, x, p.a, .ref p.u, A1, b, n, sl, hd, 0, _, _, [], p.q, rfl, D4, pa4, ?_⟩
      cases hpq : p.q with
      | home j =>
        rw [hpq] at rg eH eG
        refine ⟨rg.1, rg.2, _, _, _, _, rfl, k4.own (by simp), ?_⟩
        rw [eH, eG]
        exact D4.setH j.toNat (.ref p.u)
      | log j =>
        rw [hpq] at rg eH eG
        refine ⟨rg.1, rg.2, _, _, _, _, rfl, k4.own (by simp), ?_⟩
        rw [eH, eG]
        exact D4.setL j.toNat (.ref p.u)
    rintro σ H2 ⟨u3, u4, u5, u6, rfl, kk, D2⟩
    rw [List.length_map, List.length_map, List.take_length] at D2
    refine ⟨_, rfl, k H2 x A1 (fun y o e => keepH kk e) nx n1 n2 n3 eA D2⟩
def sp_cutVT (CD CP CN : Addr) (K : PySem.W.Frag) : Sp := fun vs H _ E => ∃ (d kp : Addr) (A : DA) (b n s hd la : Int) (hs gs : List V) (ps : List Pw) (ns : List Int), vs = [.ref d, .ref kp] ∧ DAt CD CP H d A b n s hd la hs gs (pwK ps) ∧ PwsAt K H b s ps ∧ PwOk la ps ∧ ps.length < 1000 ∧ ns.length < 1000 ∧ SqT K H kp (ns.map V.int) ∧ ¬ ((∀ m ∈ ns, ∃ p ∈ ps, p.m = m) ∧ ns.Nodup) ∧ ∀ H', Same H H' → E (.ref CN) none H'
theorem ok_cutVT (T : Tx K mg) : FnOk P w K mg base (L2N.CX P w) 4 T.f_Disk_cut T.fd_Disk_cut ["self", "keep"] (sp_cutVT T.C_Disk T.C_Plan T.C_NoWrite K) := by
  refine T.F_Disk_cut.ok sc_Disk_cut (fun vs H Q E h => ?_) (fun cdv A0 outer s H vs Q E hr h => ?_)
  · obtain ⟨_, _, _, _, _, _, _, _, _, _, _, _, rfl, _⟩ := h; rfl
  · obtain ⟨d, kp, A, b, n, sl, hd, la, hs, gs, ps, ns, rfl, D, hps, ok, lp, lq, ek, hbad, k⟩ := h
    have hr1 : Room 1 _ := hr.mono (by decide)
    refine ⟨_, (pss_cons (ps_set (i := 2) sc_Disk_cut.nd rfl (.inl rfl) (pe_meth0 (pv 0) T.cl_Disk T.m_Disk__settled (ok_settled T) hr (b_Disk__settled T) .nil pass0))
      (pss_cons (ps_for (passes_of rfl) rfl (pi_enumT (K := K) rfl T.b_enumerate (pa_cons (pv 1) pa_nil)) (pg_tup rfl (pgs_cons (pg_name (i := 3) sc_Disk_cut.nd rfl (.inl rfl)) (pgs_cons (pg_name (i := 4) sc_Disk_cut.nd rfl (.inl rfl)) pgs_nil)))
        (pss_cons (ps_if (PW.pt (pw_or (pt_cmp (pc_dnotin (hu_of hr) (pv 4) (pe_fld (pv 0) rfl)) rfl) (pw_or1 (pt_cmpR op_in_seq (pv 4) (pe_slice sl_tup (pv 1) po_none (po_some (pv 3))) rfl))))
          (pss_one (L2N.ps_raise rfl (L2N.takes_of rfl rfl rfl rfl) (L2N.pmk_own PySem.F.excBase_ValueError T.xe_NoWrite T.mg_NoWrite T.ke_NoWrite (raises_own T.be_NoWrite T.te_NoWrite) rfl)))
          pss_nil)
        (pss_cons (ps_asg (pe_dget (hu_of hr) (pe_fld (pv 0) rfl) (pv 4) (fun _ _ => rfl)) (pg_tup rfl (pgs_cons (pg_name (i := 5) sc_Disk_cut.nd rfl (.inl rfl)) (pgs_cons (pg_name (i := 6) sc_Disk_cut.nd rfl (.inl rfl)) pgs_nil))))
        (pss_one (ps_expr (pe_meth (pv 2) T.cl_Disk T.m_Disk__put (ok_put T) hr1 (b_Disk__put T) .nil pass0 (pa_cons (pv 5) (pa_cons (pv 6) pa_nil))))))))
      (pss_one (ps_ret (pv 2))))), ?_⟩
    obtain ⟨dxo, hob⟩ := D.ob
    refine ⟨_, rfl, d, _, _, rfl, hob, rfl, d, A, b, n, sl, hd, la, hs, gs, _, rfl, D, fun H1 x A1 S1 nx n1 n2 n3 eA D1 => ?_⟩
    ((try dsimp only); (first | (refine Rg.sg (σ' := [some (.ref d), some (.ref kp), some (.ref x), none, none, none, none]) ?_ ?_; focus exact rfl) | (refine Rg.sgG (σ' := [some (.ref d), some (.ref kp), some (.ref x), none, none, none, none]) ?_ ?_; focus exact rfl)))
    have keepH : ∀ {H2 : Hp} {y : Addr} {o : HO}, Kp [A1.ho, A1.lg] H1 H2 → H y = some o → H2 y = some o := fun {H2 y o} kk e => kk _ _ (S1 _ _ e) (by
      simp only [List.mem_cons, List.not_mem_nil, or_false, not_or]
      constructor
      · intro z; rw [z, n1] at e; cases e
      · intro z; rw [z, n2] at e; cases e)
    have keepS : ∀ {H2 : Hp} {y : Addr} {xs : List V}, Kp [A1.ho, A1.lg] H1 H2 → SqT K H y xs → SqT K H2 y xs := fun {H2 y xs} kk e => sameT (fun z o q => keepH kk q) e
    refine ⟨_, rfl, kp, _, rfl, sameT S1 ek, fun J hJ => ?_⟩
    refine for_it hJ (fun i σ H2 => ∃ (u3 u4 u5 u6 : Option V) (hs' gs' : List V), σ = [some (.ref d), some (.ref kp), some (.ref x), u3, u4, u5, u6] ∧ Kp [A1.ho, A1.lg] H1 H2 ∧ DAt T.C_Disk T.C_Plan H2 x A1 b n sl hd 0 hs' gs' [] ∧ (∀ m ∈ ns.take i, ∃ p ∈ ps, p.m = m) ∧ (ns.take i).Nodup) ⟨none, none, none, none, _, _, rfl, Kp.refl, D1, (fun m hm => by rw [List.take_zero] at hm; cases hm), by rw [List.take_zero]; exact List.nodup_nil⟩ (fun i σ H2 _ ⟨_, _, _, _, _, _, _, kk, _⟩ => keepS kk ek) ?_ ?_
    · rintro i v σ H2 H3 hi ⟨u3, u4, u5, u6, hs', gs', rfl, kk, D2, g3, g4⟩ ⟨T1, v1, v2, rfl, nT, rfl, g1, g2⟩
      rw [List.length_map] at hi
      have ep := List.getElem?_eq_getElem hi
      obtain ⟨m, em⟩ : ∃ m, m = ns[i] := ⟨_, rfl⟩
      rw [← em] at ep
      have g2 : (ns.map V.int)[i]? = some v2 := g2
      rw [List.getElem?_map, ep] at g2
      cases g1
      cases g2
      have et : ns.take (i + 1) = ns.take i ++ [m] := by rw [List.take_succ, ep]; rfl
      have st := same_upd (o := .tup [.int (i : Int), .int m]) nT
      have k3 : Kp [A1.ho, A1.lg] H1 (upd H2 T1 (.tup [.int (i : Int), .int m])) := kk.same st
      have D3 := D2.by fun y o e _ => st y o e
      refine ⟨T1, _, rfl, .of upd_same, rfl, _, _, rfl, _, _, rfl, rfl, ?_⟩
      generalize upd H2 T1 (.tup [.int (i : Int), .int m]) = H3 at k3 D3 ⊢
      ((try dsimp only); (first | (refine Rg.sg (σ' := [some (.ref d), some (.ref kp), some (.ref x), some (.int (i : Int)), some (.int m), u5, u6]) ?_ ?_; focus exact rfl) | (refine Rg.sgG (σ' := [some (.ref d), some (.ref kp), some (.ref x), some (.int (i : Int)), some (.int m), u5, u6]) ?_ ?_; focus exact rfl)))
      have sm3 : ∀ {Hx : Hp}, Kp [A1.ho, A1.lg] H1 Hx → Same H Hx := fun kx y o e => keepH kx e
      have dg0 : ∀ {Hx : Hp}, Hx A.pd = some (.dK (pwK ps)) → DGet Hx A.pd (.int m) (valV (pwK ps) (Sum.inl m)) := fun e => DGet.k (k := Sum.inl m) e
      by_cases hp : ∃ p ∈ ps, p.m = m
      rotate_left
      · refine ⟨_, rfl, _, rfl, d, _, _, _, _, rfl, keepH k3 hob, T.cl_Disk, T.na_Disk__pending, rfl, A.pd, none, rfl, ?_, _, rfl, iteT (k _ (sm3 k3))⟩
        rw [← pwK_none (ps := ps) (m := m) fun p hp' e => hp ⟨p, hp', e⟩]
        exact dg0 (keepH k3 D.pd)
      obtain ⟨p, hp, rfl⟩ := hp
      have ev := pwK_get ok.n hp
      have dg : ∀ {Hx : Hp}, Hx A.pd = some (.dK (pwK ps)) → DGet Hx A.pd (.int p.m) (some (.ref p.t)) := fun e => by
        have := dg0 e
        rw [ev] at this
        exact this
      refine ⟨_, rfl, _, rfl, d, _, _, _, _, rfl, keepH k3 hob, T.cl_Disk, T.na_Disk__pending, rfl, A.pd, some (.ref p.t), rfl, dg (keepH k3 D.pd), _, rfl, iteF ?_⟩
      refine ⟨_, rfl, _, rfl, _, rfl, _, rfl, kp, _, rfl, keepS k3 ek, nwh (by rw [List.length_map]; exact hi), ?_⟩
      rw [cutTake, ← List.map_take]
      (intro z n_z; generalize he_z : upd _ z _ = H4; obtain ⟨e_z, s_z, f_z⟩ := new_f he_z n_z; clear he_z)
      refine ⟨z, _, rfl, .inr (.of e_z), rfl, flatIs _, _, rfl, ?_⟩
      rw [if_neg (by decide), inV_int]
      have k4 := k3.same s_z
      by_cases nin : p.m ∈ ns.take i
      · rw [decide_eq_true nin]
        exact iteT (k _ (sm3 k4))
      refine wF nin ?_
      have D4 := D3.by fun y o e _ => s_z y o e
      refine ⟨_, rfl, d, _, _, _, _, rfl, keepH k4 hob, T.cl_Disk, T.na_Disk__pending, rfl, _, rfl, A.pd, .ref p.t, rfl, dg (keepH k4 D.pd), ?_⟩
      have P0 := hps p hp
      refine ⟨p.t, _, rfl, .of (keepH k4 P0.t), rfl, _, _, rfl, _, _, rfl, rfl, ?_⟩
      ((try dsimp only); (first | (refine Rg.sg (σ' := [some (.ref d), some (.ref kp), some (.ref x), some (.int (i : Int)), some (.int p.m), some (.ref p.a), some (.ref p.u)]) ?_ ?_; focus exact rfl) | (refine Rg.sgG (σ' := [some (.ref d), some (.ref kp), some (.ref x), some (.int (i : Int)), some (.int p.m), some (.ref p.a), some (.ref p.u)]) ?_ ?_; focus exact rfl)))
      obtain ⟨dx4, ob4⟩ := D4.ob
      have SH4 : Same H H4 := sm3 k4
      have pa4 := P0.a.by fun b xs h => sameT SH4 h
      have rg := P0.f.rng
      have g5 : ∀ m ∈ ns.take (i + 1), ∃ p ∈ ps, p.m = m := fun m' hm => by
        rw [et] at hm
        rcases List.mem_append.mp hm with z | z
        · exact g3 m' z
        · rw [List.mem_singleton.mp z]
          exact ⟨p, hp, rfl⟩
      have g6 : (ns.take (i + 1)).Nodup := by
        rw [et]
        refine List.nodup_append.mpr ⟨g4, List.nodup_cons.mpr ⟨List.not_mem_nil, List.nodup_nil⟩, fun a ha c hc => ?_⟩
        rw [List.mem_singleton.mp hc]
        exact fun z => nin (by rw [← z]; exact ha)
      refine ⟨_, rfl, x, dx4, _, rfl, ob4, rfl, _, rfl, _, rfl, x, p.a, .ref p.u, A1, b, n, sl, hd, 0, _, _, [], p.q, rfl, D4, pa4, ?_⟩
      cases hpq : p.q with
      | home j =>
        rw [hpq] at rg
        exact ⟨rg.1, rg.2, _, _, _, _, _, _, rfl, k4.own (by simp), D4.setH j.toNat (.ref p.u), g5, g6⟩
      | log j =>
        rw [hpq] at rg
        exact ⟨rg.1, rg.2, _, _, _, _, _, _, rfl, k4.own (by simp), D4.setL j.toNat (.ref p.u), g5, g6⟩
    rintro σ H2 ⟨u3, u4, u5, u6, hs', gs', rfl, kk, D2, g3, g4⟩
    rw [List.length_map, List.take_length] at g3 g4
    exact absurd ⟨g3, g4⟩ hbad
def sp_cutVL (CD CP CN : Addr) (K : PySem.W.Frag) : Sp := fun vs H _ E => ∃ (d kp : Addr) (A : DA) (b n s hd la : Int) (hs gs : List V) (ps : List Pw) (ns : List Int), vs = [.ref d, .ref kp] ∧ DAt CD CP H d A b n s hd la hs gs (pwK ps) ∧ PwsAt K H b s ps ∧ PwOk la ps ∧ ps.length < 1000 ∧ ns.length < 1000 ∧ H kp = some (.lst (ns.map V.int)) ∧ ¬ ((∀ m ∈ ns, ∃ p ∈ ps, p.m = m) ∧ ns.Nodup) ∧ ∀ H', Same H H' → E (.ref CN) none H'
theorem ok_cutVL (T : Tx K mg) : FnOk P w K mg base (L2N.CX P w) 4 T.f_Disk_cut T.fd_Disk_cut ["self", "keep"] (sp_cutVL T.C_Disk T.C_Plan T.C_NoWrite K) := by
  refine T.F_Disk_cut.ok sc_Disk_cut (fun vs H Q E h => ?_) (fun cdv A0 outer s H vs Q E hr h => ?_)
  · obtain ⟨_, _, _, _, _, _, _, _, _, _, _, _, rfl, _⟩ := h; rfl
  · obtain ⟨d, kp, A, b, n, sl, hd, la, hs, gs, ps, ns, rfl, D, hps, ok, lp, lq, ek, hbad, k⟩ := h
    have hr1 : Room 1 _ := hr.mono (by decide)
    refine ⟨_, (pss_cons (ps_set (i := 2) sc_Disk_cut.nd rfl (.inl rfl) (pe_meth0 (pv 0) T.cl_Disk T.m_Disk__settled (ok_settled T) hr (b_Disk__settled T) .nil pass0))
      (pss_cons (ps_for (passes_of rfl) rfl (pi_enumA rfl T.b_enumerate (pa_cons (pv 1) pa_nil)) (pg_tup rfl (pgs_cons (pg_name (i := 3) sc_Disk_cut.nd rfl (.inl rfl)) (pgs_cons (pg_name (i := 4) sc_Disk_cut.nd rfl (.inl rfl)) pgs_nil)))
        (pss_cons (ps_if (PW.pt (pw_or (pt_cmp (pc_dnotin (hu_of hr) (pv 4) (pe_fld (pv 0) rfl)) rfl) (pw_or1 (pt_cmpR op_in_seq (pv 4) (pe_slice sl_list (pv 1) po_none (po_some (pv 3))) rfl))))
          (pss_one (L2N.ps_raise rfl (L2N.takes_of rfl rfl rfl rfl) (L2N.pmk_own PySem.F.excBase_ValueError T.xe_NoWrite T.mg_NoWrite T.ke_NoWrite (raises_own T.be_NoWrite T.te_NoWrite) rfl)))
          pss_nil)
        (pss_cons (ps_asg (pe_dget (hu_of hr) (pe_fld (pv 0) rfl) (pv 4) (fun _ _ => rfl)) (pg_tup rfl (pgs_cons (pg_name (i := 5) sc_Disk_cut.nd rfl (.inl rfl)) (pgs_cons (pg_name (i := 6) sc_Disk_cut.nd rfl (.inl rfl)) pgs_nil))))
        (pss_one (ps_expr (pe_meth (pv 2) T.cl_Disk T.m_Disk__put (ok_put T) hr1 (b_Disk__put T) .nil pass0 (pa_cons (pv 5) (pa_cons (pv 6) pa_nil))))))))
      (pss_one (ps_ret (pv 2))))), ?_⟩
    obtain ⟨dxo, hob⟩ := D.ob
    refine ⟨_, rfl, d, _, _, rfl, hob, rfl, d, A, b, n, sl, hd, la, hs, gs, _, rfl, D, fun H1 x A1 S1 nx n1 n2 n3 eA D1 => ?_⟩
    ((try dsimp only); (first | (refine Rg.sg (σ' := [some (.ref d), some (.ref kp), some (.ref x), none, none, none, none]) ?_ ?_; focus exact rfl) | (refine Rg.sgG (σ' := [some (.ref d), some (.ref kp), some (.ref x), none, none, none, none]) ?_ ?_; focus exact rfl)))
    have keepH : ∀ {H2 : Hp} {y : Addr} {o : HO}, Kp [A1.ho, A1.lg] H1 H2 → H y = some o → H2 y = some o := fun {H2 y o} kk e => kk _ _ (S1 _ _ e) (by
      simp only [List.mem_cons, List.not_mem_nil, or_false, not_or]
      constructor
      · intro z; rw [z, n1] at e; cases e
      · intro z; rw [z, n2] at e; cases e)
    refine ⟨_, rfl, kp, _, rfl, .inl (S1 _ _ ek), fun J hJ => ?_⟩
    refine for_it hJ (fun i σ H2 => ∃ (u3 u4 u5 u6 : Option V) (hs' gs' : List V), σ = [some (.ref d), some (.ref kp), some (.ref x), u3, u4, u5, u6] ∧ Kp [A1.ho, A1.lg] H1 H2 ∧ DAt T.C_Disk T.C_Plan H2 x A1 b n sl hd 0 hs' gs' [] ∧ (∀ m ∈ ns.take i, ∃ p ∈ ps, p.m = m) ∧ (ns.take i).Nodup) ⟨none, none, none, none, _, _, rfl, Kp.refl, D1, (fun m hm => by rw [List.take_zero] at hm; cases hm), by rw [List.take_zero]; exact List.nodup_nil⟩ (fun i σ H2 _ ⟨_, _, _, _, _, _, _, kk, _⟩ => by rw [keepH kk ek, S1 _ _ ek]) ?_ ?_
    · rintro i v σ H2 H3 hi ⟨u3, u4, u5, u6, hs', gs', rfl, kk, D2, g3, g4⟩ ⟨T1, v1, v2, rfl, nT, rfl, g1, g2⟩
      rw [List.length_map] at hi
      have ep := List.getElem?_eq_getElem hi
      obtain ⟨m, em⟩ : ∃ m, m = ns[i] := ⟨_, rfl⟩
      rw [← em] at ep
      have g2 : (ns.map V.int)[i]? = some v2 := g2
      rw [List.getElem?_map, ep] at g2
      cases g1
      cases g2
      have et : ns.take (i + 1) = ns.take i ++ [m] := by rw [List.take_succ, ep]; rfl
      have st := same_upd (o := .tup [.int (i : Int), .int m]) nT
      have k3 : Kp [A1.ho, A1.lg] H1 (upd H2 T1 (.tup [.int (i : Int), .int m])) := kk.same st
      have D3 := D2.by fun y o e _ => st y o e
      refine ⟨T1, _, rfl, .of upd_same, rfl, _, _, rfl, _, _, rfl, rfl, ?_⟩
      generalize upd H2 T1 (.tup [.int (i : Int), .int m]) = H3 at k3 D3 ⊢
      ((try dsimp only); (first | (refine Rg.sg (σ' := [some (.ref d), some (.ref kp), some (.ref x), some (.int (i : Int)), some (.int m), u5, u6]) ?_ ?_; focus exact rfl) | (refine Rg.sgG (σ' := [some (.ref d), some (.ref kp), some (.ref x), some (.int (i : Int)), some (.int m), u5, u6]) ?_ ?_; focus exact rfl)))
      have sm3 : ∀ {Hx : Hp}, Kp [A1.ho, A1.lg] H1 Hx → Same H Hx := fun kx y o e => keepH kx e
      have dg0 : ∀ {Hx : Hp}, Hx A.pd = some (.dK (pwK ps)) → DGet Hx A.pd (.int m) (valV (pwK ps) (Sum.inl m)) := fun e => DGet.k (k := Sum.inl m) e
      by_cases hp : ∃ p ∈ ps, p.m = m
      rotate_left
      · refine ⟨_, rfl, _, rfl, d, _, _, _, _, rfl, keepH k3 hob, T.cl_Disk, T.na_Disk__pending, rfl, A.pd, none, rfl, ?_, _, rfl, iteT (k _ (sm3 k3))⟩
        rw [← pwK_none (ps := ps) (m := m) fun p hp' e => hp ⟨p, hp', e⟩]
        exact dg0 (keepH k3 D.pd)
      obtain ⟨p, hp, rfl⟩ := hp
      have ev := pwK_get ok.n hp
      have dg : ∀ {Hx : Hp}, Hx A.pd = some (.dK (pwK ps)) → DGet Hx A.pd (.int p.m) (some (.ref p.t)) := fun e => by
        have := dg0 e
        rw [ev] at this
        exact this
      refine ⟨_, rfl, _, rfl, d, _, _, _, _, rfl, keepH k3 hob, T.cl_Disk, T.na_Disk__pending, rfl, A.pd, some (.ref p.t), rfl, dg (keepH k3 D.pd), _, rfl, iteF ?_⟩
      refine ⟨_, rfl, _, rfl, _, rfl, _, rfl, kp, _, rfl, .of (keepH k3 ek), ?_⟩
      rw [cutTake, ← List.map_take]
      (intro z n_z; generalize he_z : upd _ z _ = H4; obtain ⟨e_z, s_z, f_z⟩ := new_f he_z n_z; clear he_z)
      refine ⟨z, _, rfl, .inl (.of e_z), rfl, flatIs _, _, rfl, ?_⟩
      rw [if_neg (by decide), inV_int]
      have k4 := k3.same s_z
      by_cases nin : p.m ∈ ns.take i
      · rw [decide_eq_true nin]
        exact iteT (k _ (sm3 k4))
      refine wF nin ?_
      have D4 := D3.by fun y o e _ => s_z y o e
      refine ⟨_, rfl, d, _, _, _, _, rfl, keepH k4 hob, T.cl_Disk, T.na_Disk__pending, rfl, _, rfl, A.pd, .ref p.t, rfl, dg (keepH k4 D.pd), ?_⟩
      have P0 := hps p hp
      refine ⟨p.t, _, rfl, .of (keepH k4 P0.t), rfl, _, _, rfl, _, _, rfl, rfl, ?_⟩
      ((try dsimp only); (first | (refine Rg.sg (σ' := [some (.ref d), some (.ref kp), some (.ref x), some (.int (i : Int)), some (.int p.m), some (.ref p.a), some (.ref p.u)]) ?_ ?_; focus exact rfl) | (refine Rg.sgG (σ' := [some (.ref d), some (.ref kp), some (.ref x), some (.int (i : Int)), some (.int p.m), some (.ref p.a), some (.ref p.u)]) ?_ ?_; focus exact rfl)))
      obtain ⟨dx4, ob4⟩ := D4.ob
      have SH4 : Same H H4 := sm3 k4
      have pa4 := P0.a.by fun b xs h => sameT SH4 h
      have rg := P0.f.rng
      have g5 : ∀ m ∈ ns.take (i + 1), ∃ p ∈ ps, p.m = m := fun m' hm => by
        rw [et] at hm
        rcases List.mem_append.mp hm with z | z
        · exact g3 m' z
        · rw [List.mem_singleton.mp z]
          exact ⟨p, hp, rfl⟩
      have g6 : (ns.take (i + 1)).Nodup := by
        rw [et]
        refine List.nodup_append.mpr ⟨g4, List.nodup_cons.mpr ⟨List.not_mem_nil, List.nodup_nil⟩, fun a ha c hc => ?_⟩
        rw [List.mem_singleton.mp hc]
        exact fun z => nin (by rw [← z]; exact ha)
      refine ⟨_, rfl, x, dx4, _, rfl, ob4, rfl, _, rfl, _, rfl, x, p.a, .ref p.u, A1, b, n, sl, hd, 0, _, _, [], p.q, rfl, D4, pa4, ?_⟩
      cases hpq : p.q with
      | home j =>
        rw [hpq] at rg
        exact ⟨rg.1, rg.2, _, _, _, _, _, _, rfl, k4.own (by simp), D4.setH j.toNat (.ref p.u), g5, g6⟩
      | log j =>
        rw [hpq] at rg
        exact ⟨rg.1, rg.2, _, _, _, _, _, _, rfl, k4.own (by simp), D4.setL j.toNat (.ref p.u), g5, g6⟩
    rintro σ H2 ⟨u3, u4, u5, u6, hs', gs', rfl, kk, D2, g3, g4⟩
    rw [List.length_map, List.take_length] at g3 g4
    exact absurd ⟨g3, g4⟩ hbad
end
end K01
namespace K01
open PySem PySem.Spec PyProof.Rows L2 Rg
/-! ### two values that read alike: None, numbers, texts, tuples of them -/
def flatE (x y : V) : Prop := x = y ∧ (x = .non ∨ (∃ i, x = .int i) ∨ ∃ z, x = .str z)
def Sm (K : PySem.W.Frag) (H : Hp) : Nat → V → V → Prop
  | 0, x, y => flatE x y
  | n + 1, x, y => flatE x y ∨ ∃ a b xs ys, x = .ref a ∧ y = .ref b ∧ SqT K H a xs ∧ SqT K H b ys ∧ xs.length = ys.length ∧ ys.length < 1000 ∧ ∀ (i : Nat) (x y : V), xs[i]? = some x → ys[i]? = some y → Sm K H n x y
theorem Sm.by {K : PySem.W.Frag} {H H' : Hp} (f : ∀ b xs, SqT K H b xs → SqT K H' b xs) : ∀ {n : Nat} {x y : V}, Sm K H n x y → Sm K H' n x y
  | 0, _, _, h => h
  | n + 1, _, _, h => by
    rcases h with h | ⟨a, b, xs, ys, e1, e2, p, q, e4, e5, e6⟩
    · exact .inl h
    · exact .inr ⟨a, b, xs, ys, e1, e2, f _ _ p, f _ _ q, e4, e5, fun i x y h1 h2 => Sm.by f (e6 i x y h1 h2)⟩
theorem Sm.same {K : PySem.W.Frag} {H H' : Hp} (s : Same H H') {n : Nat} {x y : V} (h : Sm K H n x y) : Sm K H' n x y := h.by fun _ _ => sameT s
theorem Sm.up {K : PySem.W.Frag} {H : Hp} : ∀ {n : Nat} {x y : V}, Sm K H n x y → Sm K H (n + 1) x y
  | 0, _, _, h => .inl h
  | n + 1, _, _, h => by
    rcases h with h | ⟨a, b, xs, ys, e1, e2, p, q, e4, e5, e6⟩
    · exact .inl h
    · exact .inr ⟨a, b, xs, ys, e1, e2, p, q, e4, e5, fun i x y h1 h2 => (e6 i x y h1 h2).up⟩
theorem Sm.flat {K : PySem.W.Frag} {H : Hp} {n : Nat} {x y : V} (h : flatE x y) : Sm K H n x y := by
  cases n with
  | zero => exact h
  | succ n => exact .inl h
theorem Sm.int {K : PySem.W.Frag} {H : Hp} {n : Nat} {i : Int} : Sm K H n (.int i) (.int i) := Sm.flat ⟨rfl, .inr (.inl ⟨i, rfl⟩)⟩
theorem smStr {K : PySem.W.Frag} {H : Hp} {n : Nat} {z : Str} : Sm K H n (.str z) (.str z) := Sm.flat ⟨rfl, .inr (.inr ⟨z, rfl⟩)⟩
theorem smNon {K : PySem.W.Frag} {H : Hp} {n : Nat} : Sm K H n .non .non := Sm.flat ⟨rfl, .inl rfl⟩
theorem Sm.inv {K : PySem.W.Frag} {H : Hp} {n : Nat} {x y : V} (h : Sm K H n x y) : flatE x y ∨ ∃ m a b xs ys, n = m + 1 ∧ x = .ref a ∧ y = .ref b ∧ SqT K H a xs ∧ SqT K H b ys ∧ xs.length = ys.length ∧ ys.length < 1000 ∧ ∀ (i : Nat) (x y : V), xs[i]? = some x → ys[i]? = some y → Sm K H m x y := by
  cases n with
  | zero => exact .inl h
  | succ m =>
    rcases h with h | ⟨a, b, xs, ys, e⟩
    · exact .inl h
    · exact .inr ⟨m, a, b, xs, ys, rfl, e⟩
theorem smI {K : PySem.W.Frag} {H : Hp} {n : Nat} (c : List Int) (i : Nat) (x y : V) (h1 : (c.map V.int)[i]? = some x) (h2 : (c.map V.int)[i]? = some y) : Sm K H n x y := by
  rw [h1] at h2
  cases h2
  rw [List.getElem?_map] at h1
  obtain ⟨z, _, rfl⟩ := Option.map_eq_some_iff.mp h1
  exact Sm.int
theorem smT {K : PySem.W.Frag} {H : Hp} {n : Nat} {a b : Addr} {xs ys : List V} (ha : SqT K H a xs) (hb : SqT K H b ys) (hl : xs.length = ys.length) (hn : ys.length < 1000) (h : ∀ (i : Nat) (x y : V), xs[i]? = some x → ys[i]? = some y → Sm K H n x y) : Sm K H (n + 1) (.ref a) (.ref b) := .inr ⟨a, b, xs, ys, rfl, rfl, ha, hb, hl, hn, h⟩
theorem smIs {K : PySem.W.Frag} {H : Hp} {n : Nat} {a b : Addr} {c : List Int} (ha : SqT K H a (c.map V.int)) (hb : SqT K H b (c.map V.int)) (hn : c.length < 1000) : Sm K H (n + 1) (.ref a) (.ref b) := smT ha hb rfl (by rw [List.length_map]; exact hn) (smI c)
section
variable {P : Program} {w : World} {K : PySem.W.Frag} {mg : Str → Option Value} {base : Heap}
def sp_Lsame (K : PySem.W.Frag) (n : Nat) : Sp := fun vs H Q _ => ∃ x y, vs = [x, y] ∧ Sm K H n x y ∧ Q (.bl true) H
theorem ok_Lsame_step (T : Tx K mg) (n : Nat) (sp0 : Sp) (F0 : FnOk P w K mg base CX0 (n + 1) T.f_Lsame T.fd_Lsame ["_law_actual", "_law_due"] sp0) (hsp : ∀ (x y : V) (H : Hp) (Q : VK) (E : XK), (∃ m, n = m + 1 ∧ Sm K H m x y) → Q (.bl true) H → sp0 [x, y] H Q E) : FnOk P w K mg base CX0 (n + 2) T.f_Lsame T.fd_Lsame ["_law_actual", "_law_due"] (sp_Lsame K n) := by
  refine T.F_Lsame.ok sc_Lsame (fun vs H Q E h => ?_) (fun cdv A outer s H vs Q E hr h => ?_)
  · obtain ⟨_, _, rfl, _⟩ := h; rfl
  · obtain ⟨x, y, rfl, hS, k⟩ := h
    refine ⟨_, (pss_cons (ps_if (pt_val (pe_callB call_isi rfl T.b_isinstance (by decide +kernel) (pa_cons (pv 1) (pa_cons (pe_bltn (v := .ty "tuple") rfl T.b_tuple (by decide +kernel) rfl) pa_nil))))
        (pss_cons (ps_if (PW.pt (pw_or (pt_not (pt_val (pe_callB call_isi rfl T.b_isinstance (by decide +kernel) (pa_cons (pv 0) (pa_cons (pe_bltn (v := .ty "tuple") rfl T.b_tuple (by decide +kernel) rfl) pa_nil))))) (pw_or1 (pt_cmpR op_ne (pe_callB call_len_seq rfl T.b_len (by decide +kernel) (pa_cons (pv 0) pa_nil)) (pe_callB call_len_seq rfl T.b_len (by decide +kernel) (pa_cons (pv 1) pa_nil)) (nomark _)))))
          (pss_one (ps_ret pe_bl))
          pss_nil)
        (pss_cons (ps_for PassesOwn.never rfl (pi_range1 rfl T.b_range (pa_cons (pe_callB call_len_seq rfl T.b_len (by decide +kernel) (pa_cons (pv 1) pa_nil)) pa_nil)) (pg_name (i := 2) sc_Lsame.nd rfl (.inl rfl))
          (pss_one (ps_if (pt_not (pt_val (pe_call F0 hr rfl T.mg_Lsame T.F_Lsame.kp (b_Lsame T) .nil pass0 (pa_cons (pe_ix ix_tup (pv 0) (pv 2) (fun _ _ => rfl)) (pa_cons (pe_ix ix_tup (pv 1) (pv 2) (fun _ _ => rfl)) pa_nil)))))
            (pss_one (ps_ret pe_bl))
            pss_nil)))
        (pss_one (ps_ret pe_bl))))
        pss_nil)
      (pss_cons (ps_if (pt_cmpR op_isN (pv 1) pe_non (nomark _))
        (pss_one (ps_ret (pe_cmpR op_isN (pv 0) pe_non (nomark _))))
        pss_nil)
      (pss_cons (ps_if (pt_val (pe_callB call_isi rfl T.b_isinstance (by decide +kernel) (pa_cons (pv 1) (pa_cons (pe_bltn (v := .ty "str") rfl T.b_str (by decide +kernel) rfl) pa_nil))))
        (pss_one (ps_ret (pe_and (pe_callB call_isi rfl T.b_isinstance (by decide +kernel) (pa_cons (pv 0) (pa_cons (pe_bltn (v := .ty "str") rfl T.b_str (by decide +kernel) rfl) pa_nil))) (pe_one (pe_cmpR op_eq (pv 0) (pv 1) (nomark _))))))
        pss_nil)
      (pss_one (ps_ret (pe_and (pe_callB call_isi rfl T.b_isinstance (by decide +kernel) (pa_cons (pv 0) (pa_cons (pe_bltn (v := .ty "int") rfl T.b_int (by decide +kernel) rfl) pa_nil))) (pe_and (pe_not (pe_callB call_isi rfl T.b_isinstance (by decide +kernel) (pa_cons (pv 0) (pa_cons (pe_bltn (v := .ty "bool") rfl T.b_bool (by decide +kernel) rfl) pa_nil)))) (pe_one (pe_cmpR op_eq (pv 0) (pv 1) (nomark _)))))))))), ?_⟩
    rcases hS.inv with hf | ⟨m, a, b, xs, ys, rfl, rfl, rfl, p, q, e4, e5, e6⟩
    · obtain ⟨rfl, hf⟩ := hf
      rcases hf with rfl | ⟨i, rfl⟩ | ⟨z, rfl⟩
      · exact ⟨_, rfl, _, _, _, _, false, rfl, .ty _, .base .non, kit_ty (by decide +kernel), _, rfl, iteF ⟨_, rfl, rfl, _, rfl, iteT ⟨_, rfl, rfl, k⟩⟩⟩
      · refine ⟨_, rfl, _, _, _, _, false, rfl, .ty _, .base (.int _), kit_ty (by decide +kernel), _, rfl, iteF ⟨_, rfl, rfl, _, rfl, iteF ⟨_, rfl, _, _, _, _, false, rfl, .ty _, .base (.int _), kit_ty (by decide +kernel), _, rfl, iteF ⟨_, rfl, _, _, _, _, true, rfl, .ty _, .base (.int _), kit_ty (by decide +kernel), _, rfl, iteT ⟨_, rfl, _, _, _, _, false, rfl, .ty _, .base (.int _), kit_ty (by decide +kernel), _, rfl, _, rfl, iteT ⟨_, rfl, _, rfl, rfl, ?_⟩⟩⟩⟩⟩⟩
        rw [decide_eq_true rfl]
        exact k
      · refine ⟨_, rfl, _, _, _, _, false, rfl, .ty _, .base (.str _), kit_ty (by decide +kernel), _, rfl, iteF ⟨_, rfl, rfl, _, rfl, iteF ⟨_, rfl, _, _, _, _, true, rfl, .ty _, .base (.str _), kit_ty (by decide +kernel), _, rfl, iteT ⟨_, rfl, _, _, _, _, true, rfl, .ty _, .base (.str _), kit_ty (by decide +kernel), _, rfl, iteT ⟨_, rfl, _, rfl, rfl, ?_⟩⟩⟩⟩⟩
        rw [decide_eq_true rfl]
        exact k
    · refine ⟨_, rfl, _, _, _, _, true, rfl, .ty _, tyT q, kit_ty (by decide +kernel), _, rfl, iteT ⟨_, rfl, _, _, _, _, true, rfl, .ty _, tyT p, kit_ty (by decide +kernel), _, rfl, iteF ?_⟩⟩
      refine ⟨_, rfl, a, _, rfl, .inr p, _, rfl, b, _, rfl, .inr q, rfl, _, rfl, ?_⟩
      rw [dec_iv, e4, decide_eq_true rfl]
      refine iteF ⟨_, rfl, b, _, rfl, .inr q, _, rfl, by omega, by omega, for_range (lo := 0) (n := ((ys.length : Int)).toNat) (fun i σ H' => ∃ u2 : Option V, σ = [some (.ref a), some (.ref b), u2] ∧ H' = H) ⟨_, rfl, rfl⟩ ?_ ?_⟩
      · rintro i σ H' hi ⟨u2, rfl, rfl⟩
        have hiy : i < ys.length := by omega
        have hix : i < xs.length := by omega
        have ez : (0 : Int) + (i : Int) = (i : Int) := by omega
        rw [ez]
        have ax : atI xs (i : Int) = some xs[i] := atI_nat (List.getElem?_eq_getElem hix)
        have ay : atI ys (i : Int) = some ys[i] := atI_nat (List.getElem?_eq_getElem hiy)
        have sm := e6 i _ _ (List.getElem?_eq_getElem hix) (List.getElem?_eq_getElem hiy)
        exact ⟨_, rfl, _, rfl, a, _, _, _, rfl, rfl, p, ax, _, rfl, _, rfl, b, _, _, _, rfl, rfl, q, ay, hsp xs[i] ys[i] _ _ _ ⟨m, rfl, sm⟩ ⟨_, rfl, iteF ⟨_, rfl, rfl⟩⟩⟩
      · rintro σ H' ⟨u2, rfl, rfl⟩
        exact k
theorem ok_Lsame (T : Tx K mg) : ∀ n, FnOk P w K mg base CX0 (n + 2) T.f_Lsame T.fd_Lsame ["_law_actual", "_law_due"] (sp_Lsame K n)
  | 0 => by
    refine ok_Lsame_step T 0 (fun _ _ _ _ => False) ⟨fun _ _ _ _ h => h.elim, fun _ _ _ _ _ _ _ _ _ _ _ _ _ h => h.elim⟩ ?_
    rintro x y H Q E ⟨m, e, _⟩
    omega
  | n + 1 => ok_Lsame_step T (n + 1) (sp_Lsame K n) (ok_Lsame T n) fun x y H Q E ⟨m, e, sm⟩ k => ⟨x, y, rfl, by cases e; exact sm, k⟩
end
end K01
namespace K01
open PySem PySem.Spec PyProof.Rows L2 Rg
/-! ### what stands at a place, rows of places -/
def VAt (K : PySem.W.Frag) (H : Hp) (v : V) : Option Ct → Prop
  | none => v = .non
  | some w => ∃ a, v = .ref a ∧ CtAt K H a w
structure Row (K : PySem.W.Frag) (H : Hp) (vs : List V) (os : List (Option Ct)) : Prop where
  l : vs.length = os.length
  a : ∀ (i : Nat) (v : V) (o : Option Ct), vs[i]? = some v → os[i]? = some o → VAt K H v o
theorem VAt.by {K : PySem.W.Frag} {H H1 : Hp} {v : V} {o : Option Ct} (h : VAt K H v o) (f : ∀ b xs, SqT K H b xs → SqT K H1 b xs) : VAt K H1 v o := by
  cases o with
  | none => exact h
  | some w => obtain ⟨a, e, c⟩ := h; exact ⟨a, e, c.by f⟩
theorem Row.by {K : PySem.W.Frag} {H H1 : Hp} {vs : List V} {os : List (Option Ct)} (h : Row K H vs os) (f : ∀ b xs, SqT K H b xs → SqT K H1 b xs) : Row K H1 vs os := ⟨h.l, fun i v o a b => (h.a i v o a b).by f⟩
theorem Row.same {K : PySem.W.Frag} {H H1 : Hp} {vs : List V} {os : List (Option Ct)} (h : Row K H vs os) (e : Same H H1) : Row K H1 vs os := h.by fun _ _ => sameT e
theorem Row.set {K : PySem.W.Frag} {H : Hp} {vs : List V} {os : List (Option Ct)} (h : Row K H vs os) {v : V} {o : Option Ct} (hv : VAt K H v o) (j : Nat) : Row K H (vs.set j v) (os.set j o) := by
  refine ⟨by rw [List.length_set, List.length_set]; exact h.l, fun i v2 o2 a b => ?_⟩
  by_cases e : j = i
  · subst e
    by_cases hj : j < vs.length
    · rw [List.getElem?_set_self hj] at a
      rw [List.getElem?_set_self (by rw [← h.l]; exact hj)] at b
      cases a
      cases b
      exact hv
    · rw [List.getElem?_eq_none (by rw [List.length_set]; omega)] at a
      cases a
  · rw [List.getElem?_set_ne e] at a b
    exact h.a i v2 o2 a b
/-- tuples stay where a list, an object, a dict is written -/
theorem seqT_ne {K : PySem.W.Frag} {H : Hp} {a c : Addr} {o u : HO} {xs : List V} (h : SqT K H a xs) (e : H c = some o) (n : ∀ xs, o ≠ .tup xs := by intro _ z; cases z) (n2 : ∀ o' xs, o ≠ .frz o' (.tup xs) := by intro _ _ z; cases z) : SqT K (upd H c u) a xs := by
  rcases h with (q | ⟨o', q⟩) | q
  · exact .inl (.inl (by rw [upd_ne (fun z => by rw [z, e] at q; exact n _ (Option.some.inj q))]; exact q))
  · exact .inl (.inr ⟨o', by rw [upd_ne (fun z => by rw [z, e] at q; exact n2 _ _ (Option.some.inj q))]; exact q⟩)
  · exact .inr q
/-! ### disks and their books as plain values -/
structure Wv where
  (m : Int) (q : Plc) (w : Ct)
structure Md where
  (hm lg : List (Option Ct)) (hd la : Int) (ws : List Wv)
def Pw.wv (p : Pw) : Wv := ⟨p.m, p.q, p.w⟩
structure DkAt (CD CP : Addr) (K : PySem.W.Frag) (H : Hp) (d : Addr) (A : DA) (hs gs : List V) (ps : List Pw) (M : Md) : Prop where
  D : DAt CD CP H d A 24 5 30 M.hd M.la hs gs (pwK ps)
  P : PwsAt K H 24 30 ps
  O : PwOk M.la ps
  rh : Row K H hs M.hm
  rg : Row K H gs M.lg
  e : ps.map Pw.wv = M.ws
  n : ps.length < 900
theorem DkAt.lh {CD CP : Addr} {K : PySem.W.Frag} {H : Hp} {d : Addr} {A : DA} {hs gs : List V} {ps : List Pw} {M : Md} (h : DkAt CD CP K H d A hs gs ps M) : M.hm.length = 24 := by
  have := h.rh.l
  have := h.D.hl
  omega
theorem DkAt.lg {CD CP : Addr} {K : PySem.W.Frag} {H : Hp} {d : Addr} {A : DA} {hs gs : List V} {ps : List Pw} {M : Md} (h : DkAt CD CP K H d A hs gs ps M) : M.lg.length = 30 := by
  have := h.rg.l
  have := h.D.gl
  omega
theorem DkAt.same {CD CP : Addr} {K : PySem.W.Frag} {H H' : Hp} {d : Addr} {A : DA} {hs gs : List V} {ps : List Pw} {M : Md} (h : DkAt CD CP K H d A hs gs ps M) (s : Same H H') : DkAt CD CP K H' d A hs gs ps M :=
  ⟨h.D.same s, h.P.by (fun _ _ => sameT s) (fun _ _ e => s _ _ e), h.O, h.rh.same s, h.rg.same s, h.e, h.n⟩
section
variable {P : Program} {w : World} {K : PySem.W.Frag} {mg : Str → Option Value} {base : Heap}
/-! ### Plan.text of the law's plan -/
def sp_Ptext (CP : Addr) : Sp := fun vs H Q _ => ∃ (p : Addr), vs = [.ref p] ∧ PlanAt CP H p 24 5 30 ∧ Q (.str "plan 24 5 30") H
theorem ok_Ptext (T : Tx K mg) : FnOk P w K mg base CX0 1 T.f_Plan_text T.fd_Plan_text ["self"] (sp_Ptext T.C_Plan) := by
  refine T.F_Plan_text.ok sc_Plan_text (fun vs H Q E h => ?_) (fun cdv A outer s H vs Q E hr h => ?_)
  · obtain ⟨_, rfl, _⟩ := h; rfl
  · obtain ⟨p, rfl, hp, k⟩ := h
    refine ⟨_, (pss_one (ps_ret (pe_joined (.cons pe_str (.cons (pe_fmt (pe_fld (pv 0) rfl)) (.cons pe_str (.cons (pe_fmt (pe_fld (pv 0) rfl)) (.cons pe_str (.cons (pe_fmt (pe_fld (pv 0) rfl)) .nil))))))))), ?_⟩
    obtain ⟨px, hpo⟩ := hp.ob
    refine ⟨_, rfl, by decide +kernel, _, rfl, p, _, _, _, _, rfl, hpo, T.cl_Plan, T.na_Plan_blocks, rfl, .inr ⟨24, rfl, by decide +kernel, _, rfl, by decide +kernel, ?_⟩⟩
    refine ⟨_, rfl, by decide +kernel, _, rfl, p, _, _, _, _, rfl, hpo, T.cl_Plan, T.na_Plan_nodes, rfl, .inr ⟨5, rfl, by decide +kernel, _, rfl, by decide +kernel, ?_⟩⟩
    refine ⟨_, rfl, by decide +kernel, _, rfl, p, _, _, _, _, rfl, hpo, T.cl_Plan, T.na_Plan_slots, rfl, .inr ⟨30, rfl, by decide +kernel, _, rfl, by decide +kernel, ?_⟩⟩
    have e : (((((Str.empty ++ "plan ") ++ toString (24 : Int)) ++ " ") ++ toString (5 : Int)) ++ " ") ++ toString (30 : Int) = ("plan 24 5 30" : Str) := by decide +kernel
    show Q (.str _) H
    rw [e]
    exact k
section
variable {X : Cx} {K : PySem.W.Frag}
def rTupOf (K : PySem.W.Frag) : List V → Hp → VK → Prop := fun xs H Q => ∃ p ys, xs = [.ref p] ∧ ((SqL K H p ys ∧ ∀ l, H l = none → Q (.ref l) (upd H l (.tup ys))) ∨ (SqT K H p ys ∧ Q (.ref p) H))
theorem pe_tuplA {e : Expr} {te : TE} {p pos : Pos} (he : PE X e te) (hm : X.mg "tuple" = none) (hK : X.K = K := by rfl) (hg : Gl X "tuple" := by rfl) (hs : starEach [e] X.env = (false, eval e X.env) :: starEach [] X.env := by rfl) : PE X (.Call (.Name "tuple" p) [e] [] pos) (tCB (rTupOf K) (tCons te tNil)) := by
  subst hK
  exact pe_callTy call_tuple_of hg hm (by decide +kernel) (pa_cons he pa_nil hs) (he := hs)
end
end
/-! ### the plain steps of a book -/
def stH (q : Plc) (o : Option Ct) (hm : List (Option Ct)) : List (Option Ct) := match q with
  | .home i => hm.set i.toNat o
  | .log _ => hm
def stG (q : Plc) (o : Option Ct) (lg : List (Option Ct)) : List (Option Ct) := match q with
  | .home _ => lg
  | .log i => lg.set i.toNat o
def stHs : List Wv → List (Option Ct) → List (Option Ct)
  | [], hm => hm
  | x :: xs, hm => stHs xs (stH x.q (some x.w) hm)
def stGs : List Wv → List (Option Ct) → List (Option Ct)
  | [], lg => lg
  | x :: xs, lg => stGs xs (stG x.q (some x.w) lg)
def wOut (m : Int) (ws : List Wv) : List Wv := ws.filter fun x => !decide (x.m = m)
def Md.issue (M : Md) (q : Plc) (w : Ct) : Md := { M with la := M.la + 1, ws := M.ws ++ [⟨M.la + 1, q, w⟩] }
def Md.sure (M : Md) (x : Wv) : Md := { M with hm := stH x.q (some x.w) M.hm, lg := stG x.q (some x.w) M.lg, ws := wOut x.m M.ws }
def Md.bar (M : Md) : Md := { M with hm := stHs M.ws M.hm, lg := stGs M.ws M.lg, ws := [] }
def Md.head (M : Md) (p : Int) : Md := { M with hd := p }
def wTaken (q : Plc) (ws : List Wv) : Bool := ws.any fun x => decide (x.q = q)
theorem taken_w (q : Plc) (ps : List Pw) : taken q ps = wTaken q (ps.map Pw.wv) := by unfold taken wTaken; rw [List.any_map]; rfl
theorem out_w (m : Int) (ps : List Pw) : (pwOut m ps).map Pw.wv = wOut m (ps.map Pw.wv) := by
  unfold pwOut wOut
  rw [List.filter_map]
  rfl
section
variable {K : PySem.W.Frag} {H : Hp}
theorem Row.putH {hs : List V} {hm : List (Option Ct)} (h : Row K H hs hm) {q : Plc} {v : V} {o : Option Ct} (hv : VAt K H v o) : Row K H (putH q v hs) (stH q o hm) := by
  cases q with
  | home i => exact h.set hv _
  | log i => exact h
theorem Row.putG {hs : List V} {hm : List (Option Ct)} (h : Row K H hs hm) {q : Plc} {v : V} {o : Option Ct} (hv : VAt K H v o) : Row K H (putG q v hs) (stG q o hm) := by
  cases q with
  | home i => exact h
  | log i => exact h.set hv _
theorem Row.putsH : ∀ {ps : List Pw} {hs : List V} {hm : List (Option Ct)}, (∀ p ∈ ps, CtAt K H p.u p.w) → Row K H hs hm → Row K H (putsH ps hs) (stHs (ps.map Pw.wv) hm)
  | [], _, _, _, h => h
  | p :: ps, hs, hm, hp, h => Row.putsH (ps := ps) (hs := K01.putH p.q (.ref p.u) hs) (hm := stH p.q (some p.w) hm) (fun x hx => hp x (by simp [hx])) (h.putH (v := .ref p.u) (o := some p.w) ⟨p.u, rfl, hp p (by simp)⟩)
theorem Row.putsG : ∀ {ps : List Pw} {hs : List V} {hm : List (Option Ct)}, (∀ p ∈ ps, CtAt K H p.u p.w) → Row K H hs hm → Row K H (putsG ps hs) (stGs (ps.map Pw.wv) hm)
  | [], _, _, _, h => h
  | p :: ps, hs, hm, hp, h => Row.putsG (ps := ps) (hs := K01.putG p.q (.ref p.u) hs) (hm := stG p.q (some p.w) hm) (fun x hx => hp x (by simp [hx])) (h.putG (v := .ref p.u) (o := some p.w) ⟨p.u, rfl, hp p (by simp)⟩)
end
/-- a disk has done something at its own places -/
def dOwn (d : Addr) (A : DA) : List Addr := [d, A.ho, A.lg, A.pd]
structure Did (K : PySem.W.Frag) (Ps : List Addr) (S : List Addr) (H H' : Hp) : Prop where
  t : Tab Ps H'
  k : Kp (S ++ Ps) H H'
  f : ∀ b xs, SqT K H b xs → SqT K H' b xs
section
variable {X : Cx}
def tEither (t u : TS) : TS := fun D σ H => t D σ H ∨ u D σ H
theorem pss_either {sts : List Stmt} {t u : TS} (h1 : PSs X sts t) (h2 : PSs X sts u) : PSs X sts (tEither t u) := ⟨fun pins s σ H E I hh => hh.elim (h1.run pins s σ H E I) (h2.run pins s σ H E I)⟩
end
section
variable {X : Cx} {e : Expr} {t1 t2 : TE}
theorem pe_either (h1 : PE X e t1) (h2 : PE X e t2) : PE X e (fun σ H Q => t1 σ H Q ∨ t2 σ H Q) := ⟨fun pins s σ H Q I h => h.elim (h1.run pins s σ H Q I) (h2.run pins s σ H Q I)⟩
end
section
variable {X : Cx} {CX : CXT} {k : Nat} {f C : Addr} {fd : FuncData} {ps : List Str} {sp : Sp} {E : L2.St → XK} {m : Str} {p pos apos : Pos} {e o : Expr} {es : List Expr} {ta : TE} {t : TA}
/-- o.m(e, ..), what the body raises told slot by slot -/
def tMethS (C : Addr) (m : Str) (sp : Sp) (E : L2.St → XK) (ta : TE) (t : TA) : TE := fun σ H Q => ta σ H fun x H1 => ∃ a dx fs, x = .ref a ∧ H1 a = some (.ins C dx fs) ∧ fs.lookup m = none ∧ t σ H1 fun vs H2 => sp (.ref a :: vs) H2 Q (E σ)
theorem pe_methT {pl : Sem Bool} (he : PE X o ta) (c : Cls X.K C) (hm : Meth X.K C m f) (F : FnOk X.prog X.w X.K X.mg X.base CX k f fd ps sp) (hr : Room k X.A) (hb : Binds X.K fd ps []) (hx : ∀ σ, PassesAt CX X σ (E σ)) (ha : PA X (e :: es) t)
    (hst : starEach (e :: es) X.env = (false, eval e X.env) :: starEach es X.env := by rfl) (hpl : (backTo pos (starEach es X.env)).any (·.1) = false := by rfl)
    (ht : eval (.Call (.Attribute o m apos) (e :: es) [] pos) X.env = (do
      let ov ← eval o X.env
      standAt apos.atName
      let (f, first) ← holding [ov] (getMethod ov m pl)
      callWith pos f first (backTo pos (starEach (e :: es) X.env)) (backToKw pos (keywordEach [] X.env))) := by rfl) :
    PE X (.Call (.Attribute o m apos) (e :: es) [] pos) (tMethS C m sp E ta t) := by
  refine ⟨fun pins s σ H Q I h => ?_⟩
  refine PySem.W.methodCall_KW (pl := pl) (thn (he.run pins s σ H _ I h) fun u s1 ⟨x, H1, I1, rx, a, dx, fs, ex, ea, l, q⟩ => ?_) ht
  subst ex
  obtain rfl : u = Value.ref a := rx
  refine getmeth_ok I1 ea c hm l ?_
  refine PySem.W.callWith_K (first := [.ref a]) (h₀ := X.base) I.ok.mod.kin hm.kp (thn (ha.run pos pins s1 σ H1 _ I1 q) fun us s2 ⟨vs, H2, I2, r, q2⟩ => ⟨I2.kIn, ?_⟩) hst hpl
  exact run_fnS (us := .ref a :: us) (vs := .ref a :: vs) F hr hb (hx σ) I2 (.cons rfl r) q2
end
theorem exm_subB {K : PySem.W.Frag} {D S : Addr} {b : Bool} (h1 : PySem.W.subIn K (.ref S) (.type "BaseException") = some true) (h2 : PySem.W.isClsIn K S = true) (h3 : PySem.W.typeIn K (.ref S) = some (.type "type")) (h4 : PySem.W.subIn K (.ref D) (.ref S) = some b) :
    PySem.W.exmOne K (.ref D) (.ref S) = some b := by
  have e1 : (PySem.W.subIn K (.ref S) (.type "BaseException") == some true) = true := by rw [h1] <;> rfl
  have e2 : ((PySem.W.clsIn K S).isSome && PySem.W.typeIn K (.ref S) == some (.type "type")) = true := by
    have h2' : (PySem.W.clsIn K S).isSome = true := h2
    rw [h2', h3] <;> rfl
  show (if (PySem.W.subIn K (.ref S) (.type "BaseException") == some true) = true then (if ((PySem.W.clsIn K S).isSome && PySem.W.typeIn K (.ref S) == some (.type "type")) = true then PySem.W.subIn K (.ref D) (.ref S) else none) else none) = some b
  rw [if_pos e1, if_pos e2]
  exact h4
section
variable {P : Program} {w : World} {K : PySem.W.Frag} {mg : Str → Option Value} {base : Heap}
/-! ### Disk.issue to a busy place, Disk.sure of a number that is not pending -/
def sp_issueB (CD CP CB : Addr) (K : PySem.W.Frag) (Ps : List Addr) : Sp := fun vs H _ E => ∃ (d a u : Addr) (A : DA) (b n s hd la : Int) (hs gs : List V) (ps : List Pw) (q : Plc) (w : Ct), vs = [.ref d, .ref a, .ref u] ∧ DAt CD CP H d A b n s hd la hs gs (pwK ps) ∧ PwsAt K H b s ps ∧ PlcAt K H a q ∧ CtIn K H u w ∧ CtFit b s q w ∧ taken q ps = true ∧ Tab Ps H ∧
  ∀ H', Tk Ps H H' → E (.ref CB) none H'
theorem ok_issueB (T : Tx K mg) (B : TBs T base) : FnOk P w K mg base (L2N.CX P w) 10 T.f_Disk_issue T.fd_Disk_issue ["self", "place", "what"] (sp_issueB T.C_Disk T.C_Plan T.C_PlaceBusy K T.Ps) := by
  refine T.F_Disk_issue.okN sc_Disk_issue (fun vs H Q E h => ?_) (fun cdv A outer s H vs Q E hr h => ?_)
  · obtain ⟨_, _, _, _, _, _, _, _, _, _, _, _, _, _, rfl, _⟩ := h; rfl
  · obtain ⟨d, a, u, A, b, n, sl, hd, la, hs, gs, ps, q, w, rfl, D, hps, hq, hw, hf, nq, ht, k⟩ := h
    have hr2 := hr.mono (show 2 ≤ 9 by decide)
    have hr4 := hr.mono (show 4 ≤ 9 by decide)
    refine ⟨_, (pss_cons (ps_if (PW.pt (pw_or (pt_not (pt_val (pe_call (ok_is_place T) hr2 rfl T.mg_is_place T.F_is_place.kp (b_is_place T) .nil pass0 (pa_cons (pe_fld (pv 0) rfl) (pa_cons (pv 1) pa_nil))))) (pw_or1 (pt_not (pt_val (pe_call (ok_is_contentI T B) hr rfl T.mg_is_content T.F_is_content.kp (b_is_content T) .nil pass0 (pa_cons (pe_fld (pv 0) rfl) (pa_cons (pv 1) (pa_cons (pv 2) pa_nil)))))))))
        (pss_one ps_never)
        pss_nil)
      (pss_cons (ps_if (pt_val (pe_meth (pv 0) T.cl_Disk T.m_Disk_busy (ok_busyG T B) hr4 (b_Disk_busy T) .nil pass0 (pa_cons (pv 1) pa_nil)))
        (pss_one (L2N.ps_raise rfl (L2N.takes_of rfl rfl rfl rfl) (L2N.pmk_own PySem.F.excBase_ValueError T.xe_PlaceBusy T.mg_PlaceBusy T.ke_PlaceBusy (raises_own T.be_PlaceBusy T.te_PlaceBusy) rfl)))
        pss_nil)
      (pss_cons ps_never (pss_cons ps_never (pss_one ps_never))))), ?_⟩
    obtain ⟨dx, ho⟩ := D.ob
    refine ⟨_, rfl, d, _, _, _, _, rfl, ho, T.cl_Disk, T.na_Disk_plan, rfl, _, rfl, A.p, a, b, n, sl, q, rfl, hq, hf.rng, D.pl, _, rfl, iteF ?_⟩
    refine ⟨_, rfl, d, _, _, _, _, rfl, ho, T.cl_Disk, T.na_Disk_plan, rfl, _, rfl, _, rfl, A.p, a, u, b, n, sl, q, w, rfl, hq, hw, hf, D.pl, ht, fun H1 k1 => ⟨_, rfl, iteF ?_⟩⟩
    have D1 := D.tk ht k1
    have f1 : ∀ b xs, SqT K H b xs → SqT K H1 b xs := fun _ _ => seqT_tk ht k1
    have g1 : ∀ x xs, H x = some (.tup xs) → H1 x = some (.tup xs) := fun x xs e => k1.at ht e
    refine ⟨_, rfl, d, _, _, rfl, k1.at ht ho, rfl, _, rfl, d, a, A, b, n, sl, hd, la, hs, gs, ps, q, rfl, D1, hps.by f1 g1, hq.by f1, k1.tab, fun H2 k2 => ⟨_, rfl, ?_⟩⟩
    rw [nq]
    exact iteT (k _ (k1.trans k2))
def sp_sureB (CD CP CN : Addr) : Sp := fun vs H _ E => ∃ (d : Addr) (m : Int) (A : DA) (b n s hd la : Int) (hs gs : List V) (ps : List Pw), vs = [.ref d, .int m] ∧ DAt CD CP H d A b n s hd la hs gs (pwK ps) ∧ (∀ p ∈ ps, p.m ≠ m) ∧ E (.ref CN) none H
theorem ok_sureB (T : Tx K mg) : FnOk P w K mg base (L2N.CX P w) 2 T.f_Disk_sure T.fd_Disk_sure ["self", "number"] (sp_sureB T.C_Disk T.C_Plan T.C_NoWrite) := by
  refine T.F_Disk_sure.okN sc_Disk_sure (fun vs H Q E h => ?_) (fun cdv A outer s H vs Q E hr h => ?_)
  · obtain ⟨_, _, _, _, _, _, _, _, _, _, _, rfl, _⟩ := h; rfl
  · obtain ⟨d, m, A, b, n, sl, hd, la, hs, gs, ps, rfl, D, hm, k⟩ := h
    refine ⟨_, (pss_cons (ps_if (pt_cmp (pc_dnotin (hu_of hr) (pv 1) (pe_fld (pv 0) rfl)) rfl)
        (pss_one (L2N.ps_raise rfl (L2N.takes_of rfl rfl rfl rfl) (L2N.pmk_own PySem.F.excBase_ValueError T.xe_NoWrite T.mg_NoWrite T.ke_NoWrite (raises_own T.be_NoWrite T.te_NoWrite) rfl)))
        pss_nil)
      (pss_cons ps_never (pss_one ps_never))), ?_⟩
    obtain ⟨dx, ho⟩ := D.ob
    refine ⟨_, rfl, _, rfl, d, _, _, _, _, rfl, ho, T.cl_Disk, T.na_Disk__pending, rfl, A.pd, none, rfl, ?_, _, rfl, iteT k⟩
    rw [← pwK_none hm]
    exact DGet.k (k := Sum.inl m) D.pd
end
end K01
namespace K01
open PySem PySem.Spec PyProof.Rows L2 Rg
theorem cls_ne {K : PySem.W.Frag} {A B : Addr} (h1 : PySem.W.subIn K (.ref A) (.ref A) = some true) (h2 : PySem.W.subIn K (.ref A) (.ref B) = some false) : A ≠ B := fun e => by
  rw [← e, h1] at h2
  cases h2
section
variable {P : Program} {w : World} {K : PySem.W.Frag} {mg : Str → Option Value} {base : Heap}
def sp_Lbad_issue (CD CP : Addr) (K : PySem.W.Frag) (Ps : List Addr) : Sp := fun vs H Q _ => ∃ (d a u : Addr) (A : DA) (b n s hd la : Int) (hs gs : List V) (kv : List (Key × V)), vs = [.ref d, .ref a, .ref u] ∧ DAt CD CP H d A b n s hd la hs gs kv ∧ Tab Ps H ∧ ((∃ xs, SqT K H a xs ∧ BadPl b s xs) ∨ ∃ q, PlcAt K H a q ∧ Rng b s q ∧ BadWhat K H u b s q) ∧ ∀ H', Tk Ps H H' → Q (.bl true) H'
theorem ok_Lbad_issue (T : Tx K mg) (B : TBs T base) : FnOk P w K mg base CX0 11 T.f_Lbad_issue T.fd_Lbad_issue ["_law_disk", "_law_place_here", "_law_what"] (sp_Lbad_issue T.C_Disk T.C_Plan K T.Ps) := by
  refine T.F_Lbad_issue.ok sc_Lbad_issue (fun vs H Q E h => ?_) (fun cdv A0 outer s H vs Q E hr h => ?_)
  · obtain ⟨_, _, _, _, _, _, _, _, _, _, _, _, rfl, _⟩ := h; rfl
  · obtain ⟨d, a, u, A, b, n, sl, hd, la, hs, gs, kv, rfl, D, ht, hb, k⟩ := h
    refine ⟨_, (pss_cons (L2N.ps_try_as (i := 3) rfl rfl sc_Lbad_issue.nd rfl rfl ⟨rfl, by decide, .inl T.mg_StoreError⟩ takes0N
        (fun W pn xe tk _ => pss_one (ps_expr (by exact (pe_methT (pv 0) T.cl_Disk T.m_Disk_issue (ok_issueV T B) hr (b_Disk_issue T) (fun σ => L2N.passAt tk σ) (pa_cons (pv 1) (pa_cons (pv 2) pa_nil))))))
        (fun a oe cls d pn hz hf => pss_only (cls := cls) (d := d) (D := T.C_BadValue) fun e1 e2 => by
            subst e1
            subst e2
            exact pss_one (ps_ret (pe_and (pe_callB (call_isE T.ec_BadValue hz.zc hf) rfl T.b_isinstance (by decide +kernel) (pa_cons (pv 3) (pa_cons (pe_glob (v := .ref T.C_BadValue) rfl T.mg_BadValue rfl) pa_nil))) (pe_and (pe_callB (call_isE T.ec_BadValue hz.zc hf) rfl T.b_isinstance (by decide +kernel) (pa_cons (pv 3) (pa_cons (pe_bltn (v := .ty "ValueError") rfl T.b_ValueError (by decide +kernel) rfl) pa_nil))) (pe_one (pe_not (pe_callB (call_isET T.ec_BadValue hz.zc hf) rfl T.b_isinstance (by decide +kernel) (pa_cons (pv 3) (pa_cons (pe_tup (pa_cons (pe_glob (v := .ref T.C_NotNow) rfl T.mg_NotNow rfl) (pa_cons (pe_glob (v := .ref T.C_Refused) rfl T.mg_Refused rfl) pa_nil))) pa_nil))))))))))
      (pss_one (ps_ret pe_bl))), ?_⟩
    obtain ⟨dx, ob⟩ := D.ob
    refine ⟨_, rfl, d, _, _, rfl, ob, rfl, _, rfl, _, rfl, d, a, u, A, b, n, sl, hd, la, hs, gs, kv, rfl, D, ht, hb, fun H1 kt => ?_⟩
    refine ⟨true, exm_sub T.be_StoreError T.ie_StoreError T.te_StoreError T.sub_BadValue_StoreError, fun _ a_ ha_ => ⟨rfl, rfl, ?_⟩, fun q => nomatch q⟩
    refine ⟨_, rfl, _, _, true, rfl, fun u hu => hu, kit_self, _, rfl, iteT ⟨_, rfl, _, _, true, rfl, fun u hu => hu, kit_blt (by decide +kernel) T.bsub_BadValue_ValueError, _, rfl, iteT ⟨_, rfl, (by show 2 ≤ sizeLine; decide), fun tp ntp => ?_⟩⟩⟩
    have st := same_upd (o := .tup [.ref T.C_NotNow, .ref T.C_Refused]) ntp
    refine ⟨tp, _, _, false, rfl, upd_same, .cons (.own _) (.cons (.own _) (.nil)), ?_, _, rfl, k _ (kt.trans (.of kt.tab st))⟩
    exact kitAny_cons (kit_sub (cls_ne T.sub_BadValue_BadValue T.sub_BadValue_NotNow) T.ie_NotNow T.te_NotNow T.sub_BadValue_NotNow) (fun _ => kitAny_cons (kit_sub (cls_ne T.sub_BadValue_BadValue T.sub_BadValue_Refused) T.ie_Refused T.te_Refused T.sub_BadValue_Refused) (fun _ => kitAny_nil) (fun z => nomatch z)) (fun z => nomatch z)
def sp_Lbad_head (CD : Addr) : Sp := fun vs H Q _ => ∃ (d dx : Addr) (fs : List (Str × V)) (m : Int), vs = [.ref d, .int m] ∧ H d = some (.ins CD dx fs) ∧ fs.lookup ("move_head" : Str) = none ∧ ¬ (0 ≤ m ∧ m ≤ 999999) ∧ ∀ H', Same H H' → Q (.bl true) H'
theorem ok_Lbad_head (T : Tx K mg) : FnOk P w K mg base CX0 3 T.f_Lbad_head T.fd_Lbad_head ["_law_disk", "_law_p"] (sp_Lbad_head T.C_Disk) := by
  refine T.F_Lbad_head.ok sc_Lbad_head (fun vs H Q E h => ?_) (fun cdv A0 outer s H vs Q E hr h => ?_)
  · obtain ⟨_, _, _, _, rfl, _⟩ := h; rfl
  · obtain ⟨d, dx, fs, m, rfl, ob, lk, hm, k⟩ := h
    refine ⟨_, (pss_cons (L2N.ps_try_as (i := 2) rfl rfl sc_Lbad_head.nd rfl rfl ⟨rfl, by decide, .inl T.mg_StoreError⟩ takes0N
        (fun W pn xe tk _ => pss_one (ps_expr (by exact (pe_methT (pv 0) T.cl_Disk T.m_Disk_move_head (ok_move_headV T) hr (b_Disk_move_head T) (fun σ => L2N.passAt tk σ) (pa_cons (pv 1) pa_nil)))))
        (fun a oe cls d pn hz hf => pss_only (cls := cls) (d := d) (D := T.C_BadValue) fun e1 e2 => by
            subst e1
            subst e2
            exact pss_one (ps_ret (pe_and (pe_callB (call_isE T.ec_BadValue hz.zc hf) rfl T.b_isinstance (by decide +kernel) (pa_cons (pv 2) (pa_cons (pe_glob (v := .ref T.C_BadValue) rfl T.mg_BadValue rfl) pa_nil))) (pe_and (pe_callB (call_isE T.ec_BadValue hz.zc hf) rfl T.b_isinstance (by decide +kernel) (pa_cons (pv 2) (pa_cons (pe_bltn (v := .ty "ValueError") rfl T.b_ValueError (by decide +kernel) rfl) pa_nil))) (pe_one (pe_not (pe_callB (call_isET T.ec_BadValue hz.zc hf) rfl T.b_isinstance (by decide +kernel) (pa_cons (pv 2) (pa_cons (pe_tup (pa_cons (pe_glob (v := .ref T.C_NotNow) rfl T.mg_NotNow rfl) (pa_cons (pe_glob (v := .ref T.C_Refused) rfl T.mg_Refused rfl) pa_nil))) pa_nil))))))))))
      (pss_one (ps_ret pe_bl))), ?_⟩
    refine ⟨_, rfl, d, _, _, rfl, ob, lk, _, rfl, d, m, rfl, hm, ?_⟩
    refine ⟨true, exm_sub T.be_StoreError T.ie_StoreError T.te_StoreError T.sub_BadValue_StoreError, fun _ a_ ha_ => ⟨rfl, rfl, ?_⟩, fun q => nomatch q⟩
    refine ⟨_, rfl, _, _, true, rfl, fun u hu => hu, kit_self, _, rfl, iteT ⟨_, rfl, _, _, true, rfl, fun u hu => hu, kit_blt (by decide +kernel) T.bsub_BadValue_ValueError, _, rfl, iteT ⟨_, rfl, (by show 2 ≤ sizeLine; decide), fun tp ntp => ?_⟩⟩⟩
    have st := same_upd (o := .tup [.ref T.C_NotNow, .ref T.C_Refused]) ntp
    refine ⟨tp, _, _, false, rfl, upd_same, .cons (.own _) (.cons (.own _) (.nil)), ?_, _, rfl, k _ st⟩
    exact kitAny_cons (kit_sub (cls_ne T.sub_BadValue_BadValue T.sub_BadValue_NotNow) T.ie_NotNow T.te_NotNow T.sub_BadValue_NotNow) (fun _ => kitAny_cons (kit_sub (cls_ne T.sub_BadValue_BadValue T.sub_BadValue_Refused) T.ie_Refused T.te_Refused T.sub_BadValue_Refused) (fun _ => kitAny_nil) (fun z => nomatch z)) (fun z => nomatch z)
def sp_Lno_write (CD CP : Addr) : Sp := fun vs H Q _ => ∃ (d : Addr) (m : Int) (A : DA) (b n s hd la : Int) (hs gs : List V) (ps : List Pw), vs = [.ref d, .int m] ∧ DAt CD CP H d A b n s hd la hs gs (pwK ps) ∧ (∀ p ∈ ps, p.m ≠ m) ∧ ∀ H', Same H H' → Q (.bl true) H'
theorem ok_Lno_write (T : Tx K mg) : FnOk P w K mg base CX0 3 T.f_Lno_write T.fd_Lno_write ["_law_disk", "_law_number"] (sp_Lno_write T.C_Disk T.C_Plan) := by
  refine T.F_Lno_write.ok sc_Lno_write (fun vs H Q E h => ?_) (fun cdv A0 outer s H vs Q E hr h => ?_)
  · obtain ⟨_, _, _, _, _, _, _, _, _, _, _, rfl, _⟩ := h; rfl
  · obtain ⟨d, m, A, b, n, sl, hd, la, hs, gs, ps, rfl, D, hm, k⟩ := h
    refine ⟨_, (pss_cons (L2N.ps_try_as (i := 2) rfl rfl sc_Lno_write.nd rfl rfl ⟨rfl, by decide, .inl T.mg_StoreError⟩ takes0N
        (fun W pn xe tk _ => pss_one (ps_expr (by exact (pe_methT (pv 0) T.cl_Disk T.m_Disk_sure (ok_sureB T) hr (b_Disk_sure T) (fun σ => L2N.passAt tk σ) (pa_cons (pv 1) pa_nil)))))
        (fun a oe cls d pn hz hf => pss_only (cls := cls) (d := d) (D := T.C_NoWrite) fun e1 e2 => by
            subst e1
            subst e2
            exact pss_one (ps_ret (pe_and (pe_callB (call_isE T.ec_NoWrite hz.zc hf) rfl T.b_isinstance (by decide +kernel) (pa_cons (pv 2) (pa_cons (pe_glob (v := .ref T.C_NoWrite) rfl T.mg_NoWrite rfl) pa_nil))) (pe_and (pe_callB (call_isE T.ec_NoWrite hz.zc hf) rfl T.b_isinstance (by decide +kernel) (pa_cons (pv 2) (pa_cons (pe_glob (v := .ref T.C_NotNow) rfl T.mg_NotNow rfl) pa_nil))) (pe_one (pe_not (pe_callB (call_isET T.ec_NoWrite hz.zc hf) rfl T.b_isinstance (by decide +kernel) (pa_cons (pv 2) (pa_cons (pe_tup (pa_cons (pe_glob (v := .ref T.C_PlaceBusy) rfl T.mg_PlaceBusy rfl) (pa_cons (pe_glob (v := .ref T.C_BadValue) rfl T.mg_BadValue rfl) (pa_cons (pe_glob (v := .ref T.C_Refused) rfl T.mg_Refused rfl) pa_nil)))) pa_nil))))))))))
      (pss_one (ps_ret pe_bl))), ?_⟩
    obtain ⟨dx, ob⟩ := D.ob
    refine ⟨_, rfl, d, _, _, rfl, ob, rfl, _, rfl, d, m, A, b, n, sl, hd, la, hs, gs, ps, rfl, D, hm, ?_⟩
    refine ⟨true, exm_sub T.be_StoreError T.ie_StoreError T.te_StoreError T.sub_NoWrite_StoreError, fun _ a_ ha_ => ⟨rfl, rfl, ?_⟩, fun q => nomatch q⟩
    refine ⟨_, rfl, _, _, true, rfl, fun u hu => hu, kit_self, _, rfl, iteT ⟨_, rfl, _, _, true, rfl, fun u hu => hu, kit_subT T.ie_NotNow T.te_NotNow T.sub_NoWrite_NotNow, _, rfl, iteT ⟨_, rfl, (by show 3 ≤ sizeLine; decide), fun tp ntp => ?_⟩⟩⟩
    have st := same_upd (o := .tup [.ref T.C_PlaceBusy, .ref T.C_BadValue, .ref T.C_Refused]) ntp
    refine ⟨tp, _, _, false, rfl, upd_same, .cons (.own _) (.cons (.own _) (.cons (.own _) (.nil))), ?_, _, rfl, k _ st⟩
    exact kitAny_cons (kit_sub (cls_ne T.sub_NoWrite_NoWrite T.sub_NoWrite_PlaceBusy) T.ie_PlaceBusy T.te_PlaceBusy T.sub_NoWrite_PlaceBusy) (fun _ => kitAny_cons (kit_sub (cls_ne T.sub_NoWrite_NoWrite T.sub_NoWrite_BadValue) T.ie_BadValue T.te_BadValue T.sub_NoWrite_BadValue) (fun _ => kitAny_cons (kit_sub (cls_ne T.sub_NoWrite_NoWrite T.sub_NoWrite_Refused) T.ie_Refused T.te_Refused T.sub_NoWrite_Refused) (fun _ => kitAny_nil) (fun z => nomatch z)) (fun z => nomatch z)) (fun z => nomatch z)
def sp_Lno_cutT (CD CP : Addr) (K : PySem.W.Frag) : Sp := fun vs H Q _ => ∃ (d kp : Addr) (A : DA) (b n s hd la : Int) (hs gs : List V) (ps : List Pw) (ns : List Int), vs = [.ref d, .ref kp] ∧ DAt CD CP H d A b n s hd la hs gs (pwK ps) ∧ PwsAt K H b s ps ∧ PwOk la ps ∧ ps.length < 1000 ∧ ns.length < 1000 ∧ SqT K H kp (ns.map V.int) ∧ ¬ ((∀ m ∈ ns, ∃ p ∈ ps, p.m = m) ∧ ns.Nodup) ∧ ∀ H', Same H H' → Q (.bl true) H'
theorem ok_Lno_cutT (T : Tx K mg) : FnOk P w K mg base CX0 5 T.f_Lno_cut T.fd_Lno_cut ["_law_disk", "_law_keep"] (sp_Lno_cutT T.C_Disk T.C_Plan K) := by
  refine T.F_Lno_cut.ok sc_Lno_cut (fun vs H Q E h => ?_) (fun cdv A0 outer s H vs Q E hr h => ?_)
  · obtain ⟨_, _, _, _, _, _, _, _, _, _, _, _, rfl, _⟩ := h; rfl
  · obtain ⟨d, kp, A, b, n, sl, hd, la, hs, gs, ps, ns, rfl, D, hps, ok, lp, lq, ek, hb, k⟩ := h
    refine ⟨_, (pss_cons (L2N.ps_try_as (i := 2) rfl rfl sc_Lno_cut.nd rfl rfl ⟨rfl, by decide, .inl T.mg_StoreError⟩ takes0N
        (fun W pn xe tk _ => pss_one (ps_expr (by exact (pe_methT (pv 0) T.cl_Disk T.m_Disk_cut (ok_cutVT T) hr (b_Disk_cut T) (fun σ => L2N.passAt tk σ) (pa_cons (pv 1) pa_nil)))))
        (fun a oe cls d pn hz hf => pss_only (cls := cls) (d := d) (D := T.C_NoWrite) fun e1 e2 => by
            subst e1
            subst e2
            exact pss_one (ps_ret (pe_and (pe_callB (call_isE T.ec_NoWrite hz.zc hf) rfl T.b_isinstance (by decide +kernel) (pa_cons (pv 2) (pa_cons (pe_glob (v := .ref T.C_NoWrite) rfl T.mg_NoWrite rfl) pa_nil))) (pe_and (pe_callB (call_isE T.ec_NoWrite hz.zc hf) rfl T.b_isinstance (by decide +kernel) (pa_cons (pv 2) (pa_cons (pe_glob (v := .ref T.C_NotNow) rfl T.mg_NotNow rfl) pa_nil))) (pe_one (pe_not (pe_callB (call_isET T.ec_NoWrite hz.zc hf) rfl T.b_isinstance (by decide +kernel) (pa_cons (pv 2) (pa_cons (pe_tup (pa_cons (pe_glob (v := .ref T.C_PlaceBusy) rfl T.mg_PlaceBusy rfl) (pa_cons (pe_glob (v := .ref T.C_BadValue) rfl T.mg_BadValue rfl) (pa_cons (pe_glob (v := .ref T.C_Refused) rfl T.mg_Refused rfl) pa_nil)))) pa_nil))))))))))
      (pss_one (ps_ret pe_bl))), ?_⟩
    obtain ⟨dx, ob⟩ := D.ob
    refine ⟨_, rfl, d, _, _, rfl, ob, rfl, _, rfl, d, kp, A, b, n, sl, hd, la, hs, gs, ps, ns, rfl, D, hps, ok, lp, lq, ek, hb, fun H1 s1 => ?_⟩
    refine ⟨true, exm_sub T.be_StoreError T.ie_StoreError T.te_StoreError T.sub_NoWrite_StoreError, fun _ a_ ha_ => ⟨rfl, rfl, ?_⟩, fun q => nomatch q⟩
    refine ⟨_, rfl, _, _, true, rfl, fun u hu => hu, kit_self, _, rfl, iteT ⟨_, rfl, _, _, true, rfl, fun u hu => hu, kit_subT T.ie_NotNow T.te_NotNow T.sub_NoWrite_NotNow, _, rfl, iteT ⟨_, rfl, (by show 3 ≤ sizeLine; decide), fun tp ntp => ?_⟩⟩⟩
    have st := same_upd (o := .tup [.ref T.C_PlaceBusy, .ref T.C_BadValue, .ref T.C_Refused]) ntp
    refine ⟨tp, _, _, false, rfl, upd_same, .cons (.own _) (.cons (.own _) (.cons (.own _) (.nil))), ?_, _, rfl, k _ (s1.trans st)⟩
    exact kitAny_cons (kit_sub (cls_ne T.sub_NoWrite_NoWrite T.sub_NoWrite_PlaceBusy) T.ie_PlaceBusy T.te_PlaceBusy T.sub_NoWrite_PlaceBusy) (fun _ => kitAny_cons (kit_sub (cls_ne T.sub_NoWrite_NoWrite T.sub_NoWrite_BadValue) T.ie_BadValue T.te_BadValue T.sub_NoWrite_BadValue) (fun _ => kitAny_cons (kit_sub (cls_ne T.sub_NoWrite_NoWrite T.sub_NoWrite_Refused) T.ie_Refused T.te_Refused T.sub_NoWrite_Refused) (fun _ => kitAny_nil) (fun z => nomatch z)) (fun z => nomatch z)) (fun z => nomatch z)
def sp_Lno_cutL (CD CP : Addr) (K : PySem.W.Frag) : Sp := fun vs H Q _ => ∃ (d kp : Addr) (A : DA) (b n s hd la : Int) (hs gs : List V) (ps : List Pw) (ns : List Int), vs = [.ref d, .ref kp] ∧ DAt CD CP H d A b n s hd la hs gs (pwK ps) ∧ PwsAt K H b s ps ∧ PwOk la ps ∧ ps.length < 1000 ∧ ns.length < 1000 ∧ H kp = some (.lst (ns.map V.int)) ∧ ¬ ((∀ m ∈ ns, ∃ p ∈ ps, p.m = m) ∧ ns.Nodup) ∧ ∀ H', Same H H' → Q (.bl true) H'
theorem ok_Lno_cutL (T : Tx K mg) : FnOk P w K mg base CX0 5 T.f_Lno_cut T.fd_Lno_cut ["_law_disk", "_law_keep"] (sp_Lno_cutL T.C_Disk T.C_Plan K) := by
  refine T.F_Lno_cut.ok sc_Lno_cut (fun vs H Q E h => ?_) (fun cdv A0 outer s H vs Q E hr h => ?_)
  · obtain ⟨_, _, _, _, _, _, _, _, _, _, _, _, rfl, _⟩ := h; rfl
  · obtain ⟨d, kp, A, b, n, sl, hd, la, hs, gs, ps, ns, rfl, D, hps, ok, lp, lq, ek, hb, k⟩ := h
    refine ⟨_, (pss_cons (L2N.ps_try_as (i := 2) rfl rfl sc_Lno_cut.nd rfl rfl ⟨rfl, by decide, .inl T.mg_StoreError⟩ takes0N
        (fun W pn xe tk _ => pss_one (ps_expr (by exact (pe_methT (pv 0) T.cl_Disk T.m_Disk_cut (ok_cutVL T) hr (b_Disk_cut T) (fun σ => L2N.passAt tk σ) (pa_cons (pv 1) pa_nil)))))
        (fun a oe cls d pn hz hf => pss_only (cls := cls) (d := d) (D := T.C_NoWrite) fun e1 e2 => by
            subst e1
            subst e2
            exact pss_one (ps_ret (pe_and (pe_callB (call_isE T.ec_NoWrite hz.zc hf) rfl T.b_isinstance (by decide +kernel) (pa_cons (pv 2) (pa_cons (pe_glob (v := .ref T.C_NoWrite) rfl T.mg_NoWrite rfl) pa_nil))) (pe_and (pe_callB (call_isE T.ec_NoWrite hz.zc hf) rfl T.b_isinstance (by decide +kernel) (pa_cons (pv 2) (pa_cons (pe_glob (v := .ref T.C_NotNow) rfl T.mg_NotNow rfl) pa_nil))) (pe_one (pe_not (pe_callB (call_isET T.ec_NoWrite hz.zc hf) rfl T.b_isinstance (by decide +kernel) (pa_cons (pv 2) (pa_cons (pe_tup (pa_cons (pe_glob (v := .ref T.C_PlaceBusy) rfl T.mg_PlaceBusy rfl) (pa_cons (pe_glob (v := .ref T.C_BadValue) rfl T.mg_BadValue rfl) (pa_cons (pe_glob (v := .ref T.C_Refused) rfl T.mg_Refused rfl) pa_nil)))) pa_nil))))))))))
      (pss_one (ps_ret pe_bl))), ?_⟩
    obtain ⟨dx, ob⟩ := D.ob
    refine ⟨_, rfl, d, _, _, rfl, ob, rfl, _, rfl, d, kp, A, b, n, sl, hd, la, hs, gs, ps, ns, rfl, D, hps, ok, lp, lq, ek, hb, fun H1 s1 => ?_⟩
    refine ⟨true, exm_sub T.be_StoreError T.ie_StoreError T.te_StoreError T.sub_NoWrite_StoreError, fun _ a_ ha_ => ⟨rfl, rfl, ?_⟩, fun q => nomatch q⟩
    refine ⟨_, rfl, _, _, true, rfl, fun u hu => hu, kit_self, _, rfl, iteT ⟨_, rfl, _, _, true, rfl, fun u hu => hu, kit_subT T.ie_NotNow T.te_NotNow T.sub_NoWrite_NotNow, _, rfl, iteT ⟨_, rfl, (by show 3 ≤ sizeLine; decide), fun tp ntp => ?_⟩⟩⟩
    have st := same_upd (o := .tup [.ref T.C_PlaceBusy, .ref T.C_BadValue, .ref T.C_Refused]) ntp
    refine ⟨tp, _, _, false, rfl, upd_same, .cons (.own _) (.cons (.own _) (.cons (.own _) (.nil))), ?_, _, rfl, k _ (s1.trans st)⟩
    exact kitAny_cons (kit_sub (cls_ne T.sub_NoWrite_NoWrite T.sub_NoWrite_PlaceBusy) T.ie_PlaceBusy T.te_PlaceBusy T.sub_NoWrite_PlaceBusy) (fun _ => kitAny_cons (kit_sub (cls_ne T.sub_NoWrite_NoWrite T.sub_NoWrite_BadValue) T.ie_BadValue T.te_BadValue T.sub_NoWrite_BadValue) (fun _ => kitAny_cons (kit_sub (cls_ne T.sub_NoWrite_NoWrite T.sub_NoWrite_Refused) T.ie_Refused T.te_Refused T.sub_NoWrite_Refused) (fun _ => kitAny_nil) (fun z => nomatch z)) (fun z => nomatch z)) (fun z => nomatch z)
def sp_Lbusy (CD CP : Addr) (K : PySem.W.Frag) (Ps : List Addr) : Sp := fun vs H Q _ => ∃ (d a u : Addr) (A : DA) (b n s hd la : Int) (hs gs : List V) (ps : List Pw) (q : Plc) (w : Ct), vs = [.ref d, .ref a, .ref u] ∧ DAt CD CP H d A b n s hd la hs gs (pwK ps) ∧ PwsAt K H b s ps ∧ PlcAt K H a q ∧ CtIn K H u w ∧ CtFit b s q w ∧ taken q ps = true ∧ Tab Ps H ∧ ∀ H', Tk Ps H H' → Q (.bl true) H'
theorem ok_Lbusy (T : Tx K mg) (B : TBs T base) : FnOk P w K mg base CX0 11 T.f_Lbusy T.fd_Lbusy ["_law_disk", "_law_place_here", "_law_what"] (sp_Lbusy T.C_Disk T.C_Plan K T.Ps) := by
  refine T.F_Lbusy.ok sc_Lbusy (fun vs H Q E h => ?_) (fun cdv A0 outer s H vs Q E hr h => ?_)
  · obtain ⟨_, _, _, _, _, _, _, _, _, _, _, _, _, _, rfl, _⟩ := h; rfl
  · obtain ⟨d, a, u, A, b, n, sl, hd, la, hs, gs, ps, q, wc, rfl, D, hps, hq, hw, hf, nq, ht, k⟩ := h
    refine ⟨_, (pss_cons (L2N.ps_try_as (i := 3) rfl rfl sc_Lbusy.nd rfl rfl ⟨rfl, by decide, .inl T.mg_StoreError⟩ takes0N
        (fun W pn xe tk _ => pss_one (ps_expr (by exact (pe_methT (pv 0) T.cl_Disk T.m_Disk_issue (ok_issueB T B) hr (b_Disk_issue T) (fun σ => L2N.passAt tk σ) (pa_cons (pv 1) (pa_cons (pv 2) pa_nil))))))
        (fun a oe cls d pn hz hf => pss_only (cls := cls) (d := d) (D := T.C_PlaceBusy) fun e1 e2 => by
            subst e1
            subst e2
            exact pss_one (ps_ret (pe_and (pe_callB (call_isE T.ec_PlaceBusy hz.zc hf) rfl T.b_isinstance (by decide +kernel) (pa_cons (pv 3) (pa_cons (pe_glob (v := .ref T.C_PlaceBusy) rfl T.mg_PlaceBusy rfl) pa_nil))) (pe_and (pe_callB (call_isE T.ec_PlaceBusy hz.zc hf) rfl T.b_isinstance (by decide +kernel) (pa_cons (pv 3) (pa_cons (pe_glob (v := .ref T.C_NotNow) rfl T.mg_NotNow rfl) pa_nil))) (pe_one (pe_not (pe_callB (call_isET T.ec_PlaceBusy hz.zc hf) rfl T.b_isinstance (by decide +kernel) (pa_cons (pv 3) (pa_cons (pe_tup (pa_cons (pe_glob (v := .ref T.C_NoWrite) rfl T.mg_NoWrite rfl) (pa_cons (pe_glob (v := .ref T.C_BadValue) rfl T.mg_BadValue rfl) (pa_cons (pe_glob (v := .ref T.C_Refused) rfl T.mg_Refused rfl) pa_nil)))) pa_nil))))))))))
      (pss_one (ps_ret pe_bl))), ?_⟩
    obtain ⟨dx, ob⟩ := D.ob
    refine ⟨_, rfl, d, _, _, rfl, ob, rfl, _, rfl, _, rfl, d, a, u, A, b, n, sl, hd, la, hs, gs, ps, q, wc, rfl, D, hps, hq, hw, hf, nq, ht, fun H1 kt => ?_⟩
    refine ⟨true, exm_sub T.be_StoreError T.ie_StoreError T.te_StoreError T.sub_PlaceBusy_StoreError, fun _ a_ ha_ => ⟨rfl, rfl, ?_⟩, fun q => nomatch q⟩
    refine ⟨_, rfl, _, _, true, rfl, fun u hu => hu, kit_self, _, rfl, iteT ⟨_, rfl, _, _, true, rfl, fun u hu => hu, kit_subT T.ie_NotNow T.te_NotNow T.sub_PlaceBusy_NotNow, _, rfl, iteT ⟨_, rfl, (by show 3 ≤ sizeLine; decide), fun tp ntp => ?_⟩⟩⟩
    have st := same_upd (o := .tup [.ref T.C_NoWrite, .ref T.C_BadValue, .ref T.C_Refused]) ntp
    refine ⟨tp, _, _, false, rfl, upd_same, .cons (.own _) (.cons (.own _) (.cons (.own _) (.nil))), ?_, _, rfl, k _ (kt.trans (.of kt.tab st))⟩
    exact kitAny_cons (kit_sub (cls_ne T.sub_PlaceBusy_PlaceBusy T.sub_PlaceBusy_NoWrite) T.ie_NoWrite T.te_NoWrite T.sub_PlaceBusy_NoWrite) (fun _ => kitAny_cons (kit_sub (cls_ne T.sub_PlaceBusy_PlaceBusy T.sub_PlaceBusy_BadValue) T.ie_BadValue T.te_BadValue T.sub_PlaceBusy_BadValue) (fun _ => kitAny_cons (kit_sub (cls_ne T.sub_PlaceBusy_PlaceBusy T.sub_PlaceBusy_Refused) T.ie_Refused T.te_Refused T.sub_PlaceBusy_Refused) (fun _ => kitAny_nil) (fun z => nomatch z)) (fun z => nomatch z)) (fun z => nomatch z)
end
end K01
namespace K01
open PySem PySem.Spec PyProof.Rows L2 Rg
section
variable {P : Program} {w0_ : World} {K : PySem.W.Frag} {mg : Str → Option Value} {base : Heap}
/-! ### _law_place -/
def sp_Lplace (K : PySem.W.Frag) : Sp := fun vs H Q _ => ∃ (p : Addr) (fs : List Int), vs = [.ref p] ∧ H p = some (.lst (fs.map V.int)) ∧ ∀ (H' : Hp) (a : Addr) (q : Plc) (fs' : List Int), Kp [p] H H' → H' p = some (.lst (fs'.map V.int)) → H a = none → PlcAt K H' a q → Rng 24 30 q → Q (.ref a) H'
theorem ok_Lplace (T : Tx K mg) : FnOk P w0_ K mg base CX0 2 T.f_Lplace T.fd_Lplace ["_law_feed_here"] (sp_Lplace K) := by
  refine T.F_Lplace.ok sc_Lplace (fun vs H Q E h => ?_) (fun cdv A outer s H vs Q E hr h => ?_)
  · obtain ⟨_, _, rfl, _⟩ := h; rfl
  · obtain ⟨p, fs, rfl, ep, k⟩ := h
    refine ⟨_, (pss_cons (ps_set (i := 1) sc_Lplace.nd rfl (.inl rfl) (pe_call (ok_Lpick T) hr rfl T.mg_Lpick T.F_Lpick.kp (b_Lpick T) .nil pass0 (pa_cons (pv 0) (pa_cons pe_int pa_nil))))
      (pss_cons (ps_if (pt_cmpR op_eq (pv 1) pe_int (nomark _))
        (pss_one (ps_ret (pe_tup (pa_cons pe_str (pa_cons (pe_op op_add pe_int (pe_call (ok_Lpick T) hr rfl T.mg_Lpick T.F_Lpick.kp (b_Lpick T) .nil pass0 (pa_cons (pv 0) (pa_cons pe_int pa_nil)))) pa_nil)))))
        pss_nil)
      (pss_cons (ps_if (pt_cmpR op_eq (pv 1) pe_int (nomark _))
        (pss_one (ps_ret (pe_tup (pa_cons pe_str (pa_cons (pe_op op_add pe_int (pe_call (ok_Lpick T) hr rfl T.mg_Lpick T.F_Lpick.kp (b_Lpick T) .nil pass0 (pa_cons (pv 0) (pa_cons pe_int pa_nil)))) pa_nil)))))
        pss_nil)
      (pss_cons (ps_if (pt_cmpR op_eq (pv 1) pe_int (nomark _))
        (pss_one (ps_ret (pe_tup (pa_cons pe_str (pa_cons (pe_call (ok_Lpick T) hr rfl T.mg_Lpick T.F_Lpick.kp (b_Lpick T) .nil pass0 (pa_cons (pv 0) (pa_cons pe_int pa_nil))) pa_nil)))))
        pss_nil)
      (pss_one (ps_ret (pe_tup (pa_cons pe_str (pa_cons (pe_call (ok_Lpick T) hr rfl T.mg_Lpick T.F_Lpick.kp (b_Lpick T) .nil pass0 (pa_cons (pv 0) (pa_cons pe_int pa_nil))) pa_nil))))))))), ?_⟩
    refine ⟨_, rfl, p, fs, 4, rfl, ep, by decide, fun c f1 c0 c1 _ => ?_⟩
    (generalize he_y : upd _ p _ = H1; obtain ⟨e_y, k_y, f_y⟩ := own_f he_y; clear he_y)
    ((try dsimp only); (first | (refine Rg.sg (σ' := [some (.ref p), some (.int c)]) ?_ ?_; focus exact rfl) | (refine Rg.sgG (σ' := [some (.ref p), some (.int c)]) ?_ ?_; focus exact rfl)))
    refine ⟨_, rfl, rfl, _, rfl, wI (fun e => ?_) fun e => ⟨_, rfl, rfl, _, rfl, wI (fun e => ?_) fun e => ⟨_, rfl, rfl, _, rfl, wI (fun e => ?_) fun e => ?_⟩⟩⟩
    · refine ⟨_, rfl, p, f1, 3, rfl, e_y, by decide, fun r f2 r0 r1 _ => ⟨_, _, rfl, rfl, by show 2 ≤ sizeLine; decide, ?_⟩⟩
      (generalize he_y2 : upd _ p _ = H2; obtain ⟨e_y2, k_y2, f_y2⟩ := own_f he_y2; clear he_y2)
      (intro t n_t; generalize he_t : upd _ t _ = H3; obtain ⟨e_t, s_t, f_t⟩ := new_f he_t n_t; clear he_t)
      exact k H3 t (.home (21 + r)) f2 ((k_y.trans k_y2).same s_t) (s_t _ _ e_y2) (k_y.free (by simp only [List.mem_singleton]; intro z; rw [z, e_y2] at n_t; cases n_t) (k_y2.free (by simp only [List.mem_singleton]; intro z; rw [z, e_y2] at n_t; cases n_t) n_t)) (.of e_t) ⟨by omega, by omega⟩
    · refine ⟨_, rfl, p, f1, 3, rfl, e_y, by decide, fun r f2 r0 r1 _ => ⟨_, _, rfl, rfl, by show 2 ≤ sizeLine; decide, ?_⟩⟩
      (generalize he_y2 : upd _ p _ = H2; obtain ⟨e_y2, k_y2, f_y2⟩ := own_f he_y2; clear he_y2)
      (intro t n_t; generalize he_t : upd _ t _ = H3; obtain ⟨e_t, s_t, f_t⟩ := new_f he_t n_t; clear he_t)
      exact k H3 t (.log (27 + r)) f2 ((k_y.trans k_y2).same s_t) (s_t _ _ e_y2) (k_y.free (by simp only [List.mem_singleton]; intro z; rw [z, e_y2] at n_t; cases n_t) (k_y2.free (by simp only [List.mem_singleton]; intro z; rw [z, e_y2] at n_t; cases n_t) n_t)) (.of e_t) ⟨by omega, by omega⟩
    · refine ⟨_, rfl, p, f1, 24, rfl, e_y, by decide, fun r f2 r0 r1 _ => ⟨by show 2 ≤ sizeLine; decide, ?_⟩⟩
      (generalize he_y2 : upd _ p _ = H2; obtain ⟨e_y2, k_y2, f_y2⟩ := own_f he_y2; clear he_y2)
      (intro t n_t; generalize he_t : upd _ t _ = H3; obtain ⟨e_t, s_t, f_t⟩ := new_f he_t n_t; clear he_t)
      exact k H3 t (.home (r)) f2 ((k_y.trans k_y2).same s_t) (s_t _ _ e_y2) (k_y.free (by simp only [List.mem_singleton]; intro z; rw [z, e_y2] at n_t; cases n_t) (k_y2.free (by simp only [List.mem_singleton]; intro z; rw [z, e_y2] at n_t; cases n_t) n_t)) (.of e_t) ⟨by omega, by omega⟩
    · refine ⟨_, rfl, p, f1, 30, rfl, e_y, by decide, fun r f2 r0 r1 _ => ⟨by show 2 ≤ sizeLine; decide, ?_⟩⟩
      (generalize he_y2 : upd _ p _ = H2; obtain ⟨e_y2, k_y2, f_y2⟩ := own_f he_y2; clear he_y2)
      (intro t n_t; generalize he_t : upd _ t _ = H3; obtain ⟨e_t, s_t, f_t⟩ := new_f he_t n_t; clear he_t)
      exact k H3 t (.log (r)) f2 ((k_y.trans k_y2).same s_t) (s_t _ _ e_y2) (k_y.free (by simp only [List.mem_singleton]; intro z; rw [z, e_y2] at n_t; cases n_t) (k_y2.free (by simp only [List.mem_singleton]; intro z; rw [z, e_y2] at n_t; cases n_t) n_t)) (.of e_t) ⟨by omega, by omega⟩
end
end K01
namespace K01
open PySem PySem.Spec PyProof.Rows L2 Rg
section
variable {P : Program} {w0_ : World} {K : PySem.W.Frag} {mg : Str → Option Value} {base : Heap}
theorem cells0 : Cells [0, 0, 0, 0, 0, 0, 0, 0] := ⟨rfl, fun i hi => by
  simp only [List.mem_cons, List.not_mem_nil, or_false] at hi
  omega⟩
theorem Cells.set {c : List Int} (h : Cells c) (i : Nat) {v : Int} (h0 : 0 ≤ v) (h1 : v ≤ 999999999) : Cells (c.set i v) := ⟨by rw [List.length_set]; exact h.len, fun x hx => (List.mem_or_eq_of_mem_set hx).elim (h.ok x) fun e => by rw [e]; exact ⟨h0, h1⟩⟩
/-! ### _law_cells -/
def sp_Lcells : Sp := fun vs H Q _ => ∃ (p : Addr) (fs : List Int), vs = [.ref p] ∧ H p = some (.lst (fs.map V.int)) ∧ ∀ (H' : Hp) (a : Addr) (c fs' : List Int), Kp [p] H H' → H' p = some (.lst (fs'.map V.int)) → H a = none → H' a = some (.lst (c.map V.int)) → Cells c → a ≠ p → Q (.ref a) H'
theorem ok_Lcells (T : Tx K mg) : FnOk P w0_ K mg base CX0 2 T.f_Lcells T.fd_Lcells ["_law_feed_here"] sp_Lcells := by
  refine T.F_Lcells.ok sc_Lcells (fun vs H Q E h => ?_) (fun cdv A outer s H vs Q E hr h => ?_)
  · obtain ⟨_, _, rfl, _⟩ := h; rfl
  · obtain ⟨p, fs, rfl, ep, k⟩ := h
    refine ⟨_, (pss_cons (ps_set (i := 1) sc_Lcells.nd rfl (.inl rfl) (pe_lst (pa_cons pe_int (pa_cons pe_int (pa_cons pe_int (pa_cons pe_int (pa_cons pe_int (pa_cons pe_int (pa_cons pe_int (pa_cons pe_int pa_nil))))))))))
      (pss_cons (ps_if (pt_cmpR op_eq (pe_call (ok_Lpick T) hr rfl T.mg_Lpick T.F_Lpick.kp (b_Lpick T) .nil pass0 (pa_cons (pv 0) (pa_cons pe_int pa_nil))) pe_int (nomark _))
        (pss_one (ps_ret (pv 1)))
        pss_nil)
      (pss_cons (ps_set (i := 2) sc_Lcells.nd rfl (.inl rfl) (pe_call (ok_Lpick T) hr rfl T.mg_Lpick T.F_Lpick.kp (b_Lpick T) .nil pass0 (pa_cons (pv 0) (pa_cons pe_int pa_nil))))
      (pss_cons (ps_asg (pe_op op_add pe_int (pe_call (ok_Lpick T) hr rfl T.mg_Lpick T.F_Lpick.kp (b_Lpick T) .nil pass0 (pa_cons (pv 0) (pa_cons pe_int pa_nil)))) (pg_sub (pv 1) (pv 2) set_list))
      (pss_cons (ps_set (i := 2) sc_Lcells.nd rfl (.inl rfl) (pe_call (ok_Lpick T) hr rfl T.mg_Lpick T.F_Lpick.kp (b_Lpick T) .nil pass0 (pa_cons (pv 0) (pa_cons pe_int pa_nil))))
      (pss_cons (ps_asg (pe_op op_sub pe_int (pe_call (ok_Lpick T) hr rfl T.mg_Lpick T.F_Lpick.kp (b_Lpick T) .nil pass0 (pa_cons (pv 0) (pa_cons pe_int pa_nil)))) (pg_sub (pv 1) (pv 2) set_list))
      (pss_one (ps_ret (pv 1))))))))), ?_⟩
    refine ⟨by show 8 ≤ sizeLine; decide, ?_⟩
    (intro a n_a; generalize he_a : upd _ a _ = H1; obtain ⟨e_a, s_a, f_a⟩ := new_f he_a n_a; clear he_a)
    have nap : a ≠ p := fun z => by rw [z, ep] at n_a; cases n_a
    have kx : Kp [p] H H1 := Kp.refl.same s_a
    ((try dsimp only); (first | (refine Rg.sg (σ' := [some (.ref p), some (.ref a), none]) ?_ ?_; focus exact rfl) | (refine Rg.sgG (σ' := [some (.ref p), some (.ref a), none]) ?_ ?_; focus exact rfl)))
    refine ⟨_, rfl, p, fs, 9, rfl, s_a _ _ ep, by decide, fun r f1 r0 r1 _ => ?_⟩
    (generalize he_y : upd _ p _ = H2; obtain ⟨e_y, k_y, f_y⟩ := own_f he_y; clear he_y)
    have ea2 := k_y _ _ e_a (by simpa using nap)
    have k2 := kx.trans k_y
    refine ⟨rfl, _, rfl, wI (fun e => ?_) fun e => ?_⟩
    · exact ⟨_, rfl, k H2 a [0, 0, 0, 0, 0, 0, 0, 0] f1 k2 e_y n_a ea2 cells0 nap⟩
    refine ⟨_, rfl, p, f1, 8, rfl, e_y, by decide, fun i1 f2 i10 i11 _ => ?_⟩
    (generalize he_y2 : upd _ p _ = H3; obtain ⟨e_y2, k_y2, f_y2⟩ := own_f he_y2; clear he_y2)
    have ea3 := k_y2 _ _ ea2 (by simpa using nap)
    ((try dsimp only); (first | (refine Rg.sg (σ' := [some (.ref p), some (.ref a), some (.int i1)]) ?_ ?_; focus exact rfl) | (refine Rg.sgG (σ' := [some (.ref p), some (.ref a), some (.int i1)]) ?_ ?_; focus exact rfl)))
    refine ⟨_, rfl, p, f2, 1000, rfl, e_y2, by decide, fun v f3 v0 v1 _ => ?_⟩
    (generalize he_y3 : upd _ p _ = H4; obtain ⟨e_y3, k_y3, f_y3⟩ := own_f he_y3; clear he_y3)
    have ea4 := k_y3 _ _ ea3 (by simpa using nap)
    refine ⟨_, _, rfl, rfl, _, rfl, _, rfl, a, _, _, i1.toNat, rfl, rfl, ea4, ixN_at (by omega) (by simp only [List.length_cons, List.length_nil]; omega), ?_⟩
    have c4 : Cells (([0, 0, 0, 0, 0, 0, 0, 0] : List Int).set i1.toNat (1 + v)) := cells0.set _ (by omega) (by omega)
    have e4 : ([.int 0, .int 0, .int 0, .int 0, .int 0, .int 0, .int 0, .int 0] : List V).set i1.toNat (.int (1 + v)) = ((([0, 0, 0, 0, 0, 0, 0, 0] : List Int).set i1.toNat (1 + v))).map V.int := by rw [List.map_set]; rfl
    rw [e4]
    generalize (([0, 0, 0, 0, 0, 0, 0, 0] : List Int).set i1.toNat (1 + v)) = c5 at c4 ⊢
    have k4 := (k2.trans k_y2).trans k_y3
    have h4 : ∀ {u : HO}, Kp [p] H (upd H4 a u) := fun {u} => k4.put n_a
    (generalize he_y4 : upd _ a _ = H5; obtain ⟨e_y4, k_y4, f_y4⟩ := own_f he_y4; clear he_y4)
    have ep5 := k_y4 _ _ e_y3 (by simpa using nap.symm)
    have k5 : Kp [p] H H5 := fun x o e n => k_y4 x o (k4 x o e n) (by simp only [List.mem_singleton]; intro z; rw [z, n_a] at e; cases e)
    refine ⟨_, rfl, p, f3, 8, rfl, ep5, by decide, fun i2 f4 i20 i21 _ => ?_⟩
    (generalize he_y6 : upd _ p _ = H6; obtain ⟨e_y6, k_y6, f_y6⟩ := own_f he_y6; clear he_y6)
    have ea6 := k_y6 _ _ e_y4 (by simpa using nap)
    ((try dsimp only); (first | (refine Rg.sg (σ' := [some (.ref p), some (.ref a), some (.int i2)]) ?_ ?_; focus exact rfl) | (refine Rg.sgG (σ' := [some (.ref p), some (.ref a), some (.int i2)]) ?_ ?_; focus exact rfl)))
    refine ⟨_, rfl, p, f4, 1000, rfl, e_y6, by decide, fun w f5 w0 w1 _ => ?_⟩
    (generalize he_y7 : upd _ p _ = H7; obtain ⟨e_y7, k_y7, f_y7⟩ := own_f he_y7; clear he_y7)
    have ea7 := k_y7 _ _ ea6 (by simpa using nap)
    have k7 := (k5.trans k_y6).trans k_y7
    refine ⟨_, _, rfl, rfl, _, rfl, _, rfl, a, _, _, i2.toNat, rfl, rfl, ea7, ixN_at (by omega) (by rw [List.length_map, c4.len]; omega), ?_⟩
    rw [← List.map_set]
    have c7 := c4.set i2.toNat (v := 999999999 - w) (by omega) (by omega)
    generalize c5.set i2.toNat (999999999 - w) = c8 at c7 ⊢
    (generalize he_y8 : upd _ a _ = H8; obtain ⟨e_y8, k_y8, f_y8⟩ := own_f he_y8; clear he_y8)
    have ep8 := k_y8 _ _ e_y7 (by simpa using nap.symm)
    have k8 : Kp [p] H H8 := fun x o e n => k_y8 x o (k7 x o e n) (by simp only [List.mem_singleton]; intro z; rw [z, n_a] at e; cases e)
    exact ⟨_, rfl, k H8 a c8 f5 k8 ep8 n_a e_y8 c7 nap⟩
end
end K01
namespace K01
open PySem PySem.Spec PyProof.Rows L2 Rg
theorem asc2 {a b : Int} (h : a < b) (k : Nat) : Asc ([a, b].take k) := by
  intro i x y e1 e2
  match k, i with
  | 0, _ => simp at e1
  | 1, 0 => simp at e2
  | 1, i + 1 => simp at e1
  | k + 2, 0 => simp at e1 e2; omega
  | k + 2, i + 1 => simp at e2
theorem sl2 {K : PySem.W.Frag} {H : Hp} {a : Addr} {x y : V} {k : Int} {Q : VK} (ha : SqT K H a [x, y]) (k0 : 0 ≤ k) (k3 : k < 3) (h : ∀ H' p, Same H H' → SqT K H' p ([x, y].take k.toNat) → Q (.ref p) H') :
    rSlT K (.ref a) none (some k) H Q ∨ rSlTA K (.ref a) none (some k) H Q := by
  have : k = 0 ∨ k = 1 ∨ k = 2 := by omega
  rcases this with rfl | rfl | rfl
  · refine .inl ⟨a, _, rfl, ha, fun z => absurd z.2 (by show ¬ HT.sIx 2 2 (some 0) = 2; decide), fun p np => h _ p (same_upd np) ?_⟩
    exact .of upd_same
  · refine .inl ⟨a, _, rfl, ha, fun z => absurd z.2 (by show ¬ HT.sIx 2 2 (some 1) = 2; decide), fun p np => h _ p (same_upd np) ?_⟩
    exact .of upd_same
  · exact .inr ⟨a, _, rfl, ha, (by show HT.sIx 2 0 none = 0; decide), (by show HT.sIx 2 2 (some 2) = 2; decide), h H a (Same.refl _) ha⟩
section
variable {P : Program} {w0_ : World} {K : PySem.W.Frag} {mg : Str → Option Value} {base : Heap}
/-! ### _law_record -/
def sp_Lrecord (K : PySem.W.Frag) : Sp := fun vs H Q _ => ∃ (p : Addr) (fs : List Int), vs = [.ref p] ∧ H p = some (.lst (fs.map V.int)) ∧ ∀ (H' : Hp) (a : Addr) (r : Rec) (fs' : List Int), Kp [p] H H' → H' p = some (.lst (fs'.map V.int)) → H a = none → RecAt K H' a r → Fit 24 30 r → Q (.ref a) H'
theorem ok_Lrecord (T : Tx K mg) : FnOk P w0_ K mg base CX0 3 T.f_Lrecord T.fd_Lrecord ["_law_feed_here"] (sp_Lrecord K) := by
  refine T.F_Lrecord.ok sc_Lrecord (fun vs H Q E h => ?_) (fun cdv A outer s H vs Q E hr h => ?_)
  · obtain ⟨_, _, rfl, _⟩ := h; rfl
  · obtain ⟨p, fs, rfl, ep, k⟩ := h
    have hr1 := hr.mono (show 1 ≤ 2 by decide)
    refine ⟨_, (pss_cons (ps_set (i := 1) sc_Lrecord.nd rfl (.inl rfl) (pe_op op_add pe_int (pe_call (ok_Lpick T) hr1 rfl T.mg_Lpick T.F_Lpick.kp (b_Lpick T) .nil pass0 (pa_cons (pv 0) (pa_cons pe_int pa_nil)))))
      (pss_cons (ps_set (i := 2) sc_Lrecord.nd rfl (.inl rfl) (pe_call (ok_Lpick T) hr1 rfl T.mg_Lpick T.F_Lpick.kp (b_Lpick T) .nil pass0 (pa_cons (pv 0) (pa_cons pe_int pa_nil))))
      (pss_cons (ps_if (pt_cmpR op_eq (pe_call (ok_Lpick T) hr1 rfl T.mg_Lpick T.F_Lpick.kp (b_Lpick T) .nil pass0 (pa_cons (pv 0) (pa_cons pe_int pa_nil))) pe_int (nomark _))
        (pss_one (ps_ret (pe_tup (pa_cons pe_str (pa_cons (pv 1) (pa_cons (pv 2) (pa_cons (pe_callTy call_tuple_of rfl T.b_tuple (by decide +kernel) (pa_cons (pe_call (ok_Lcells T) hr rfl T.mg_Lcells T.F_Lcells.kp (b_Lcells T) .nil pass0 (pa_cons (pv 0) pa_nil)) pa_nil)) pa_nil)))))))
        pss_nil)
      (pss_cons (ps_set (i := 3) sc_Lrecord.nd rfl (.inl rfl) (pe_tup (pa_cons (pe_tup (pa_cons (pv 2) (pa_cons (pe_op op_sub (pe_call (ok_Lpick T) hr1 rfl T.mg_Lpick T.F_Lpick.kp (b_Lpick T) .nil pass0 (pa_cons (pv 0) (pa_cons pe_int pa_nil))) pe_int) pa_nil))) (pa_cons (pe_tup (pa_cons (pe_op op_add (pe_op op_add (pv 2) pe_int) (pe_call (ok_Lpick T) hr1 rfl T.mg_Lpick T.F_Lpick.kp (b_Lpick T) .nil pass0 (pa_cons (pv 0) (pa_cons pe_int pa_nil)))) (pa_cons (pe_op op_sub (pe_call (ok_Lpick T) hr1 rfl T.mg_Lpick T.F_Lpick.kp (b_Lpick T) .nil pass0 (pa_cons (pv 0) (pa_cons pe_int pa_nil))) pe_int) pa_nil))) pa_nil))))
      (pss_cons (ps_set (i := 4) sc_Lrecord.nd rfl (.inl rfl) (pe_tup (pa_cons (pv 2) (pa_cons pe_int pa_nil))))
      (pss_one (ps_ret (pe_tup (pa_cons pe_str (pa_cons (pv 1) (pa_cons (pe_slice (SlR.or sl_tup sl_tupA) (pv 3) po_none (po_some (pe_call (ok_Lpick T) hr1 rfl T.mg_Lpick T.F_Lpick.kp (b_Lpick T) .nil pass0 (pa_cons (pv 0) (pa_cons pe_int pa_nil))))) (pa_cons (pe_slice (SlR.or sl_tup sl_tupA) (pv 4) po_none (po_some (pe_call (ok_Lpick T) hr1 rfl T.mg_Lpick T.F_Lpick.kp (b_Lpick T) .nil pass0 (pa_cons (pv 0) (pa_cons pe_int pa_nil))))) pa_nil)))))))))))), ?_⟩
    refine ⟨_, rfl, p, fs, 999, rfl, ep, by decide, fun l f1 l0 l1 _ => ?_⟩
    (generalize he_y1 : upd _ p _ = H1; obtain ⟨e_y1, k_y1, f_y1⟩ := own_f he_y1; clear he_y1)
    refine ⟨_, _, rfl, rfl, ?_⟩
    ((try dsimp only); (first | (refine Rg.sg (σ' := [some (.ref p), some (.int (1 + l)), none, none, none]) ?_ ?_; focus exact rfl) | (refine Rg.sgG (σ' := [some (.ref p), some (.int (1 + l)), none, none, none]) ?_ ?_; focus exact rfl)))
    refine ⟨_, rfl, p, f1, 20, rfl, e_y1, by decide, fun b f2 b0 b1 _ => ?_⟩
    (generalize he_y2 : upd _ p _ = H2; obtain ⟨e_y2, k_y2, f_y2⟩ := own_f he_y2; clear he_y2)
    ((try dsimp only); (first | (refine Rg.sg (σ' := [some (.ref p), some (.int (1 + l)), some (.int b), none, none]) ?_ ?_; focus exact rfl) | (refine Rg.sgG (σ' := [some (.ref p), some (.int (1 + l)), some (.int b), none, none]) ?_ ?_; focus exact rfl)))
    refine ⟨_, rfl, p, f2, 2, rfl, e_y2, by decide, fun c f3 c0 c1 _ => ?_⟩
    (generalize he_y3 : upd _ p _ = H3; obtain ⟨e_y3, k_y3, f_y3⟩ := own_f he_y3; clear he_y3)
    have k3 := (k_y1.trans k_y2).trans k_y3
    have alive : ∀ {Hx : Hp} {x : Addr}, (∃ o, Hx p = some o) → Hx x = none → x ≠ p := fun {Hx x} h n z => by
      obtain ⟨o, e⟩ := h
      rw [z, e] at n
      cases n
    have fre : ∀ {Hx : Hp} {x : Addr}, Kp [p] H Hx → (∃ o, Hx p = some o) → Hx x = none → H x = none := fun {Hx x} k h n => k.free (by simpa using alive h n) n
    refine ⟨rfl, _, rfl, wI (fun e => ?_) fun e => ?_⟩
    · refine ⟨_, rfl, _, rfl, _, rfl, p, f3, rfl, e_y3, fun H4 r cs f4 k4 ep4 n4 er hc nrp => ⟨r, _, rfl, .inl ⟨.of er, fun t nt => ⟨by show 4 ≤ sizeLine; decide, fun u nu => ?_⟩⟩⟩⟩
      have s2 := same_upd (o := .tup (cs.map V.int)) nt
      have s3 := same_upd (o := .tup [V.str "copy", .int (1 + l), .int b, .ref t]) nu
      have kz := k3.trans k4
      exact k _ u (.copy (1 + l) b cs) f4 ((kz.same s2).same s3) (s3 _ _ (s2 _ _ ep4)) (fre (kz.same s2) ⟨_, s2 _ _ ep4⟩ nu) ⟨t, .of upd_same, .of (s3 _ _ upd_same)⟩ ⟨by omega, by omega, by omega, by omega, by omega, hc⟩
    refine ⟨_, rfl, _, rfl, p, f3, 31, rfl, e_y3, by decide, fun m1 f4 m10 m11 _ => ⟨_, _, rfl, rfl, by show 2 ≤ sizeLine; decide, ?_⟩⟩
    (generalize he_y4 : upd _ p _ = H4; obtain ⟨e_y4, k_y4, f_y4⟩ := own_f he_y4; clear he_y4)
    (intro p1 n_p1; generalize he_p1 : upd _ p1 _ = H5; obtain ⟨e_p1, s_p1, f_p1⟩ := new_f he_p1 n_p1; clear he_p1)
    have np1 := alive ⟨_, e_y4⟩ n_p1
    refine ⟨_, rfl, _, _, rfl, rfl, _, rfl, p, f4, 3, rfl, s_p1 _ _ e_y4, by decide, fun d f5 d0 d1 _ => ⟨_, _, rfl, rfl, ?_⟩⟩
    (generalize he_y6 : upd _ p _ = H6; obtain ⟨e_y6, k_y6, f_y6⟩ := own_f he_y6; clear he_y6)
    have ep16 := k_y6 _ _ e_p1 (by simpa using np1)
    refine ⟨_, rfl, p, f5, 31, rfl, e_y6, by decide, fun m2 f6 m20 m21 _ => ⟨_, _, rfl, rfl, by show 2 ≤ sizeLine; decide, ?_⟩⟩
    (generalize he_y7 : upd _ p _ = H7; obtain ⟨e_y7, k_y7, f_y7⟩ := own_f he_y7; clear he_y7)
    have ep17 := k_y7 _ _ ep16 (by simpa using np1)
    (intro p2 n_p2; generalize he_p2 : upd _ p2 _ = H8; obtain ⟨e_p2, s_p2, f_p2⟩ := new_f he_p2 n_p2; clear he_p2)
    have np2 := alive ⟨_, e_y7⟩ n_p2
    refine ⟨by show 2 ≤ sizeLine; decide, ?_⟩
    (intro pp n_pp; generalize he_pp : upd _ pp _ = H9; obtain ⟨e_pp, s_pp, f_pp⟩ := new_f he_pp n_pp; clear he_pp)
    have npp := alive ⟨_, s_p2 _ _ e_y7⟩ n_pp
    ((try dsimp only); (first | (refine Rg.sg (σ' := [some (.ref p), some (.int (1 + l)), some (.int b), some (.ref pp), none]) ?_ ?_; focus exact rfl) | (refine Rg.sgG (σ' := [some (.ref p), some (.int (1 + l)), some (.int b), some (.ref pp), none]) ?_ ?_; focus exact rfl)))
    refine ⟨_, rfl, (by show 2 ≤ sizeLine; decide), ?_⟩
    (intro rr n_rr; generalize he_rr : upd _ rr _ = Ha; obtain ⟨e_rr, s_rr, f_rr⟩ := new_f he_rr n_rr; clear he_rr)
    have nrr := alive ⟨_, s_pp _ _ (s_p2 _ _ e_y7)⟩ n_rr
    ((try dsimp only); (first | (refine Rg.sg (σ' := [some (.ref p), some (.int (1 + l)), some (.int b), some (.ref pp), some (.ref rr)]) ?_ ?_; focus exact rfl) | (refine Rg.sgG (σ' := [some (.ref p), some (.int (1 + l)), some (.int b), some (.ref pp), some (.ref rr)]) ?_ ?_; focus exact rfl)))
    have epa := s_rr _ _ (s_pp _ _ (s_p2 _ _ e_y7))
    have ka := (((((k3.trans k_y4).same s_p1).trans k_y6).trans k_y7).same s_p2).same (s_pp.trans s_rr)
    refine ⟨_, rfl, _, rfl, _, rfl, p, f6, 3, rfl, epa, by decide, fun g1 f7 g10 g11 _ => ⟨_, rfl, ?_⟩⟩
    (generalize he_yb : upd _ p _ = Hb; obtain ⟨e_yb, k_yb, f_yb⟩ := own_f he_yb; clear he_yb)
    have kb := ka.trans k_yb
    have eppb := k_yb _ _ (s_rr _ _ e_pp) (by simpa using npp)
    have errb := k_yb _ _ e_rr (by simpa using nrr)
    have ep1b := k_yb _ _ (s_rr _ _ (s_pp _ _ (s_p2 _ _ ep17))) (by simpa using np1)
    have ep2b := k_yb _ _ (s_rr _ _ (s_pp _ _ e_p2)) (by simpa using np2)
    refine sl2 (.of eppb) g10 g11 fun Hc b1 s5 t1 => ?_
    have epc := s5 _ _ e_yb
    refine ⟨_, rfl, _, rfl, p, f7, 3, rfl, epc, by decide, fun g2 f8 g20 g21 _ => ⟨_, rfl, ?_⟩⟩
    have t1d : SqT K (upd Hc p (.lst (f8.map V.int))) b1 _ := seqT_ne t1 epc
    generalize he : upd Hc p (.lst (f8.map V.int)) = Hd at t1d ⊢
    obtain ⟨e_yd, k_yd, f_yd⟩ := own_f he
    clear he
    have errd := k_yd _ _ (s5 _ _ errb) (by simpa using nrr)
    have ep1d := k_yd _ _ (s5 _ _ ep1b) (by simpa using np1)
    have ep2d := k_yd _ _ (s5 _ _ ep2b) (by simpa using np2)
    have kd := (kb.same s5).trans k_yd
    refine sl2 (.of errd) g20 g21 fun He b2 s6 t2 => ⟨(by show 4 ≤ sizeLine; decide), fun u nu => ?_⟩
    have s7 := same_upd (o := .tup [V.str "mark", .int (1 + l), .ref b1, .ref b2]) nu
    have s67 := s6.trans s7
    refine k _ u (.mark (1 + l) ([(b, m1 - 1), (b + 1 + d, m2 - 1)].take g1.toNat) ([b, 23].take g2.toNat)) f8 (kd.same s67) (s67 _ _ e_yd) (fre (kd.same s6) ⟨_, s6 _ _ e_yd⟩ nu) ⟨b1, b2, .of upd_same, ⟨[p1, p2].take g1.toNat, ?_, by rw [List.length_take, List.length_take]; rfl, ?_⟩, ?_⟩ ⟨by omega, by omega, by rw [List.length_take]; exact Nat.le_trans (Nat.min_le_right _ _) (by show 2 ≤ 64; decide), by rw [List.length_take]; exact Nat.le_trans (Nat.min_le_right _ _) (by show 2 ≤ 64; decide), ?_, ?_, ?_, asc2 (by omega) _⟩
    · have t := sameT s67 t1d
      rw [List.map_take]
      exact t
    · intro i q p e1 e2
      rw [List.getElem?_take] at e1 e2
      by_cases hi : i < g1.toNat
      · rw [if_pos hi] at e1 e2
        match i with
        | 0 => cases e1; cases e2; exact .of (s67 _ _ ep1d)
        | 1 => cases e1; cases e2; exact .of (s67 _ _ ep2d)
        | i + 2 => simp at e1
      · rw [if_neg hi] at e1
        cases e1
    · have t := sameT s7 t2
      rw [List.map_take]
      exact t
    · intro p hp
      have := List.mem_of_mem_take hp
      simp only [List.mem_cons, List.not_mem_nil, or_false] at this
      rcases this with e | e <;> rw [e] <;> simp only [] <;> omega
    · rw [List.map_take]
      show Asc ([b, b + 1 + d].take _)
      exact asc2 (by omega) _
    · intro r hr
      have := List.mem_of_mem_take hr
      simp only [List.mem_cons, List.not_mem_nil, or_false] at this
      rcases this with e | e <;> rw [e] <;> omega
end
end K01
namespace K01
open PySem PySem.Spec PyProof.Rows L2 Rg
theorem Sm.nil {K : PySem.W.Frag} {H : Hp} {n : Nat} : ∀ (i : Nat) (x y : V), ([] : List V)[i]? = some x → ([] : List V)[i]? = some y → Sm K H n x y := fun _ _ _ h => by cases h
theorem Sm.cons {K : PySem.W.Frag} {H : Hp} {n : Nat} {u v : V} {xs ys : List V} (a : Sm K H n u v) (h : ∀ (i : Nat) (x y : V), xs[i]? = some x → ys[i]? = some y → Sm K H n x y) : ∀ (i : Nat) (x y : V), (u :: xs)[i]? = some x → (v :: ys)[i]? = some y → Sm K H n x y := fun i x y e1 e2 => by
  cases i with
  | zero => cases e1; cases e2; exact a
  | succ i => exact h i x y e1 e2
abbrev Wg := Addr × Wv
def WAt (K : PySem.W.Frag) (H : Hp) (g : Wg) : Prop := ∃ a u, SqT K H g.1 [.int g.2.m, .ref a, .ref u] ∧ PlcAt K H a g.2.q ∧ CtAt K H u g.2.w
def WsG (K : PySem.W.Frag) (H : Hp) (G : List Wg) : Prop := ∀ g ∈ G, WAt K H g
theorem WAt.by {K : PySem.W.Frag} {H H1 : Hp} {g : Wg} (h : WAt K H g) (f : ∀ b xs, SqT K H b xs → SqT K H1 b xs) : WAt K H1 g := by
  obtain ⟨a, u, h1, h2, h3⟩ := h
  exact ⟨a, u, f _ _ h1, h2.by f, h3.by f⟩
theorem WsG.by {K : PySem.W.Frag} {H H1 : Hp} {G : List Wg} (h : WsG K H G) (f : ∀ b xs, SqT K H b xs → SqT K H1 b xs) : WsG K H1 G := fun g hg => (h g hg).by f
theorem smC {K : PySem.W.Frag} {H : Hp} {b s : Int} {q : Plc} {w : Ct} {x y : Addr} (hf : CtFit b s q w) (hx : CtAt K H x w) (hy : CtAt K H y w) : Sm K H 3 (.ref x) (.ref y) := by
  cases w with
  | cells c =>
    have hc : c.length = 8 := by
      cases q with
      | home i => exact hf.2.2.len
      | log i => exact hf.elim
    exact smIs hx hy (by omega)
  | rcd r =>
    have hr : Fit b s r := by
      cases q with
      | home i => exact hf.elim
      | log i => exact hf.2.2
    cases r with
    | copy l a c =>
      obtain ⟨p1, e1, e2⟩ := hx
      obtain ⟨p2, g1, g2⟩ := hy
      have hc : c.length = 8 := hr.2.2.2.2.2.len
      exact smT e1 g1 rfl (by simp only [List.length_cons, List.length_nil]; decide) (Sm.cons smStr (Sm.cons Sm.int (Sm.cons Sm.int (Sm.cons (smIs (n := 1) e2 g2 (by omega)) Sm.nil))))
    | mark l ps rs =>
      obtain ⟨p1, r1, e1, ⟨qs, e2, e3, e4⟩, e5⟩ := hx
      obtain ⟨p2, r2, g1, ⟨ks, g2, g3, g4⟩, g5⟩ := hy
      have h1 : ps.length ≤ 64 := hr.2.2.1
      have h2 : rs.length ≤ 64 := hr.2.2.2.1
      refine smT e1 g1 rfl (by simp only [List.length_cons, List.length_nil]; decide) (Sm.cons smStr (Sm.cons Sm.int (Sm.cons ?_ (Sm.cons (smIs (n := 1) e5 g5 (by omega)) Sm.nil))))
      refine smT (n := 1) e2 g2 (by rw [List.length_map, List.length_map, e3, g3]) (by rw [List.length_map, g3]; omega) fun i x y a1 a2 => ?_
      rw [List.getElem?_map] at a1 a2
      obtain ⟨k1, hk1, rfl⟩ := Option.map_eq_some_iff.mp a1
      obtain ⟨k2, hk2, rfl⟩ := Option.map_eq_some_iff.mp a2
      have hl : i < ps.length := by rw [← e3]; exact (List.getElem?_eq_some_iff.mp hk1).1
      exact smT (n := 0) (e4 i k1 _ hk1 (List.getElem?_eq_getElem hl)) (g4 i k2 _ hk2 (List.getElem?_eq_getElem hl)) rfl (by simp only [List.length_cons, List.length_nil]; decide) (Sm.cons Sm.int (Sm.cons Sm.int Sm.nil))
theorem smP {K : PySem.W.Frag} {H : Hp} {q : Plc} {x y : Addr} {n : Nat} (hx : PlcAt K H x q) (hy : PlcAt K H y q) : Sm K H (n + 1) (.ref x) (.ref y) := by
  cases q with
  | home i => exact smT hx hy rfl (by simp only [List.length_cons, List.length_nil]; decide) (Sm.cons smStr (Sm.cons Sm.int Sm.nil))
  | log i => exact smT hx hy rfl (by simp only [List.length_cons, List.length_nil]; decide) (Sm.cons smStr (Sm.cons Sm.int Sm.nil))
/-- what may stand in rows -/
def OFit : Option Ct → Prop
  | none => True
  | some w => ∃ q, CtFit 24 30 q w
def MFit (M : Md) : Prop := (∀ o ∈ M.hm, OFit o) ∧ ∀ o ∈ M.lg, OFit o
theorem smO {K : PySem.W.Frag} {H : Hp} {x y : V} {o : Option Ct} (h : OFit o) (hx : VAt K H x o) (hy : VAt K H y o) : Sm K H 3 x y := by
  cases o with
  | none =>
    have hx : x = .non := hx
    have hy : y = .non := hy
    rw [hx, hy]
    exact smNon
  | some w =>
    obtain ⟨a, rfl, hx⟩ := hx
    obtain ⟨b, rfl, hy⟩ := hy
    obtain ⟨q, h⟩ := h
    exact smC h hx hy
theorem smRow {K : PySem.W.Frag} {H : Hp} {a b : Addr} {xs ys : List V} {os : List (Option Ct)} (ea : SqT K H a xs) (eb : SqT K H b ys) (ra : Row K H xs os) (rb : Row K H ys os) (hn : os.length < 1000) (hf : ∀ o ∈ os, OFit o) : Sm K H 4 (.ref a) (.ref b) := by
  refine .inr ⟨a, b, xs, ys, rfl, rfl, ea, eb, by rw [ra.l, rb.l], by rw [rb.l]; exact hn, fun i x y h1 h2 => ?_⟩
  have hl : i < os.length := by rw [← ra.l]; exact (List.getElem?_eq_some_iff.mp h1).1
  have ho := List.getElem?_eq_getElem hl
  exact smO (hf _ (List.mem_of_getElem? ho)) (ra.a i x _ h1 ho) (rb.a i y _ h2 ho)
theorem smWs {K : PySem.W.Frag} {H : Hp} {a b : Addr} {rs : List Addr} {ps : List Pw} {G : List Wg} (ea : SqT K H a (rs.map V.ref)) (eb : SqT K H b (G.map fun g => V.ref g.1)) (t : TdAt H rs ps) (hp : PwsAt K H 24 30 ps) (hG : WsG K H G) (e : ps.map Pw.wv = G.map (·.2)) (hn : G.length < 1000) : Sm K H 5 (.ref a) (.ref b) := by
  have el : ps.length = G.length := by
    have := congrArg List.length e
    rw [List.length_map, List.length_map] at this
    exact this
  refine .inr ⟨a, b, _, _, rfl, rfl, ea, eb, by rw [List.length_map, List.length_map, t.1, el], by rw [List.length_map]; exact hn, fun i x y h1 h2 => ?_⟩
  rw [List.getElem?_map] at h1 h2
  obtain ⟨r, hr, rfl⟩ := Option.map_eq_some_iff.mp h1
  obtain ⟨g, hg, rfl⟩ := Option.map_eq_some_iff.mp h2
  have hl : i < ps.length := by rw [← t.1]; exact (List.getElem?_eq_some_iff.mp hr).1
  have hpi := List.getElem?_eq_getElem hl
  have eg : ps[i].wv = g.2 := by
    have e1 : (ps.map Pw.wv)[i]? = some ps[i].wv := by rw [List.getElem?_map, hpi]; rfl
    have e2 : (G.map (·.2))[i]? = some g.2 := by rw [List.getElem?_map, hg]; rfl
    rw [e, e2] at e1
    exact (Option.some.inj e1).symm
  have P0 := hp _ (List.mem_of_getElem? hpi)
  obtain ⟨pa, pu, t1, t2, t3⟩ := hG g (List.mem_of_getElem? hg)
  have tr := t.2 i r _ hr hpi
  rw [← eg] at t1 t2 t3
  exact smT (n := 3) (.of tr) t1 rfl (by simp only [List.length_cons, List.length_nil]; decide) (Sm.cons Sm.int (Sm.cons (smP P0.a t2) (Sm.cons (smC P0.f P0.u t3) Sm.nil)))
/-! ### the book: a list of four lists -/
structure BA where
  (ho lg nm pe : Addr)
def bkO (B : Addr) (A : BA) : List Addr := [B, A.ho, A.lg, A.nm, A.pe]
structure BkAt (K : PySem.W.Frag) (H : Hp) (B : Addr) (A : BA) (M : Md) : Prop where
  e : H B = some (.lst [.ref A.ho, .ref A.lg, .ref A.nm, .ref A.pe])
  h : ∃ hs, H A.ho = some (.lst hs) ∧ Row K H hs M.hm
  g : ∃ gs, H A.lg = some (.lst gs) ∧ Row K H gs M.lg
  n : H A.nm = some (.lst [.int M.hd, .int M.la])
  w : ∃ G : List Wg, H A.pe = some (.lst (G.map fun g => .ref g.1)) ∧ WsG K H G ∧ G.map (·.2) = M.ws
  lh : M.hm.length = 24
  ll : M.lg.length = 30
  ln : M.ws.length < 900
  ft : ∀ x ∈ M.ws, CtFit 24 30 x.q x.w
  mf : MFit M
  ne : (bkO B A).Nodup
theorem BkAt.same {K : PySem.W.Frag} {H H1 : Hp} {B : Addr} {A : BA} {M : Md} (h : BkAt K H B A M) (s : Same H H1) : BkAt K H1 B A M := by
  obtain ⟨hs, h1, h2⟩ := h.h
  obtain ⟨gs, g1, g2⟩ := h.g
  obtain ⟨G, w1, w2, w3⟩ := h.w
  exact { h with e := s _ _ h.e, h := ⟨hs, s _ _ h1, h2.same s⟩, g := ⟨gs, s _ _ g1, g2.same s⟩, n := s _ _ h.n, w := ⟨G, s _ _ w1, w2.by fun _ _ => sameT s, w3⟩ }
theorem BkAt.kp {K : PySem.W.Frag} {H H1 : Hp} {B : Addr} {A : BA} {M : Md} (h : BkAt K H B A M) (f : ∀ b xs, SqT K H b xs → SqT K H1 b xs) (k : ∀ x ∈ bkO B A, ∀ o, H x = some o → H1 x = some o) : BkAt K H1 B A M := by
  obtain ⟨hs, h1, h2⟩ := h.h
  obtain ⟨gs, g1, g2⟩ := h.g
  obtain ⟨G, w1, w2, w3⟩ := h.w
  exact { h with e := k _ (by simp [bkO]) _ h.e, h := ⟨hs, k _ (by simp [bkO]) _ h1, h2.by f⟩, g := ⟨gs, k _ (by simp [bkO]) _ g1, g2.by f⟩, n := k _ (by simp [bkO]) _ h.n, w := ⟨G, k _ (by simp [bkO]) _ w1, w2.by f, w3⟩ }
end K01
namespace K01
open PySem PySem.Spec PyProof.Rows L2 Rg
theorem DkAt.tk {CD CP : Addr} {K : PySem.W.Frag} {Ps : List Addr} {H H' : Hp} {d : Addr} {A : DA} {hs gs : List V} {ps : List Pw} {M : Md} (h : DkAt CD CP K H d A hs gs ps M) (ht : Tab Ps H) (k : Tk Ps H H') : DkAt CD CP K H' d A hs gs ps M :=
  ⟨h.D.tk ht k, h.P.by (fun _ _ x => k.seqT ht x) (fun _ _ e => k.at ht e), h.O, h.rh.by (fun _ _ x => k.seqT ht x), h.rg.by (fun _ _ x => k.seqT ht x), h.e, h.n⟩
section
variable {P : Program} {w0_ : World} {K : PySem.W.Frag} {mg : Str → Option Value} {base : Heap}
/-! ### _law_agrees -/
def sp_Lagrees (CD CP : Addr) (K : PySem.W.Frag) (Ps : List Addr) : Sp := fun vs H Q _ => ∃ (d B : Addr) (A : DA) (A' : BA) (hs gs : List V) (ps : List Pw) (M : Md), vs = [.ref d, .ref B] ∧ DkAt CD CP K H d A hs gs ps M ∧ BkAt K H B A' M ∧ Tab Ps H ∧ ∀ H', Tk Ps H H' → Q (.bl true) H'
theorem ok_Lagrees (T : Tx K mg) (B0 : TBs T base) : FnOk P w0_ K mg base CX0 8 T.f_Lagrees T.fd_Lagrees ["_law_disk", "_law_book"] (sp_Lagrees T.C_Disk T.C_Plan K T.Ps) := by
  refine T.F_Lagrees.ok sc_Lagrees (fun vs H Q E h => ?_) (fun cdv A0 outer s H vs Q E hr h => ?_)
  · obtain ⟨_, _, _, _, _, _, _, _, rfl, _⟩ := h; rfl
  · obtain ⟨d, B, A, A', hs, gs, ps, M, rfl, D, Bk, ht, k⟩ := h
    have hr1 := hr.mono (show 1 ≤ 7 by decide)
    have hr2 := hr.mono (show 2 ≤ 7 by decide)
    have hr4 := hr.mono (show 4 ≤ 7 by decide)
    refine ⟨_, (pss_cons (ps_asg (pv 1) (pg_lst rfl (pgs_cons (pg_name (i := 2) sc_Lagrees.nd rfl (.inl rfl)) (pgs_cons (pg_name (i := 3) sc_Lagrees.nd rfl (.inl rfl)) (pgs_cons (pg_name (i := 4) sc_Lagrees.nd rfl (.inl rfl)) (pgs_cons (pg_name (i := 5) sc_Lagrees.nd rfl (.inl rfl)) pgs_nil))))))
      (pss_cons (ps_if (PW.pt (pw_or (pt_not (pt_val (pe_callB call_isi rfl T.b_isinstance (by decide +kernel) (pa_cons (pe_fld (pv 0) rfl) (pa_cons (pe_bltn (v := .ty "list") rfl T.b_list (by decide +kernel) rfl) pa_nil))))) (pw_or1 (pt_not (pt_val (pe_callB call_isi rfl T.b_isinstance (by decide +kernel) (pa_cons (pe_fld (pv 0) rfl) (pa_cons (pe_bltn (v := .ty "list") rfl T.b_list (by decide +kernel) rfl) pa_nil))))))))
        (pss_one (ps_ret pe_bl))
        pss_nil)
      (pss_cons (ps_if (PW.pt (pw_or (pt_not (pt_val (pe_call (ok_Lsame T 5) hr rfl T.mg_Lsame T.F_Lsame.kp (b_Lsame T) .nil pass0 (pa_cons (pe_callTy call_tuple_of rfl T.b_tuple (by decide +kernel) (pa_cons (pe_fld (pv 0) rfl) pa_nil)) (pa_cons (pe_callTy call_tuple_of rfl T.b_tuple (by decide +kernel) (pa_cons (pv 2) pa_nil)) pa_nil))))) (pw_or1 (pt_not (pt_val (pe_call (ok_Lsame T 5) hr rfl T.mg_Lsame T.F_Lsame.kp (b_Lsame T) .nil pass0 (pa_cons (pe_callTy call_tuple_of rfl T.b_tuple (by decide +kernel) (pa_cons (pe_fld (pv 0) rfl) pa_nil)) (pa_cons (pe_callTy call_tuple_of rfl T.b_tuple (by decide +kernel) (pa_cons (pv 3) pa_nil)) pa_nil))))))))
        (pss_one (ps_ret pe_bl))
        pss_nil)
      (pss_cons (ps_if (pt_not (pt_val (pe_call (ok_Lsame T 5) hr rfl T.mg_Lsame T.F_Lsame.kp (b_Lsame T) .nil pass0 (pa_cons (pe_tup (pa_cons (pe_fld (pv 0) rfl) (pa_cons (pe_fld (pv 0) rfl) pa_nil))) (pa_cons (pe_callTy call_tuple_of rfl T.b_tuple (by decide +kernel) (pa_cons (pv 4) pa_nil)) pa_nil)))))
        (pss_one (ps_ret pe_bl))
        pss_nil)
      (pss_cons (ps_set (i := 6) sc_Lagrees.nd rfl (.inl rfl) (pe_meth0 (pv 0) T.cl_Disk T.m_Disk_pending (ok_pending T) hr1 (b_Disk_pending T) .nil pass0))
      (pss_cons (ps_if (PW.pt (pw_or (pt_not (pt_val (pe_callB call_isi rfl T.b_isinstance (by decide +kernel) (pa_cons (pv 6) (pa_cons (pe_bltn (v := .ty "list") rfl T.b_list (by decide +kernel) rfl) pa_nil))))) (pw_or1 (pt_not (pt_val (pe_call (ok_Lsame T 5) hr rfl T.mg_Lsame T.F_Lsame.kp (b_Lsame T) .nil pass0 (pa_cons (pe_callTy call_tuple_of rfl T.b_tuple (by decide +kernel) (pa_cons (pv 6) pa_nil)) (pa_cons (pe_callTy call_tuple_of rfl T.b_tuple (by decide +kernel) (pa_cons (pv 5) pa_nil)) pa_nil))))))))
        (pss_one (ps_ret pe_bl))
        pss_nil)
      (pss_cons (ps_expr (pe_bm PySem.F.plainAttrs_list PySem.F.slot_list_append PySem.F.type_list_append mt_append (pv 6) (pa_cons (pe_tup (pa_cons pe_int (pa_cons (pe_tup (pa_cons pe_str (pa_cons pe_int pa_nil))) (pa_cons pe_non pa_nil)))) pa_nil)))
      (pss_cons (ps_for PassesOwn.never rfl (pi_list (pv 5)) (pg_name (i := 7) sc_Lagrees.nd rfl (.inl rfl))
        (pss_one (ps_if (pt_cmpR op_notV (pe_meth (pv 0) T.cl_Disk T.m_Disk_busy (ok_busyG T B0) hr4 (b_Disk_busy T) .nil pass0 (pa_cons (pe_ix ix_tup (pv 7) pe_int (fun _ _ => rfl)) pa_nil)) pe_bl (nomark _))
          (pss_one (ps_ret pe_bl))
          pss_nil)))
      (pss_cons (ps_if (pt_cmpR op_eq (pe_callB call_len_seq rfl T.b_len (by decide +kernel) (pa_cons (pv 5) pa_nil)) pe_int (nomark _))
        (pss_one (ps_ret (pe_cmpR op_isV (pe_prop (pv 0) T.cl_Disk T.pr_Disk_quiet.choose_spec (ok_quiet T) hr2 (b_Disk_quiet T) .nil pass0 rfl) pe_bl (nomark _))))
        pss_nil)
      (pss_one (ps_ret (pe_cmpR op_isV (pe_prop (pv 0) T.cl_Disk T.pr_Disk_quiet.choose_spec (ok_quiet T) hr2 (b_Disk_quiet T) .nil pass0 rfl) pe_bl (nomark _))))))))))))), ?_⟩
    obtain ⟨dx, ob⟩ := D.D.ob
    have hn := D.n
    have hn2 : ps.length < 1000 := by omega
    obtain ⟨G, w1, w2, w3⟩ := Bk.w
    obtain ⟨bh, h1, h2⟩ := Bk.h
    obtain ⟨bg, g1, g2⟩ := Bk.g
    have lG : G.length = ps.length := by
      have e1 := congrArg List.length w3
      have e2 := congrArg List.length D.e
      rw [List.length_map] at e1 e2
      omega
    have eGp : ps.map Pw.wv = G.map (·.2) := by rw [w3, D.e]
    refine ⟨_, rfl, B, _, rfl, .inl (.of Bk.e), rfl, _, _, rfl, _, _, rfl, _, _, rfl, _, _, rfl, rfl, ?_⟩
    ((try dsimp only); (first | (refine Rg.sg (σ' := [some (.ref d), some (.ref B), some (.ref A'.ho), some (.ref A'.lg), some (.ref A'.nm), some (.ref A'.pe), none, none]) ?_ ?_; focus exact rfl) | (refine Rg.sgG (σ' := [some (.ref d), some (.ref B), some (.ref A'.ho), some (.ref A'.lg), some (.ref A'.nm), some (.ref A'.pe), none, none]) ?_ ?_; focus exact rfl)))
    refine ⟨_, rfl, d, _, _, _, _, rfl, ob, T.cl_Disk, T.na_Disk_home, rfl, _, _, _, _, true, rfl, .ty _, .base (.lst D.D.ho), kit_ty (by decide +kernel), _, rfl, iteF ?_⟩
    refine ⟨_, rfl, d, _, _, _, _, rfl, ob, T.cl_Disk, T.na_Disk_log, rfl, _, _, _, _, true, rfl, .ty _, .base (.lst D.D.lg), kit_ty (by decide +kernel), _, rfl, iteF ?_⟩
    -- the rows
    refine ⟨_, rfl, d, _, _, _, _, rfl, ob, T.cl_Disk, T.na_Disk_home, rfl, A.ho, _, rfl, .inl ⟨.of D.D.ho, fun l1 n_l1 => ?_⟩⟩
    (generalize he_l1 : upd _ l1 _ = H1; obtain ⟨e_l1, s_l1, f_l1⟩ := new_f he_l1 n_l1; clear he_l1)
    refine ⟨_, rfl, A'.ho, _, rfl, .inl ⟨.of (s_l1 _ _ h1), fun l2 n_l2 => ?_⟩⟩
    (generalize he_l2 : upd _ l2 _ = H2; obtain ⟨e_l2, s_l2, f_l2⟩ := new_f he_l2 n_l2; clear he_l2)
    have S2 := s_l1.trans s_l2
    refine ⟨_, _, rfl, (smRow (.of (s_l2 _ _ e_l1)) (.of e_l2) (D.rh.same S2) (h2.same S2) (by rw [Bk.lh]; decide) Bk.mf.1).up, _, rfl, iteF ?_⟩
    refine ⟨_, rfl, d, _, _, _, _, rfl, S2 _ _ ob, T.cl_Disk, T.na_Disk_log, rfl, A.lg, _, rfl, .inl ⟨.of (S2 _ _ D.D.lg), fun l3 n_l3 => ?_⟩⟩
    (generalize he_l3 : upd _ l3 _ = H3; obtain ⟨e_l3, s_l3, f_l3⟩ := new_f he_l3 n_l3; clear he_l3)
    refine ⟨_, rfl, A'.lg, _, rfl, .inl ⟨.of (s_l3 _ _ (S2 _ _ g1)), fun l4 n_l4 => ?_⟩⟩
    (generalize he_l4 : upd _ l4 _ = H4; obtain ⟨e_l4, s_l4, f_l4⟩ := new_f he_l4 n_l4; clear he_l4)
    have S4 := (S2.trans s_l3).trans s_l4
    refine ⟨_, _, rfl, (smRow (.of (s_l4 _ _ e_l3)) (.of e_l4) (D.rg.same S4) (g2.same S4) (by rw [Bk.ll]; decide) Bk.mf.2).up, _, rfl, iteF ?_⟩
    -- the numbers
    refine ⟨_, rfl, d, _, _, _, _, rfl, S4 _ _ ob, T.cl_Disk, T.na_Disk_head, rfl, _, rfl, d, _, _, _, _, rfl, S4 _ _ ob, T.cl_Disk, T.na_Disk_last, rfl, by show 2 ≤ sizeLine; decide, ?_⟩
    (intro c1 n_c1; generalize he_c1 : upd _ c1 _ = H5; obtain ⟨e_c1, s_c1, f_c1⟩ := new_f he_c1 n_c1; clear he_c1)
    have S5 := S4.trans s_c1
    refine ⟨_, rfl, A'.nm, _, rfl, .inl ⟨.of (S5 _ _ Bk.n), fun l5 n_l5 => ?_⟩⟩
    (generalize he_l5 : upd _ l5 _ = H6; obtain ⟨e_l5, s_l5, f_l5⟩ := new_f he_l5 n_l5; clear he_l5)
    have S6 := S5.trans s_l5
    refine ⟨_, _, rfl, smT (n := 4) (.of (s_l5 _ _ e_c1)) (.of e_l5) rfl (by simp only [List.length_cons, List.length_nil]; decide) (Sm.cons Sm.int (Sm.cons Sm.int Sm.nil)), _, rfl, iteF ?_⟩
    -- what is pending
    refine ⟨_, rfl, d, _, _, rfl, S6 _ _ ob, rfl, d, A, 24, 5, 30, M.hd, M.la, hs, gs, ps, rfl, D.D.same S6, D.P.by (fun _ _ => sameT S6) (fun _ _ e => S6 _ _ e), hn2, fun H7 r rs S7 n7 e7 t7 => ?_⟩
    ((try dsimp only); (first | (refine Rg.sg (σ' := [some (.ref d), some (.ref B), some (.ref A'.ho), some (.ref A'.lg), some (.ref A'.nm), some (.ref A'.pe), some (.ref r), none]) ?_ ?_; focus exact rfl) | (refine Rg.sgG (σ' := [some (.ref d), some (.ref B), some (.ref A'.ho), some (.ref A'.lg), some (.ref A'.nm), some (.ref A'.pe), some (.ref r), none]) ?_ ?_; focus exact rfl)))
    have S07 := S6.trans S7
    refine ⟨_, rfl, _, _, _, _, true, rfl, .ty _, .base (.lst e7), kit_ty (by decide +kernel), _, rfl, iteF ?_⟩
    refine ⟨_, rfl, r, _, rfl, .inl ⟨.of e7, fun l6 n_l6 => ?_⟩⟩
    (generalize he_l6 : upd _ l6 _ = H8; obtain ⟨e_l6, s_l6, f_l6⟩ := new_f he_l6 n_l6; clear he_l6)
    refine ⟨_, rfl, A'.pe, _, rfl, .inl ⟨.of (s_l6 _ _ (S07 _ _ w1)), fun l7 n_l7 => ?_⟩⟩
    (generalize he_l7 : upd _ l7 _ = H9; obtain ⟨e_l7, s_l7, f_l7⟩ := new_f he_l7 n_l7; clear he_l7)
    have S79 := s_l6.trans s_l7
    have S9 := S07.trans S79
    refine ⟨_, _, rfl, smWs (.of (s_l7 _ _ e_l6)) (.of e_l7) ⟨t7.1, fun i r p a b => S79 _ _ (t7.2 i r p a b)⟩ (D.P.by (fun _ _ => sameT S9) fun _ _ e => S9 _ _ e) (w2.by fun _ _ => sameT S9) eGp (by omega), _, rfl, iteF ?_⟩
    refine ⟨_, rfl, .inl ⟨rfl, _, .inl (.inl (S79 _ _ e7))⟩, by show 2 ≤ sizeLine; decide, ?_⟩
    (intro c6 n_c6; generalize he_c6 : upd _ c6 _ = Ha; obtain ⟨e_c6, s_c6, f_c6⟩ := new_f he_c6 n_c6; clear he_c6)
    refine ⟨by show 3 ≤ sizeLine; decide, ?_⟩
    (intro c8 n_c8; generalize he_c8 : upd _ c8 _ = Hb; obtain ⟨e_c8, s_c8, f_c8⟩ := new_f he_c8 n_c8; clear he_c8)
    have n7H : H r = none := S6.free n7
    refine ⟨r, _, _, rfl, rfl, s_c8 _ _ (s_c6 _ _ (S79 _ _ e7)), small1000 (by rw [List.length_map, t7.1]; omega), ?_⟩
    (generalize he_c9 : upd _ r _ = Hc; obtain ⟨e_c9, k_c9, f_c9⟩ := own_f he_c9; clear he_c9)
    have Sb := (S9.trans s_c6).trans s_c8
    have S10 : Same H Hc := fun x o e => k_c9.at1 (Sb _ _ e) (ne_of_none e n7H)
    have t10 := Tk.of ht S10
    -- each place is busy
    refine ⟨_, rfl, A'.pe, rfl, ⟨_, .of (S10 _ _ w1)⟩, for_list (K := K) (a := A'.pe) (xs := G.map fun g => V.ref g.1) (fun i σ H' => ∃ u7 : Option V, σ = [some (.ref d), some (.ref B), some (.ref A'.ho), some (.ref A'.lg), some (.ref A'.nm), some (.ref A'.pe), some (.ref r), u7] ∧ Tk T.Ps H H') ⟨none, rfl, t10⟩ (fun i σ H' _ ⟨_, _, kt⟩ => .of (kt.at ht w1)) ?_ ?_⟩
    · rintro i y σ H' hi ⟨u7, rfl, kt⟩
      rw [List.getElem?_map] at hi
      obtain ⟨g, hg, rfl⟩ := Option.map_eq_some_iff.mp hi
      have gm := List.mem_of_getElem? hg
      have D' := D.tk ht kt
      obtain ⟨pa, pu, t1, t2, t3⟩ := (w2 g gm).by fun _ _ x => kt.seqT ht x
      ((try dsimp only); (first | (refine Rg.sg (σ' := [some (.ref d), some (.ref B), some (.ref A'.ho), some (.ref A'.lg), some (.ref A'.nm), some (.ref A'.pe), some (.ref r), some (.ref g.1)]) ?_ ?_; focus exact rfl) | (refine Rg.sgG (σ' := [some (.ref d), some (.ref B), some (.ref A'.ho), some (.ref A'.lg), some (.ref A'.nm), some (.ref A'.pe), some (.ref r), some (.ref g.1)]) ?_ ?_; focus exact rfl)))
      refine ⟨_, rfl, d, _, _, rfl, kt.at ht ob, rfl, _, rfl, g.1, _, 1, .ref pa, rfl, rfl, t1, atI_nat (j := 1) rfl, d, pa, A, 24, 5, 30, M.hd, M.la, hs, gs, ps, g.2.q, rfl, D'.D, D'.P, t2, kt.tab, fun H2 k2 => ⟨_, _, rfl, rfl, _, rfl, ?_⟩⟩
      have tkn : taken g.2.q ps = true := by
        rw [taken_w, eGp]
        exact List.any_eq_true.mpr ⟨g.2, List.mem_map.mpr ⟨g, gm, rfl⟩, decide_eq_true rfl⟩
      rw [tkn]
      exact iteF ⟨_, rfl, kt.trans k2⟩
    rintro σ H' ⟨u7, rfl, kt⟩
    have D' := D.tk ht kt
    have lp : (pwK ps).length = ps.length := by unfold pwK; rw [List.length_map]
    refine ⟨_, rfl, A'.pe, _, rfl, .inl (.of (kt.at ht w1)), rfl, _, rfl, wI (fun e => ?_) fun e => ?_⟩
    · rw [List.length_map] at e
      refine ⟨_, rfl, d, _, _, rfl, kt.at ht ob, d, A, 24, 5, 30, M.hd, M.la, hs, gs, pwK ps, rfl, D'.D, _, _, rfl, rfl, ?_⟩
      have : pwK ps = [] := List.eq_nil_of_length_eq_zero (by omega)
      rw [decide_eq_true this]
      exact k H' kt
    · rw [List.length_map] at e
      refine ⟨_, rfl, d, _, _, rfl, kt.at ht ob, d, A, 24, 5, 30, M.hd, M.la, hs, gs, pwK ps, rfl, D'.D, _, _, rfl, rfl, ?_⟩
      have : ¬ pwK ps = [] := fun z => by rw [z] at lp; simp only [List.length_nil] at lp; omega
      rw [decide_eq_false this]
      exact k H' kt
end
end K01
namespace K01
open PySem PySem.Spec PyProof.Rows L2 Rg
theorem stH_len (q : Plc) (o : Option Ct) (hm : List (Option Ct)) : (stH q o hm).length = hm.length := by
  cases q <;> simp [stH]
theorem stG_len (q : Plc) (o : Option Ct) (hm : List (Option Ct)) : (stG q o hm).length = hm.length := by
  cases q <;> simp [stG]
def Md.put (M : Md) (x : Wv) : Md := { M with hm := stH x.q (some x.w) M.hm, lg := stG x.q (some x.w) M.lg }
theorem MFit.put {M : Md} (h : MFit M) {x : Wv} (f : CtFit 24 30 x.q x.w) : MFit (M.put x) := by
  have fx : OFit (some x.w) := ⟨x.q, f⟩
  refine ⟨fun o ho => ?_, fun o ho => ?_⟩
  · have ho : o ∈ stH x.q (some x.w) M.hm := ho
    cases hq : x.q with
    | home i =>
      rw [hq] at ho
      exact (List.mem_or_eq_of_mem_set ho).elim (h.1 o) fun e => by rw [e]; exact fx
    | log i => rw [hq] at ho; exact h.1 o ho
  · have ho : o ∈ stG x.q (some x.w) M.lg := ho
    cases hq : x.q with
    | home i => rw [hq] at ho; exact h.2 o ho
    | log i =>
      rw [hq] at ho
      exact (List.mem_or_eq_of_mem_set ho).elim (h.2 o) fun e => by rw [e]; exact fx
section
variable {K : PySem.W.Frag} {H H1 : Hp} {B : Addr} {A : BA} {M : Md}
/-- a list of the book is another one -/
theorem BkAt.own (h : BkAt K H B A M) {c : Addr} {u : List V} (hc : c ∈ bkO B A) : ∀ b xs, SqT K H b xs → SqT K (upd H c (.lst u)) b xs := fun b xs q => by
  have : ∃ ys, H c = some (.lst ys) := by
    obtain ⟨hs, h1, h2⟩ := h.h
    obtain ⟨gs, g1, g2⟩ := h.g
    obtain ⟨G, w1, w2, w3⟩ := h.w
    simp only [bkO, List.mem_cons, List.not_mem_nil, or_false] at hc
    rcases hc with e | e | e | e | e <;> rw [e]
    · exact ⟨_, h.e⟩
    · exact ⟨_, h1⟩
    · exact ⟨_, g1⟩
    · exact ⟨_, h.n⟩
    · exact ⟨_, w1⟩
  obtain ⟨ys, e⟩ := this
  exact seqT_ne q e
theorem BkAt.putH (h : BkAt K H B A M) {j : Int} {pu : Addr} {w : Ct} {m : Int} (hu : CtAt K H pu w) (f : CtFit 24 30 (.home j) w) {hs : List V} (e : H A.ho = some (.lst hs)) : BkAt K (upd H A.ho (.lst (hs.set j.toNat (.ref pu)))) B A (M.put ⟨m, .home j, w⟩) := by
  obtain ⟨hs', h1, h2⟩ := h.h
  rw [e] at h1
  cases h1
  have fo := h.own (c := A.ho) (u := hs.set j.toNat (.ref pu)) (by simp [bkO])
  obtain ⟨gs, g1, g2⟩ := h.g
  obtain ⟨G, w1, w2, w3⟩ := h.w
  have ne := h.ne
  simp only [bkO, List.nodup_cons, List.mem_cons, List.not_mem_nil, or_false, not_or] at ne
  refine ⟨by rw [upd_ne ne.1.1]; exact h.e, ⟨_, upd_same, (h2.by fo).set (v := .ref pu) (o := some w) ⟨pu, rfl, hu.by fo⟩ _⟩, ⟨gs, by rw [upd_ne (Ne.symm ne.2.1.1)]; exact g1, g2.by fo⟩, by rw [upd_ne (Ne.symm ne.2.1.2.1)]; exact h.n, ⟨G, by rw [upd_ne (Ne.symm ne.2.1.2.2)]; exact w1, w2.by fo, w3⟩, ?_, ?_, h.ln, h.ft, h.mf.put f, h.ne⟩
  · exact (stH_len (.home j) (some w) M.hm).trans h.lh
  · exact (stG_len (.home j) (some w) M.lg).trans h.ll
theorem BkAt.putG (h : BkAt K H B A M) {j : Int} {pu : Addr} {w : Ct} {m : Int} (hu : CtAt K H pu w) (f : CtFit 24 30 (.log j) w) {hs : List V} (e : H A.lg = some (.lst hs)) : BkAt K (upd H A.lg (.lst (hs.set j.toNat (.ref pu)))) B A (M.put ⟨m, .log j, w⟩) := by
  obtain ⟨hs', h1, h2⟩ := h.g
  rw [e] at h1
  cases h1
  have fo := h.own (c := A.lg) (u := hs.set j.toNat (.ref pu)) (by simp [bkO])
  obtain ⟨gs, g1, g2⟩ := h.h
  obtain ⟨G, w1, w2, w3⟩ := h.w
  have ne := h.ne
  simp only [bkO, List.nodup_cons, List.mem_cons, List.not_mem_nil, or_false, not_or] at ne
  refine ⟨by rw [upd_ne ne.1.2.1]; exact h.e, ⟨gs, by rw [upd_ne ne.2.1.1]; exact g1, g2.by fo⟩, ⟨_, upd_same, (h2.by fo).set (v := .ref pu) (o := some w) ⟨pu, rfl, hu.by fo⟩ _⟩, by rw [upd_ne (Ne.symm ne.2.2.1.1)]; exact h.n, ⟨G, by rw [upd_ne (Ne.symm ne.2.2.1.2)]; exact w1, w2.by fo, w3⟩, ?_, ?_, h.ln, h.ft, h.mf.put f, h.ne⟩
  · exact (stH_len (.log j) (some w) M.hm).trans h.lh
  · exact (stG_len (.log j) (some w) M.lg).trans h.ll
end
section
variable {P : Program} {w0_ : World} {K : PySem.W.Frag} {mg : Str → Option Value} {base : Heap}
/-! ### _law_put -/
def sp_Lput (K : PySem.W.Frag) : Sp := fun vs H Q _ => ∃ (B wa : Addr) (A : BA) (M : Md) (x : Wv), vs = [.ref B, .ref wa] ∧ BkAt K H B A M ∧ WAt K H (wa, x) ∧ CtFit 24 30 x.q x.w ∧ ∀ H', Kp [A.ho, A.lg] H H' → (∀ b xs, SqT K H b xs → SqT K H' b xs) → BkAt K H' B A (M.put x) → Q .non H'
theorem ok_Lput (T : Tx K mg) : FnOk P w0_ K mg base CX0 1 T.f_Lput T.fd_Lput ["_law_book", "_law_write"] (sp_Lput K) := by
  refine T.F_Lput.ok sc_Lput (fun vs H Q E h => ?_) (fun cdv A0 outer s H vs Q E hr h => ?_)
  · obtain ⟨_, _, _, _, _, rfl, _⟩ := h; rfl
  · obtain ⟨B, wa, A, M, x, rfl, Bk, hw, hf, k⟩ := h
    refine ⟨_, (pss_cons (ps_asg (pv 0) (pg_lst rfl (pgs_cons (pg_name (i := 2) sc_Lput.nd rfl (.inl rfl)) (pgs_cons (pg_name (i := 3) sc_Lput.nd rfl (.inl rfl)) (pgs_cons (pg_name (i := 4) sc_Lput.nd rfl (.inl rfl)) (pgs_cons (pg_name (i := 5) sc_Lput.nd rfl (.inl rfl)) pgs_nil))))))
      (pss_cons (ps_set (i := 6) sc_Lput.nd rfl (.inl rfl) (pe_ix ix_tup (pv 1) pe_int (fun _ _ => rfl)))
      (pss_one (ps_if (pt_cmpR op_eq (pe_ix ix_tup (pv 6) pe_int (fun _ _ => rfl)) pe_str (nomark _))
        (pss_one (ps_asg (pe_ix ix_tup (pv 1) pe_int (fun _ _ => rfl)) (pg_sub (pv 2) (pe_ix ix_tup (pv 6) pe_int (fun _ _ => rfl)) set_list)))
        (pss_one (ps_asg (pe_ix ix_tup (pv 1) pe_int (fun _ _ => rfl)) (pg_sub (pv 3) (pe_ix ix_tup (pv 6) pe_int (fun _ _ => rfl)) set_list))))))), ?_⟩
    obtain ⟨hs, h1, h2⟩ := Bk.h
    obtain ⟨gs, g1, g2⟩ := Bk.g
    obtain ⟨pa, pu, t1, t2, t3⟩ := hw
    refine ⟨_, rfl, B, _, rfl, .inl (.of Bk.e), rfl, _, _, rfl, _, _, rfl, _, _, rfl, _, _, rfl, rfl, ?_⟩
    ((try dsimp only); (first | (refine Rg.sg (σ' := [some (.ref B), some (.ref wa), some (.ref A.ho), some (.ref A.lg), some (.ref A.nm), some (.ref A.pe), none]) ?_ ?_; focus exact rfl) | (refine Rg.sgG (σ' := [some (.ref B), some (.ref wa), some (.ref A.ho), some (.ref A.lg), some (.ref A.nm), some (.ref A.pe), none]) ?_ ?_; focus exact rfl)))
    refine ⟨_, rfl, wa, _, 1, .ref pa, rfl, rfl, t1, atI_nat (j := 1) rfl, ?_⟩
    ((try dsimp only); (first | (refine Rg.sg (σ' := [some (.ref B), some (.ref wa), some (.ref A.ho), some (.ref A.lg), some (.ref A.nm), some (.ref A.pe), some (.ref pa)]) ?_ ?_; focus exact rfl) | (refine Rg.sgG (σ' := [some (.ref B), some (.ref wa), some (.ref A.ho), some (.ref A.lg), some (.ref A.nm), some (.ref A.pe), some (.ref pa)]) ?_ ?_; focus exact rfl)))
    obtain ⟨m, q, w⟩ := x
    cases q with
    | home j =>
      have t2 : SqT K H pa [.str "home", .int j] := t2
      have hj : j.toNat < hs.length := by have := h2.l; have := Bk.lh; have := (CtFit.rng hf : Rng 24 30 (.home j)); have h0 : 0 ≤ j ∧ j ≤ 24 - 1 := this; omega
      have h0 : 0 ≤ j ∧ j ≤ 24 - 1 := (CtFit.rng hf : Rng 24 30 (.home j))
      refine ⟨_, rfl, pa, _, 0, .str "home", rfl, rfl, t2, atI_nat (j := 0) rfl, rfl, _, rfl, iteT ?_⟩
      refine ⟨_, rfl, wa, _, 2, .ref pu, rfl, rfl, t1, atI_nat (j := 2) rfl, _, rfl, _, rfl, pa, _, 1, .int j, rfl, rfl, t2, atI_nat (j := 1) rfl, A.ho, _, _, j.toNat, rfl, rfl, h1, ixN_at (by omega) hj, ?_⟩
      exact k _ (Kp.refl.own (by simp)) (Bk.own (by simp [bkO])) (Bk.putH t3 hf h1)
    | log j =>
      have t2 : SqT K H pa [.str "log", .int j] := t2
      have h0 : 0 ≤ j ∧ j ≤ 30 - 1 := (CtFit.rng hf : Rng 24 30 (.log j))
      have hj : j.toNat < gs.length := by have := g2.l; have := Bk.ll; omega
      refine ⟨_, rfl, pa, _, 0, .str "log", rfl, rfl, t2, atI_nat (j := 0) rfl, rfl, _, rfl, iteF ?_⟩
      refine ⟨_, rfl, wa, _, 2, .ref pu, rfl, rfl, t1, atI_nat (j := 2) rfl, _, rfl, _, rfl, pa, _, 1, .int j, rfl, rfl, t2, atI_nat (j := 1) rfl, A.lg, _, _, j.toNat, rfl, rfl, g1, ixN_at (by omega) hj, ?_⟩
      exact k _ (Kp.refl.own (by simp)) (Bk.own (by simp [bkO])) (Bk.putG t3 hf g1)
end
end K01
namespace K01
open PySem PySem.Spec PyProof.Rows L2 Rg
def zr8 : List Int := [0, 0, 0, 0, 0, 0, 0, 0]
def md0 : Md := ⟨List.replicate 24 (some (.cells zr8)), List.replicate 30 none, 0, 0, []⟩
theorem fit_cells {c : List Int} (h : Cells c) : OFit (some (.cells c)) := ⟨.home 0, by decide, by decide, h⟩
theorem mf0 : MFit md0 := ⟨fun o ho => by rw [List.eq_of_mem_replicate ho]; exact fit_cells cells0, fun o ho => by rw [List.eq_of_mem_replicate ho]; exact True.intro⟩
theorem row_rep {K : PySem.W.Frag} {H : Hp} {n : Nat} {v : V} {o : Option Ct} (h : VAt K H v o) : Row K H (List.replicate n v) (List.replicate n o) := by
  refine ⟨by rw [List.length_replicate, List.length_replicate], fun i v' o' a b => ?_⟩
  rw [List.getElem?_replicate] at a b
  split at a
  · rw [if_pos (by assumption)] at b
    cases a
    cases b
    exact h
  · cases a
theorem row_zer {K : PySem.W.Frag} {H : Hp} {ts : List Addr} (l : ts.length = 24) (h : ∀ t ∈ ts, H t = some (.tup (zr8.map V.int))) : Row K H (ts.map V.ref) (List.replicate 24 (some (.cells zr8))) := by
  refine ⟨by rw [List.length_map, l, List.length_replicate], fun i v o e1 e2 => ?_⟩
  rw [List.getElem?_map] at e1
  obtain ⟨t, h1, rfl⟩ := Option.map_eq_some_iff.mp e1
  rw [List.getElem?_replicate] at e2
  split at e2
  · cases e2
    exact ⟨t, rfl, .of (h t (List.mem_of_getElem? h1))⟩
  · cases e2
section
variable {P : Program} {w0_ : World} {K : PySem.W.Frag} {mg : Str → Option Value} {base : Heap}
/-! ### _law_start -/
def sp_Lstart (K : PySem.W.Frag) : Sp := fun vs H Q _ => vs = [] ∧ ∀ (H' : Hp) (B : Addr) (A : BA), Same H H' → (∀ x ∈ bkO B A, H x = none) → BkAt K H' B A md0 → Q (.ref B) H'
theorem ok_Lstart (T : Tx K mg) : FnOk P w0_ K mg base CX0 1 T.f_Lstart T.fd_Lstart [] (sp_Lstart K) := by
  refine T.F_Lstart.ok sc_Lstart (fun vs H Q E h => ?_) (fun cdv A outer s H vs Q E hr h => ?_)
  · obtain ⟨rfl, _⟩ := h; rfl
  · obtain ⟨rfl, k⟩ := h
    refine ⟨_, (pss_one (ps_ret (pe_lst (pa_cons (pe_lc rfl (own := [("_law_x", 0)]) (g := gName 0) (tt := tYes) sc_Lstart.nd (pi_range1 rfl T.b_range (pa_cons pe_int pa_nil)) (blkOk_by (N := ["_law_x", "_law_s"]) (sc := defScope s_Lstart) (by decide +kernel)) (fun _ _ _ _ _ => pg_name (i := 0) sc_Lstart.nd rfl (Or.inl rfl)) (fun _ _ _ _ _ => pts_nil) (fun _ _ _ _ _ => (pe_tup (pa_cons pe_int (pa_cons pe_int (pa_cons pe_int (pa_cons pe_int (pa_cons pe_int (pa_cons pe_int (pa_cons pe_int (pa_cons pe_int pa_nil))))))))))) (pa_cons (pe_lc rfl (own := [("_law_s", 1)]) (g := gName 1) (tt := tYes) sc_Lstart.nd (pi_range1 rfl T.b_range (pa_cons pe_int pa_nil)) (blkOk_by (N := ["_law_x", "_law_s"]) (sc := defScope s_Lstart) (by decide +kernel)) (fun _ _ _ _ _ => pg_name (i := 1) sc_Lstart.nd rfl (Or.inl rfl)) (fun _ _ _ _ _ => pts_nil) (fun _ _ _ _ _ => pe_non)) (pa_cons (pe_lst (pa_cons pe_int (pa_cons pe_int pa_nil))) (pa_cons (pe_lst pa_nil) pa_nil))))))), ?_⟩
    refine ⟨24, rfl, by omega, by omega, fun D nD => ?_⟩
    refine lc_range (lo := 0) (n := (24 : Int).toNat) (fun i H2 => ∃ ts : List Addr, ts.length = i ∧ H2 D = some (.lst (ts.map V.ref)) ∧ (∀ t ∈ ts, H2 t = some (.tup (zr8.map V.int))) ∧ Same H H2) ⟨[], rfl, upd_same, by simp, same_upd nD⟩ ?_ ?_
    · rintro i H2 hi ⟨ts, l1, e1, e2, s1⟩
      refine ⟨rfl, yes_ ⟨by show 8 ≤ sizeLine; decide, ?_⟩⟩
      (intro t n_t; generalize he_t : upd _ t _ = H3; obtain ⟨e_t, s_t, f_t⟩ := new_f he_t n_t; clear he_t)
      have e3 := s_t _ _ e1
      have nDt : ∀ x ∈ ts, x ≠ D := fun x hx z => by have := e2 x hx; rw [z, e1] at this; cases this
      have ntD : t ≠ D := fun z => by rw [z, e1] at n_t; cases n_t
      refine ⟨_, e3, small1000 (by rw [List.length_map]; omega), ts ++ [t], by rw [List.length_append, l1]; rfl, by rw [upd_same, List.map_append]; rfl, fun x hx => ?_, fun x o e => ?_⟩
      · rcases List.mem_append.mp hx with z | z
        · rw [upd_ne (nDt x z)]
          exact s_t _ _ (e2 x z)
        · rw [List.mem_singleton.mp z, upd_ne ntD]
          exact e_t
      · rw [upd_ne (ne_of_none e nD)]
        exact s_t _ _ (s1 _ _ e)
    rintro H1 ⟨ts, l1, e1, e2, s1⟩
    refine ⟨30, rfl, by omega, by omega, fun G nG => ?_⟩
    refine lc_range (lo := 0) (n := (30 : Int).toNat) (fun i H4 => H4 = upd H1 G (.lst (List.replicate i .non))) rfl ?_ ?_
    · rintro i H4 hi rfl
      refine ⟨rfl, yes_ ⟨_, upd_same, small1000 (by rw [List.length_replicate]; omega), ?_⟩⟩
      rw [upd_upd, List.replicate_succ']
    rintro H4 rfl
    have s_G := same_upd (o := .lst (List.replicate (30 : Int).toNat .non)) nG
    have e_G := upd_same (H := H1) (a := G) (o := .lst (List.replicate (30 : Int).toNat .non))
    generalize upd H1 G (.lst (List.replicate (30 : Int).toNat .non)) = H2 at s_G e_G ⊢
    refine ⟨by show 2 ≤ sizeLine; decide, ?_⟩
    (intro N n_N; generalize he_N : upd _ N _ = H5; obtain ⟨e_N, s_N, f_N⟩ := new_f he_N n_N; clear he_N)
    refine ⟨by show 0 ≤ sizeLine; decide, ?_⟩
    (intro Q5 n_Q5; generalize he_Q5 : upd _ Q5 _ = H6; obtain ⟨e_Q5, s_Q5, f_Q5⟩ := new_f he_Q5 n_Q5; clear he_Q5)
    refine ⟨by show 4 ≤ sizeLine; decide, ?_⟩
    (intro B n_B; generalize he_B : upd _ B _ = H7; obtain ⟨e_B, s_B, f_B⟩ := new_f he_B n_B; clear he_B)
    have s27 := (s_N.trans s_Q5).trans s_B
    have s17 := s_G.trans s27
    have S := s1.trans s17
    have DG : D ≠ G := fun z => by rw [← z, e1] at nG; cases nG
    have DN : D ≠ N := fun z => by rw [← z, s_G _ _ e1] at n_N; cases n_N
    have DQ : D ≠ Q5 := fun z => by rw [← z, s_N _ _ (s_G _ _ e1)] at n_Q5; cases n_Q5
    have DB : D ≠ B := fun z => by rw [← z, s_Q5 _ _ (s_N _ _ (s_G _ _ e1))] at n_B; cases n_B
    have GN : G ≠ N := fun z => by rw [← z, e_G] at n_N; cases n_N
    have GQ : G ≠ Q5 := fun z => by rw [← z, s_N _ _ e_G] at n_Q5; cases n_Q5
    have GB : G ≠ B := fun z => by rw [← z, s_Q5 _ _ (s_N _ _ e_G)] at n_B; cases n_B
    have NQ : N ≠ Q5 := fun z => by rw [← z, e_N] at n_Q5; cases n_Q5
    have NB : N ≠ B := fun z => by rw [← z, s_Q5 _ _ e_N] at n_B; cases n_B
    have QB : Q5 ≠ B := fun z => by rw [← z, e_Q5] at n_B; cases n_B
    refine k H7 B ⟨D, G, N, Q5⟩ S (fun x hx => ?_) ⟨e_B, ⟨_, s17 _ _ e1, row_zer l1 fun t ht => s17 _ _ (e2 t ht)⟩, ⟨_, s27 _ _ e_G, row_rep rfl⟩, s_B _ _ (s_Q5 _ _ e_N), ⟨[], s_B _ _ e_Q5, (fun g hg => by cases hg), rfl⟩, by decide, by decide, by decide, (fun x hx => by cases hx), mf0, ?_⟩
    · simp only [bkO, List.mem_cons, List.not_mem_nil, or_false] at hx
      rcases hx with z | z | z | z | z <;> rw [z]
      · exact s1.free (s_G.free (s_N.free (s_Q5.free n_B)))
      · exact nD
      · exact s1.free nG
      · exact s1.free (s_G.free n_N)
      · exact s1.free (s_G.free (s_N.free n_Q5))
    · simp only [bkO, List.nodup_cons, List.mem_cons, List.not_mem_nil, or_false, not_or]
      exact ⟨⟨Ne.symm DB, Ne.symm GB, Ne.symm NB, Ne.symm QB⟩, ⟨DG, DN, DQ⟩, ⟨GN, GQ⟩, NQ, not_false, List.nodup_nil⟩
end
end K01
namespace K01
open PySem PySem.Spec PyProof.Rows L2 Rg
theorem BkAt.held {K : PySem.W.Frag} {H : Hp} {B : Addr} {A : BA} {M : Md} (h : BkAt K H B A M) {x : Addr} (hc : x ∈ bkO B A) : ∃ ys, H x = some (.lst ys) := by
  obtain ⟨hs, h1, h2⟩ := h.h
  obtain ⟨gs, g1, g2⟩ := h.g
  obtain ⟨G, w1, w2, w3⟩ := h.w
  simp only [bkO, List.mem_cons, List.not_mem_nil, or_false] at hc
  rcases hc with e | e | e | e | e <;> rw [e]
  · exact ⟨_, h.e⟩
  · exact ⟨_, h1⟩
  · exact ⟨_, g1⟩
  · exact ⟨_, h.n⟩
  · exact ⟨_, w1⟩
def DkE (CD CP : Addr) (K : PySem.W.Frag) (H : Hp) (d : Addr × DA) (M : Md) : Prop := ∃ hs gs ps, DkAt CD CP K H d.1 d.2 hs gs ps M
abbrev dO (d : Addr × DA) : List Addr := dOwn d.1 d.2
theorem pl_ne {CD CP d p dx px : Addr} {A : DA} {hd la : Int} {H : Hp} (hp : H p = some (.ins CP px (planF 24 5 30))) (hd' : H d = some (.ins CD dx (dskF A hd la))) : p ≠ d := fun z => by
  rw [z, hd'] at hp
  have h1 := Option.some.inj hp
  have h2 : dskF A hd la = planF 24 5 30 := by injection h1
  have h3 := congrArg (List.map Prod.fst) h2
  exact absurd h3 (by show ¬ ([("plan" : Str), "home", "log", "head", "last", "_pending"] = List.map Prod.fst (planF 24 5 30)); decide +kernel)
theorem DkE.held {CD CP : Addr} {K : PySem.W.Frag} {H : Hp} {d : Addr × DA} {M : Md} (h : DkE CD CP K H d M) {x : Addr} (hx : x ∈ dO d) : ∃ o, H x = some o ∧ (∀ ps, o ≠ .tbl ps) ∧ ∀ xs, o ≠ .tup xs := by
  obtain ⟨hs, gs, ps, D⟩ := h
  obtain ⟨dx, ob⟩ := D.D.ob
  simp only [dO, dOwn, List.mem_cons, List.not_mem_nil, or_false] at hx
  rcases hx with z | z | z | z <;> rw [z]
  · exact ⟨_, ob, (by intro _ z; cases z), (by intro _ z; cases z)⟩
  · exact ⟨_, D.D.ho, (by intro _ z; cases z), (by intro _ z; cases z)⟩
  · exact ⟨_, D.D.lg, (by intro _ z; cases z), (by intro _ z; cases z)⟩
  · exact ⟨_, D.D.pd, (by intro _ z; cases z), (by intro _ z; cases z)⟩
theorem DkE.kp {CD CP : Addr} {K : PySem.W.Frag} {H H1 : Hp} {d : Addr × DA} {M : Md} (h : DkE CD CP K H d M) (f : ∀ b xs, SqT K H b xs → SqT K H1 b xs) (g : ∀ a xs, H a = some (.tup xs) → H1 a = some (.tup xs)) (k : ∀ x ∈ dO d, ∀ o, H x = some o → H1 x = some o) (kp : ∀ px, H d.2.p = some (.ins CP px (planF 24 5 30)) → H1 d.2.p = some (.ins CP px (planF 24 5 30))) : DkE CD CP K H1 d M := by
  obtain ⟨hs, gs, ps, D⟩ := h
  obtain ⟨dx, ob⟩ := D.D.ob
  obtain ⟨px, po⟩ := D.D.pl.ob
  refine ⟨hs, gs, ps, ⟨⟨dx, k _ (by simp [dO, dOwn]) _ ob⟩, D.D.pl.of fun o e => ?_, k _ (by simp [dO, dOwn]) _ D.D.ho, k _ (by simp [dO, dOwn]) _ D.D.lg, k _ (by simp [dO, dOwn]) _ D.D.pd, D.D.pne, D.D.hne, D.D.hl, D.D.gl⟩, D.P.by f g, D.O, D.rh.by f, D.rg.by f, D.e, D.n⟩
  rw [po] at e
  cases e
  exact kp _ po
theorem DkE.same {CD CP : Addr} {K : PySem.W.Frag} {H H1 : Hp} {d : Addr × DA} {M : Md} (h : DkE CD CP K H d M) (s : Same H H1) : DkE CD CP K H1 d M := h.kp (fun _ _ => sameT s) (fun _ _ e => s _ _ e) (fun _ _ _ e => s _ _ e) fun _ e => s _ _ e
def NT (CP : Addr) (H : Hp) (x : Addr) : Prop := ∀ o, H x = some o → (∀ xs, o ≠ .tup xs) ∧ (∀ o' xs, o ≠ .frz o' (.tup xs)) ∧ ∀ px, o ≠ .ins CP px (planF 24 5 30)
theorem NT.new {CP : Addr} {H : Hp} {x : Addr} (h : H x = none) : NT CP H x := fun o e => by rw [h] at e; cases e
theorem NT.lst {CP : Addr} {H : Hp} {x : Addr} {xs : List V} (h : H x = some (.lst xs)) : NT CP H x := fun o e => by
  rw [h] at e
  cases e
  exact ⟨(by intro _ z; cases z), (by intro _ _ z; cases z), (by intro _ z; cases z)⟩
theorem NT.tab {CP : Addr} {Ps : List Addr} {H : Hp} {x : Addr} (ht : Tab Ps H) (h : x ∈ Ps) : NT CP H x := fun o e => by
  obtain ⟨ps, q, _⟩ := ht x h
  rw [q] at e
  cases e
  exact ⟨(by intro _ z; cases z), (by intro _ _ z; cases z), (by intro _ z; cases z)⟩
theorem DkE.nt {CD CP : Addr} {K : PySem.W.Frag} {H : Hp} {d : Addr × DA} {M : Md} (h : DkE CD CP K H d M) : ∀ x ∈ dO d, NT CP H x := fun x hx o e => by
  obtain ⟨hs, gs, ps, D⟩ := h
  obtain ⟨dx, ob⟩ := D.D.ob
  simp only [dO, dOwn, List.mem_cons, List.not_mem_nil, or_false] at hx
  rcases hx with z | z | z | z <;> rw [z] at e
  · refine ⟨fun xs y => ?_, fun o' xs y => ?_, fun px y => ?_⟩
    · rw [ob, y] at e; cases e
    · rw [ob, y] at e; cases e
    · rw [y] at e
      exact pl_ne e ob rfl
  · rw [D.D.ho] at e; cases e; exact ⟨(by intro _ z; cases z), (by intro _ _ z; cases z), (by intro _ z; cases z)⟩
  · rw [D.D.lg] at e; cases e; exact ⟨(by intro _ z; cases z), (by intro _ _ z; cases z), (by intro _ z; cases z)⟩
  · rw [D.D.pd] at e; cases e; exact ⟨(by intro _ z; cases z), (by intro _ _ z; cases z), (by intro _ z; cases z)⟩
section
variable {CD CP : Addr} {K : PySem.W.Frag} {H H' : Hp} {T : List Addr}
theorem kT (k : Kp T H H') (nt : ∀ x ∈ T, NT CP H x) : (∀ b xs, SqT K H b xs → SqT K H' b xs) ∧ ∀ a xs, H a = some (.tup xs) → H' a = some (.tup xs) := by
  refine ⟨fun b xs h => ?_, fun a xs e => k a _ e fun z => (nt a z _ e).1 xs rfl⟩
  rcases h with (e | ⟨o, e⟩) | e
  · exact .inl (.inl (k b _ e fun z => (nt b z _ e).1 xs rfl))
  · exact .inl (.inr ⟨o, k b _ e fun z => (nt b z _ e).2.1 o xs rfl⟩)
  · exact .inr e
theorem DkE.stay {d : Addr × DA} {M : Md} (h : DkE CD CP K H d M) (k : Kp T H H') (nt : ∀ x ∈ T, NT CP H x) (ap : ∀ x ∈ dO d, x ∉ T) : DkE CD CP K H' d M :=
  h.kp (kT k nt).1 (kT (K := K) k nt).2 (fun x hx o e => k x o e (ap x hx)) fun px e => k _ _ e fun z => (nt _ z _ e).2.2 px rfl
theorem BkAt.stay {B : Addr} {A : BA} {M : Md} (h : BkAt K H B A M) (k : Kp T H H') (nt : ∀ x ∈ T, NT CP H x) (ap : ∀ x ∈ bkO B A, x ∉ T) : BkAt K H' B A M :=
  h.kp (kT k nt).1 fun x hx o e => k x o e (ap x hx)
theorem DkE.alive {d : Addr × DA} {M : Md} (h : DkE CD CP K H d M) : ∀ x ∈ dO d, ∃ o, H x = some o := fun x hx => let ⟨o, e, _⟩ := h.held hx; ⟨o, e⟩
theorem apart_l {X Y : List Addr} (h1 : ∀ x ∈ X, H x = none) (h2 : ∀ y ∈ Y, ∃ o, H y = some o) : ∀ x ∈ X, x ∉ Y := fun x hx z => by
  obtain ⟨o, e⟩ := h2 x z
  rw [h1 x hx] at e
  cases e
theorem apart_r {X Y : List Addr} (h1 : ∀ x ∈ X, H x = none) (h2 : ∀ y ∈ Y, ∃ o, H y = some o) : ∀ y ∈ Y, y ∉ X := fun y hy z => apart_l h1 h2 y z hy
theorem tab_ap {Ps : List Addr} (ht : Tab Ps H) {x : Addr} (h : ∃ o, H x = some o ∧ ∀ ps, o ≠ .tbl ps) : x ∉ Ps := fun z => by
  obtain ⟨o, e, n⟩ := h
  exact ht.ne z e n rfl
end

/-! ### a disk, its book, the feed -/
structure Wd (CD CP : Addr) (K : PySem.W.Frag) (Ps : List Addr) (H : Hp) (d : Addr × DA) (B : Addr) (A : BA) (fa : Addr) (M N : Md) : Prop where
  t : Tab Ps H
  ef : ∃ fs : List Int, H fa = some (.lst (fs.map V.int))
  dk : DkE CD CP K H d M
  bk : BkAt K H B A N
  db : ∀ x ∈ bkO B A, x ∉ dO d
  f1 : fa ∉ dO d
  f2 : fa ∉ bkO B A
section
variable {CD CP : Addr} {K : PySem.W.Frag} {Ps : List Addr} {H H' : Hp} {d : Addr × DA} {B : Addr} {A : BA} {fa : Addr} {M N : Md}
theorem Wd.same (W : Wd CD CP K Ps H d B A fa M N) (s : Same H H') : Wd CD CP K Ps H' d B A fa M N :=
  { W with t := W.t.same s, ef := W.ef.imp fun _ e => s _ _ e, dk := W.dk.same s, bk := W.bk.same s }
/-- the disk has done something -/
theorem Wd.did (W : Wd CD CP K Ps H d B A fa M N) {M' : Md} (g : Did K Ps (dO d) H H') (h : DkE CD CP K H' d M') : Wd CD CP K Ps H' d B A fa M' N := by
  have kl : ∀ {x : Addr} {xs : List V}, H x = some (.lst xs) → x ∉ dO d → H' x = some (.lst xs) := fun {x xs} e n => g.k x _ e fun z => by
    rcases List.mem_append.mp z with q | q
    · exact n q
    · exact W.t.ne q e (by intro _ z; cases z) rfl
  obtain ⟨fs, ef⟩ := W.ef
  refine { W with t := g.t, ef := ⟨fs, kl ef W.f1⟩, dk := h, bk := W.bk.kp g.f fun x hx o eo => ?_ }
  obtain ⟨ys, e⟩ := W.bk.held hx
  rw [e] at eo
  cases eo
  exact kl e (W.db x hx)
/-- the book's lists have changed -/
theorem Wd.book (W : Wd CD CP K Ps H d B A fa M N) {N' : Md} (k : Kp (bkO B A) H H') (h : BkAt K H' B A N') : Wd CD CP K Ps H' d B A fa M N' := by
  have nt : ∀ x ∈ bkO B A, NT CP H x := fun x hx => by
    obtain ⟨ys, e⟩ := W.bk.held hx
    exact NT.lst e
  have nP : ∀ x ∈ Ps, x ∉ bkO B A := fun x hx z => by
    obtain ⟨ys, e⟩ := W.bk.held z
    exact W.t.ne hx e (by intro _ z; cases z) rfl
  obtain ⟨fs, ef⟩ := W.ef
  exact { W with t := fun P hP => (W.t P hP).imp fun ps e => ⟨k _ _ e.1 (nP P hP), e.2⟩, ef := ⟨fs, k _ _ ef W.f2⟩, dk := W.dk.stay k nt fun x hx z => W.db x z hx, bk := h }
/-- only the feed and the tables have changed -/
theorem Wd.fd (W : Wd CD CP K Ps H d B A fa M N) (k : Kp (fa :: Ps) H H') (ht : Tab Ps H') (ef : ∃ fs : List Int, H' fa = some (.lst (fs.map V.int))) : Wd CD CP K Ps H' d B A fa M N := by
  obtain ⟨fs0, ef0⟩ := W.ef
  have nt : ∀ x ∈ fa :: Ps, NT CP H x := fun x hx => by
    rcases List.mem_cons.mp hx with z | z
    · rw [z]; exact NT.lst ef0
    · exact NT.tab W.t z
  refine { W with t := ht, ef := ef, dk := W.dk.stay k nt fun x hx z => ?_, bk := W.bk.stay k nt fun x hx z => ?_ }
  · obtain ⟨o, e, n, _⟩ := W.dk.held hx
    rcases List.mem_cons.mp z with q | q
    · exact W.f1 (by rw [← q]; exact hx)
    · exact W.t.ne q e n rfl
  · obtain ⟨xs, e⟩ := W.bk.held hx
    rcases List.mem_cons.mp z with q | q
    · exact W.f2 (by rw [← q]; exact hx)
    · exact W.t.ne q e (by intro _ z; cases z) rfl
theorem Wd.tk (W : Wd CD CP K Ps H d B A fa M N) (k : Tk Ps H H') : Wd CD CP K Ps H' d B A fa M N := by
  obtain ⟨fs, e⟩ := W.ef
  exact W.fd (fun x o e n => k.kp x o e fun z => n (List.mem_cons_of_mem _ z)) k.tab ⟨fs, k.at W.t e (by intro _ z; cases z)⟩
/-- only the feed -/
theorem Wd.pick (W : Wd CD CP K Ps H d B A fa M N) (k : Kp [fa] H H') (ef : ∃ fs : List Int, H' fa = some (.lst (fs.map V.int))) : Wd CD CP K Ps H' d B A fa M N := by
  obtain ⟨fs0, ef0⟩ := W.ef
  refine W.fd (k.mono fun x hx => by rw [List.mem_singleton.mp hx]; simp) (fun P hP => ?_) ef
  obtain ⟨ps, e, o⟩ := W.t P hP
  refine ⟨ps, k _ _ e (by simp only [List.mem_singleton]; intro z; rw [z, ef0] at e; cases e), o⟩
end
end K01
namespace K01
open PySem PySem.Spec PyProof.Rows L2 Rg
/-- one step of the law -/
def Stp (M M' : Md) : Prop := M'.ws.length ≤ M.ws.length + 1 ∧ M.la ≤ M'.la ∧ M'.la ≤ M.la + 1 ∧ ∀ x ∈ M'.ws, 1 ≤ x.m
def sp_step (CD CP : Addr) (K : PySem.W.Frag) (Ps : List Addr) : Sp := fun vs H Q _ => ∃ (d : Addr × DA) (B : Addr) (A : BA) (fa : Addr) (M : Md), vs = [.ref d.1, .ref B, .ref fa] ∧ Wd CD CP K Ps H d B A fa M M ∧ M.ws.length < 400 ∧ 0 ≤ M.la ∧ M.la < 800 ∧ (∀ x ∈ M.ws, 1 ≤ x.m) ∧ ∀ (H' : Hp) (M' : Md), Wd CD CP K Ps H' d B A fa M' M' → Stp M M' → Q (.bl true) H'
section
variable {P : Program} {w0_ : World} {K : PySem.W.Frag} {mg : Str → Option Value} {base : Heap}
/-! ### _law_head -/
theorem BkAt.head {K : PySem.W.Frag} {H : Hp} {B : Addr} {A : BA} {M : Md} (h : BkAt K H B A M) (p : Int) : BkAt K (upd H A.nm (.lst [.int p, .int M.la])) B A (M.head p) := by
  have fo := h.own (c := A.nm) (u := [.int p, .int M.la]) (by simp [bkO])
  obtain ⟨hs, h1, h2⟩ := h.h
  obtain ⟨gs, g1, g2⟩ := h.g
  obtain ⟨G, w1, w2, w3⟩ := h.w
  have ne := h.ne
  simp only [bkO, List.nodup_cons, List.mem_cons, List.not_mem_nil, or_false, not_or] at ne
  exact ⟨by rw [upd_ne ne.1.2.2.1]; exact h.e, ⟨hs, by rw [upd_ne ne.2.1.2.1]; exact h1, h2.by fo⟩, ⟨gs, by rw [upd_ne ne.2.2.1.1]; exact g1, g2.by fo⟩, upd_same, ⟨G, by rw [upd_ne (Ne.symm ne.2.2.2.1)]; exact w1, w2.by fo, w3⟩, h.lh, h.ll, h.ln, h.ft, h.mf, h.ne⟩
theorem ok_Lhead (T : Tx K mg) : FnOk P w0_ K mg base CX0 4 T.f_Lhead T.fd_Lhead ["_law_disk", "_law_book", "_law_feed_here"] (sp_step T.C_Disk T.C_Plan K T.Ps) := by
  refine T.F_Lhead.ok sc_Lhead (fun vs H Q E h => ?_) (fun cdv A0 outer s H vs Q E hr h => ?_)
  · obtain ⟨_, _, _, _, _, rfl, _⟩ := h; rfl
  · obtain ⟨d, B, A, fa, M, rfl, W, hn, l0, l1, hp, k⟩ := h
    have hr1 := hr.mono (show 1 ≤ 3 by decide)
    have hr2 := hr.mono (show 2 ≤ 3 by decide)
    refine ⟨_, (pss_cons (ps_set (i := 3) sc_Lhead.nd rfl (.inl rfl) (pe_ix ix_list (pv 1) pe_int (fun _ _ => rfl)))
      (pss_cons (ps_set (i := 4) sc_Lhead.nd rfl (.inl rfl) (pe_op op_add (pe_op op_mul (pe_call (ok_Lpick T) hr1 rfl T.mg_Lpick T.F_Lpick.kp (b_Lpick T) .nil pass0 (pa_cons (pv 2) (pa_cons pe_int pa_nil))) pe_int) (pe_call (ok_Lpick T) hr1 rfl T.mg_Lpick T.F_Lpick.kp (b_Lpick T) .nil pass0 (pa_cons (pv 2) (pa_cons pe_int pa_nil)))))
      (pss_cons (ps_if (PW.pt (pw_or (pt_not (pt_val (pe_call (ok_Lbad_head T) hr rfl T.mg_Lbad_head T.F_Lbad_head.kp (b_Lbad_head T) .nil pass0 (pa_cons (pv 0) (pa_cons (pe_op op_sub (pe_un un_neg pe_int) (pv 4)) pa_nil))))) (pw_or1 (pt_not (pt_val (pe_call (ok_Lbad_head T) hr rfl T.mg_Lbad_head T.F_Lbad_head.kp (b_Lbad_head T) .nil pass0 (pa_cons (pv 0) (pa_cons (pe_op op_add pe_int (pv 4)) pa_nil))))))))
        (pss_one (ps_ret pe_bl))
        pss_nil)
      (pss_cons (ps_asg (pv 4) (pg_sub (pv 3) pe_int set_list))
      (pss_one (ps_ret (pe_cmpR op_isN (pe_meth (pv 0) T.cl_Disk T.m_Disk_move_head (ok_move_head T) hr2 (b_Disk_move_head T) .nil pass0 (pa_cons (pv 4) pa_nil)) pe_non (nomark _)))))))), ?_⟩
    obtain ⟨f0, ef0⟩ := W.ef
    refine ⟨_, rfl, B, _, 2, .ref A.nm, rfl, rfl, .of W.bk.e, atI_nat (j := 2) rfl, ?_⟩
    ((try dsimp only); (first | (refine Rg.sg (σ' := [some (.ref d.1), some (.ref B), some (.ref fa), some (.ref A.nm), none]) ?_ ?_; focus exact rfl) | (refine Rg.sgG (σ' := [some (.ref d.1), some (.ref B), some (.ref fa), some (.ref A.nm), none]) ?_ ?_; focus exact rfl)))
    refine ⟨_, rfl, fa, f0, 1000, rfl, ef0, by decide, fun a f1 a0 a1 _ => ⟨_, _, rfl, rfl, CMul_r (by decide), ?_⟩⟩
    (generalize he_y : upd _ fa _ = H1; obtain ⟨e_y, k_y, f_y⟩ := own_f he_y; clear he_y)
    refine ⟨_, rfl, fa, f1, 1000, rfl, e_y, by decide, fun c f2 c0 c1 _ => ⟨_, _, rfl, rfl, ?_⟩⟩
    (generalize he_y2 : upd _ fa _ = H2; obtain ⟨e_y2, k_y2, f_y2⟩ := own_f he_y2; clear he_y2)
    have W2 := W.pick (k_y.trans k_y2) ⟨f2, e_y2⟩
    ((try dsimp only); (first | (refine Rg.sg (σ' := [some (.ref d.1), some (.ref B), some (.ref fa), some (.ref A.nm), some (.int (a * 1000 + c))]) ?_ ?_; focus exact rfl) | (refine Rg.sgG (σ' := [some (.ref d.1), some (.ref B), some (.ref fa), some (.ref A.nm), some (.int (a * 1000 + c))]) ?_ ?_; focus exact rfl)))
    obtain ⟨hs, gs, ps, Dk⟩ := W2.dk
    obtain ⟨dx, ob⟩ := Dk.D.ob
    refine ⟨_, rfl, _, rfl, _, rfl, _, _, rfl, rfl, d.1, dx, _, _, rfl, ob, rfl, by omega, fun H3 s3 => ⟨_, rfl, iteF ?_⟩⟩
    refine ⟨_, rfl, _, rfl, _, _, rfl, rfl, d.1, dx, _, _, rfl, s3 _ _ ob, rfl, by omega, fun H4 s4 => ⟨_, rfl, iteF ?_⟩⟩
    have W4 := (W2.same s3).same s4
    refine ⟨_, rfl, _, rfl, A.nm, _, _, 0, rfl, rfl, W4.bk.n, ixN_at (by omega) (by simp only [List.length_cons, List.length_nil]; omega), ?_⟩
    have W5 : Wd T.C_Disk T.C_Plan K T.Ps (upd H4 A.nm (.lst (([.int M.hd, .int M.la] : List V).set 0 (.int (a * 1000 + c))))) d B A fa M (M.head (a * 1000 + c)) := W4.book (Kp.refl.own (by simp [bkO])) (W4.bk.head _)
    generalize upd H4 A.nm (.lst (([.int M.hd, .int M.la] : List V).set 0 (.int (a * 1000 + c)))) = H5 at W5 ⊢
    clear ob Dk
    obtain ⟨hs, gs, ps, Dk⟩ := W5.dk
    obtain ⟨dx, ob⟩ := Dk.D.ob
    refine ⟨_, rfl, d.1, _, _, rfl, ob, rfl, _, rfl, d.1, a * 1000 + c, d.2, 24, 5, 30, M.hd, M.la, hs, gs, _, dx, rfl, ob, Dk.D, by omega, by omega, rfl, ?_⟩
    rw [decide_eq_true rfl]
    have f1 : ∀ b xs, SqT K H5 b xs → SqT K (upd H5 d.1 (.ins T.C_Disk dx (dskF d.2 (a * 1000 + c) M.la))) b xs := fun b xs h => seqT_ne h ob
    refine k _ (M.head (a * 1000 + c)) (W5.did ⟨W5.t.upd ob (by intro _ z; cases z), Kp.refl.own (by simp [dO, dOwn]), f1⟩ ⟨hs, gs, ps, Dk.D.num _ _, Dk.P.by f1 (fun x xs e => by rw [upd_ne (fun z => by rw [z, ob] at e; cases e)]; exact e), Dk.O, Dk.rh.by f1, Dk.rg.by f1, Dk.e, Dk.n⟩) ⟨Nat.le_succ _, Int.le_refl _, by show M.la ≤ M.la + 1; omega, hp⟩
end
end K01
namespace K01
open PySem PySem.Spec PyProof.Rows L2 Rg
theorem stHs_snoc (x : Wv) : ∀ (l : List Wv) (hm : List (Option Ct)), stHs (l ++ [x]) hm = stH x.q (some x.w) (stHs l hm)
  | [], _ => rfl
  | _ :: l, _ => stHs_snoc x l _
theorem stGs_snoc (x : Wv) : ∀ (l : List Wv) (hm : List (Option Ct)), stGs (l ++ [x]) hm = stG x.q (some x.w) (stGs l hm)
  | [], _ => rfl
  | _ :: l, _ => stGs_snoc x l _
def Md.puts (M : Md) (l : List Wv) : Md := { M with hm := stHs l M.hm, lg := stGs l M.lg }
theorem Md.puts_snoc (M : Md) (l : List Wv) (x : Wv) : M.puts (l ++ [x]) = (M.puts l).put x := by
  unfold Md.puts Md.put
  rw [stHs_snoc, stGs_snoc]
theorem BkAt.clear {K : PySem.W.Frag} {H : Hp} {B : Addr} {A : BA} {M : Md} (h : BkAt K H B A M) : BkAt K (upd H A.pe (.lst [])) B A { M with ws := [] } := by
  have fo := h.own (c := A.pe) (u := []) (by simp [bkO])
  obtain ⟨hs, h1, h2⟩ := h.h
  obtain ⟨gs, g1, g2⟩ := h.g
  have ne := h.ne
  simp only [bkO, List.nodup_cons, List.mem_cons, List.not_mem_nil, or_false, not_or] at ne
  exact ⟨by rw [upd_ne ne.1.2.2.2]; exact h.e, ⟨hs, by rw [upd_ne ne.2.1.2.2]; exact h1, h2.by fo⟩, ⟨gs, by rw [upd_ne ne.2.2.1.2]; exact g1, g2.by fo⟩, by rw [upd_ne ne.2.2.2.1]; exact h.n, ⟨[], upd_same, (fun g hg => by cases hg), rfl⟩, h.lh, h.ll, by show 0 < 900; decide, (fun x hx => by cases hx), h.mf, h.ne⟩
section
variable {P : Program} {w0_ : World} {K : PySem.W.Frag} {mg : Str → Option Value} {base : Heap}
/-! ### _law_barrier -/
def sp_Lbarrier (CD CP : Addr) (K : PySem.W.Frag) (Ps : List Addr) : Sp := fun vs H Q _ => ∃ (d : Addr × DA) (B : Addr) (A : BA) (fa : Addr) (M : Md), vs = [.ref d.1, .ref B] ∧ Wd CD CP K Ps H d B A fa M M ∧ ∀ H' : Hp, Wd CD CP K Ps H' d B A fa M.bar M.bar → Q (.bl true) H'
theorem ok_Lbarrier (T : Tx K mg) : FnOk P w0_ K mg base CX0 4 T.f_Lbarrier T.fd_Lbarrier ["_law_disk", "_law_book"] (sp_Lbarrier T.C_Disk T.C_Plan K T.Ps) := by
  refine T.F_Lbarrier.ok sc_Lbarrier (fun vs H Q E h => ?_) (fun cdv A0 outer s H vs Q E hr h => ?_)
  · obtain ⟨_, _, _, _, _, rfl, _⟩ := h; rfl
  · obtain ⟨d, B, A, fa, M, rfl, W, k⟩ := h
    have hr1 := hr.mono (show 1 ≤ 3 by decide)
    refine ⟨_, (pss_cons (ps_asg (pv 1) (pg_lst rfl (pgs_cons (pg_name (i := 2) sc_Lbarrier.nd rfl (.inl rfl)) (pgs_cons (pg_name (i := 3) sc_Lbarrier.nd rfl (.inl rfl)) (pgs_cons (pg_name (i := 4) sc_Lbarrier.nd rfl (.inl rfl)) (pgs_cons (pg_name (i := 5) sc_Lbarrier.nd rfl (.inl rfl)) pgs_nil))))))
      (pss_cons (ps_for PassesOwn.never rfl (pi_list (pv 5)) (pg_name (i := 6) sc_Lbarrier.nd rfl (.inl rfl))
        (pss_one (ps_expr (pe_call (ok_Lput T) hr1 rfl T.mg_Lput T.F_Lput.kp (b_Lput T) .nil pass0 (pa_cons (pv 1) (pa_cons (pv 6) pa_nil))))))
      (pss_cons (ps_expr (pe_bm0 PySem.F.plainAttrs_list PySem.F.slot_list_clear PySem.F.type_list_clear mt_clear (pv 5)))
      (pss_one (ps_ret (pe_cmpR op_isN (pe_meth0 (pv 0) T.cl_Disk T.m_Disk_barrier (ok_barrier T) hr (b_Disk_barrier T) .nil pass0) pe_non (nomark _))))))), ?_⟩
    obtain ⟨G, w1, w2, w3⟩ := W.bk.w
    have lG : G.length = M.ws.length := by rw [← w3, List.length_map]
    have ne := W.bk.ne
    simp only [bkO, List.nodup_cons, List.mem_cons, List.not_mem_nil, or_false, not_or] at ne
    refine ⟨_, rfl, B, _, rfl, .inl (.of W.bk.e), rfl, _, _, rfl, _, _, rfl, _, _, rfl, _, _, rfl, rfl, ?_⟩
    ((try dsimp only); (first | (refine Rg.sg (σ' := [some (.ref d.1), some (.ref B), some (.ref A.ho), some (.ref A.lg), some (.ref A.nm), some (.ref A.pe), none]) ?_ ?_; focus exact rfl) | (refine Rg.sgG (σ' := [some (.ref d.1), some (.ref B), some (.ref A.ho), some (.ref A.lg), some (.ref A.nm), some (.ref A.pe), none]) ?_ ?_; focus exact rfl)))
    refine ⟨_, rfl, A.pe, rfl, ⟨_, .of w1⟩, for_list (K := K) (a := A.pe) (xs := G.map fun g => V.ref g.1) (fun i σ H' => ∃ u6 : Option V, σ = [some (.ref d.1), some (.ref B), some (.ref A.ho), some (.ref A.lg), some (.ref A.nm), some (.ref A.pe), u6] ∧ Wd T.C_Disk T.C_Plan K T.Ps H' d B A fa M (M.puts (M.ws.take i)) ∧ H' A.pe = some (.lst (G.map fun g => V.ref g.1)) ∧ ∀ b xs, SqT K H b xs → SqT K H' b xs) ⟨none, rfl, W, w1, fun _ _ h => h⟩ (fun i σ H' _ ⟨_, _, _, e, _⟩ => .of e) ?_ ?_⟩
    · rintro i y σ H' hi ⟨u6, rfl, W1, e1, f1⟩
      rw [List.getElem?_map] at hi
      obtain ⟨g, hg, rfl⟩ := Option.map_eq_some_iff.mp hi
      have gm := List.mem_of_getElem? hg
      have hx : M.ws[i]? = some g.2 := by rw [← w3, List.getElem?_map, hg]; rfl
      ((try dsimp only); (first | (refine Rg.sg (σ' := [some (.ref d.1), some (.ref B), some (.ref A.ho), some (.ref A.lg), some (.ref A.nm), some (.ref A.pe), some (.ref g.1)]) ?_ ?_; focus exact rfl) | (refine Rg.sgG (σ' := [some (.ref d.1), some (.ref B), some (.ref A.ho), some (.ref A.lg), some (.ref A.nm), some (.ref A.pe), some (.ref g.1)]) ?_ ?_; focus exact rfl)))
      refine ⟨_, rfl, _, rfl, B, g.1, A, M.puts (M.ws.take i), g.2, rfl, W1.bk, (w2 g gm).by f1, W.bk.ft g.2 (by rw [← w3]; exact List.mem_map.mpr ⟨g, gm, rfl⟩), fun H2 k2 f2 b2 => ?_⟩
      refine ⟨_, rfl, ?_, k2 _ _ e1 (by simp only [List.mem_cons, List.not_mem_nil, or_false, not_or]; exact ⟨Ne.symm ne.2.1.2.2, Ne.symm ne.2.2.1.2⟩), fun b xs h => f2 b xs (f1 b xs h)⟩
      rw [List.take_succ, hx]
      show Wd _ _ _ _ _ _ _ _ _ _ (M.puts (M.ws.take i ++ [g.2]))
      rw [Md.puts_snoc]
      exact W1.book (k2.mono fun x hx => by
        simp only [List.mem_cons, List.not_mem_nil, or_false] at hx
        rcases hx with z | z <;> rw [z] <;> simp [bkO]) b2
    rintro σ H1 ⟨u6, rfl, W1, e1, f1⟩
    have et : M.ws.take (G.map fun g => V.ref g.1).length = M.ws := by rw [List.length_map, lG, List.take_length]
    rw [et] at W1
    refine ⟨_, rfl, .inl ⟨rfl, _, .inl (.inl e1)⟩, A.pe, _, rfl, rfl, e1, ?_⟩
    have W2 : Wd T.C_Disk T.C_Plan K T.Ps (upd H1 A.pe (.lst [])) d B A fa M M.bar := W1.book (Kp.refl.own (by simp [bkO])) W1.bk.clear
    generalize upd H1 A.pe (.lst []) = H2 at W2 ⊢
    obtain ⟨hs, gs, ps, D⟩ := W2.dk
    obtain ⟨dx, ob⟩ := D.D.ob
    refine ⟨_, rfl, d.1, _, _, rfl, ob, rfl, d.1, d.2, 24, 5, 30, M.hd, M.la, hs, gs, ps, rfl, D.D, D.P, D.O, by have := D.n; omega, W2.t, fun H' t1 k1 f1 D1 => ⟨rfl, ?_⟩⟩
    rw [decide_eq_true rfl]
    have hc : ∀ p ∈ ps, CtAt K H' p.u p.w := fun p hp => (D.P p hp).u.by f1
    refine k H' (W2.did ⟨t1, fun y o e n => k1 y o e fun z => n ?_, f1⟩ ⟨_, _, [], ⟨D1, fun p hp => (by cases hp), ⟨List.nodup_nil, fun p hp => (by cases hp), List.nodup_nil⟩, ?_, ?_, rfl, by decide⟩⟩)
    · simp only [dO, dOwn, List.mem_cons, List.mem_append, List.not_mem_nil, or_false] at z ⊢
      rcases z with e | e | e <;> simp [e]
    · have := Row.putsH hc (D.rh.by f1)
      rw [D.e] at this
      exact this
    · have := Row.putsG hc (D.rg.by f1)
      rw [D.e] at this
      exact this
end
end K01
namespace K01
open PySem PySem.Spec PyProof.Rows L2 Rg
theorem er_map {α β : Type} (f : α → β) : ∀ (l : List α) (i : Nat), (l.map f).eraseIdx i = (l.eraseIdx i).map f
  | [], _ => rfl
  | _ :: _, 0 => rfl
  | _ :: l, i + 1 => congrArg _ (er_map f l i)
theorem erase_out : ∀ (ws : List Wv) (i : Nat) (x : Wv), (ws.map (·.m)).Nodup → ws[i]? = some x → ws.eraseIdx i = wOut x.m ws
  | [], _, _, _, h => by cases h
  | y :: ws, 0, x, hn, h => by
    cases h
    rw [List.map_cons, List.nodup_cons] at hn
    unfold wOut
    rw [List.filter_cons, if_neg (by simp)]
    refine (List.filter_eq_self.mpr fun z hz => ?_).symm
    rw [decide_eq_false fun e => hn.1 (by rw [← e]; exact List.mem_map.mpr ⟨z, hz, rfl⟩)]
    rfl
  | y :: ws, i + 1, x, hn, h => by
    rw [List.map_cons, List.nodup_cons] at hn
    have h : ws[i]? = some x := h
    have ne : y.m ≠ x.m := fun e => hn.1 (by rw [e]; exact List.mem_map.mpr ⟨x, List.mem_of_getElem? h, rfl⟩)
    unfold wOut
    rw [List.filter_cons, if_pos (by rw [decide_eq_false ne]; rfl)]
    exact congrArg _ (erase_out ws i x hn.2 h)
theorem BkAt.pop {K : PySem.W.Frag} {H : Hp} {B : Addr} {A : BA} {M : Md} (h : BkAt K H B A M) {G : List Wg} (e : H A.pe = some (.lst (G.map fun g => .ref g.1))) (hG : WsG K H G) (hM : G.map (·.2) = M.ws) (i : Nat) : BkAt K (upd H A.pe (.lst ((G.map fun g => V.ref g.1).eraseIdx i))) B A { M with ws := M.ws.eraseIdx i } := by
  have fo := h.own (c := A.pe) (u := (G.map fun g => V.ref g.1).eraseIdx i) (by simp [bkO])
  obtain ⟨hs, h1, h2⟩ := h.h
  obtain ⟨gs, g1, g2⟩ := h.g
  have ne := h.ne
  simp only [bkO, List.nodup_cons, List.mem_cons, List.not_mem_nil, or_false, not_or] at ne
  refine ⟨by rw [upd_ne ne.1.2.2.2]; exact h.e, ⟨hs, by rw [upd_ne ne.2.1.2.2]; exact h1, h2.by fo⟩, ⟨gs, by rw [upd_ne ne.2.2.1.2]; exact g1, g2.by fo⟩, by rw [upd_ne ne.2.2.2.1]; exact h.n, ⟨G.eraseIdx i, by rw [upd_same, er_map], fun g hg => (hG g (List.mem_of_mem_eraseIdx hg)).by fo, by rw [← er_map, hM]⟩, h.lh, h.ll, Nat.lt_of_le_of_lt (List.length_eraseIdx_le ..) h.ln, (fun x hx => h.ft x (List.mem_of_mem_eraseIdx hx)), h.mf, h.ne⟩
section
variable {P : Program} {w0_ : World} {K : PySem.W.Frag} {mg : Str → Option Value} {base : Heap}
/-! ### _law_sure -/
theorem ok_Lsure (T : Tx K mg) : FnOk P w0_ K mg base CX0 4 T.f_Lsure T.fd_Lsure ["_law_disk", "_law_book", "_law_feed_here"] (sp_step T.C_Disk T.C_Plan K T.Ps) := by
  refine T.F_Lsure.ok sc_Lsure (fun vs H Q E h => ?_) (fun cdv A0 outer s H vs Q E hr h => ?_)
  · obtain ⟨_, _, _, _, _, rfl, _⟩ := h; rfl
  · obtain ⟨d, B, A, fa, M, rfl, W, hn, l0, l1, hp, k⟩ := h
    have hr1 := hr.mono (show 1 ≤ 3 by decide)
    have hr2 := hr.mono (show 2 ≤ 3 by decide)
    refine ⟨_, (pss_cons (ps_asg (pv 1) (pg_lst rfl (pgs_cons (pg_name (i := 3) sc_Lsure.nd rfl (.inl rfl)) (pgs_cons (pg_name (i := 4) sc_Lsure.nd rfl (.inl rfl)) (pgs_cons (pg_name (i := 5) sc_Lsure.nd rfl (.inl rfl)) (pgs_cons (pg_name (i := 6) sc_Lsure.nd rfl (.inl rfl)) pgs_nil))))))
      (pss_cons (ps_set (i := 7) sc_Lsure.nd rfl (.inl rfl) (pe_call (ok_Lpick T) hr1 rfl T.mg_Lpick T.F_Lpick.kp (b_Lpick T) .nil pass0 (pa_cons (pv 2) (pa_cons pe_int pa_nil))))
      (pss_cons (ps_if (pt_cmpR op_lt (pv 7) (pe_callB call_len_seq rfl T.b_len (by decide +kernel) (pa_cons (pv 6) pa_nil)) (nomark _))
        (pss_cons (ps_set (i := 8) sc_Lsure.nd rfl (.inl rfl) (pe_bm PySem.F.plainAttrs_list PySem.F.slot_list_pop PySem.F.type_list_pop mt_popAt (pv 6) (pa_cons (pv 7) pa_nil)))
        (pss_cons (ps_expr (pe_call (ok_Lput T) hr1 rfl T.mg_Lput T.F_Lput.kp (b_Lput T) .nil pass0 (pa_cons (pv 1) (pa_cons (pv 8) pa_nil))))
        (pss_one (ps_ret (pe_and (pe_cmpR op_isN (pe_meth (pv 0) T.cl_Disk T.m_Disk_sure (ok_sureG T) hr2 (b_Disk_sure T) .nil pass0 (pa_cons (pe_ix ix_tup (pv 8) pe_int (fun _ _ => rfl)) pa_nil)) pe_non (nomark _)) (pe_one (pe_call (ok_Lno_write T) hr rfl T.mg_Lno_write T.F_Lno_write.kp (b_Lno_write T) .nil pass0 (pa_cons (pv 0) (pa_cons (pe_ix ix_tup (pv 8) pe_int (fun _ _ => rfl)) pa_nil)))))))))
        pss_nil)
      (pss_cons (ps_set (i := 9) sc_Lsure.nd rfl (.inr rfl) (pe_lc rfl (own := [("_law_write", 8)]) (g := gName 8) (tt := tYes) sc_Lsure.nd (pi_list (pv 6)) (blkOk_by (N := ["_law_disk", "_law_book", "_law_feed_here", "_law_home", "_law_log", "_law_numbers", "_law_pending", "_law_at", "_law_write", "_law_waiting", "_law_gone", "_law_k", "_law_number"]) (sc := defScope s_Lsure) (by decide +kernel)) (fun _ _ _ _ _ => pg_name (i := 8) sc_Lsure.nd rfl (Or.inl rfl)) (fun _ _ _ _ _ => pts_nil) (fun _ _ _ _ _ => (pe_ixTK (K := K) (pv 8) pe_int (fun _ _ => rfl)))))
      (pss_cons (ps_setLc (i := 10) (own := [("_law_k", 11)]) (g := gName 11) (tt := _) rfl sc_Lsure.nd rfl rfl (sw_true rfl rfl rfl (by decide +kernel)) (pi_range2 rfl T.b_range (pa_cons pe_int (pa_cons (pe_op op_add (pe_ixK (K := K) (pv 5) pe_int (fun _ _ => rfl)) pe_int) pa_nil))) (blkOk_by (N := ["_law_disk", "_law_book", "_law_feed_here", "_law_home", "_law_log", "_law_numbers", "_law_pending", "_law_at", "_law_write", "_law_waiting", "_law_gone", "_law_k", "_law_number"]) (sc := defScope s_Lsure) (by decide +kernel)) (fun _ _ _ _ _ => pg_name (i := 11) sc_Lsure.nd rfl (Or.inl rfl)) (fun _ _ _ _ _ => pts_one (pt_cmpR (op_notInK (K := K)) (pv 11) (pv 9) rfl)) (fun _ _ _ _ _ => (pv 11)))
      (pss_cons (ps_for PassesOwn.never rfl (pi_list (pe_op op_cat (pe_lst (pa_cons pe_int (pa_cons (pe_op op_sub (pe_un un_neg pe_int) (pv 7)) (pa_cons (pe_op op_add (pe_ix ix_list (pv 5) pe_int (fun _ _ => rfl)) pe_int) (pa_cons (pe_op op_add (pe_op op_add (pe_ix ix_list (pv 5) pe_int (fun _ _ => rfl)) pe_int) (pv 7)) pa_nil))))) (pv 10))) (pg_name (i := 12) sc_Lsure.nd rfl (.inl rfl))
        (pss_one (ps_if (pt_not (pt_val (pe_call (ok_Lno_write T) hr rfl T.mg_Lno_write T.F_Lno_write.kp (b_Lno_write T) .nil pass0 (pa_cons (pv 0) (pa_cons (pv 12) pa_nil)))))
          (pss_one (ps_ret pe_bl))
          pss_nil)))
      (pss_one (ps_ret pe_bl)))))))), ?_⟩
    obtain ⟨f0, ef0⟩ := W.ef
    refine ⟨_, rfl, B, _, rfl, .inl (.of W.bk.e), rfl, _, _, rfl, _, _, rfl, _, _, rfl, _, _, rfl, rfl, ?_⟩
    ((try dsimp only); (first | (refine Rg.sg (σ' := [some (.ref d.1), some (.ref B), some (.ref fa), some (.ref A.ho), some (.ref A.lg), some (.ref A.nm), some (.ref A.pe), none, none, none, none, none, none]) ?_ ?_; focus exact rfl) | (refine Rg.sgG (σ' := [some (.ref d.1), some (.ref B), some (.ref fa), some (.ref A.ho), some (.ref A.lg), some (.ref A.nm), some (.ref A.pe), none, none, none, none, none, none]) ?_ ?_; focus exact rfl)))
    refine ⟨_, rfl, fa, f0, 12, rfl, ef0, by decide, fun a f1 a0 a1 _ => ?_⟩
    (generalize he_y : upd _ fa _ = H1; obtain ⟨e_y, k_y, f_y⟩ := own_f he_y; clear he_y)
    have W1 := W.pick k_y ⟨f1, e_y⟩
    ((try dsimp only); (first | (refine Rg.sg (σ' := [some (.ref d.1), some (.ref B), some (.ref fa), some (.ref A.ho), some (.ref A.lg), some (.ref A.nm), some (.ref A.pe), some (.int a), none, none, none, none, none]) ?_ ?_; focus exact rfl) | (refine Rg.sgG (σ' := [some (.ref d.1), some (.ref B), some (.ref fa), some (.ref A.ho), some (.ref A.lg), some (.ref A.nm), some (.ref A.pe), some (.int a), none, none, none, none, none]) ?_ ?_; focus exact rfl)))
    obtain ⟨G, w1, w2, w3⟩ := W1.bk.w
    have lG : G.length = M.ws.length := by rw [← w3, List.length_map]
    obtain ⟨hs, gs, ps, D⟩ := W1.dk
    obtain ⟨dx, ob⟩ := D.D.ob
    have ndm : (M.ws.map (·.m)).Nodup := by
      rw [← D.e, List.map_map]
      exact D.O.n
    refine ⟨_, rfl, _, rfl, A.pe, _, rfl, .inl (.of w1), _, _, rfl, rfl, _, rfl, wD (fun h => ?_) fun h => ?_⟩
    · rw [List.length_map] at h
      have hi : a.toNat < G.length := by omega
      have hg := List.getElem?_eq_getElem hi
      obtain ⟨g, eg⟩ : ∃ g, g = G[a.toNat] := ⟨_, rfl⟩
      rw [← eg] at hg
      have gm := List.mem_of_getElem? hg
      have hx : M.ws[a.toNat]? = some g.2 := by rw [← w3, List.getElem?_map, hg]; rfl
      have er := erase_out M.ws _ _ ndm hx
      refine ⟨_, rfl, .inl ⟨rfl, _, .inl (.inl w1)⟩, _, rfl, A.pe, _, a, a.toNat, .ref g.1, rfl, rfl, w1, by omega, by omega, ?_, by rw [List.getElem?_map, hg]; rfl, ?_⟩
      · rw [List.length_map]
        simp only [seqIndex?, if_neg (show ¬ a < 0 by omega)]
        rw [if_pos (by simp only [Bool.and_eq_true, decide_eq_true_eq]; omega)]
      have fo := W1.bk.own (c := A.pe) (u := (G.map fun g => V.ref g.1).eraseIdx a.toNat) (by simp [bkO])
      have W2 := W1.book (Kp.refl.own (by simp [bkO])) (W1.bk.pop w1 w2 w3 a.toNat)
      have w2g := (w2 g gm).by fo
      generalize upd H1 A.pe (.lst ((G.map fun g => V.ref g.1).eraseIdx a.toNat)) = H2 at W2 w2g fo ⊢
      ((try dsimp only); (first | (refine Rg.sg (σ' := [some (.ref d.1), some (.ref B), some (.ref fa), some (.ref A.ho), some (.ref A.lg), some (.ref A.nm), some (.ref A.pe), some (.int a), some (.ref g.1), none, none, none, none]) ?_ ?_; focus exact rfl) | (refine Rg.sgG (σ' := [some (.ref d.1), some (.ref B), some (.ref fa), some (.ref A.ho), some (.ref A.lg), some (.ref A.nm), some (.ref A.pe), some (.int a), some (.ref g.1), none, none, none, none]) ?_ ?_; focus exact rfl)))
      refine ⟨_, rfl, _, rfl, B, g.1, A, _, g.2, rfl, W2.bk, w2g, W1.bk.ft g.2 (List.mem_of_getElem? hx), fun H3 k3 f3 b3 => ?_⟩
      have W3 := W2.book (k3.mono fun x hx => by
        simp only [List.mem_cons, List.not_mem_nil, or_false] at hx
        rcases hx with z | z <;> rw [z] <;> simp [bkO]) b3
      obtain ⟨pa, pu, t1, t2, t3⟩ := w2g.by f3
      clear D ob
      obtain ⟨hs, gs, ps, D⟩ := W3.dk
      obtain ⟨dx, ob⟩ := D.D.ob
      obtain ⟨p, hpm, epv⟩ : ∃ p ∈ ps, p.wv = g.2 := by
        have : g.2 ∈ ps.map Pw.wv := by rw [D.e]; exact List.mem_of_getElem? hx
        exact List.mem_map.mp this
      have epm : g.2.m = p.m := by rw [← epv]; rfl
      rw [epm] at t1
      refine ⟨_, rfl, d.1, _, _, rfl, ob, rfl, _, rfl, g.1, _, 0, .int p.m, rfl, rfl, t1, atI_nat (j := 0) rfl, d.1, p, d.2, 24, 5, 30, M.hd, M.la, hs, gs, ps, rfl, D.D, D.P, D.O, hpm, W3.t, fun H4 tb4 k4 f4 D4 P4 => ⟨rfl, _, rfl, iteT ?_⟩⟩
      have vp : VAt K H4 (.ref p.u) (some p.w) := ⟨p.u, rfl, (D.P p hpm).u.by f4⟩
      have W4 : Wd T.C_Disk T.C_Plan K T.Ps H4 d B A fa (M.sure g.2) (M.sure g.2) := by
        have b3' : BkAt K H3 B A (M.sure g.2) := by
          have : ({ M with ws := M.ws.eraseIdx a.toNat } : Md).put g.2 = M.sure g.2 := by unfold Md.put Md.sure; rw [er]
          rw [← this]
          exact b3
        refine ({ W3 with bk := b3' } : Wd T.C_Disk T.C_Plan K T.Ps H3 d B A fa M (M.sure g.2)).did ⟨tb4, fun y o e n => k4 y o e fun z => n ?_, f4⟩ ⟨_, _, pwOut p.m ps, ⟨D4, P4, D.O.out _, ?_, ?_, ?_, ?_⟩⟩
        · simp only [dO, dOwn, List.mem_cons, List.mem_append, List.not_mem_nil, or_false] at z ⊢
          rcases z with e | e | e <;> simp [e]
        · rw [← epv]; exact (D.rh.by f4).putH vp
        · rw [← epv]; exact (D.rg.by f4).putG vp
        · rw [out_w, D.e, ← epv]
          rfl
        · exact Nat.lt_of_le_of_lt (List.length_filter_le _ _) D.n
      obtain ⟨dx4, ob4⟩ := D4.ob
      refine ⟨_, rfl, _, rfl, g.1, _, 0, .int p.m, rfl, rfl, f4 _ _ t1, atI_nat (j := 0) rfl, d.1, p.m, d.2, 24, 5, 30, M.hd, M.la, _, _, pwOut p.m ps, rfl, D4, fun q hq e => ?_, fun H5 s5 => ?_⟩
      · have := (List.mem_filter.mp hq).2
        rw [decide_eq_true e] at this
        cases this
      · refine k H5 _ (W4.same s5) ⟨?_, Int.le_refl _, by show M.la ≤ M.la + 1; omega, fun x hx => hp x (List.mem_filter.mp hx).1⟩
        exact Nat.le_succ_of_le (List.length_filter_le _ _)
    refine ⟨_, rfl, A.pe, rfl, ⟨_, .of w1⟩, fun Dd hD => ?_⟩
    refine lc_list (K := K) (a := A.pe) (xs := G.map fun g => V.ref g.1) (PvG (fun g : Wg => V.int g.2.m) H1 Dd G (fun _ => true)) (PvG.start hD) (fun j H' _ p => .of (p.1 _ _ w1)) ?_ ?_
    · rintro j y' H' hj Pv
      rw [List.getElem?_map] at hj
      obtain ⟨g, hg, rfl⟩ := Option.map_eq_some_iff.mp hj
      obtain ⟨pa, pu, t1, t2, t3⟩ := (w2 g (List.mem_of_getElem? hg)).by fun _ _ => sameT Pv.1
      exact ⟨rfl, yes_ ⟨_, rfl, g.1, _, 0, .int g.2.m, rfl, rfl, t1, atI_nat (j := 0) rfl, Pv.yes hD (Same.refl _) hg (by omega) rfl⟩⟩
    intro H2 Pv
    obtain ⟨S2, e2⟩ := Pv.all (by rw [List.length_map])
    have el : ((G.filter fun _ => true).map fun g : Wg => V.int g.2.m) = (M.ws.map (·.m)).map V.int := by
      rw [← w3, List.filter_eq_self.mpr (fun _ _ => rfl), List.map_map, List.map_map]
      rfl
    rw [el] at e2
    clear Pv
    ((try dsimp only); (first | (refine Rg.sg (σ' := [some (.ref d.1), some (.ref B), some (.ref fa), some (.ref A.ho), some (.ref A.lg), some (.ref A.nm), some (.ref A.pe), some (.int a), none, some (.ref Dd), none, none, none]) ?_ ?_; focus exact rfl) | (refine Rg.sgG (σ' := [some (.ref d.1), some (.ref B), some (.ref fa), some (.ref A.ho), some (.ref A.lg), some (.ref A.nm), some (.ref A.pe), some (.int a), none, some (.ref Dd), none, none, none]) ?_ ?_; focus exact rfl)))
    refine ⟨_, rfl, A.nm, _, 1, .int M.la, rfl, rfl, .of (S2 _ _ W1.bk.n), atI_nat (j := 1) rfl, _, _, rfl, rfl, ?_⟩
    refine ⟨1, M.la + 1, rfl, ⟨by omega, by omega, by omega, by omega⟩, fun D2 hD2 => ?_⟩
    refine lc_range (lo := 1) (n := _) (fun i H' => ∃ l : List Int, Same H2 H' ∧ H' D2 = some (.lst (l.map V.int)) ∧ l.length ≤ i ∧ ∀ x ∈ l, x ∉ M.ws.map (·.m)) ⟨[], same_upd hD2, upd_same, Nat.le_refl _, fun x hx => by cases hx⟩ ?_ ?_
    · rintro i H' hi ⟨l, S, e1, hl, hm⟩
      refine ⟨rfl, _, rfl, _, rfl, Dd, _, rfl, .inl (.of (S _ _ e2)), rfl, flatIs _, _, rfl, ?_⟩
      rw [if_pos rfl, inV_int]
      refine wND (fun hne => ?_) fun he => ⟨l, S, e1, by omega, hm⟩
      refine ⟨_, rfl, _, e1, small1000 (by rw [List.length_map]; omega), l ++ [1 + (i : Int)], fun x o e => ?_, by rw [upd_same, List.map_append]; rfl, by rw [List.length_append]; simp only [List.length_cons, List.length_nil]; omega, fun x hx => ?_⟩
      · rw [upd_ne (ne_of_none e hD2)]
        exact S _ _ e
      · rcases List.mem_append.mp hx with z | z
        · exact hm x z
        · rw [List.mem_singleton.mp z]; exact hne
    rintro H3 ⟨l, S3, e3, hl, hm⟩
    ((try dsimp only); (first | (refine Rg.sg (σ' := [some (.ref d.1), some (.ref B), some (.ref fa), some (.ref A.ho), some (.ref A.lg), some (.ref A.nm), some (.ref A.pe), some (.int a), none, some (.ref Dd), some (.ref D2), none, none]) ?_ ?_; focus exact rfl) | (refine Rg.sgG (σ' := [some (.ref d.1), some (.ref B), some (.ref fa), some (.ref A.ho), some (.ref A.lg), some (.ref A.nm), some (.ref A.pe), some (.int a), none, some (.ref Dd), some (.ref D2), none, none]) ?_ ?_; focus exact rfl)))
    have S13 := S2.trans S3
    refine ⟨_, rfl, _, rfl, _, _, rfl, rfl, _, rfl, A.nm, _, 1, .int M.la, rfl, rfl, .of (S13 _ _ W1.bk.n), atI_nat (j := 1) rfl, _, _, rfl, rfl, _, rfl, A.nm, _, 1, .int M.la, rfl, rfl, .of (S13 _ _ W1.bk.n), atI_nat (j := 1) rfl, _, _, rfl, rfl, _, rfl, _, _, rfl, rfl, by show 4 ≤ sizeLine; decide, ?_⟩
    (intro c1 n_c1; generalize he_c1 : upd _ c1 _ = H4; obtain ⟨e_c1, s_c1, f_c1⟩ := new_f he_c1 n_c1; clear he_c1)
    refine ⟨_, rfl, c1, D2, _, _, rfl, rfl, e_c1, s_c1 _ _ e3, Nat.le_of_lt (lt_line (by rw [List.length_map]; simp only [List.length_cons, List.length_nil]; omega)), ?_⟩
    (intro c2 n_c2; generalize he_c2 : upd _ c2 _ = H5; obtain ⟨e_c2, s_c2, f_c2⟩ := new_f he_c2 n_c2; clear he_c2)
    have S5 := (S13.trans s_c1).trans s_c2
    have en : ([V.int 0, .int (-1 - a), .int (M.la + 1), .int (M.la + 1 + a)] ++ l.map V.int) = ([0, -1 - a, M.la + 1, M.la + 1 + a] ++ l).map V.int := by rw [List.map_append]; rfl
    have e5 : H5 c2 = some (.lst (([0, -1 - a, M.la + 1, M.la + 1 + a] ++ l).map V.int)) := by rw [← en]; exact e_c2
    have no : ∀ x ∈ [0, -1 - a, M.la + 1, M.la + 1 + a] ++ l, ∀ p ∈ ps, p.m ≠ x := fun x hx p hp' => by
      have hw : p.wv ∈ M.ws := by rw [← D.e]; exact List.mem_map.mpr ⟨p, hp', rfl⟩
      have p1 : 1 ≤ p.m := hp _ hw
      have p2 : p.m ≤ M.la := D.O.le p hp'
      rcases List.mem_append.mp hx with z | z
      · simp only [List.mem_cons, List.not_mem_nil, or_false] at z
        omega
      · intro e
        exact hm x z (List.mem_map.mpr ⟨p.wv, hw, e⟩)
    generalize ([0, -1 - a, M.la + 1, M.la + 1 + a] ++ l) = ns at e5 no
    refine ⟨c2, rfl, ⟨_, .of e5⟩, for_list (K := K) (a := c2) (xs := ns.map V.int) (fun i σ H' => ∃ u12 : Option V, σ = [some (.ref d.1), some (.ref B), some (.ref fa), some (.ref A.ho), some (.ref A.lg), some (.ref A.nm), some (.ref A.pe), some (.int a), none, some (.ref Dd), some (.ref D2), none, u12] ∧ Same H5 H') ⟨none, rfl, Same.refl _⟩ (fun i σ H' _ ⟨_, _, s⟩ => .of (s _ _ e5)) ?_ ?_⟩
    · rintro i y' σ H' hi ⟨u12, rfl, s⟩
      rw [List.getElem?_map] at hi
      obtain ⟨x, hx, rfl⟩ := Option.map_eq_some_iff.mp hi
      ((try dsimp only); (first | (refine Rg.sg (σ' := [some (.ref d.1), some (.ref B), some (.ref fa), some (.ref A.ho), some (.ref A.lg), some (.ref A.nm), some (.ref A.pe), some (.int a), none, some (.ref Dd), some (.ref D2), none, some (.int x)]) ?_ ?_; focus exact rfl) | (refine Rg.sgG (σ' := [some (.ref d.1), some (.ref B), some (.ref fa), some (.ref A.ho), some (.ref A.lg), some (.ref A.nm), some (.ref A.pe), some (.int a), none, some (.ref Dd), some (.ref D2), none, some (.int x)]) ?_ ?_; focus exact rfl)))
      exact ⟨_, rfl, _, rfl, d.1, x, d.2, 24, 5, 30, M.hd, M.la, hs, gs, ps, rfl, D.D.same (S5.trans s), no x (List.mem_of_getElem? hx), fun H6 s6 => ⟨_, rfl, iteF ⟨_, rfl, s.trans s6⟩⟩⟩
    rintro σ H' ⟨u12, rfl, s⟩
    exact k H' M (W1.same (S5.trans s)) ⟨Nat.le_succ _, Int.le_refl _, by show M.la ≤ M.la + 1; omega, hp⟩
end
end K01
namespace K01
open PySem PySem.Spec PyProof.Rows L2 Rg
/-! ### lists of places as data -/
theorem canPlc (q : Plc) : PyData.canLay0 (dPlc q) = true := by
  have := shPlc q
  unfold SeqAt.shaped at this
  exact (Bool.and_eq_true_iff.mp this).1
theorem depPlc (q : Plc) : PyData.depth (dPlc q) ≤ 1 := by cases q <;> exact Nat.le_refl _
/-- the places of writes -/
theorem canPs : ∀ ws : List Wv, PyData.canLayAll0 (ws.map fun x => dPlc x.q) = true
  | [] => rfl
  | x :: ws => by
    show (PyData.canLay0 (dPlc x.q) && PyData.canLayAll0 (ws.map fun x => dPlc x.q)) = true
    rw [canPlc, canPs ws]
    rfl
theorem depPs : ∀ ws : List Wv, PyData.depthAll (ws.map fun x => dPlc x.q) ≤ 1
  | [] => Nat.zero_le _
  | x :: ws => by
    show max (PyData.depth (dPlc x.q)) (PyData.depthAll (ws.map fun x => dPlc x.q)) ≤ 1
    have := depPlc x.q
    have := depPs ws
    omega
theorem shPs (ws : List Wv) : SeqAt.shaped (.list (ws.map fun x => dPlc x.q)) = true := by
  unfold SeqAt.shaped
  rw [Bool.and_eq_true]
  refine ⟨canPs ws, decide_eq_true ?_⟩
  show PyData.depthAll (ws.map fun x => dPlc x.q) + 1 ≤ 64
  have := depPs ws
  omega
theorem anyPs (q : Plc) : ∀ ws : List Wv, ((ws.map fun x => dPlc x.q).any fun z => PyData.eqv z (dPlc q)) = wTaken q ws
  | [] => rfl
  | x :: ws => by
    show (PyData.eqv (dPlc x.q) (dPlc q) || _) = (decide (x.q = q) || _)
    rw [eqPlc]
    exact congrArg _ (anyPs q ws)
theorem dpAllPs {K : PySem.W.Frag} {H : Hp} : ∀ (as : List Addr) (ws : List Wv), as.length = ws.length → (∀ (i : Nat) (a : Addr) (x : Wv), as[i]? = some a → ws[i]? = some x → PlcAt K H a x.q) → DpAll K H (as.map V.ref) (ws.map fun x => dPlc x.q)
  | [], [], _, _ => .nil
  | a :: as, x :: ws, hl, h => .cons (dpPlc (h 0 a x rfl rfl)) (dpAllPs as ws (by simpa using hl) fun i a x p q => h (i + 1) a x (by simpa using p) (by simpa using q))
  | [], _ :: _, hl, _ => by simp at hl
  | _ :: _, [], hl, _ => by simp at hl
section
variable {K : PySem.W.Frag}
theorem op_inDK {X : Cx} (hu : X.A.units + 65 < cLine) (hK : X.K = K := by rfl) : OpR X (compareOp .In) (rInD K) := by
  subst hK
  exact op_inD hu
end
theorem room65 {k : Nat} {A : Around} (r : Room k A) : A.units + 65 < cLine := by have := r.un; omega
end K01
namespace K01
open PySem PySem.Spec PyProof.Rows L2 Rg
/-! ### the places of writes in a new list -/
structure Pls (K : PySem.W.Frag) (H0 H : Hp) (D : Addr) (n : Nat) (ws : List Wv) : Prop where
  s : Same H0 H
  e : ∃ as : List Addr, H D = some (.lst (as.map V.ref)) ∧ as.length = n ∧ ∀ (j : Nat) (a : Addr) (x : Wv), as[j]? = some a → ws[j]? = some x → PlcAt K H a x.q
theorem Pls.start {K : PySem.W.Frag} {H : Hp} {D : Addr} {ws : List Wv} (hD : H D = none) : Pls K H (upd H D (.lst [])) D 0 ws := ⟨same_upd hD, [], upd_same, rfl, fun j a x e => by cases e⟩
theorem Pls.snoc {K : PySem.W.Frag} {H0 H : Hp} {D pa : Addr} {n : Nat} {ws : List Wv} {x : Wv} (h : Pls K H0 H D n ws) (hD : H0 D = none) (hx : ws[n]? = some x) (hp : PlcAt K H pa x.q) (hl : ws.length < 1000) :
    ∃ acc, H D = some (.lst acc) ∧ acc.length < sizeLine ∧ Pls K H0 (upd H D (.lst (acc ++ [.ref pa]))) D (n + 1) ws := by
  obtain ⟨S, as, e1, e2, e3⟩ := h
  have hn := (List.getElem?_eq_some_iff.mp hx).1
  have f4 : ∀ b xs, SqT K H b xs → SqT K (upd H D (.lst (as.map V.ref ++ [.ref pa]))) b xs := fun b xs h => seqT_ne h e1
  refine ⟨_, e1, lt_line (by rw [List.length_map]; omega), fun a o z => ?_, as ++ [pa], by rw [upd_same, List.map_append]; rfl, by rw [List.length_append, e2]; rfl, fun j b y a1 a2 => ?_⟩
  · rw [upd_ne (ne_of_none z hD)]
    exact S _ _ z
  · by_cases c : j < n
    · rw [List.getElem?_append_left (by omega)] at a1
      exact (e3 j b y a1 a2).by f4
    · have ej : j = n := by
        have := (List.getElem?_eq_some_iff.mp a1).1
        rw [List.length_append] at this
        simp only [List.length_cons, List.length_nil] at this
        omega
      subst ej
      rw [List.getElem?_append_right (by omega), e2, Nat.sub_self] at a1
      rw [hx] at a2
      cases a1
      cases a2
      exact hp.by f4
theorem Pls.dp {K : PySem.W.Frag} {H0 H : Hp} {D : Addr} {ws : List Wv} {n : Nat} (h : Pls K H0 H D n ws) (e : n = ws.length) : Same H0 H ∧ Dp K H (.ref D) (.list (ws.map fun x => dPlc x.q)) := by
  obtain ⟨S, as, e1, e2, e3⟩ := h
  exact ⟨S, .lst (.of e1) (dpAllPs as _ (by omega) e3)⟩
section
variable {K : PySem.W.Frag} {H : Hp} {B : Addr} {A : BA} {M : Md}
theorem BkAt.num (h : BkAt K H B A M) (p : Int) : BkAt K (upd H A.nm (.lst [.int M.hd, .int p])) B A { M with la := p } := by
  have fo := h.own (c := A.nm) (u := [.int M.hd, .int p]) (by simp [bkO])
  obtain ⟨hs, h1, h2⟩ := h.h
  obtain ⟨gs, g1, g2⟩ := h.g
  obtain ⟨G, w1, w2, w3⟩ := h.w
  have ne := h.ne
  simp only [bkO, List.nodup_cons, List.mem_cons, List.not_mem_nil, or_false, not_or] at ne
  exact ⟨by rw [upd_ne ne.1.2.2.1]; exact h.e, ⟨hs, by rw [upd_ne ne.2.1.2.1]; exact h1, h2.by fo⟩, ⟨gs, by rw [upd_ne ne.2.2.1.1]; exact g1, g2.by fo⟩, upd_same, ⟨G, by rw [upd_ne (Ne.symm ne.2.2.2.1)]; exact w1, w2.by fo, w3⟩, h.lh, h.ll, h.ln, h.ft, h.mf, h.ne⟩
theorem BkAt.push (h : BkAt K H B A M) {G : List Wg} (e : H A.pe = some (.lst (G.map fun g => .ref g.1))) (hG : WsG K H G) (hM : G.map (·.2) = M.ws) {t : Addr} {x : Wv} (hx : WAt K H (t, x)) (hl : M.ws.length < 899) (ft : CtFit 24 30 x.q x.w) : BkAt K (upd H A.pe (.lst ((G.map fun g => V.ref g.1) ++ [.ref t]))) B A { M with ws := M.ws ++ [x] } := by
  have fo := h.own (c := A.pe) (u := (G.map fun g => V.ref g.1) ++ [.ref t]) (by simp [bkO])
  obtain ⟨hs, h1, h2⟩ := h.h
  obtain ⟨gs, g1, g2⟩ := h.g
  have ne := h.ne
  simp only [bkO, List.nodup_cons, List.mem_cons, List.not_mem_nil, or_false, not_or] at ne
  refine ⟨by rw [upd_ne ne.1.2.2.2]; exact h.e, ⟨hs, by rw [upd_ne ne.2.1.2.2]; exact h1, h2.by fo⟩, ⟨gs, by rw [upd_ne ne.2.2.1.2]; exact g1, g2.by fo⟩, by rw [upd_ne ne.2.2.2.1]; exact h.n, ⟨G ++ [(t, x)], by rw [upd_same, List.map_append]; rfl, fun g hg => ?_, by rw [List.map_append, hM]; rfl⟩, h.lh, h.ll, by show (M.ws ++ [x]).length < 900; rw [List.length_append]; simp only [List.length_cons, List.length_nil]; omega, fun y hy => ?_, h.mf, h.ne⟩
  · rcases List.mem_append.mp hg with z | z
    · exact (hG g z).by fo
    · rw [List.mem_singleton.mp z]; exact hx.by fo
  · rcases List.mem_append.mp hy with z | z
    · exact h.ft y z
    · rw [List.mem_singleton.mp z]; exact ft
end
section
variable {CD CP : Addr} {K : PySem.W.Frag} {Ps : List Addr} {H H' : Hp} {d : Addr × DA} {B : Addr} {A : BA} {fa : Addr} {M N : Md}
/-- a list of another one has changed -/
theorem Wd.oth (W : Wd CD CP K Ps H d B A fa M N) {u : Addr} {xs : List V} (k : Kp [u] H H') (e : H u = some (.lst xs)) (h1 : u ∉ dO d) (h2 : u ∉ bkO B A) (h3 : u ≠ fa) : Wd CD CP K Ps H' d B A fa M N := by
  have nt : ∀ x ∈ [u], NT CP H x := fun x hx => by rw [List.mem_singleton.mp hx]; exact NT.lst e
  refine { W with t := fun P hP => ?_, ef := W.ef.imp fun _ z => k _ _ z (by simpa using Ne.symm h3), dk := W.dk.stay k nt fun x hx z => ?_, bk := W.bk.stay k nt fun x hx z => ?_ }
  · obtain ⟨ps, q, o⟩ := W.t P hP
    refine ⟨ps, k _ _ q (by simp only [List.mem_singleton]; intro z; rw [z, e] at q; cases q), o⟩
  · rw [List.mem_singleton.mp z] at hx; exact h1 hx
  · rw [List.mem_singleton.mp z] at hx; exact h2 hx
/-- what is new is none of these -/
theorem Wd.new (W : Wd CD CP K Ps H d B A fa M N) {u : Addr} (h : H u = none) : u ∉ dO d ∧ u ∉ bkO B A ∧ u ≠ fa ∧ u ∉ Ps := by
  refine ⟨fun z => ?_, fun z => ?_, fun z => ?_, fun z => ?_⟩
  · obtain ⟨o, e, _⟩ := W.dk.held z; rw [h] at e; cases e
  · obtain ⟨o, e⟩ := W.bk.held z; rw [h] at e; cases e
  · obtain ⟨o, e⟩ := W.ef; rw [← z, h] at e; cases e
  · obtain ⟨ps, q, o⟩ := W.t u z; rw [h] at q; cases q
end
theorem kF {K : PySem.W.Frag} {H H' : Hp} {a : Addr} {ys : List V} (k : Kp [a] H H') (e : H a = some (.lst ys)) : ∀ b xs, SqT K H b xs → SqT K H' b xs :=
  (kT (CP := (0 : Nat)) (K := K) k (fun x hx => by rw [List.mem_singleton.mp hx]; exact NT.lst e)).1
theorem ctin_kp {K : PySem.W.Frag} {H H1 : Hp} {u : Addr} {wc : Ct} (h : CtIn K H u wc) (f : ∀ b xs, SqT K H b xs → SqT K H1 b xs) (g : ∀ xs, H u = some (.lst xs) → H1 u = some (.lst xs)) : CtIn K H1 u wc := by
  rcases h with h | ⟨c, e, h⟩
  · exact .inl (h.by f)
  · exact .inr ⟨c, e, g _ h⟩
section
variable {P : Program} {w0_ : World} {K : PySem.W.Frag} {mg : Str → Option Value} {base : Heap}
/-! ### _law_issue -/
theorem ok_Lissue (T : Tx K mg) (B0 : TBs T base) : FnOk P w0_ K mg base CX0 12 T.f_Lissue T.fd_Lissue ["_law_disk", "_law_book", "_law_feed_here"] (sp_step T.C_Disk T.C_Plan K T.Ps) := by
  refine T.F_Lissue.ok sc_Lissue (fun vs H Q E h => ?_) (fun cdv A0 outer s H vs Q E hr h => ?_)
  · obtain ⟨_, _, _, _, _, rfl, _⟩ := h; rfl
  · obtain ⟨d, B, A, fa, M, rfl, W, hn, l0, l1, hp, k⟩ := h
    have hr1 := hr.mono (show 1 ≤ 11 by decide)
    have hr2 := hr.mono (show 2 ≤ 11 by decide)
    have hr3 := hr.mono (show 3 ≤ 11 by decide)
    have hr4 := hr.mono (show 4 ≤ 11 by decide)
    have hr10 := hr.mono (show 10 ≤ 11 by decide)
    refine ⟨_, (pss_cons (ps_asg (pv 1) (pg_lst rfl (pgs_cons (pg_name (i := 3) sc_Lissue.nd rfl (.inl rfl)) (pgs_cons (pg_name (i := 4) sc_Lissue.nd rfl (.inl rfl)) (pgs_cons (pg_name (i := 5) sc_Lissue.nd rfl (.inl rfl)) (pgs_cons (pg_name (i := 6) sc_Lissue.nd rfl (.inl rfl)) pgs_nil))))))
      (pss_cons (ps_set (i := 7) sc_Lissue.nd rfl (.inl rfl) (pe_call (ok_Lplace T) hr2 rfl T.mg_Lplace T.F_Lplace.kp (b_Lplace T) .nil pass0 (pa_cons (pv 2) pa_nil)))
      (Evl.pss_cut (ps_if (pt_cmpR op_eq (pe_ix ix_tup (pv 7) pe_int (fun _ _ => rfl)) pe_str (nomark _))
        (pss_cons (ps_set (i := 8) sc_Lissue.nd rfl (.inl rfl) (pe_call (ok_Lcells T) hr2 rfl T.mg_Lcells T.F_Lcells.kp (b_Lcells T) .nil pass0 (pa_cons (pv 2) pa_nil)))
        (pss_cons (ps_set (i := 9) sc_Lissue.nd rfl (.inl rfl) (pe_callTy call_tuple_of rfl T.b_tuple (by decide +kernel) (pa_cons (pv 8) pa_nil)))
        (pss_one (ps_if (pt_cmpR op_eq (pe_call (ok_Lpick T) hr1 rfl T.mg_Lpick T.F_Lpick.kp (b_Lpick T) .nil pass0 (pa_cons (pv 2) (pa_cons pe_int pa_nil))) pe_int (nomark _))
          (pss_one (ps_set (i := 8) sc_Lissue.nd rfl (.inl rfl) (pv 9)))
          pss_nil))))
        (pss_cons (ps_set (i := 8) sc_Lissue.nd rfl (.inl rfl) (pe_call (ok_Lrecord T) hr3 rfl T.mg_Lrecord T.F_Lrecord.kp (b_Lrecord T) .nil pass0 (pa_cons (pv 2) pa_nil)))
        (pss_one (ps_set (i := 9) sc_Lissue.nd rfl (.inl rfl) (pv 8)))))
      (pss_cons (ps_set (i := 10) sc_Lissue.nd rfl (.inl rfl) (pe_cmpR (op_inDK (K := K) (room65 hr)) (pv 7) (pe_lc rfl (own := [("_law_write", 11)]) (g := gName 11) (tt := tYes) sc_Lissue.nd (pi_list (pv 6)) (blkOk_by (N := ["_law_disk", "_law_book", "_law_feed_here", "_law_home", "_law_log", "_law_numbers", "_law_pending", "_law_place_here", "_law_what", "_law_kept", "_law_busy_here", "_law_write", "_law_number"]) (sc := defScope s_Lissue) (by decide +kernel)) (fun _ _ _ _ _ => pg_name (i := 11) sc_Lissue.nd rfl (Or.inl rfl)) (fun _ _ _ _ _ => pts_nil) (fun _ _ _ _ _ => (pe_ixTK (K := K) (pv 11) pe_int (fun _ _ => rfl)))) rfl))
      (pss_cons (ps_if (PW.pt (pw_or (pt_not (pt_val (pe_callB call_isi rfl T.b_isinstance (by decide +kernel) (pa_cons (pe_meth (pv 0) T.cl_Disk T.m_Disk_busy (ok_busyG T B0) hr4 (b_Disk_busy T) .nil pass0 (pa_cons (pv 7) pa_nil)) (pa_cons (pe_bltn (v := .ty "bool") rfl T.b_bool (by decide +kernel) rfl) pa_nil))))) (pw_or1 (pt_cmpR op_ne (pe_meth (pv 0) T.cl_Disk T.m_Disk_busy (ok_busyG T B0) hr4 (b_Disk_busy T) .nil pass0 (pa_cons (pv 7) pa_nil)) (pv 10) (nomark _)))))
        (pss_one (ps_ret pe_bl))
        pss_nil)
      (pss_cons (ps_if (pt_val (pv 10))
        (pss_one (ps_ret (pe_call (ok_Lbusy T B0) hr rfl T.mg_Lbusy T.F_Lbusy.kp (b_Lbusy T) .nil pass0 (pa_cons (pv 0) (pa_cons (pv 7) (pa_cons (pv 8) pa_nil))))))
        pss_nil)
      (pss_cons (ps_asg (pe_op op_add (pe_ix ix_list (pv 5) pe_int (fun _ _ => rfl)) pe_int) (pg_sub (pv 5) pe_int set_list))
      (pss_cons (ps_expr (pe_bm PySem.F.plainAttrs_list PySem.F.slot_list_append PySem.F.type_list_append mt_append (pv 6) (pa_cons (pe_tup (pa_cons (pe_ix ix_list (pv 5) pe_int (fun _ _ => rfl)) (pa_cons (pv 7) (pa_cons (pv 9) pa_nil)))) pa_nil)))
      (pss_cons (ps_set (i := 12) sc_Lissue.nd rfl (.inl rfl) (pe_meth (pv 0) T.cl_Disk T.m_Disk_issue (ok_issueG T B0) hr10 (b_Disk_issue T) .nil pass0 (pa_cons (pv 7) (pa_cons (pv 8) pa_nil))))
      (Evl.pss_cut (ps_if (pt_val (pe_callB call_isi rfl T.b_isinstance (by decide +kernel) (pa_cons (pv 8) (pa_cons (pe_bltn (v := .ty "list") rfl T.b_list (by decide +kernel) rfl) pa_nil))))
        (pss_cons (ps_expr (pe_bm PySem.F.plainAttrs_list PySem.F.slot_list_append PySem.F.type_list_append mt_append (pv 8) (pa_cons pe_int pa_nil)))
        (pss_one (ps_asg pe_int (pg_sub (pv 8) pe_int set_list))))
        pss_nil)
      (pss_one (ps_ret (pe_call (ok_Lsame T 0) hr2 rfl T.mg_Lsame T.F_Lsame.kp (b_Lsame T) .nil pass0 (pa_cons (pv 12) (pa_cons (pe_ix ix_list (pv 5) pe_int (fun _ _ => rfl)) pa_nil))))))))))))))), ?_⟩
    obtain ⟨f0, ef0⟩ := W.ef
    refine ⟨_, rfl, B, _, rfl, .inl (.of W.bk.e), rfl, _, _, rfl, _, _, rfl, _, _, rfl, _, _, rfl, rfl, ?_⟩
    ((try dsimp only); (first | (refine Rg.sg (σ' := [some (.ref d.1), some (.ref B), some (.ref fa), some (.ref A.ho), some (.ref A.lg), some (.ref A.nm), some (.ref A.pe), none, none, none, none, none, none]) ?_ ?_; focus exact rfl) | (refine Rg.sgG (σ' := [some (.ref d.1), some (.ref B), some (.ref fa), some (.ref A.ho), some (.ref A.lg), some (.ref A.nm), some (.ref A.pe), none, none, none, none, none, none]) ?_ ?_; focus exact rfl)))
    refine ⟨_, rfl, fa, f0, rfl, ef0, fun H1 pa q f1 k1 e1 npa hq rq => ?_⟩
    have W1 := W.pick k1 ⟨f1, e1⟩
    ((try dsimp only); (first | (refine Rg.sg (σ' := [some (.ref d.1), some (.ref B), some (.ref fa), some (.ref A.ho), some (.ref A.lg), some (.ref A.nm), some (.ref A.pe), some (.ref pa), none, none, none, none, none]) ?_ ?_; focus exact rfl) | (refine Rg.sgG (σ' := [some (.ref d.1), some (.ref B), some (.ref fa), some (.ref A.ho), some (.ref A.lg), some (.ref A.nm), some (.ref A.pe), some (.ref pa), none, none, none, none, none]) ?_ ?_; focus exact rfl)))
    refine ⟨fun σ Hm => ∃ (u v : Addr) (wc : Ct), σ = [some (.ref d.1), some (.ref B), some (.ref fa), some (.ref A.ho), some (.ref A.lg), some (.ref A.nm), some (.ref A.pe), some (.ref pa), some (.ref u), some (.ref v), none, none, none] ∧ Wd T.C_Disk T.C_Plan K T.Ps Hm d B A fa M M ∧ PlcAt K Hm pa q ∧ CtIn K Hm u wc ∧ CtAt K Hm v wc ∧ CtFit 24 30 q wc ∧ ((H u = none ∧ ∃ xs, Hm u = some (.lst xs) ∧ 0 < xs.length ∧ xs.length < 1000) ∨ u = v), ?_, ?_⟩
    · cases q with
      | home i =>
        have t2 : SqT K H1 pa [.str "home", .int i] := hq
        refine ⟨_, rfl, pa, _, 0, .str "home", rfl, rfl, t2, atI_nat (j := 0) rfl, rfl, _, rfl, iteT ?_⟩
        refine ⟨_, rfl, fa, f1, rfl, e1, fun H2 u c f2 k2 e2 nu eu hc nuf => ?_⟩
        have W2 := W1.pick k2 ⟨f2, e2⟩
        have g2 := kF (K := K) k2 e1
        refine ⟨_, rfl, u, _, rfl, .inl ⟨.of eu, fun v n_v => ?_⟩⟩
        (generalize he_v : upd _ v _ = H3; obtain ⟨e_v, s_v, f_v⟩ := new_f he_v n_v; clear he_v)
        have nvf : v ≠ fa := fun z => by rw [z, e2] at n_v; cases n_v
        refine ⟨_, rfl, fa, f2, 2, rfl, s_v _ _ e2, by decide, fun x f3 x0 x1 _ => ?_⟩
        have e3 := s_v _ _ e2
        (generalize he_y : upd _ fa _ = H4; obtain ⟨e_y, k_y, f_y⟩ := own_f he_y; clear he_y)
        have g4 := kF (K := K) k_y e3
        have W4 := (W2.same s_v).pick k_y ⟨f3, e_y⟩
        have eu4 := k_y _ _ (s_v _ _ eu) (by simpa using nuf)
        have hv4 : SqT K H4 v (c.map V.int) := g4 _ _ (.of e_v)
        have t4 := g4 _ _ (sameT s_v (g2 _ _ t2))
        have nu0 := k1.free (by simpa using nuf) nu
        have fit : CtFit 24 30 (.home i) (.cells c) := ⟨rq.1, rq.2, hc⟩
        refine ⟨rfl, _, rfl, wI (fun e => ?_) fun e => ?_⟩
        · exact ⟨_, rfl, v, v, .cells c, rfl, W4, t4, .inl hv4, hv4, fit, .inr rfl⟩
        · exact ⟨u, v, .cells c, rfl, W4, t4, .inr ⟨c, rfl, eu4⟩, hv4, fit, .inl ⟨nu0, _, eu4, by rw [List.length_map, hc.len]; decide, by rw [List.length_map, hc.len]; decide⟩⟩
      | log i =>
        have t2 : SqT K H1 pa [.str "log", .int i] := hq
        refine ⟨_, rfl, pa, _, 0, .str "log", rfl, rfl, t2, atI_nat (j := 0) rfl, rfl, _, rfl, iteF ?_⟩
        refine ⟨_, rfl, fa, f1, rfl, e1, fun H2 u r f2 k2 e2 nu hR hr' => ?_⟩
        have W2 := W1.pick k2 ⟨f2, e2⟩
        have g2 := kF (K := K) k2 e1
        exact ⟨_, rfl, u, u, .rcd r, rfl, W2, g2 _ _ t2, .inl hR, hR, ⟨rq.1, rq.2, hr'⟩, .inr rfl⟩
    rintro σ Hm ⟨u, v, wc, rfl, Wm, hqm, hu, hv, hf, hor⟩
    obtain ⟨G, w1, w2, w3⟩ := Wm.bk.w
    have lG : G.length = M.ws.length := by rw [← w3, List.length_map]
    refine ⟨_, rfl, _, rfl, A.pe, rfl, ⟨_, .of w1⟩, fun Dd hD => ?_⟩
    refine lc_list (K := K) (a := A.pe) (xs := G.map fun g => V.ref g.1) (fun i H' => Pls K Hm H' Dd i M.ws) (Pls.start hD) (fun i H' _ p => .of (p.s _ _ w1)) ?_ ?_
    · rintro j y' H' hj Pv
      rw [List.getElem?_map] at hj
      obtain ⟨g, hg, rfl⟩ := Option.map_eq_some_iff.mp hj
      obtain ⟨pb, pu, t1, t2, t3⟩ := (w2 g (List.mem_of_getElem? hg)).by fun _ _ => sameT Pv.s
      exact ⟨rfl, yes_ ⟨_, rfl, g.1, _, 1, .ref pb, rfl, rfl, t1, atI_nat (j := 1) rfl, Pv.snoc hD (by rw [← w3, List.getElem?_map, hg]; rfl) t2 (by omega)⟩⟩
    intro H5 Pv
    obtain ⟨S5, dps⟩ := Pv.dp (by rw [List.length_map, lG])
    refine ⟨_, _, dpPlc (hqm.by fun _ _ => sameT S5), dps, shPlc q, shPs _, ?_⟩
    rw [anyPs]
    clear Pv dps
    have W5 := Wm.same S5
    ((try dsimp only); (first | (refine Rg.sg (σ' := [some (.ref d.1), some (.ref B), some (.ref fa), some (.ref A.ho), some (.ref A.lg), some (.ref A.nm), some (.ref A.pe), some (.ref pa), some (.ref u), some (.ref v), some (.bl (wTaken q M.ws)), none, none]) ?_ ?_; focus exact rfl) | (refine Rg.sgG (σ' := [some (.ref d.1), some (.ref B), some (.ref fa), some (.ref A.ho), some (.ref A.lg), some (.ref A.nm), some (.ref A.pe), some (.ref pa), some (.ref u), some (.ref v), some (.bl (wTaken q M.ws)), none, none]) ?_ ?_; focus exact rfl)))
    have hq5 := hqm.by fun _ _ => sameT S5
    have hv5 := hv.by fun _ _ => sameT S5
    have hu5 := ctin_kp hu (fun _ _ => sameT S5) fun xs e => S5 _ _ e
    obtain ⟨hs, gs, ps, D⟩ := W5.dk
    obtain ⟨dx, ob⟩ := D.D.ob
    have tkn : taken q ps = wTaken q M.ws := by rw [taken_w, D.e]
    refine ⟨_, rfl, d.1, _, _, rfl, ob, rfl, _, rfl, d.1, pa, d.2, 24, 5, 30, M.hd, M.la, hs, gs, ps, q, rfl, D.D, D.P, hq5, W5.t, fun H6 k6 => ⟨_, _, _, _, true, rfl, .ty _, .base (.bl _), kit_ty (by decide +kernel), _, rfl, iteF ?_⟩⟩
    have W6 := W5.tk k6
    have f6 : ∀ b xs, SqT K H5 b xs → SqT K H6 b xs := fun _ _ => k6.seqT W5.t
    obtain ⟨hs6, gs6, ps6, D6⟩ := W6.dk
    obtain ⟨dx6, ob6⟩ := D6.D.ob
    refine ⟨_, rfl, d.1, _, _, rfl, ob6, rfl, _, rfl, d.1, pa, d.2, 24, 5, 30, M.hd, M.la, hs6, gs6, ps6, q, rfl, D6.D, D6.P, hq5.by f6, W6.t, fun H7 k7 => ⟨_, rfl, ?_⟩⟩
    have en : (!decide (V.bl (taken q ps6) = V.bl (wTaken q M.ws))) = false := by
      have : taken q ps6 = wTaken q M.ws := by rw [taken_w, D6.e]
      rw [this, decide_eq_true rfl]
      rfl
    refine ⟨rfl, _, rfl, ?_⟩
    rw [en]
    have W7 := W6.tk k7
    have f7 : ∀ b xs, SqT K H6 b xs → SqT K H7 b xs := fun _ _ => k7.seqT W6.t
    have k57 := k6.trans k7
    have f57 : ∀ b xs, SqT K H5 b xs → SqT K H7 b xs := fun b xs h => f7 b xs (f6 b xs h)
    have hq7 := hq5.by f57
    have hv7 := hv5.by f57
    have hu7 : CtIn K H7 u wc := ctin_kp hu5 f57 fun xs e => k57.at W5.t e
    clear D ob D6 ob6 dx dx6
    obtain ⟨hs, gs, ps, D⟩ := W7.dk
    obtain ⟨dx, ob⟩ := D.D.ob
    have tkn : taken q ps = wTaken q M.ws := by rw [taken_w, D.e]
    have lp : ps.length = M.ws.length := by rw [← D.e, List.length_map]
    refine iteF ⟨_, rfl, _, rfl, ?_⟩
    by_cases hb : wTaken q M.ws = true
    · rw [hb]
      refine iteT ⟨_, rfl, _, rfl, _, rfl, d.1, pa, u, d.2, 24, 5, 30, M.hd, M.la, hs, gs, ps, q, wc, rfl, D.D, D.P, hq7, hu7, hf, tkn.trans hb, W7.t, fun H8 k8 => k H8 M (W7.tk k8) ⟨Nat.le_succ _, Int.le_refl _, by omega, hp⟩⟩
    have hb : wTaken q M.ws = false := by simpa using hb
    rw [hb]
    refine iteF ?_
    refine ⟨_, rfl, A.nm, _, 1, .int M.la, rfl, rfl, .of W7.bk.n, atI_nat (j := 1) rfl, _, _, rfl, rfl, _, rfl, A.nm, _, _, 1, rfl, rfl, W7.bk.n, ixN_at (by omega) (by simp only [List.length_cons, List.length_nil]; omega), ?_⟩
    have W8 : Wd T.C_Disk T.C_Plan K T.Ps (upd H7 A.nm (.lst (([.int M.hd, .int M.la] : List V).set 1 (.int (M.la + 1))))) d B A fa M { M with la := M.la + 1 } := W7.book (Kp.refl.own (by simp [bkO])) (W7.bk.num _)
    have f8 := W7.bk.own (c := A.nm) (u := ([.int M.hd, .int M.la] : List V).set 1 (.int (M.la + 1))) (by simp [bkO])
    have u8 : ∀ {xs}, H u = none → H7 u = some (.lst xs) → upd H7 A.nm (.lst (([.int M.hd, .int M.la] : List V).set 1 (.int (M.la + 1)))) u = some (.lst xs) := fun {xs} n e => by
      rw [upd_ne fun z => (W.new n).2.1 (by rw [z]; simp [bkO])]; exact e
    generalize upd H7 A.nm (.lst (([.int M.hd, .int M.la] : List V).set 1 (.int (M.la + 1)))) = H8 at W8 f8 u8 ⊢
    obtain ⟨G8, y1, y2, y3⟩ := W8.bk.w
    have lG8 : G8.length = M.ws.length := by have : M.ws = M.ws := rfl; rw [show M.ws = ({ M with la := M.la + 1 } : Md).ws from rfl, ← y3, List.length_map]
    refine ⟨_, rfl, .inl ⟨rfl, _, .inl (.inl y1)⟩, _, rfl, A.nm, _, 1, .int (M.la + 1), rfl, rfl, .of W8.bk.n, atI_nat (j := 1) rfl, _, rfl, _, rfl, (by show 3 ≤ sizeLine; decide), ?_⟩
    (intro tt n_tt; generalize he_tt : upd _ tt _ = H9; obtain ⟨e_tt, s_tt, f_tt⟩ := new_f he_tt n_tt; clear he_tt)
    have W9 := W8.same s_tt
    have y19 := s_tt _ _ y1
    have y29 : WsG K H9 G8 := fun g hg => (y2 g hg).by fun _ _ => sameT s_tt
    have f79 : ∀ b xs, SqT K H7 b xs → SqT K H9 b xs := fun b xs h => sameT s_tt (f8 b xs h)
    refine ⟨A.pe, _, _, rfl, rfl, y19, lt_line (by rw [List.length_map]; omega), ?_⟩
    have x9 : WAt K H9 (tt, ⟨M.la + 1, q, wc⟩) := ⟨pa, v, .of e_tt, hq7.by f79, hv7.by f79⟩
    have Wa : Wd T.C_Disk T.C_Plan K T.Ps (upd H9 A.pe (.lst ((G8.map fun g => V.ref g.1) ++ [.ref tt]))) d B A fa M (M.issue q wc) := W9.book (Kp.refl.own (by simp [bkO])) (W9.bk.push y19 y29 y3 x9 (by show M.ws.length < 899; omega) hf)
    have fa9 := W9.bk.own (c := A.pe) (u := (G8.map fun g => V.ref g.1) ++ [.ref tt]) (by simp [bkO])
    have ua : ∀ {xs}, H u = none → H7 u = some (.lst xs) → upd H9 A.pe (.lst ((G8.map fun g => V.ref g.1) ++ [.ref tt])) u = some (.lst xs) := fun {xs} n e => by
      rw [upd_ne fun z => (W.new n).2.1 (by rw [z]; simp [bkO])]; exact s_tt _ _ (u8 n e)
    generalize upd H9 A.pe (.lst ((G8.map fun g => V.ref g.1) ++ [.ref tt])) = Ha at Wa fa9 ua ⊢
    have f7a : ∀ b xs, SqT K H7 b xs → SqT K Ha b xs := fun b xs h => fa9 b xs (f79 b xs h)
    have hqa := hq7.by f7a
    have hva := hv7.by f7a
    have hua : CtIn K Ha u wc := by
      rcases hor with ⟨n, xs, e, _⟩ | e
      · exact ctin_kp hu7 f7a fun xs e => ua n e
      · subst e; exact .inl hva
    clear D ob dx tkn lp
    obtain ⟨hs, gs, ps, D⟩ := Wa.dk
    obtain ⟨dx, ob⟩ := D.D.ob
    have tkn : taken q ps = wTaken q M.ws := by rw [taken_w, D.e]
    have lp : ps.length = M.ws.length := by rw [← D.e, List.length_map]
    refine ⟨_, rfl, d.1, _, _, rfl, ob, rfl, _, rfl, _, rfl, d.1, pa, u, d.2, 24, 5, 30, M.hd, M.la, hs, gs, ps, q, wc, rfl, D.D, D.P, D.O, by omega, hqa, hua, hf, tkn.trans hb, Wa.t, fun Hb t u' tb kb fb Db Pb Ob hu' nt => ?_⟩
    have Wb : Wd T.C_Disk T.C_Plan K T.Ps Hb d B A fa (M.issue q wc) (M.issue q wc) := by
      refine Wa.did ⟨tb, fun y o e n => kb y o e fun z => n ?_, fb⟩ ⟨hs, gs, _, ⟨Db, Pb, Ob, D.rh.by fb, D.rg.by fb, ?_, ?_⟩⟩
      · simp only [dO, dOwn, List.mem_cons, List.mem_append, List.not_mem_nil, or_false] at z ⊢
        rcases z with e | e | e <;> simp [e]
      · rw [List.map_append, D.e]; rfl
      · rw [List.length_append]; simp only [List.length_cons, List.length_nil]; omega
    ((try dsimp only); (first | (refine Rg.sg (σ' := [some (.ref d.1), some (.ref B), some (.ref fa), some (.ref A.ho), some (.ref A.lg), some (.ref A.nm), some (.ref A.pe), some (.ref pa), some (.ref u), some (.ref v), some (.bl false), none, some (.int (M.la + 1))]) ?_ ?_; focus exact rfl) | (refine Rg.sgG (σ' := [some (.ref d.1), some (.ref B), some (.ref fa), some (.ref A.ho), some (.ref A.lg), some (.ref A.nm), some (.ref A.pe), some (.ref pa), some (.ref u), some (.ref v), some (.bl false), none, some (.int (M.la + 1))]) ?_ ?_; focus exact rfl)))
    refine ⟨fun σ Hm => σ = [some (.ref d.1), some (.ref B), some (.ref fa), some (.ref A.ho), some (.ref A.lg), some (.ref A.nm), some (.ref A.pe), some (.ref pa), some (.ref u), some (.ref v), some (.bl false), none, some (.int (M.la + 1))] ∧ Wd T.C_Disk T.C_Plan K T.Ps Hm d B A fa (M.issue q wc) (M.issue q wc), ?_, ?_⟩
    · rcases hor with ⟨n, xs, e, xl0, xl⟩ | e
      · obtain ⟨n1, n2, n3, n4⟩ := W.new n
        have e7 := k57.at W5.t (S5 _ _ e) (by intro _ z; cases z)
        have eb := kb _ _ (ua n e7) (by
          simp only [List.mem_cons, not_or]
          exact ⟨fun z => n1 (by simp [dO, dOwn, z]), fun z => n1 (by simp [dO, dOwn, z]), n4⟩)
        refine ⟨_, rfl, _, _, _, _, true, rfl, .ty _, .base (.lst eb), kit_ty (by decide +kernel), _, rfl, iteT ?_⟩
        refine ⟨_, rfl, .inl ⟨rfl, _, .inl (.inl eb)⟩, u, _, _, rfl, rfl, eb, lt_line (by omega), ?_⟩
        (generalize he_u1 : upd _ u _ = Hc; obtain ⟨e_u1, k_u1, f_u1⟩ := own_f he_u1; clear he_u1)
        refine ⟨_, rfl, u, _, _, 0, rfl, rfl, e_u1, ixN_at (by omega) (by rw [List.length_append]; omega), rfl, ?_⟩
        have Wc := Wb.oth k_u1 eb n1 n2 n3
        exact Wc.oth (Kp.refl.own (by simp)) e_u1 n1 n2 n3
      · subst e
        obtain ⟨xs, hx⟩ := (hva.by fb).tup
        exact ⟨_, rfl, _, _, _, _, false, rfl, .ty _, tyT hx, kit_ty (by decide +kernel), _, rfl, iteF ⟨rfl, Wb⟩⟩
    rintro σ Hm ⟨rfl, Wz⟩
    refine ⟨_, rfl, _, rfl, A.nm, _, 1, .int (M.la + 1), rfl, rfl, .of Wz.bk.n, atI_nat (j := 1) rfl, _, _, rfl, Sm.int, ?_⟩
    refine k Hm _ Wz ⟨?_, by show M.la ≤ M.la + 1; omega, Int.le_refl _, fun x hx => ?_⟩
    · show (M.ws ++ [_]).length ≤ _
      rw [List.length_append]; exact Nat.le_refl _
    · rcases List.mem_append.mp hx with z | z
      · exact hp x z
      · rw [List.mem_singleton.mp z]; show 1 ≤ M.la + 1; omega
end
end K01
namespace K01
open PySem PySem.Spec PyProof.Rows L2 Rg
theorem cutDrop (xs : List V) (k : Nat) : cutV xs (some (k : Int)) none = xs.drop k := by
  unfold cutV
  rw [HT.sIx_none, HT.sIx_nat]
  by_cases h : k ≤ xs.length
  · rw [Nat.min_eq_left h, List.take_of_length_le (by rw [List.length_drop]; exact Nat.le_refl _)]
  · rw [Nat.min_eq_right (by omega), Nat.sub_self, List.take_zero, List.drop_of_length_le (by omega)]
def swp (c : List Int) (a : Nat) (v : Int) : List Int := c.take a ++ [v] ++ c.drop (a + 1)
theorem swp_len {c : List Int} {a : Nat} {v : Int} (h : c.length = 8) (ha : a < 8) : (swp c a v).length = 8 := by
  unfold swp
  rw [List.length_append, List.length_append, List.length_take, List.length_drop]
  simp only [List.length_cons, List.length_nil]
  omega
theorem swp_bad {c : List Int} {a : Nat} {v : Int} (h : ¬ (0 ≤ v ∧ v ≤ 999999999)) : ¬ Cells (swp c a v) := fun z => h (z.ok v (by unfold swp; simp))
theorem seqK {K : PySem.W.Frag} {H H' : Hp} {Ps : List Addr} (t : Tab Ps H) (k : Tk Ps H H') {u : Addr} {xs : List V} (h : SqT K H u xs ∨ H u = some (.lst xs)) : SqT K H' u xs ∨ H' u = some (.lst xs) := h.elim (fun h => .inl (k.seqT t h)) fun h => .inr (k.at t h)
theorem badrec_tk {K : PySem.W.Frag} {H H' : Hp} {Ps : List Addr} (t : Tab Ps H) (k : Tk Ps H H') {u : Addr} (h : BadRec K H u) : BadRec K H' u := by
  rcases h with ⟨xs, e⟩ | ⟨xs, h, n⟩ | ⟨l, x, v, h, n⟩ | ⟨l, x, pc, xs, h, e, r⟩
  · exact .inl ⟨xs, k.at t e⟩
  · exact .inr (.inl ⟨xs, k.seqT t h, n⟩)
  · exact .inr (.inr (.inl ⟨l, x, v, k.seqT t h, n⟩))
  · exact .inr (.inr (.inr ⟨l, x, pc, xs, k.seqT t h, k.at t e, r⟩))
theorem badwhat_tk {K : PySem.W.Frag} {H H' : Hp} {Ps : List Addr} (t : Tab Ps H) (k : Tk Ps H H') {u : Addr} {i j : Int} (h : BadWhat K H u 24 30 (.log i)) : BadWhat K H' u 24 30 (.log j) := by
  rcases h with h | ⟨r, h1, h2, h3⟩
  · exact .inl (badrec_tk t k h)
  · exact .inr ⟨r, h1.tk t k, h2, h3⟩
theorem asc0 : Asc [] := by unfold Asc; simp
theorem asc1 {x : Int} : Asc [x] := by unfold Asc; simp
section
variable {P : Program} {w0_ : World} {K : PySem.W.Frag} {mg : Str → Option Value} {base : Heap}
/-! ### _law_bad -/
theorem ok_Lbad (T : Tx K mg) (B0 : TBs T base) : FnOk P w0_ K mg base CX0 12 T.f_Lbad T.fd_Lbad ["_law_disk", "_law_book", "_law_feed_here"] (sp_step T.C_Disk T.C_Plan K T.Ps) := by
  refine T.F_Lbad.ok sc_Lbad (fun vs H Q E h => ?_) (fun cdv A0 outer s H vs Q E hr h => ?_)
  · obtain ⟨_, _, _, _, _, rfl, _⟩ := h; rfl
  · obtain ⟨d, B, A, fa, M, rfl, W, hn, l0, l1, hp, k⟩ := h
    have hr1 := hr.mono (show 1 ≤ 11 by decide)
    have hr2 := hr.mono (show 2 ≤ 11 by decide)
    refine ⟨_, (pss_cons (ps_set (i := 3) sc_Lbad.nd rfl (.inl rfl) (pe_call (ok_Lpick T) hr1 rfl T.mg_Lpick T.F_Lpick.kp (b_Lpick T) .nil pass0 (pa_cons (pv 2) (pa_cons pe_int pa_nil))))
      (pss_cons (ps_set (i := 4) sc_Lbad.nd rfl (.inl rfl) (pe_call (ok_Lcells T) hr2 rfl T.mg_Lcells T.F_Lcells.kp (b_Lcells T) .nil pass0 (pa_cons (pv 2) pa_nil)))
      (pss_cons (ps_set (i := 5) sc_Lbad.nd rfl (.inl rfl) (pe_call (ok_Lpick T) hr1 rfl T.mg_Lpick T.F_Lpick.kp (b_Lpick T) .nil pass0 (pa_cons (pv 2) (pa_cons pe_int pa_nil))))
      (pss_cons (ps_set (i := 6) sc_Lbad.nd rfl (.inl rfl) (pe_op op_cat (pe_op op_cat (pe_slice sl_list (pv 4) po_none (po_some (pv 5))) (pe_lst (pa_cons (pe_un un_neg pe_int) pa_nil))) (pe_slice sl_list (pv 4) (po_some (pe_op op_add (pv 5) pe_int)) po_none)))
      (pss_cons (ps_set (i := 7) sc_Lbad.nd rfl (.inl rfl) (pe_op op_cat (pe_op op_cat (pe_slice sl_list (pv 4) po_none (po_some (pv 5))) (pe_lst (pa_cons pe_int pa_nil))) (pe_slice sl_list (pv 4) (po_some (pe_op op_add (pv 5) pe_int)) po_none)))
      (pss_cons (ps_for PassesOwn.never rfl (pi_list (pe_lst (pa_cons (pe_tup (pa_cons pe_str (pa_cons (pe_op op_add pe_int (pv 3)) pa_nil))) (pa_cons (pe_tup (pa_cons pe_str (pa_cons (pe_op op_sub (pe_un un_neg pe_int) (pv 3)) pa_nil))) (pa_cons (pe_tup (pa_cons pe_str (pa_cons (pe_op op_sub (pe_un un_neg pe_int) (pv 3)) pa_nil))) (pa_cons (pe_tup (pa_cons pe_str (pa_cons (pe_op op_add pe_int (pv 3)) pa_nil))) (pa_cons (pe_tup (pa_cons pe_str (pa_cons (pv 3) pa_nil))) (pa_cons (pe_tup (pa_cons pe_str pa_nil)) pa_nil)))))))) (pg_name (i := 8) sc_Lbad.nd rfl (.inl rfl))
        (pss_one (ps_if (PW.pt (pw_or (pt_not (pt_val (pe_call (ok_Lbad_issue T B0) hr rfl T.mg_Lbad_issue T.F_Lbad_issue.kp (b_Lbad_issue T) .nil pass0 (pa_cons (pv 0) (pa_cons (pv 8) (pa_cons (pv 4) pa_nil)))))) (pw_or1 (pt_not (pt_val (pe_call (ok_Lbad_issue T B0) hr rfl T.mg_Lbad_issue T.F_Lbad_issue.kp (b_Lbad_issue T) .nil pass0 (pa_cons (pv 0) (pa_cons (pv 8) (pa_cons (pe_tup (pa_cons pe_str (pa_cons pe_int (pa_cons (pe_tup pa_nil) (pa_cons (pe_tup pa_nil) pa_nil))))) pa_nil)))))))))
          (pss_one (ps_ret pe_bl))
          pss_nil)))
      (pss_cons (ps_for PassesOwn.never rfl (pi_list (pe_lst (pa_cons (pv 6) (pa_cons (pv 7) (pa_cons (pe_callTy call_tuple_of rfl T.b_tuple (by decide +kernel) (pa_cons (pv 6) pa_nil)) (pa_cons (pe_slice sl_list (pv 4) po_none (po_some pe_int)) (pa_cons (pe_op op_cat (pv 4) (pe_lst (pa_cons pe_int pa_nil))) (pa_cons (pe_lst pa_nil) (pa_cons (pe_tup (pa_cons pe_str (pa_cons pe_int (pa_cons pe_int (pa_cons (pe_callTy call_tuple_of rfl T.b_tuple (by decide +kernel) (pa_cons (pv 4) pa_nil)) pa_nil))))) pa_nil))))))))) (pg_name (i := 9) sc_Lbad.nd rfl (.inl rfl))
        (pss_one (ps_if (pt_not (pt_val (pe_call (ok_Lbad_issue T B0) hr rfl T.mg_Lbad_issue T.F_Lbad_issue.kp (b_Lbad_issue T) .nil pass0 (pa_cons (pv 0) (pa_cons (pe_tup (pa_cons pe_str (pa_cons (pe_op op_add pe_int (pe_op op_mod (pe_callTy call_int1 rfl T.b_int (by decide +kernel) (pa_cons (pv 3) pa_nil)) pe_int)) pa_nil))) (pa_cons (pv 9) pa_nil))))))
          (pss_one (ps_ret pe_bl))
          pss_nil)))
      (pss_cons (ps_set (i := 10) sc_Lbad.nd rfl (.inl rfl) (pe_callTy call_tuple_of rfl T.b_tuple (by decide +kernel) (pa_cons (pv 4) pa_nil)))
      (pss_cons (ps_set (i := 11) sc_Lbad.nd rfl (.inl rfl) (pe_lst (pa_cons (pv 4) (pa_cons (pe_tup (pa_cons pe_str (pa_cons pe_int (pa_cons (pe_op op_add pe_int (pv 3)) (pa_cons (pv 10) pa_nil))))) (pa_cons (pe_tup (pa_cons pe_str (pa_cons pe_int (pa_cons (pv 3) (pa_cons (pv 10) pa_nil))))) (pa_cons (pe_tup (pa_cons pe_str (pa_cons pe_int (pa_cons (pv 3) (pa_cons (pv 4) pa_nil))))) (pa_cons (pe_tup (pa_cons pe_str (pa_cons pe_int (pa_cons (pv 3) pa_nil)))) pa_nil)))))))
      (pss_cons (ps_expr (pe_bm PySem.F.plainAttrs_list PySem.F.slot_list_extend PySem.F.type_list_extend mt_extend (pv 11) (pa_cons (pe_lst (pa_cons (pe_tup (pa_cons pe_str (pa_cons pe_int (pa_cons (pe_tup (pa_cons (pe_tup (pa_cons pe_int (pa_cons pe_int pa_nil))) pa_nil)) (pa_cons (pe_tup pa_nil) pa_nil))))) (pa_cons (pe_tup (pa_cons pe_str (pa_cons pe_int (pa_cons (pe_tup (pa_cons (pe_tup (pa_cons pe_int (pa_cons (pe_op op_add pe_int (pv 3)) pa_nil))) pa_nil)) (pa_cons (pe_tup pa_nil) pa_nil))))) (pa_cons (pe_tup (pa_cons pe_str (pa_cons pe_int (pa_cons (pe_tup pa_nil) (pa_cons (pe_tup (pa_cons (pe_op op_add pe_int (pv 3)) pa_nil)) pa_nil))))) pa_nil)))) pa_nil)))
      (pss_cons (ps_for PassesOwn.never rfl (pi_list (pv 11)) (pg_name (i := 9) sc_Lbad.nd rfl (.inl rfl))
        (pss_one (ps_if (pt_not (pt_val (pe_call (ok_Lbad_issue T B0) hr rfl T.mg_Lbad_issue T.F_Lbad_issue.kp (b_Lbad_issue T) .nil pass0 (pa_cons (pv 0) (pa_cons (pe_tup (pa_cons pe_str (pa_cons (pe_op op_add pe_int (pe_op op_mod (pe_callTy call_int1 rfl T.b_int (by decide +kernel) (pa_cons (pv 3) pa_nil)) pe_int)) pa_nil))) (pa_cons (pv 9) pa_nil))))))
          (pss_one (ps_ret pe_bl))
          pss_nil)))
      (pss_one (ps_ret pe_bl))))))))))))), ?_⟩
    obtain ⟨f0, ef0⟩ := W.ef
    refine ⟨_, rfl, fa, f0, 5, rfl, ef0, by decide, fun nr f1 nr0 nr1 _ => ?_⟩
    (generalize he_y1 : upd _ fa _ = H1; obtain ⟨e_y1, k_y1, f_y1⟩ := own_f he_y1; clear he_y1)
    have W1 := W.pick k_y1 ⟨f1, e_y1⟩
    ((try dsimp only); (first | (refine Rg.sg (σ' := [some (.ref d.1), some (.ref B), some (.ref fa), some (.int nr), none, none, none, none, none, none, none, none]) ?_ ?_; focus exact rfl) | (refine Rg.sgG (σ' := [some (.ref d.1), some (.ref B), some (.ref fa), some (.int nr), none, none, none, none, none, none, none, none]) ?_ ?_; focus exact rfl)))
    refine ⟨_, rfl, fa, f1, rfl, e_y1, fun H2 cl c f2 k2 e2 ncl ecl hc ncf => ?_⟩
    have W2 := W1.pick k2 ⟨f2, e2⟩
    ((try dsimp only); (first | (refine Rg.sg (σ' := [some (.ref d.1), some (.ref B), some (.ref fa), some (.int nr), some (.ref cl), none, none, none, none, none, none, none]) ?_ ?_; focus exact rfl) | (refine Rg.sgG (σ' := [some (.ref d.1), some (.ref B), some (.ref fa), some (.int nr), some (.ref cl), none, none, none, none, none, none, none]) ?_ ?_; focus exact rfl)))
    refine ⟨_, rfl, fa, f2, 8, rfl, e2, by decide, fun at_ f3 at0 at1 _ => ?_⟩
    (generalize he_y3 : upd _ fa _ = H3; obtain ⟨e_y3, k_y3, f_y3⟩ := own_f he_y3; clear he_y3)
    have W3 := W2.pick k_y3 ⟨f3, e_y3⟩
    have ecl3 := k_y3 _ _ ecl (by simpa using ncf)
    obtain ⟨a, rfl⟩ : ∃ a : Nat, at_ = (a : Int) := ⟨at_.toNat, by omega⟩
    have ha : a < 8 := by omega
    have hcl := hc.len
    ((try dsimp only); (first | (refine Rg.sg (σ' := [some (.ref d.1), some (.ref B), some (.ref fa), some (.int nr), some (.ref cl), some (.int (a : Int)), none, none, none, none, none, none]) ?_ ?_; focus exact rfl) | (refine Rg.sgG (σ' := [some (.ref d.1), some (.ref B), some (.ref fa), some (.int nr), some (.ref cl), some (.int (a : Int)), none, none, none, none, none, none]) ?_ ?_; focus exact rfl)))
    refine ⟨_, rfl, _, rfl, _, rfl, cl, _, rfl, .of ecl3, ?_⟩
    (intro q1x n_q1x; generalize he_q1x : upd _ q1x _ = H4; obtain ⟨e_q1x, s_q1x, f_q1x⟩ := new_f he_q1x n_q1x; clear he_q1x)
    refine ⟨_, rfl, by show 1 ≤ sizeLine; decide, ?_⟩
    (intro q2x n_q2x; generalize he_q2x : upd _ q2x _ = H5; obtain ⟨e_q2x, s_q2x, f_q2x⟩ := new_f he_q2x n_q2x; clear he_q2x)
    refine ⟨q1x, q2x, _, _, rfl, rfl, s_q2x _ _ e_q1x, e_q2x, ?_, ?_⟩
    · rw [cutTake]
      refine Nat.le_of_lt (lt_line ?_)
      rw [List.length_take, List.length_map, hcl]
      simp only [List.length_cons, List.length_nil]
      omega
    (intro q3x n_q3x; generalize he_q3x : upd _ q3x _ = H6; obtain ⟨e_q3x, s_q3x, f_q3x⟩ := new_f he_q3x n_q3x; clear he_q3x)
    have s13x := s_q1x.trans (s_q2x.trans s_q3x)
    refine ⟨_, rfl, _, rfl, _, _, rfl, rfl, _, rfl, cl, _, rfl, .of (s13x _ _ ecl3), ?_⟩
    (intro q4x n_q4x; generalize he_q4x : upd _ q4x _ = H7; obtain ⟨e_q4x, s_q4x, f_q4x⟩ := new_f he_q4x n_q4x; clear he_q4x)
    refine ⟨q3x, q4x, _, _, rfl, rfl, s_q4x _ _ e_q3x, e_q4x, ?_, ?_⟩
    · rw [cutTake, show ((a : Int) + 1) = ((a + 1 : Nat) : Int) from rfl, cutDrop]
      refine Nat.le_of_lt (lt_line ?_)
      rw [List.length_append, List.length_take, List.length_drop, List.length_map, hcl]
      simp only [List.length_cons, List.length_nil]
      omega
    (intro q5x n_q5x; generalize he_q5x : upd _ q5x _ = H8; obtain ⟨e_q5x, s_q5x, f_q5x⟩ := new_f he_q5x n_q5x; clear he_q5x)
    have elx : (cutV (c.map V.int) none (some (a : Int)) ++ [V.int (-1)] ++ cutV (c.map V.int) (some ((a : Int) + 1)) none) = (swp c a (-1)).map V.int := by
      rw [cutTake, show ((a : Int) + 1) = ((a + 1 : Nat) : Int) from rfl, cutDrop]
      unfold swp
      rw [List.map_append, List.map_append, List.map_take, List.map_drop]
      rfl
    have eq5x : H8 q5x = some (.lst ((swp c a (-1)).map V.int)) := by rw [← elx]; exact e_q5x
    have s15x := s13x.trans (s_q4x.trans s_q5x)
    have eclx := s15x _ _ ecl3
    ((try dsimp only); (first | (refine Rg.sg (σ' := [some (.ref d.1), some (.ref B), some (.ref fa), some (.int nr), some (.ref cl), some (.int (a : Int)), some (.ref q5x), none, none, none, none, none]) ?_ ?_; focus exact rfl) | (refine Rg.sgG (σ' := [some (.ref d.1), some (.ref B), some (.ref fa), some (.int nr), some (.ref cl), some (.int (a : Int)), some (.ref q5x), none, none, none, none, none]) ?_ ?_; focus exact rfl)))
    refine ⟨_, rfl, _, rfl, _, rfl, cl, _, rfl, .of eclx, ?_⟩
    (intro q1y n_q1y; generalize he_q1y : upd _ q1y _ = H9; obtain ⟨e_q1y, s_q1y, f_q1y⟩ := new_f he_q1y n_q1y; clear he_q1y)
    refine ⟨by show 1 ≤ sizeLine; decide, ?_⟩
    (intro q2y n_q2y; generalize he_q2y : upd _ q2y _ = H10; obtain ⟨e_q2y, s_q2y, f_q2y⟩ := new_f he_q2y n_q2y; clear he_q2y)
    refine ⟨q1y, q2y, _, _, rfl, rfl, s_q2y _ _ e_q1y, e_q2y, ?_, ?_⟩
    · rw [cutTake]
      refine Nat.le_of_lt (lt_line ?_)
      rw [List.length_take, List.length_map, hcl]
      simp only [List.length_cons, List.length_nil]
      omega
    (intro q3y n_q3y; generalize he_q3y : upd _ q3y _ = H11; obtain ⟨e_q3y, s_q3y, f_q3y⟩ := new_f he_q3y n_q3y; clear he_q3y)
    have s13y := s_q1y.trans (s_q2y.trans s_q3y)
    refine ⟨_, rfl, _, rfl, _, _, rfl, rfl, _, rfl, cl, _, rfl, .of (s13y _ _ eclx), ?_⟩
    (intro q4y n_q4y; generalize he_q4y : upd _ q4y _ = H12; obtain ⟨e_q4y, s_q4y, f_q4y⟩ := new_f he_q4y n_q4y; clear he_q4y)
    refine ⟨q3y, q4y, _, _, rfl, rfl, s_q4y _ _ e_q3y, e_q4y, ?_, ?_⟩
    · rw [cutTake, show ((a : Int) + 1) = ((a + 1 : Nat) : Int) from rfl, cutDrop]
      refine Nat.le_of_lt (lt_line ?_)
      rw [List.length_append, List.length_take, List.length_drop, List.length_map, hcl]
      simp only [List.length_cons, List.length_nil]
      omega
    (intro q5y n_q5y; generalize he_q5y : upd _ q5y _ = H13; obtain ⟨e_q5y, s_q5y, f_q5y⟩ := new_f he_q5y n_q5y; clear he_q5y)
    have ely : (cutV (c.map V.int) none (some (a : Int)) ++ [V.int 1000000000] ++ cutV (c.map V.int) (some ((a : Int) + 1)) none) = (swp c a 1000000000).map V.int := by
      rw [cutTake, show ((a : Int) + 1) = ((a + 1 : Nat) : Int) from rfl, cutDrop]
      unfold swp
      rw [List.map_append, List.map_append, List.map_take, List.map_drop]
      rfl
    have eq5y : H13 q5y = some (.lst ((swp c a 1000000000).map V.int)) := by rw [← ely]; exact e_q5y
    have s15y := s13y.trans (s_q4y.trans s_q5y)
    have ecly := s15y _ _ eclx
    ((try dsimp only); (first | (refine Rg.sg (σ' := [some (.ref d.1), some (.ref B), some (.ref fa), some (.int nr), some (.ref cl), some (.int (a : Int)), some (.ref q5x), some (.ref q5y), none, none, none, none]) ?_ ?_; focus exact rfl) | (refine Rg.sgG (σ' := [some (.ref d.1), some (.ref B), some (.ref fa), some (.int nr), some (.ref cl), some (.int (a : Int)), some (.ref q5x), some (.ref q5y), none, none, none, none]) ?_ ?_; focus exact rfl)))
    have S3d := s15x.trans s15y
    have Wd0 := W3.same S3d
    have elow := s15y _ _ eq5x
    have bl := swp_bad (c := c) (a := a) (v := -1) (by omega)
    have bh := swp_bad (c := c) (a := a) (v := 1000000000) (by omega)
    have ll := swp_len (v := -1) hcl ha
    have lh := swp_len (v := 1000000000) hcl ha
    clear S3d elx ely
    -- the places
    (repeat ((fail_if_success (intro _)); first | (refine And.intro ?_ ?_; focus (first | rfl | assumption | exact .of (by assumption) | exact .inl (.of (by assumption)) | exact .inr (by assumption) | exact .inr (.of (by assumption)) | exact kit_ty (by decide +kernel) | exact .ty _ | exact tyT (by assumption) | exact .base (.int _) | (show _ ≤ sizeLine; first | decide | exact Nat.le_of_ble_eq_true rfl | (simp only [List.length_cons, List.length_nil]; decide)) | exact ⟨_, .of (by assumption)⟩ | exact ⟨_, by assumption⟩ | exact DGet.k (by assumption) | (with_reducible show (_ : Int) ≤ _; omega) | (with_reducible show (_ : Int) < _; omega) | (with_reducible show (_ : Nat) ≤ _; omega) | (with_reducible show (_ : Nat) < _; omega) | exact ⟨by decide, by decide⟩ | exact CMul_l (by decide) | exact CMul_r (by decide))) | ((fail_if_success (show ∃ W : Nat → Nat → L2.St → Hp → Prop, _)); apply Exists.intro) | (refine iteT ?_) | (refine iteF ?_) | (refine wT ?_ ?_; focus omega) | (refine wF ?_ ?_; focus omega) | (refine wTv ?_ ?_; focus omega) | (refine wFv ?_ ?_; focus omega) | (refine wNT ?_ ?_; focus omega) | (refine wNF ?_ ?_; focus omega)))
    (intro p1 n_p1; generalize he_p1 : upd _ p1 _ = Hp1; obtain ⟨e_p1, s_p1, f_p1⟩ := new_f he_p1 n_p1; clear he_p1)
    (repeat ((fail_if_success (intro _)); first | (refine And.intro ?_ ?_; focus (first | rfl | assumption | exact .of (by assumption) | exact .inl (.of (by assumption)) | exact .inr (by assumption) | exact .inr (.of (by assumption)) | exact kit_ty (by decide +kernel) | exact .ty _ | exact tyT (by assumption) | exact .base (.int _) | (show _ ≤ sizeLine; first | decide | exact Nat.le_of_ble_eq_true rfl | (simp only [List.length_cons, List.length_nil]; decide)) | exact ⟨_, .of (by assumption)⟩ | exact ⟨_, by assumption⟩ | exact DGet.k (by assumption) | (with_reducible show (_ : Int) ≤ _; omega) | (with_reducible show (_ : Int) < _; omega) | (with_reducible show (_ : Nat) ≤ _; omega) | (with_reducible show (_ : Nat) < _; omega) | exact ⟨by decide, by decide⟩ | exact CMul_l (by decide) | exact CMul_r (by decide))) | ((fail_if_success (show ∃ W : Nat → Nat → L2.St → Hp → Prop, _)); apply Exists.intro) | (refine iteT ?_) | (refine iteF ?_) | (refine wT ?_ ?_; focus omega) | (refine wF ?_ ?_; focus omega) | (refine wTv ?_ ?_; focus omega) | (refine wFv ?_ ?_; focus omega) | (refine wNT ?_ ?_; focus omega) | (refine wNF ?_ ?_; focus omega)))
    (intro p2 n_p2; generalize he_p2 : upd _ p2 _ = Hp2; obtain ⟨e_p2, s_p2, f_p2⟩ := new_f he_p2 n_p2; clear he_p2)
    (repeat ((fail_if_success (intro _)); first | (refine And.intro ?_ ?_; focus (first | rfl | assumption | exact .of (by assumption) | exact .inl (.of (by assumption)) | exact .inr (by assumption) | exact .inr (.of (by assumption)) | exact kit_ty (by decide +kernel) | exact .ty _ | exact tyT (by assumption) | exact .base (.int _) | (show _ ≤ sizeLine; first | decide | exact Nat.le_of_ble_eq_true rfl | (simp only [List.length_cons, List.length_nil]; decide)) | exact ⟨_, .of (by assumption)⟩ | exact ⟨_, by assumption⟩ | exact DGet.k (by assumption) | (with_reducible show (_ : Int) ≤ _; omega) | (with_reducible show (_ : Int) < _; omega) | (with_reducible show (_ : Nat) ≤ _; omega) | (with_reducible show (_ : Nat) < _; omega) | exact ⟨by decide, by decide⟩ | exact CMul_l (by decide) | exact CMul_r (by decide))) | ((fail_if_success (show ∃ W : Nat → Nat → L2.St → Hp → Prop, _)); apply Exists.intro) | (refine iteT ?_) | (refine iteF ?_) | (refine wT ?_ ?_; focus omega) | (refine wF ?_ ?_; focus omega) | (refine wTv ?_ ?_; focus omega) | (refine wFv ?_ ?_; focus omega) | (refine wNT ?_ ?_; focus omega) | (refine wNF ?_ ?_; focus omega)))
    (intro p3 n_p3; generalize he_p3 : upd _ p3 _ = Hp3; obtain ⟨e_p3, s_p3, f_p3⟩ := new_f he_p3 n_p3; clear he_p3)
    (repeat ((fail_if_success (intro _)); first | (refine And.intro ?_ ?_; focus (first | rfl | assumption | exact .of (by assumption) | exact .inl (.of (by assumption)) | exact .inr (by assumption) | exact .inr (.of (by assumption)) | exact kit_ty (by decide +kernel) | exact .ty _ | exact tyT (by assumption) | exact .base (.int _) | (show _ ≤ sizeLine; first | decide | exact Nat.le_of_ble_eq_true rfl | (simp only [List.length_cons, List.length_nil]; decide)) | exact ⟨_, .of (by assumption)⟩ | exact ⟨_, by assumption⟩ | exact DGet.k (by assumption) | (with_reducible show (_ : Int) ≤ _; omega) | (with_reducible show (_ : Int) < _; omega) | (with_reducible show (_ : Nat) ≤ _; omega) | (with_reducible show (_ : Nat) < _; omega) | exact ⟨by decide, by decide⟩ | exact CMul_l (by decide) | exact CMul_r (by decide))) | ((fail_if_success (show ∃ W : Nat → Nat → L2.St → Hp → Prop, _)); apply Exists.intro) | (refine iteT ?_) | (refine iteF ?_) | (refine wT ?_ ?_; focus omega) | (refine wF ?_ ?_; focus omega) | (refine wTv ?_ ?_; focus omega) | (refine wFv ?_ ?_; focus omega) | (refine wNT ?_ ?_; focus omega) | (refine wNF ?_ ?_; focus omega)))
    (intro p4 n_p4; generalize he_p4 : upd _ p4 _ = Hp4; obtain ⟨e_p4, s_p4, f_p4⟩ := new_f he_p4 n_p4; clear he_p4)
    (repeat ((fail_if_success (intro _)); first | (refine And.intro ?_ ?_; focus (first | rfl | assumption | exact .of (by assumption) | exact .inl (.of (by assumption)) | exact .inr (by assumption) | exact .inr (.of (by assumption)) | exact kit_ty (by decide +kernel) | exact .ty _ | exact tyT (by assumption) | exact .base (.int _) | (show _ ≤ sizeLine; first | decide | exact Nat.le_of_ble_eq_true rfl | (simp only [List.length_cons, List.length_nil]; decide)) | exact ⟨_, .of (by assumption)⟩ | exact ⟨_, by assumption⟩ | exact DGet.k (by assumption) | (with_reducible show (_ : Int) ≤ _; omega) | (with_reducible show (_ : Int) < _; omega) | (with_reducible show (_ : Nat) ≤ _; omega) | (with_reducible show (_ : Nat) < _; omega) | exact ⟨by decide, by decide⟩ | exact CMul_l (by decide) | exact CMul_r (by decide))) | ((fail_if_success (show ∃ W : Nat → Nat → L2.St → Hp → Prop, _)); apply Exists.intro) | (refine iteT ?_) | (refine iteF ?_) | (refine wT ?_ ?_; focus omega) | (refine wF ?_ ?_; focus omega) | (refine wTv ?_ ?_; focus omega) | (refine wFv ?_ ?_; focus omega) | (refine wNT ?_ ?_; focus omega) | (refine wNF ?_ ?_; focus omega)))
    (intro p5 n_p5; generalize he_p5 : upd _ p5 _ = Hp5; obtain ⟨e_p5, s_p5, f_p5⟩ := new_f he_p5 n_p5; clear he_p5)
    (repeat ((fail_if_success (intro _)); first | (refine And.intro ?_ ?_; focus (first | rfl | assumption | exact .of (by assumption) | exact .inl (.of (by assumption)) | exact .inr (by assumption) | exact .inr (.of (by assumption)) | exact kit_ty (by decide +kernel) | exact .ty _ | exact tyT (by assumption) | exact .base (.int _) | (show _ ≤ sizeLine; first | decide | exact Nat.le_of_ble_eq_true rfl | (simp only [List.length_cons, List.length_nil]; decide)) | exact ⟨_, .of (by assumption)⟩ | exact ⟨_, by assumption⟩ | exact DGet.k (by assumption) | (with_reducible show (_ : Int) ≤ _; omega) | (with_reducible show (_ : Int) < _; omega) | (with_reducible show (_ : Nat) ≤ _; omega) | (with_reducible show (_ : Nat) < _; omega) | exact ⟨by decide, by decide⟩ | exact CMul_l (by decide) | exact CMul_r (by decide))) | ((fail_if_success (show ∃ W : Nat → Nat → L2.St → Hp → Prop, _)); apply Exists.intro) | (refine iteT ?_) | (refine iteF ?_) | (refine wT ?_ ?_; focus omega) | (refine wF ?_ ?_; focus omega) | (refine wTv ?_ ?_; focus omega) | (refine wFv ?_ ?_; focus omega) | (refine wNT ?_ ?_; focus omega) | (refine wNF ?_ ?_; focus omega)))
    (intro p6 n_p6; generalize he_p6 : upd _ p6 _ = Hp6; obtain ⟨e_p6, s_p6, f_p6⟩ := new_f he_p6 n_p6; clear he_p6)
    (repeat ((fail_if_success (intro _)); first | (refine And.intro ?_ ?_; focus (first | rfl | assumption | exact .of (by assumption) | exact .inl (.of (by assumption)) | exact .inr (by assumption) | exact .inr (.of (by assumption)) | exact kit_ty (by decide +kernel) | exact .ty _ | exact tyT (by assumption) | exact .base (.int _) | (show _ ≤ sizeLine; first | decide | exact Nat.le_of_ble_eq_true rfl | (simp only [List.length_cons, List.length_nil]; decide)) | exact ⟨_, .of (by assumption)⟩ | exact ⟨_, by assumption⟩ | exact DGet.k (by assumption) | (with_reducible show (_ : Int) ≤ _; omega) | (with_reducible show (_ : Int) < _; omega) | (with_reducible show (_ : Nat) ≤ _; omega) | (with_reducible show (_ : Nat) < _; omega) | exact ⟨by decide, by decide⟩ | exact CMul_l (by decide) | exact CMul_r (by decide))) | ((fail_if_success (show ∃ W : Nat → Nat → L2.St → Hp → Prop, _)); apply Exists.intro) | (refine iteT ?_) | (refine iteF ?_) | (refine wT ?_ ?_; focus omega) | (refine wF ?_ ?_; focus omega) | (refine wTv ?_ ?_; focus omega) | (refine wFv ?_ ?_; focus omega) | (refine wNT ?_ ?_; focus omega) | (refine wNF ?_ ?_; focus omega)))
    (intro pl n_pl; generalize he_pl : upd _ pl _ = Hp7; obtain ⟨e_pl, s_pl, f_pl⟩ := new_f he_pl n_pl; clear he_pl)
    have S17 := s_p2.trans (s_p3.trans (s_p4.trans (s_p5.trans (s_p6.trans s_pl))))
    have S27 := s_p3.trans (s_p4.trans (s_p5.trans (s_p6.trans s_pl)))
    have S37 := s_p4.trans (s_p5.trans (s_p6.trans s_pl))
    have S47 := s_p5.trans (s_p6.trans s_pl)
    have S57 := s_p6.trans s_pl
    have bp : ∀ x ∈ [p1, p2, p3, p4, p5, p6], ∃ xs, SqT K Hp7 x xs ∧ BadPl 24 30 xs := fun x hx => by
      simp only [List.mem_cons, List.not_mem_nil, or_false] at hx
      rcases hx with e | e | e | e | e | e <;> rw [e]
      · exact ⟨_, .of (S17 _ _ e_p1), .inr ⟨24 + nr, .inl ⟨rfl, by omega⟩⟩⟩
      · exact ⟨_, .of (S27 _ _ e_p2), .inr ⟨-1 - nr, .inl ⟨rfl, by omega⟩⟩⟩
      · exact ⟨_, .of (S37 _ _ e_p3), .inr ⟨-1 - nr, .inr (.inl ⟨rfl, by omega⟩)⟩⟩
      · exact ⟨_, .of (S47 _ _ e_p4), .inr ⟨30 + nr, .inr (.inl ⟨rfl, by omega⟩)⟩⟩
      · exact ⟨_, .of (S57 _ _ e_p5), .inr ⟨nr, .inr (.inr rfl)⟩⟩
      · exact ⟨_, .of (s_pl _ _ e_p6), .inl (by simp only [List.length_cons, List.length_nil]; decide)⟩
    have W7 := Wd0.same (s_p1.trans S17)
    have ecl7 := (s_p1.trans S17) _ _ ecly
    have elow7 := (s_p1.trans S17) _ _ elow
    have ehig7 := (s_p1.trans S17) _ _ eq5y
    have epl7 : Hp7 pl = some (.lst ([p1, p2, p3, p4, p5, p6].map V.ref)) := e_pl
    have t7 := W7.t
    have n7 : ([p1, p2, p3, p4, p5, p6] : List Addr).length < 100 := by simp only [List.length_cons, List.length_nil]; decide
    generalize ([p1, p2, p3, p4, p5, p6] : List Addr) = Lp at bp epl7 n7
    clear S17 S27 S37 S47 S57 e_pl e_p1 e_p2 e_p3 e_p4 e_p5 e_p6 s_p1 s_p2 s_p3 s_p4 s_p5 s_p6 s_pl
    refine ⟨pl, rfl, ⟨_, .of epl7⟩, for_list (K := K) (a := pl) (xs := Lp.map V.ref) (fun i σ H' => ∃ u8 : Option V, σ = [some (.ref d.1), some (.ref B), some (.ref fa), some (.int nr), some (.ref cl), some (.int (a : Int)), some (.ref q5x), some (.ref q5y), u8, none, none, none] ∧ Tk T.Ps Hp7 H') ⟨none, rfl, .of t7 (Same.refl _)⟩ (fun i σ H' _ ⟨_, _, kt⟩ => .of (kt.at t7 epl7)) ?_ ?_⟩
    · rintro i y σ H' hi ⟨u8, rfl, kt⟩
      rw [List.getElem?_map] at hi
      obtain ⟨px, hx, rfl⟩ := Option.map_eq_some_iff.mp hi
      obtain ⟨xs, hs1, hb⟩ := bp px (List.mem_of_getElem? hx)
      ((try dsimp only); (first | (refine Rg.sg (σ' := [some (.ref d.1), some (.ref B), some (.ref fa), some (.int nr), some (.ref cl), some (.int (a : Int)), some (.ref q5x), some (.ref q5y), some (.ref px), none, none, none]) ?_ ?_; focus exact rfl) | (refine Rg.sgG (σ' := [some (.ref d.1), some (.ref B), some (.ref fa), some (.int nr), some (.ref cl), some (.int (a : Int)), some (.ref q5x), some (.ref q5y), some (.ref px), none, none, none]) ?_ ?_; focus exact rfl)))
      obtain ⟨hs, gs, ps, Dk⟩ := (W7.tk kt).dk
      refine ⟨_, rfl, _, rfl, _, rfl, d.1, px, cl, d.2, 24, 5, 30, M.hd, M.la, hs, gs, _, rfl, Dk.D, kt.tab, .inl ⟨xs, kt.seqT t7 hs1, hb⟩, fun H2 k2 => ⟨_, rfl, iteF ?_⟩⟩
      have kt2 := kt.trans k2
      refine ⟨_, rfl, _, rfl, ?_⟩
      (repeat ((fail_if_success (intro _)); first | (refine And.intro ?_ ?_; focus (first | rfl | assumption | exact .of (by assumption) | exact .inl (.of (by assumption)) | exact .inr (by assumption) | exact .inr (.of (by assumption)) | exact kit_ty (by decide +kernel) | exact .ty _ | exact tyT (by assumption) | exact .base (.int _) | (show _ ≤ sizeLine; first | decide | exact Nat.le_of_ble_eq_true rfl | (simp only [List.length_cons, List.length_nil]; decide)) | exact ⟨_, .of (by assumption)⟩ | exact ⟨_, by assumption⟩ | exact DGet.k (by assumption) | (with_reducible show (_ : Int) ≤ _; omega) | (with_reducible show (_ : Int) < _; omega) | (with_reducible show (_ : Nat) ≤ _; omega) | (with_reducible show (_ : Nat) < _; omega) | exact ⟨by decide, by decide⟩ | exact CMul_l (by decide) | exact CMul_r (by decide))) | ((fail_if_success (show ∃ W : Nat → Nat → L2.St → Hp → Prop, _)); apply Exists.intro) | (refine iteT ?_) | (refine iteF ?_) | (refine wT ?_ ?_; focus omega) | (refine wF ?_ ?_; focus omega) | (refine wTv ?_ ?_; focus omega) | (refine wFv ?_ ?_; focus omega) | (refine wNT ?_ ?_; focus omega) | (refine wNF ?_ ?_; focus omega)))
      (intro e1 n_e1; generalize he_e1 : upd _ e1 _ = He1; obtain ⟨e_e1, s_e1, f_e1⟩ := new_f he_e1 n_e1; clear he_e1)
      (repeat ((fail_if_success (intro _)); first | (refine And.intro ?_ ?_; focus (first | rfl | assumption | exact .of (by assumption) | exact .inl (.of (by assumption)) | exact .inr (by assumption) | exact .inr (.of (by assumption)) | exact kit_ty (by decide +kernel) | exact .ty _ | exact tyT (by assumption) | exact .base (.int _) | (show _ ≤ sizeLine; first | decide | exact Nat.le_of_ble_eq_true rfl | (simp only [List.length_cons, List.length_nil]; decide)) | exact ⟨_, .of (by assumption)⟩ | exact ⟨_, by assumption⟩ | exact DGet.k (by assumption) | (with_reducible show (_ : Int) ≤ _; omega) | (with_reducible show (_ : Int) < _; omega) | (with_reducible show (_ : Nat) ≤ _; omega) | (with_reducible show (_ : Nat) < _; omega) | exact ⟨by decide, by decide⟩ | exact CMul_l (by decide) | exact CMul_r (by decide))) | ((fail_if_success (show ∃ W : Nat → Nat → L2.St → Hp → Prop, _)); apply Exists.intro) | (refine iteT ?_) | (refine iteF ?_) | (refine wT ?_ ?_; focus omega) | (refine wF ?_ ?_; focus omega) | (refine wTv ?_ ?_; focus omega) | (refine wFv ?_ ?_; focus omega) | (refine wNT ?_ ?_; focus omega) | (refine wNF ?_ ?_; focus omega)))
      (intro e2 n_e2; generalize he_e2 : upd _ e2 _ = He2; obtain ⟨e_e2, s_e2, f_e2⟩ := new_f he_e2 n_e2; clear he_e2)
      (repeat ((fail_if_success (intro _)); first | (refine And.intro ?_ ?_; focus (first | rfl | assumption | exact .of (by assumption) | exact .inl (.of (by assumption)) | exact .inr (by assumption) | exact .inr (.of (by assumption)) | exact kit_ty (by decide +kernel) | exact .ty _ | exact tyT (by assumption) | exact .base (.int _) | (show _ ≤ sizeLine; first | decide | exact Nat.le_of_ble_eq_true rfl | (simp only [List.length_cons, List.length_nil]; decide)) | exact ⟨_, .of (by assumption)⟩ | exact ⟨_, by assumption⟩ | exact DGet.k (by assumption) | (with_reducible show (_ : Int) ≤ _; omega) | (with_reducible show (_ : Int) < _; omega) | (with_reducible show (_ : Nat) ≤ _; omega) | (with_reducible show (_ : Nat) < _; omega) | exact ⟨by decide, by decide⟩ | exact CMul_l (by decide) | exact CMul_r (by decide))) | ((fail_if_success (show ∃ W : Nat → Nat → L2.St → Hp → Prop, _)); apply Exists.intro) | (refine iteT ?_) | (refine iteF ?_) | (refine wT ?_ ?_; focus omega) | (refine wF ?_ ?_; focus omega) | (refine wTv ?_ ?_; focus omega) | (refine wFv ?_ ?_; focus omega) | (refine wNT ?_ ?_; focus omega) | (refine wNF ?_ ?_; focus omega)))
      (intro e3 n_e3; generalize he_e3 : upd _ e3 _ = He3; obtain ⟨e_e3, s_e3, f_e3⟩ := new_f he_e3 n_e3; clear he_e3)
      have kt3 : Tk T.Ps Hp7 He3 := kt2.trans (.of kt2.tab (s_e1.trans (s_e2.trans s_e3)))
      clear Dk
      obtain ⟨hs, gs, ps, Dk⟩ := (W7.tk kt3).dk
      refine ⟨d.1, px, e3, d.2, 24, 5, 30, M.hd, M.la, hs, gs, _, rfl, Dk.D, kt3.tab, .inl ⟨xs, kt3.seqT t7 hs1, hb⟩, fun H2 k2 => ⟨_, rfl, iteF ?_⟩⟩
      exact ⟨_, rfl, kt3.trans k2⟩
    rintro σ Hq ⟨u8, rfl, kq⟩
    have Wq := W7.tk kq
    have tq := Wq.t
    have eclq := kq.at t7 ecl7
    have elowq := kq.at t7 elow7
    have ehigq := kq.at t7 ehig7
    clear Wd0 W7 bp n7 kq
    -- the contents
    refine ⟨_, rfl, _, rfl, _, rfl, q5x, _, rfl, .inl ⟨.of elowq, fun w1 n_w1 => ?_⟩⟩
    (generalize he_w1 : upd _ w1 _ = Hr1; obtain ⟨e_w1, s_w1, f_w1⟩ := new_f he_w1 n_w1; clear he_w1)
    refine ⟨_, rfl, _, rfl, cl, _, rfl, .of (s_w1 _ _ eclq), ?_⟩
    (intro w2 n_w2; generalize he_w2 : upd _ w2 _ = Hr2; obtain ⟨e_w2, s_w2, f_w2⟩ := new_f he_w2 n_w2; clear he_w2)
    have eclr := s_w2 _ _ (s_w1 _ _ eclq)
    refine ⟨_, rfl, by show 1 ≤ sizeLine; decide, ?_⟩
    (intro w3 n_w3; generalize he_w3 : upd _ w3 _ = Hr3; obtain ⟨e_w3, s_w3, f_w3⟩ := new_f he_w3 n_w3; clear he_w3)
    refine ⟨cl, w3, _, _, rfl, rfl, s_w3 _ _ eclr, e_w3, ?_, ?_⟩
    · refine Nat.le_of_lt (lt_line ?_)
      rw [List.length_map, hcl]
      simp only [List.length_cons, List.length_nil]
      omega
    (intro w4 n_w4; generalize he_w4 : upd _ w4 _ = Hr4; obtain ⟨e_w4, s_w4, f_w4⟩ := new_f he_w4 n_w4; clear he_w4)
    refine ⟨by show 0 ≤ sizeLine; decide, ?_⟩
    (intro w5 n_w5; generalize he_w5 : upd _ w5 _ = Hr5; obtain ⟨e_w5, s_w5, f_w5⟩ := new_f he_w5 n_w5; clear he_w5)
    refine ⟨_, rfl, cl, _, rfl, .inl ⟨.of (s_w5 _ _ (s_w4 _ _ (s_w3 _ _ eclr))), fun w6 n_w6 => ?_⟩⟩
    (generalize he_w6 : upd _ w6 _ = Hr6; obtain ⟨e_w6, s_w6, f_w6⟩ := new_f he_w6 n_w6; clear he_w6)
    refine ⟨by show 4 ≤ sizeLine; decide, ?_⟩
    (intro w7 n_w7; generalize he_w7 : upd _ w7 _ = Hr7; obtain ⟨e_w7, s_w7, f_w7⟩ := new_f he_w7 n_w7; clear he_w7)
    refine ⟨by show 7 ≤ sizeLine; decide, ?_⟩
    (intro wl n_wl; generalize he_wl : upd _ wl _ = Hs; obtain ⟨e_wl, s_wl, f_wl⟩ := new_f he_wl n_wl; clear he_wl)
    have T27 := s_w3.trans (s_w4.trans (s_w5.trans (s_w6.trans (s_w7.trans s_wl))))
    have T37 := s_w4.trans (s_w5.trans (s_w6.trans (s_w7.trans s_wl)))
    have T47 := s_w5.trans (s_w6.trans (s_w7.trans s_wl))
    have T57 := s_w6.trans (s_w7.trans s_wl)
    have T67 := s_w7.trans s_wl
    have T17 := s_w2.trans T27
    have T07 := s_w1.trans T17
    have bw : ∀ x ∈ [q5x, q5y, w1, w2, w4, w5, w7], ∃ xs, (SqT K Hs x xs ∨ Hs x = some (.lst xs)) ∧ BadRow xs := fun x hx => by
      simp only [List.mem_cons, List.not_mem_nil, or_false] at hx
      rcases hx with e | e | e | e | e | e | e <;> rw [e]
      · exact ⟨_, .inr (T07 _ _ elowq), .inr ⟨_, rfl, bl⟩⟩
      · exact ⟨_, .inr (T07 _ _ ehigq), .inr ⟨_, rfl, bh⟩⟩
      · exact ⟨_, .inl (.of (T17 _ _ e_w1)), .inr ⟨_, rfl, bl⟩⟩
      · refine ⟨_, .inr (T27 _ _ e_w2), .inl ?_⟩
        rw [show (7 : Int) = ((7 : Nat) : Int) from rfl, cutTake, List.length_take, List.length_map, hcl]
        decide
      · refine ⟨_, .inr (T47 _ _ e_w4), .inl ?_⟩
        rw [List.length_append, List.length_map, hcl]
        simp only [List.length_cons, List.length_nil]
        decide
      · exact ⟨_, .inr (T57 _ _ e_w5), .inl (by simp only [List.length_nil]; decide)⟩
      · exact ⟨_, .inl (.of (s_wl _ _ e_w7)), .inl (by simp only [List.length_cons, List.length_nil]; decide)⟩
    have W7 := Wq.same T07
    have ecl7 := T07 _ _ eclq
    have ewl7 : Hs wl = some (.lst ([q5x, q5y, w1, w2, w4, w5, w7].map V.ref)) := e_wl
    have t7 := W7.t
    generalize ([q5x, q5y, w1, w2, w4, w5, w7] : List Addr) = Lp at bw ewl7
    clear T07 T17 T27 T37 T47 T57 T67 e_wl e_w1 e_w2 e_w3 e_w4 e_w5 e_w6 e_w7 s_w1 s_w2 s_w3 s_w4 s_w5 s_w6 s_w7 s_wl elow ehig7 elow7 elowq ehigq ecl3 eclr eq5x eq5y
    refine ⟨wl, rfl, ⟨_, .of ewl7⟩, for_list (K := K) (a := wl) (xs := Lp.map V.ref) (fun i σ H' => ∃ u9 : Option V, σ = [some (.ref d.1), some (.ref B), some (.ref fa), some (.int nr), some (.ref cl), some (.int (a : Int)), some (.ref q5x), some (.ref q5y), u8, u9, none, none] ∧ Tk T.Ps Hs H') ⟨none, rfl, .of t7 (Same.refl _)⟩ (fun i σ H' _ ⟨_, _, kt⟩ => .of (kt.at t7 ewl7)) ?_ ?_⟩
    · rintro i y σ H' hi ⟨u9, rfl, kt⟩
      rw [List.getElem?_map] at hi
      obtain ⟨px, hx, rfl⟩ := Option.map_eq_some_iff.mp hi
      obtain ⟨xs, hs1, hb⟩ := bw px (List.mem_of_getElem? hx)
      ((try dsimp only); (first | (refine Rg.sg (σ' := [some (.ref d.1), some (.ref B), some (.ref fa), some (.int nr), some (.ref cl), some (.int (a : Int)), some (.ref q5x), some (.ref q5y), u8, some (.ref px), none, none]) ?_ ?_; focus exact rfl) | (refine Rg.sgG (σ' := [some (.ref d.1), some (.ref B), some (.ref fa), some (.int nr), some (.ref cl), some (.int (a : Int)), some (.ref q5x), some (.ref q5y), u8, some (.ref px), none, none]) ?_ ?_; focus exact rfl)))
      refine ⟨_, rfl, _, rfl, .inl ⟨_, rfl, _, _, rfl, rfl, (by show (0 : Int) < 3; decide), _, _, rfl, rfl, by show 2 ≤ sizeLine; decide, ?_⟩⟩
      (intro e1 n_e1; generalize he_e1 : upd _ e1 _ = He1; obtain ⟨e_e1, s_e1, f_e1⟩ := new_f he_e1 n_e1; clear he_e1)
      have kt3 : Tk T.Ps Hs He1 := kt.trans (.of kt.tab s_e1)
      obtain ⟨hs, gs, ps, Dk⟩ := (W7.tk kt3).dk
      have hq : PlcAt K He1 e1 (.home (21 + nr % 3)) := .of e_e1
      refine ⟨_, rfl, d.1, e1, px, d.2, 24, 5, 30, M.hd, M.la, hs, gs, _, rfl, Dk.D, kt3.tab, .inr ⟨.home (21 + nr % 3), hq, ⟨by omega, by omega⟩, ⟨xs, seqK t7 kt3 hs1, hb⟩⟩, fun H2 k2 => ⟨_, rfl, iteF ?_⟩⟩
      exact ⟨_, rfl, kt3.trans k2⟩
    rintro σ Ht ⟨u9, rfl, kq⟩
    have Wt := W7.tk kq
    have eclt := kq.at t7 ecl7
    clear bw Wq W7 t7 kq tq eclq
    -- the records
    refine ⟨_, rfl, cl, _, rfl, .inl ⟨.of eclt, fun wh n_wh => ?_⟩⟩
    (generalize he_wh : upd _ wh _ = Hu; obtain ⟨e_wh, s_wh, f_wh⟩ := new_f he_wh n_wh; clear he_wh)
    ((try dsimp only); (first | (refine Rg.sg (σ' := [some (.ref d.1), some (.ref B), some (.ref fa), some (.int nr), some (.ref cl), some (.int (a : Int)), some (.ref q5x), some (.ref q5y), u8, u9, some (.ref wh), none]) ?_ ?_; focus exact rfl) | (refine Rg.sgG (σ' := [some (.ref d.1), some (.ref B), some (.ref fa), some (.int nr), some (.ref cl), some (.int (a : Int)), some (.ref q5x), some (.ref q5y), u8, u9, some (.ref wh), none]) ?_ ?_; focus exact rfl)))
    (repeat ((fail_if_success (intro _)); first | (refine And.intro ?_ ?_; focus (first | rfl | assumption | exact .of (by assumption) | exact .inl (.of (by assumption)) | exact .inr (by assumption) | exact .inr (.of (by assumption)) | exact kit_ty (by decide +kernel) | exact .ty _ | exact tyT (by assumption) | exact .base (.int _) | (show _ ≤ sizeLine; first | decide | exact Nat.le_of_ble_eq_true rfl | (simp only [List.length_cons, List.length_nil]; decide)) | exact ⟨_, .of (by assumption)⟩ | exact ⟨_, by assumption⟩ | exact DGet.k (by assumption) | (with_reducible show (_ : Int) ≤ _; omega) | (with_reducible show (_ : Int) < _; omega) | (with_reducible show (_ : Nat) ≤ _; omega) | (with_reducible show (_ : Nat) < _; omega) | exact ⟨by decide, by decide⟩ | exact CMul_l (by decide) | exact CMul_r (by decide))) | ((fail_if_success (show ∃ W : Nat → Nat → L2.St → Hp → Prop, _)); apply Exists.intro) | (refine iteT ?_) | (refine iteF ?_) | (refine wT ?_ ?_; focus omega) | (refine wF ?_ ?_; focus omega) | (refine wTv ?_ ?_; focus omega) | (refine wFv ?_ ?_; focus omega) | (refine wNT ?_ ?_; focus omega) | (refine wNF ?_ ?_; focus omega)))
    (intro r1 n_r1; generalize he_r1 : upd _ r1 _ = Hu1; obtain ⟨e_r1, s_r1, f_r1⟩ := new_f he_r1 n_r1; clear he_r1)
    (repeat ((fail_if_success (intro _)); first | (refine And.intro ?_ ?_; focus (first | rfl | assumption | exact .of (by assumption) | exact .inl (.of (by assumption)) | exact .inr (by assumption) | exact .inr (.of (by assumption)) | exact kit_ty (by decide +kernel) | exact .ty _ | exact tyT (by assumption) | exact .base (.int _) | (show _ ≤ sizeLine; first | decide | exact Nat.le_of_ble_eq_true rfl | (simp only [List.length_cons, List.length_nil]; decide)) | exact ⟨_, .of (by assumption)⟩ | exact ⟨_, by assumption⟩ | exact DGet.k (by assumption) | (with_reducible show (_ : Int) ≤ _; omega) | (with_reducible show (_ : Int) < _; omega) | (with_reducible show (_ : Nat) ≤ _; omega) | (with_reducible show (_ : Nat) < _; omega) | exact ⟨by decide, by decide⟩ | exact CMul_l (by decide) | exact CMul_r (by decide))) | ((fail_if_success (show ∃ W : Nat → Nat → L2.St → Hp → Prop, _)); apply Exists.intro) | (refine iteT ?_) | (refine iteF ?_) | (refine wT ?_ ?_; focus omega) | (refine wF ?_ ?_; focus omega) | (refine wTv ?_ ?_; focus omega) | (refine wFv ?_ ?_; focus omega) | (refine wNT ?_ ?_; focus omega) | (refine wNF ?_ ?_; focus omega)))
    (intro r2 n_r2; generalize he_r2 : upd _ r2 _ = Hu2; obtain ⟨e_r2, s_r2, f_r2⟩ := new_f he_r2 n_r2; clear he_r2)
    (repeat ((fail_if_success (intro _)); first | (refine And.intro ?_ ?_; focus (first | rfl | assumption | exact .of (by assumption) | exact .inl (.of (by assumption)) | exact .inr (by assumption) | exact .inr (.of (by assumption)) | exact kit_ty (by decide +kernel) | exact .ty _ | exact tyT (by assumption) | exact .base (.int _) | (show _ ≤ sizeLine; first | decide | exact Nat.le_of_ble_eq_true rfl | (simp only [List.length_cons, List.length_nil]; decide)) | exact ⟨_, .of (by assumption)⟩ | exact ⟨_, by assumption⟩ | exact DGet.k (by assumption) | (with_reducible show (_ : Int) ≤ _; omega) | (with_reducible show (_ : Int) < _; omega) | (with_reducible show (_ : Nat) ≤ _; omega) | (with_reducible show (_ : Nat) < _; omega) | exact ⟨by decide, by decide⟩ | exact CMul_l (by decide) | exact CMul_r (by decide))) | ((fail_if_success (show ∃ W : Nat → Nat → L2.St → Hp → Prop, _)); apply Exists.intro) | (refine iteT ?_) | (refine iteF ?_) | (refine wT ?_ ?_; focus omega) | (refine wF ?_ ?_; focus omega) | (refine wTv ?_ ?_; focus omega) | (refine wFv ?_ ?_; focus omega) | (refine wNT ?_ ?_; focus omega) | (refine wNF ?_ ?_; focus omega)))
    (intro r3 n_r3; generalize he_r3 : upd _ r3 _ = Hu3; obtain ⟨e_r3, s_r3, f_r3⟩ := new_f he_r3 n_r3; clear he_r3)
    (repeat ((fail_if_success (intro _)); first | (refine And.intro ?_ ?_; focus (first | rfl | assumption | exact .of (by assumption) | exact .inl (.of (by assumption)) | exact .inr (by assumption) | exact .inr (.of (by assumption)) | exact kit_ty (by decide +kernel) | exact .ty _ | exact tyT (by assumption) | exact .base (.int _) | (show _ ≤ sizeLine; first | decide | exact Nat.le_of_ble_eq_true rfl | (simp only [List.length_cons, List.length_nil]; decide)) | exact ⟨_, .of (by assumption)⟩ | exact ⟨_, by assumption⟩ | exact DGet.k (by assumption) | (with_reducible show (_ : Int) ≤ _; omega) | (with_reducible show (_ : Int) < _; omega) | (with_reducible show (_ : Nat) ≤ _; omega) | (with_reducible show (_ : Nat) < _; omega) | exact ⟨by decide, by decide⟩ | exact CMul_l (by decide) | exact CMul_r (by decide))) | ((fail_if_success (show ∃ W : Nat → Nat → L2.St → Hp → Prop, _)); apply Exists.intro) | (refine iteT ?_) | (refine iteF ?_) | (refine wT ?_ ?_; focus omega) | (refine wF ?_ ?_; focus omega) | (refine wTv ?_ ?_; focus omega) | (refine wFv ?_ ?_; focus omega) | (refine wNT ?_ ?_; focus omega) | (refine wNF ?_ ?_; focus omega)))
    (intro r4 n_r4; generalize he_r4 : upd _ r4 _ = Hu4; obtain ⟨e_r4, s_r4, f_r4⟩ := new_f he_r4 n_r4; clear he_r4)
    (repeat ((fail_if_success (intro _)); first | (refine And.intro ?_ ?_; focus (first | rfl | assumption | exact .of (by assumption) | exact .inl (.of (by assumption)) | exact .inr (by assumption) | exact .inr (.of (by assumption)) | exact kit_ty (by decide +kernel) | exact .ty _ | exact tyT (by assumption) | exact .base (.int _) | (show _ ≤ sizeLine; first | decide | exact Nat.le_of_ble_eq_true rfl | (simp only [List.length_cons, List.length_nil]; decide)) | exact ⟨_, .of (by assumption)⟩ | exact ⟨_, by assumption⟩ | exact DGet.k (by assumption) | (with_reducible show (_ : Int) ≤ _; omega) | (with_reducible show (_ : Int) < _; omega) | (with_reducible show (_ : Nat) ≤ _; omega) | (with_reducible show (_ : Nat) < _; omega) | exact ⟨by decide, by decide⟩ | exact CMul_l (by decide) | exact CMul_r (by decide))) | ((fail_if_success (show ∃ W : Nat → Nat → L2.St → Hp → Prop, _)); apply Exists.intro) | (refine iteT ?_) | (refine iteF ?_) | (refine wT ?_ ?_; focus omega) | (refine wF ?_ ?_; focus omega) | (refine wTv ?_ ?_; focus omega) | (refine wFv ?_ ?_; focus omega) | (refine wNT ?_ ?_; focus omega) | (refine wNF ?_ ?_; focus omega)))
    (intro rl n_rl; generalize he_rl : upd _ rl _ = Hu5; obtain ⟨e_rl, s_rl, f_rl⟩ := new_f he_rl n_rl; clear he_rl)
    ((try dsimp only); (first | (refine Rg.sg (σ' := [some (.ref d.1), some (.ref B), some (.ref fa), some (.int nr), some (.ref cl), some (.int (a : Int)), some (.ref q5x), some (.ref q5y), u8, u9, some (.ref wh), some (.ref rl)]) ?_ ?_; focus exact rfl) | (refine Rg.sgG (σ' := [some (.ref d.1), some (.ref B), some (.ref fa), some (.int nr), some (.ref cl), some (.int (a : Int)), some (.ref q5x), some (.ref q5y), u8, u9, some (.ref wh), some (.ref rl)]) ?_ ?_; focus exact rfl)))
    have e_rl : Hu5 rl = some (.lst [.ref cl, .ref r1, .ref r2, .ref r3, .ref r4]) := e_rl
    refine ⟨_, rfl, .inl ⟨rfl, _, .inl (.inl e_rl)⟩, ?_⟩
    (repeat ((fail_if_success (intro _)); first | (refine And.intro ?_ ?_; focus (first | rfl | assumption | exact .of (by assumption) | exact .inl (.of (by assumption)) | exact .inr (by assumption) | exact .inr (.of (by assumption)) | exact kit_ty (by decide +kernel) | exact .ty _ | exact tyT (by assumption) | exact .base (.int _) | (show _ ≤ sizeLine; first | decide | exact Nat.le_of_ble_eq_true rfl | (simp only [List.length_cons, List.length_nil]; decide)) | exact ⟨_, .of (by assumption)⟩ | exact ⟨_, by assumption⟩ | exact DGet.k (by assumption) | (with_reducible show (_ : Int) ≤ _; omega) | (with_reducible show (_ : Int) < _; omega) | (with_reducible show (_ : Nat) ≤ _; omega) | (with_reducible show (_ : Nat) < _; omega) | exact ⟨by decide, by decide⟩ | exact CMul_l (by decide) | exact CMul_r (by decide))) | ((fail_if_success (show ∃ W : Nat → Nat → L2.St → Hp → Prop, _)); apply Exists.intro) | (refine iteT ?_) | (refine iteF ?_) | (refine wT ?_ ?_; focus omega) | (refine wF ?_ ?_; focus omega) | (refine wTv ?_ ?_; focus omega) | (refine wFv ?_ ?_; focus omega) | (refine wNT ?_ ?_; focus omega) | (refine wNF ?_ ?_; focus omega)))
    (intro a1 n_a1; generalize he_a1 : upd _ a1 _ = Hv1; obtain ⟨e_a1, s_a1, f_a1⟩ := new_f he_a1 n_a1; clear he_a1)
    (repeat ((fail_if_success (intro _)); first | (refine And.intro ?_ ?_; focus (first | rfl | assumption | exact .of (by assumption) | exact .inl (.of (by assumption)) | exact .inr (by assumption) | exact .inr (.of (by assumption)) | exact kit_ty (by decide +kernel) | exact .ty _ | exact tyT (by assumption) | exact .base (.int _) | (show _ ≤ sizeLine; first | decide | exact Nat.le_of_ble_eq_true rfl | (simp only [List.length_cons, List.length_nil]; decide)) | exact ⟨_, .of (by assumption)⟩ | exact ⟨_, by assumption⟩ | exact DGet.k (by assumption) | (with_reducible show (_ : Int) ≤ _; omega) | (with_reducible show (_ : Int) < _; omega) | (with_reducible show (_ : Nat) ≤ _; omega) | (with_reducible show (_ : Nat) < _; omega) | exact ⟨by decide, by decide⟩ | exact CMul_l (by decide) | exact CMul_r (by decide))) | ((fail_if_success (show ∃ W : Nat → Nat → L2.St → Hp → Prop, _)); apply Exists.intro) | (refine iteT ?_) | (refine iteF ?_) | (refine wT ?_ ?_; focus omega) | (refine wF ?_ ?_; focus omega) | (refine wTv ?_ ?_; focus omega) | (refine wFv ?_ ?_; focus omega) | (refine wNT ?_ ?_; focus omega) | (refine wNF ?_ ?_; focus omega)))
    (intro a2 n_a2; generalize he_a2 : upd _ a2 _ = Hv2; obtain ⟨e_a2, s_a2, f_a2⟩ := new_f he_a2 n_a2; clear he_a2)
    (repeat ((fail_if_success (intro _)); first | (refine And.intro ?_ ?_; focus (first | rfl | assumption | exact .of (by assumption) | exact .inl (.of (by assumption)) | exact .inr (by assumption) | exact .inr (.of (by assumption)) | exact kit_ty (by decide +kernel) | exact .ty _ | exact tyT (by assumption) | exact .base (.int _) | (show _ ≤ sizeLine; first | decide | exact Nat.le_of_ble_eq_true rfl | (simp only [List.length_cons, List.length_nil]; decide)) | exact ⟨_, .of (by assumption)⟩ | exact ⟨_, by assumption⟩ | exact DGet.k (by assumption) | (with_reducible show (_ : Int) ≤ _; omega) | (with_reducible show (_ : Int) < _; omega) | (with_reducible show (_ : Nat) ≤ _; omega) | (with_reducible show (_ : Nat) < _; omega) | exact ⟨by decide, by decide⟩ | exact CMul_l (by decide) | exact CMul_r (by decide))) | ((fail_if_success (show ∃ W : Nat → Nat → L2.St → Hp → Prop, _)); apply Exists.intro) | (refine iteT ?_) | (refine iteF ?_) | (refine wT ?_ ?_; focus omega) | (refine wF ?_ ?_; focus omega) | (refine wTv ?_ ?_; focus omega) | (refine wFv ?_ ?_; focus omega) | (refine wNT ?_ ?_; focus omega) | (refine wNF ?_ ?_; focus omega)))
    (intro a3 n_a3; generalize he_a3 : upd _ a3 _ = Hv3; obtain ⟨e_a3, s_a3, f_a3⟩ := new_f he_a3 n_a3; clear he_a3)
    (repeat ((fail_if_success (intro _)); first | (refine And.intro ?_ ?_; focus (first | rfl | assumption | exact .of (by assumption) | exact .inl (.of (by assumption)) | exact .inr (by assumption) | exact .inr (.of (by assumption)) | exact kit_ty (by decide +kernel) | exact .ty _ | exact tyT (by assumption) | exact .base (.int _) | (show _ ≤ sizeLine; first | decide | exact Nat.le_of_ble_eq_true rfl | (simp only [List.length_cons, List.length_nil]; decide)) | exact ⟨_, .of (by assumption)⟩ | exact ⟨_, by assumption⟩ | exact DGet.k (by assumption) | (with_reducible show (_ : Int) ≤ _; omega) | (with_reducible show (_ : Int) < _; omega) | (with_reducible show (_ : Nat) ≤ _; omega) | (with_reducible show (_ : Nat) < _; omega) | exact ⟨by decide, by decide⟩ | exact CMul_l (by decide) | exact CMul_r (by decide))) | ((fail_if_success (show ∃ W : Nat → Nat → L2.St → Hp → Prop, _)); apply Exists.intro) | (refine iteT ?_) | (refine iteF ?_) | (refine wT ?_ ?_; focus omega) | (refine wF ?_ ?_; focus omega) | (refine wTv ?_ ?_; focus omega) | (refine wFv ?_ ?_; focus omega) | (refine wNT ?_ ?_; focus omega) | (refine wNF ?_ ?_; focus omega)))
    (intro a4 n_a4; generalize he_a4 : upd _ a4 _ = Hv4; obtain ⟨e_a4, s_a4, f_a4⟩ := new_f he_a4 n_a4; clear he_a4)
    (repeat ((fail_if_success (intro _)); first | (refine And.intro ?_ ?_; focus (first | rfl | assumption | exact .of (by assumption) | exact .inl (.of (by assumption)) | exact .inr (by assumption) | exact .inr (.of (by assumption)) | exact kit_ty (by decide +kernel) | exact .ty _ | exact tyT (by assumption) | exact .base (.int _) | (show _ ≤ sizeLine; first | decide | exact Nat.le_of_ble_eq_true rfl | (simp only [List.length_cons, List.length_nil]; decide)) | exact ⟨_, .of (by assumption)⟩ | exact ⟨_, by assumption⟩ | exact DGet.k (by assumption) | (with_reducible show (_ : Int) ≤ _; omega) | (with_reducible show (_ : Int) < _; omega) | (with_reducible show (_ : Nat) ≤ _; omega) | (with_reducible show (_ : Nat) < _; omega) | exact ⟨by decide, by decide⟩ | exact CMul_l (by decide) | exact CMul_r (by decide))) | ((fail_if_success (show ∃ W : Nat → Nat → L2.St → Hp → Prop, _)); apply Exists.intro) | (refine iteT ?_) | (refine iteF ?_) | (refine wT ?_ ?_; focus omega) | (refine wF ?_ ?_; focus omega) | (refine wTv ?_ ?_; focus omega) | (refine wFv ?_ ?_; focus omega) | (refine wNT ?_ ?_; focus omega) | (refine wNF ?_ ?_; focus omega)))
    (intro b1 n_b1; generalize he_b1 : upd _ b1 _ = Hv5; obtain ⟨e_b1, s_b1, f_b1⟩ := new_f he_b1 n_b1; clear he_b1)
    (repeat ((fail_if_success (intro _)); first | (refine And.intro ?_ ?_; focus (first | rfl | assumption | exact .of (by assumption) | exact .inl (.of (by assumption)) | exact .inr (by assumption) | exact .inr (.of (by assumption)) | exact kit_ty (by decide +kernel) | exact .ty _ | exact tyT (by assumption) | exact .base (.int _) | (show _ ≤ sizeLine; first | decide | exact Nat.le_of_ble_eq_true rfl | (simp only [List.length_cons, List.length_nil]; decide)) | exact ⟨_, .of (by assumption)⟩ | exact ⟨_, by assumption⟩ | exact DGet.k (by assumption) | (with_reducible show (_ : Int) ≤ _; omega) | (with_reducible show (_ : Int) < _; omega) | (with_reducible show (_ : Nat) ≤ _; omega) | (with_reducible show (_ : Nat) < _; omega) | exact ⟨by decide, by decide⟩ | exact CMul_l (by decide) | exact CMul_r (by decide))) | ((fail_if_success (show ∃ W : Nat → Nat → L2.St → Hp → Prop, _)); apply Exists.intro) | (refine iteT ?_) | (refine iteF ?_) | (refine wT ?_ ?_; focus omega) | (refine wF ?_ ?_; focus omega) | (refine wTv ?_ ?_; focus omega) | (refine wFv ?_ ?_; focus omega) | (refine wNT ?_ ?_; focus omega) | (refine wNF ?_ ?_; focus omega)))
    (intro b2 n_b2; generalize he_b2 : upd _ b2 _ = Hv6; obtain ⟨e_b2, s_b2, f_b2⟩ := new_f he_b2 n_b2; clear he_b2)
    (repeat ((fail_if_success (intro _)); first | (refine And.intro ?_ ?_; focus (first | rfl | assumption | exact .of (by assumption) | exact .inl (.of (by assumption)) | exact .inr (by assumption) | exact .inr (.of (by assumption)) | exact kit_ty (by decide +kernel) | exact .ty _ | exact tyT (by assumption) | exact .base (.int _) | (show _ ≤ sizeLine; first | decide | exact Nat.le_of_ble_eq_true rfl | (simp only [List.length_cons, List.length_nil]; decide)) | exact ⟨_, .of (by assumption)⟩ | exact ⟨_, by assumption⟩ | exact DGet.k (by assumption) | (with_reducible show (_ : Int) ≤ _; omega) | (with_reducible show (_ : Int) < _; omega) | (with_reducible show (_ : Nat) ≤ _; omega) | (with_reducible show (_ : Nat) < _; omega) | exact ⟨by decide, by decide⟩ | exact CMul_l (by decide) | exact CMul_r (by decide))) | ((fail_if_success (show ∃ W : Nat → Nat → L2.St → Hp → Prop, _)); apply Exists.intro) | (refine iteT ?_) | (refine iteF ?_) | (refine wT ?_ ?_; focus omega) | (refine wF ?_ ?_; focus omega) | (refine wTv ?_ ?_; focus omega) | (refine wFv ?_ ?_; focus omega) | (refine wNT ?_ ?_; focus omega) | (refine wNF ?_ ?_; focus omega)))
    (intro b3 n_b3; generalize he_b3 : upd _ b3 _ = Hv7; obtain ⟨e_b3, s_b3, f_b3⟩ := new_f he_b3 n_b3; clear he_b3)
    (repeat ((fail_if_success (intro _)); first | (refine And.intro ?_ ?_; focus (first | rfl | assumption | exact .of (by assumption) | exact .inl (.of (by assumption)) | exact .inr (by assumption) | exact .inr (.of (by assumption)) | exact kit_ty (by decide +kernel) | exact .ty _ | exact tyT (by assumption) | exact .base (.int _) | (show _ ≤ sizeLine; first | decide | exact Nat.le_of_ble_eq_true rfl | (simp only [List.length_cons, List.length_nil]; decide)) | exact ⟨_, .of (by assumption)⟩ | exact ⟨_, by assumption⟩ | exact DGet.k (by assumption) | (with_reducible show (_ : Int) ≤ _; omega) | (with_reducible show (_ : Int) < _; omega) | (with_reducible show (_ : Nat) ≤ _; omega) | (with_reducible show (_ : Nat) < _; omega) | exact ⟨by decide, by decide⟩ | exact CMul_l (by decide) | exact CMul_r (by decide))) | ((fail_if_success (show ∃ W : Nat → Nat → L2.St → Hp → Prop, _)); apply Exists.intro) | (refine iteT ?_) | (refine iteF ?_) | (refine wT ?_ ?_; focus omega) | (refine wF ?_ ?_; focus omega) | (refine wTv ?_ ?_; focus omega) | (refine wFv ?_ ?_; focus omega) | (refine wNT ?_ ?_; focus omega) | (refine wNF ?_ ?_; focus omega)))
    (intro b4 n_b4; generalize he_b4 : upd _ b4 _ = Hv8; obtain ⟨e_b4, s_b4, f_b4⟩ := new_f he_b4 n_b4; clear he_b4)
    (repeat ((fail_if_success (intro _)); first | (refine And.intro ?_ ?_; focus (first | rfl | assumption | exact .of (by assumption) | exact .inl (.of (by assumption)) | exact .inr (by assumption) | exact .inr (.of (by assumption)) | exact kit_ty (by decide +kernel) | exact .ty _ | exact tyT (by assumption) | exact .base (.int _) | (show _ ≤ sizeLine; first | decide | exact Nat.le_of_ble_eq_true rfl | (simp only [List.length_cons, List.length_nil]; decide)) | exact ⟨_, .of (by assumption)⟩ | exact ⟨_, by assumption⟩ | exact DGet.k (by assumption) | (with_reducible show (_ : Int) ≤ _; omega) | (with_reducible show (_ : Int) < _; omega) | (with_reducible show (_ : Nat) ≤ _; omega) | (with_reducible show (_ : Nat) < _; omega) | exact ⟨by decide, by decide⟩ | exact CMul_l (by decide) | exact CMul_r (by decide))) | ((fail_if_success (show ∃ W : Nat → Nat → L2.St → Hp → Prop, _)); apply Exists.intro) | (refine iteT ?_) | (refine iteF ?_) | (refine wT ?_ ?_; focus omega) | (refine wF ?_ ?_; focus omega) | (refine wTv ?_ ?_; focus omega) | (refine wFv ?_ ?_; focus omega) | (refine wNT ?_ ?_; focus omega) | (refine wNF ?_ ?_; focus omega)))
    (intro c1 n_c1; generalize he_c1 : upd _ c1 _ = Hv9; obtain ⟨e_c1, s_c1, f_c1⟩ := new_f he_c1 n_c1; clear he_c1)
    (repeat ((fail_if_success (intro _)); first | (refine And.intro ?_ ?_; focus (first | rfl | assumption | exact .of (by assumption) | exact .inl (.of (by assumption)) | exact .inr (by assumption) | exact .inr (.of (by assumption)) | exact kit_ty (by decide +kernel) | exact .ty _ | exact tyT (by assumption) | exact .base (.int _) | (show _ ≤ sizeLine; first | decide | exact Nat.le_of_ble_eq_true rfl | (simp only [List.length_cons, List.length_nil]; decide)) | exact ⟨_, .of (by assumption)⟩ | exact ⟨_, by assumption⟩ | exact DGet.k (by assumption) | (with_reducible show (_ : Int) ≤ _; omega) | (with_reducible show (_ : Int) < _; omega) | (with_reducible show (_ : Nat) ≤ _; omega) | (with_reducible show (_ : Nat) < _; omega) | exact ⟨by decide, by decide⟩ | exact CMul_l (by decide) | exact CMul_r (by decide))) | ((fail_if_success (show ∃ W : Nat → Nat → L2.St → Hp → Prop, _)); apply Exists.intro) | (refine iteT ?_) | (refine iteF ?_) | (refine wT ?_ ?_; focus omega) | (refine wF ?_ ?_; focus omega) | (refine wTv ?_ ?_; focus omega) | (refine wFv ?_ ?_; focus omega) | (refine wNT ?_ ?_; focus omega) | (refine wNF ?_ ?_; focus omega)))
    (intro c2 n_c2; generalize he_c2 : upd _ c2 _ = Hva; obtain ⟨e_c2, s_c2, f_c2⟩ := new_f he_c2 n_c2; clear he_c2)
    (repeat ((fail_if_success (intro _)); first | (refine And.intro ?_ ?_; focus (first | rfl | assumption | exact .of (by assumption) | exact .inl (.of (by assumption)) | exact .inr (by assumption) | exact .inr (.of (by assumption)) | exact kit_ty (by decide +kernel) | exact .ty _ | exact tyT (by assumption) | exact .base (.int _) | (show _ ≤ sizeLine; first | decide | exact Nat.le_of_ble_eq_true rfl | (simp only [List.length_cons, List.length_nil]; decide)) | exact ⟨_, .of (by assumption)⟩ | exact ⟨_, by assumption⟩ | exact DGet.k (by assumption) | (with_reducible show (_ : Int) ≤ _; omega) | (with_reducible show (_ : Int) < _; omega) | (with_reducible show (_ : Nat) ≤ _; omega) | (with_reducible show (_ : Nat) < _; omega) | exact ⟨by decide, by decide⟩ | exact CMul_l (by decide) | exact CMul_r (by decide))) | ((fail_if_success (show ∃ W : Nat → Nat → L2.St → Hp → Prop, _)); apply Exists.intro) | (refine iteT ?_) | (refine iteF ?_) | (refine wT ?_ ?_; focus omega) | (refine wF ?_ ?_; focus omega) | (refine wTv ?_ ?_; focus omega) | (refine wFv ?_ ?_; focus omega) | (refine wNT ?_ ?_; focus omega) | (refine wNF ?_ ?_; focus omega)))
    (intro c3 n_c3; generalize he_c3 : upd _ c3 _ = Hvb; obtain ⟨e_c3, s_c3, f_c3⟩ := new_f he_c3 n_c3; clear he_c3)
    (repeat ((fail_if_success (intro _)); first | (refine And.intro ?_ ?_; focus (first | rfl | assumption | exact .of (by assumption) | exact .inl (.of (by assumption)) | exact .inr (by assumption) | exact .inr (.of (by assumption)) | exact kit_ty (by decide +kernel) | exact .ty _ | exact tyT (by assumption) | exact .base (.int _) | (show _ ≤ sizeLine; first | decide | exact Nat.le_of_ble_eq_true rfl | (simp only [List.length_cons, List.length_nil]; decide)) | exact ⟨_, .of (by assumption)⟩ | exact ⟨_, by assumption⟩ | exact DGet.k (by assumption) | (with_reducible show (_ : Int) ≤ _; omega) | (with_reducible show (_ : Int) < _; omega) | (with_reducible show (_ : Nat) ≤ _; omega) | (with_reducible show (_ : Nat) < _; omega) | exact ⟨by decide, by decide⟩ | exact CMul_l (by decide) | exact CMul_r (by decide))) | ((fail_if_success (show ∃ W : Nat → Nat → L2.St → Hp → Prop, _)); apply Exists.intro) | (refine iteT ?_) | (refine iteF ?_) | (refine wT ?_ ?_; focus omega) | (refine wF ?_ ?_; focus omega) | (refine wTv ?_ ?_; focus omega) | (refine wFv ?_ ?_; focus omega) | (refine wNT ?_ ?_; focus omega) | (refine wNF ?_ ?_; focus omega)))
    (intro ml n_ml; generalize he_ml : upd _ ml _ = Hvc; obtain ⟨e_ml, s_ml, f_ml⟩ := new_f he_ml n_ml; clear he_ml)
    have z4 := s_r1.trans (s_r2.trans (s_r3.trans (s_r4.trans s_rl)))
    have za := s_a1.trans (s_a2.trans (s_a3.trans s_a4))
    have zb := s_b1.trans (s_b2.trans (s_b3.trans s_b4))
    have zc := s_c1.trans (s_c2.trans (s_c3.trans s_ml))
    have zz := za.trans (zb.trans zc)
    have nrl : rl ≠ ml := fun z => by rw [z] at e_rl; rw [s_c3 _ _ (s_c2 _ _ (s_c1 _ _ (zb _ _ (za _ _ e_rl))))] at n_ml; cases n_ml
    refine ⟨rl, ml, _, _, rfl, rfl, zz _ _ e_rl, e_ml, by show 8 ≤ sizeLine; decide, ?_⟩
    have f9 : ∀ b xs, SqT K Hvc b xs → SqT K (upd Hvc rl (.lst ([.ref cl, .ref r1, .ref r2, .ref r3, .ref r4] ++ [.ref a4, .ref b4, .ref c3]))) b xs := fun b xs h => seqT_ne h (zz _ _ e_rl)
    have g9 : ∀ {x ys}, x ≠ rl → Hvc x = some (.lst ys) → upd Hvc rl (.lst ([.ref cl, .ref r1, .ref r2, .ref r3, .ref r4] ++ [.ref a4, .ref b4, .ref c3])) x = some (.lst ys) := fun {x ys} n e => by rw [upd_ne n]; exact e
    have Su : Same Ht Hvc := s_wh.trans (z4.trans zz)
    have nclr : cl ≠ rl := fun z => by rw [← z, s_r4 _ _ (s_r3 _ _ (s_r2 _ _ (s_r1 _ _ (s_wh _ _ eclt))))] at n_rl; cases n_rl
    have Wv := Wt.same Su
    have We := Wt.same (s_wh.trans (s_r1.trans (s_r2.trans (s_r3.trans s_r4))))
    obtain ⟨nr1, nr2, nr3, nr4⟩ := We.new n_rl
    have Ww : Wd T.C_Disk T.C_Plan K T.Ps (upd Hvc rl (.lst ([.ref cl, .ref r1, .ref r2, .ref r3, .ref r4] ++ [.ref a4, .ref b4, .ref c3]))) d B A fa M M := Wv.oth (Kp.refl.own (by simp)) (zz _ _ e_rl) nr1 nr2 nr3
    have e5 : upd Hvc rl (.lst ([.ref cl, .ref r1, .ref r2, .ref r3, .ref r4] ++ [.ref a4, .ref b4, .ref c3])) rl = some (.lst (([cl, r1, r2, r3, r4, a4, b4, c3] : List Addr).map V.ref)) := upd_same
    have ec5 := g9 nclr (Su _ _ eclt)
    have up1 : ∀ b xs, SqT K Hu1 b xs → SqT K _ b xs := fun b xs h => f9 b xs (sameT (s_r2.trans (s_r3.trans (s_r4.trans (s_rl.trans zz)))) h)
    have up2 : ∀ b xs, SqT K Hu2 b xs → SqT K _ b xs := fun b xs h => f9 b xs (sameT (s_r3.trans (s_r4.trans (s_rl.trans zz))) h)
    have up3 : ∀ b xs, SqT K Hu3 b xs → SqT K _ b xs := fun b xs h => f9 b xs (sameT (s_r4.trans (s_rl.trans zz)) h)
    have up4 : ∀ b xs, SqT K Hu4 b xs → SqT K _ b xs := fun b xs h => f9 b xs (sameT (s_rl.trans zz) h)
    have upw : ∀ b xs, SqT K Hu b xs → SqT K _ b xs := fun b xs h => up1 b xs (sameT s_r1 h)
    have ua1 : ∀ b xs, SqT K Hv1 b xs → SqT K _ b xs := fun b xs h => f9 b xs (sameT (s_a2.trans (s_a3.trans (s_a4.trans (zb.trans zc)))) h)
    have ua2 : ∀ b xs, SqT K Hv2 b xs → SqT K _ b xs := fun b xs h => f9 b xs (sameT (s_a3.trans (s_a4.trans (zb.trans zc))) h)
    have ua3 : ∀ b xs, SqT K Hv3 b xs → SqT K _ b xs := fun b xs h => f9 b xs (sameT (s_a4.trans (zb.trans zc)) h)
    have ua4 : ∀ b xs, SqT K Hv4 b xs → SqT K _ b xs := fun b xs h => f9 b xs (sameT (zb.trans zc) h)
    have ub1 : ∀ b xs, SqT K Hv5 b xs → SqT K _ b xs := fun b xs h => f9 b xs (sameT (s_b2.trans (s_b3.trans (s_b4.trans zc))) h)
    have ub2 : ∀ b xs, SqT K Hv6 b xs → SqT K _ b xs := fun b xs h => f9 b xs (sameT (s_b3.trans (s_b4.trans zc)) h)
    have ub3 : ∀ b xs, SqT K Hv7 b xs → SqT K _ b xs := fun b xs h => f9 b xs (sameT (s_b4.trans zc) h)
    have ub4 : ∀ b xs, SqT K Hv8 b xs → SqT K _ b xs := fun b xs h => f9 b xs (sameT zc h)
    have uc1 : ∀ b xs, SqT K Hv9 b xs → SqT K _ b xs := fun b xs h => f9 b xs (sameT (s_c2.trans (s_c3.trans s_ml)) h)
    have uc2 : ∀ b xs, SqT K Hva b xs → SqT K _ b xs := fun b xs h => f9 b xs (sameT (s_c3.trans s_ml) h)
    have uc3 : ∀ b xs, SqT K Hvb b xs → SqT K _ b xs := fun b xs h => f9 b xs (sameT s_ml h)
    have ur1 := up1 r1 _ (.of e_r1)
    have ur2 := up2 r2 _ (.of e_r2)
    have ur3 := up3 r3 _ (.of e_r3)
    have ur4 := up4 r4 _ (.of e_r4)
    have uwh := upw wh _ (.of e_wh)
    have va1 := ua1 a1 _ (.of e_a1)
    have va2 := ua2 a2 _ (.of e_a2)
    have va3 := ua3 a3 _ (.of e_a3)
    have va4 := ua4 a4 _ (.of e_a4)
    have vb1 := ub1 b1 _ (.of e_b1)
    have vb2 := ub2 b2 _ (.of e_b2)
    have vb3 := ub3 b3 _ (.of e_b3)
    have vb4 := ub4 b4 _ (.of e_b4)
    have vc1 := uc1 c1 _ (.of e_c1)
    have vc2 := uc2 c2 _ (.of e_c2)
    have vc3 := uc3 c3 _ (.of e_c3)
    generalize upd Hvc rl (.lst ([.ref cl, .ref r1, .ref r2, .ref r3, .ref r4] ++ [.ref a4, .ref b4, .ref c3])) = Hw at Ww e5 ec5 ur1 ur2 ur3 ur4 uwh va1 va2 va3 va4 vb1 vb2 vb3 vb4 vc1 vc2 vc3 ⊢
    have br : ∀ x ∈ [cl, r1, r2, r3, r4, a4, b4, c3], BadWhat K Hw x 24 30 (.log 0) := fun x hx => by
      simp only [List.mem_cons, List.not_mem_nil, or_false] at hx
      rcases hx with e | e | e | e | e | e | e | e <;> rw [e]
      · exact .inl (.inl ⟨_, ec5⟩)
      · exact .inr ⟨.copy 1 (24 + nr) c, ⟨wh, ur1, uwh⟩, ⟨by omega, by omega, by omega, by omega, by omega, hc⟩, fun z => by have z : 24 + nr < 24 := z; omega⟩
      · exact .inl (.inr (.inr (.inl ⟨0, nr, .ref wh, ur2, by omega⟩)))
      · exact .inl (.inr (.inr (.inr ⟨1, nr, cl, _, ur3, ec5, by omega, by omega, by omega, by omega⟩)))
      · exact .inl (.inr (.inl ⟨_, ur4, by simp only [List.length_cons, List.length_nil]; decide⟩))
      · refine .inr ⟨.mark 1 [(24, 3)] [], ⟨a2, a3, va4, ⟨[a1], va2, rfl, fun i q p h1 h2 => ?_⟩, va3⟩, ⟨by decide, by decide, by decide, by decide, fun p hp => ?_, asc1, (fun r hr => by cases hr), asc0⟩, fun z => ?_⟩
        · match i with
          | 0 => cases h1; cases h2; exact va1
          | i + 1 => simp at h1
        · rw [List.mem_singleton.mp hp]; decide
        · have := z.1 (24, 3) (by simp); omega
      · refine .inr ⟨.mark 1 [(3, 30 + nr)] [], ⟨b2, b3, vb4, ⟨[b1], vb2, rfl, fun i q p h1 h2 => ?_⟩, vb3⟩, ⟨by decide, by decide, by simp, by decide, fun p hp => ?_, asc1, (fun r hr => by cases hr), asc0⟩, fun z => ?_⟩
        · match i with
          | 0 => cases h1; cases h2; exact vb1
          | i + 1 => simp at h1
        · rw [List.mem_singleton.mp hp]
          exact ⟨by show (0:Int) ≤ 3; decide, by show (3:Int) ≤ 63; decide, by show (3:Int) < 64; decide, by show -1 ≤ 30 + nr; omega, by show 30 + nr ≤ 199; omega, by show 30 + nr < 200; omega⟩
        · have := (z.1 (3, 30 + nr) (by simp)).2
          have : 30 + nr < 30 := this
          omega
      · refine .inr ⟨.mark 1 [] [24 + nr], ⟨c1, c2, vc3, ⟨[], vc1, rfl, fun i q p h1 h2 => by cases h1⟩, vc2⟩, ⟨by decide, by decide, by decide, by simp, fun p hp => (by cases hp), asc0, fun r hr => ?_, asc1⟩, fun z => ?_⟩
        · rw [List.mem_singleton.mp hr]; omega
        · have := z.2 (24 + nr) (by simp); omega
    generalize ([cl, r1, r2, r3, r4, a4, b4, c3] : List Addr) = Lp at br e5
    clear Wv We Wt
    have tw := Ww.t
    refine ⟨_, rfl, rl, rfl, ⟨_, .of e5⟩, for_list (K := K) (a := rl) (xs := Lp.map V.ref) (fun i σ H' => ∃ u9 : Option V, σ = [some (.ref d.1), some (.ref B), some (.ref fa), some (.int nr), some (.ref cl), some (.int (a : Int)), some (.ref q5x), some (.ref q5y), u8, u9, some (.ref wh), some (.ref rl)] ∧ Tk T.Ps Hw H') ⟨u9, rfl, .of tw (Same.refl _)⟩ (fun i σ H' _ ⟨_, _, kt⟩ => .of (kt.at tw e5)) ?_ ?_⟩
    · rintro i y σ H' hi ⟨u9', rfl, kt⟩
      rw [List.getElem?_map] at hi
      obtain ⟨px, hx, rfl⟩ := Option.map_eq_some_iff.mp hi
      have hb := br px (List.mem_of_getElem? hx)
      ((try dsimp only); (first | (refine Rg.sg (σ' := [some (.ref d.1), some (.ref B), some (.ref fa), some (.int nr), some (.ref cl), some (.int (a : Int)), some (.ref q5x), some (.ref q5y), u8, some (.ref px), some (.ref wh), some (.ref rl)]) ?_ ?_; focus exact rfl) | (refine Rg.sgG (σ' := [some (.ref d.1), some (.ref B), some (.ref fa), some (.int nr), some (.ref cl), some (.int (a : Int)), some (.ref q5x), some (.ref q5y), u8, some (.ref px), some (.ref wh), some (.ref rl)]) ?_ ?_; focus exact rfl)))
      refine ⟨_, rfl, _, rfl, .inl ⟨_, rfl, _, _, rfl, rfl, (by show (0 : Int) < 3; decide), _, _, rfl, rfl, by show 2 ≤ sizeLine; decide, ?_⟩⟩
      (intro e1 n_e1; generalize he_e1 : upd _ e1 _ = He1; obtain ⟨e_e1, s_e1, f_e1⟩ := new_f he_e1 n_e1; clear he_e1)
      have kt3 : Tk T.Ps Hw He1 := kt.trans (.of kt.tab s_e1)
      obtain ⟨hs, gs, ps, Dk⟩ := (Ww.tk kt3).dk
      have hq : PlcAt K He1 e1 (.log (27 + nr % 3)) := .of e_e1
      refine ⟨_, rfl, d.1, e1, px, d.2, 24, 5, 30, M.hd, M.la, hs, gs, _, rfl, Dk.D, kt3.tab, .inr ⟨.log (27 + nr % 3), hq, ⟨by omega, by omega⟩, badwhat_tk tw kt3 hb⟩, fun H2 k2 => ⟨_, rfl, iteF ?_⟩⟩
      exact ⟨_, rfl, kt3.trans k2⟩
    rintro σ Hz ⟨u9', rfl, kz⟩
    exact k Hz M (Ww.tk kz) ⟨Nat.le_succ _, Int.le_refl _, by omega, hp⟩
end
end K01
namespace RT
open PySem PySem.Spec PyProof.Rows
open Builtin
section
variable {prog : Program} {w : World} {A : Around} {E : Value → Shared → Prop} {s : Shared}
theorem list_init_rev {R : Result → Shared → Prop} {it l S : Addr} {items : Array Value} (hh : A.handled = none) (hit : s.heap.IsRevIter it l ((items.size : Int) - 1)) (hl : s.heap.IsList l items) (hne : l ≠ it) (hn : items.size ≤ sizeLine) (hSi : S ≠ it) (hSl : S ≠ l)
    (hS : s.heap.get? S = some { cls := .type "list", data := .seq #[] })
    (hR : ∀ (h' : Heap) (tk : Nat) (acc' : Array Value) (c' : Nat), (∀ b o, b ≠ S → b ≠ it → s.heap.get? b = some o → h'.get? b = some o) → h'.get? S = some { cls := .type "list", dict := none, data := .seq acc' c', slots := #[] } → ItemsOf (fun i v => items[items.size - 1 - i]? = some v) acc' items.size → R (.ok (.ret .none)) { s with heap := h', toks := tk }) :
    wpAny (model prog w) A.in1 (Builtin.«list.__init__» ⟨[.ref S, .ref it], []⟩)
      (fun fin s' => match fin with | .done f => R (.ok f) s' | .again c' => c'.quiet = true ∧ codeAny (model prog w) A c' R s') (fun e s' => R (.error e) s') s := by
  have W := (Walks.listRev (prog := prog) (w := w) (A := A.in1) hh it l hne items).toS
  have hSf : S ∉ [it, l] := by simp only [List.mem_cons, List.not_mem_nil, or_false, not_or]; exact ⟨hSi, hSl⟩
  show wpAny _ A.in1 (do let old ← Builtin.List.listItems (.ref S); Builtin.List.listUpdate (.ref S) (fun _ => #[]); letGo old.toList.reverse; Builtin.List.listExtendWith (.ref S) (.ref it) .none) _ _ s
  refine wpAny_bind ?_
  unfold Builtin.List.listItems
  refine wpAny_bind (wpAny_seqItems hS rfl (wpAny_pure ?_))
  show wpAny _ A.in1 (updateSeq S (fun _ => #[]) >>= fun _ => letGo (#[] : Array Value).toList.reverse >>= fun _ => Builtin.List.listExtendWith (.ref S) (.ref it) .none) _ _ s
  refine wpAny_bind (wpAny_updateSeq hS rfl ?_)
  have hS₂ := Heap.get?_update_self (Obj.mapSeq (fun _ => (#[] : Array Value))) hS rfl
  have oth : ∀ b o, b ≠ S → s.heap.get? b = some o → (s.heap.update S (Obj.mapSeq (fun _ => (#[] : Array Value)))).get? b = some o :=
    fun b o hb e => (Heap.get?_update_other _ _ (Ne.symm hb)).trans e
  refine wpAny_bind (wpAny_letGo ?_)
  have hit1 : (s.heap.update S (Obj.mapSeq (fun _ => (#[] : Array Value)))).IsRevIter it l ((items.size : Int) - 1) := hit.at fun o e => oth _ _ (Ne.symm hSi) e
  obtain ⟨ol, hol, q1, q2⟩ := id hl
  have hl1 : (s.heap.update S (Obj.mapSeq (fun _ => (#[] : Array Value)))).IsList l items := ⟨ol, oth _ _ (Ne.symm hSl) hol, q1, q2⟩
  have hT : ({ s with heap := s.heap.update S (Obj.mapSeq (fun _ => (#[] : Array Value))) } : Shared).TypeIs (.ref it) "list_reverseiterator" := Heap.IsRevIter.typeIs (s := { s with heap := s.heap.update S (Obj.mapSeq (fun _ => (#[] : Array Value))) }) hit1
  have h1 : Builtin.List.listSameRef (.ref S) (.ref it) = false := by simp [Builtin.List.listSameRef, hSi]
  unfold Builtin.List.listExtendWith
  refine wpAny_bind (wpAny_typeOf hT ?_)
  rw [if_neg (by rw [h1]; decide)]
  refine wpAny_bind (wpAny_pyIter_revIter (s := { s with heap := s.heap.update S (Obj.mapSeq (fun _ => (#[] : Array Value))) }) hit1 ?_)
  refine wpAny_bind (wpAny_holding ?_)
  unfold Builtin.List.listLengthHint
  refine wpAny_bind (wpAny_specialOf hT nolen_lri ?_)
  show wpAny _ A.in1 (specialOf (Value.ref it) (Str.ofString "__length_hint__") >>= _) _ _ _
  refine wpAny_bind (wpAny_specialOf hT hint_lri ?_)
  generalize hid : ("list_reverseiterator.__length_hint__" : String) = id0
  wp_delta
  rw [show splitId id0 = some ("list_reverseiterator", "__length_hint__") from by subst hid; decide +kernel]
  subst hid
  refine wpAny_bind (wpAny_isInstance (b := true) hT (by rw [isSubtype_type]; kernel_rfl) ?_)
  refine wpAny_pure ?_
  rw [if_neg (by decide)]
  have e0 : ((items.size : Nat) : Int) - 1 - ((0 : Nat) : Int) = (items.size : Int) - 1 := by omega
  refine wpAny_pure ⟨plainId_quiet F.plain_extend_loop _, codeAny_extend_loopS W hn _ hSf _ items.size 0 _ _ _ rfl (Nat.zero_le _) ⟨Nat.zero_le _, by rw [e0]; exact hit1, hl1⟩ hS₂ (ItemsOf.nil _) fun s' acc' c' hm hS' hacc => ?_⟩
  rw [Moved.eq_with hm]
  refine hR s'.heap s'.toks acc' c' (fun b o hb hi e => hm.heap b o (fun hmem => ?_) (oth b o hb e)) hS' hacc
  rcases List.mem_cons.mp hmem with e' | hmem
  · exact hb e'
  · exact hi (List.mem_singleton.mp hmem)
theorem call_list_rev {it l : Addr} {items : Array Value} {Q : Value → Shared → Prop} (hh : A.handled = none) (hit : s.heap.IsRevIter it l ((items.size : Int) - 1)) (hl : s.heap.IsList l items) (hne : l ≠ it) (hn : items.size ≤ sizeLine)
    (hQ : ∀ (h' : Heap) (tk : Nat) (acc : Array Value) (c : Nat), (∀ b o, b ≠ it → s.heap.get? b = some o → h'.get? b = some o) → h'.get? s.heap.objs.size = some { cls := .type "list", dict := none, data := .seq acc c, slots := #[] } → ItemsOf (fun i v => items[items.size - 1 - i]? = some v) acc items.size → Q (.ref s.heap.objs.size) { s with heap := h', toks := tk }) :
    wpAny (model prog w) A (call (.type "list") [.ref it]) Q E s := by
  obtain ⟨oi, hoi, _⟩ := id hit
  obtain ⟨ol, hol, _⟩ := id hl
  have hSi : s.heap.objs.size ≠ it := Nat.ne_of_gt (Heap.lt_size hoi)
  have hSl : s.heap.objs.size ≠ l := Nat.ne_of_gt (Heap.lt_size hol)
  refine callType_codes (Q₁ := fun obj s₁ => obj = .ref s.heap.objs.size ∧ s₁ = { s with heap := s.heap.push { cls := .type "list", data := .seq #[] } }) F.called_list (F.typeCall_list_1 _) F.entry_list_init
    (code_list_new _ ⟨rfl, rfl⟩) fun obj s₁ h₁ => ?_
  obtain ⟨rfl, rfl⟩ := h₁
  have hS : (s.heap.push { cls := .type "list", data := .seq #[] }).get? s.heap.objs.size = some { cls := .type "list", data := .seq #[] } := Heap.get?_push_size _ rfl
  refine ⟨⟨_, hS, rfl⟩, F.args_list_init_2 _ _, list_init_rev (s := { s with heap := s.heap.push { cls := .type "list", data := .seq #[] } }) hh (hit.at fun o e => Heap.get?_push_of_some _ e) (hl.push _) hne hn hSi hSl hS fun h' tk acc' c' hk hS' hacc => ?_⟩
  exact ⟨rfl, hQ h' tk acc' c' (fun b o hb e => hk b o (Nat.ne_of_lt (Heap.lt_size e)) hb (Heap.get?_push_of_some _ e)) hS' hacc⟩
end
end RT
namespace Rg
open PySem PySem.Spec PyProof.Rows L2 RT
/-- list(reversed(x)), x a list: a new list -/
def tListRev (K : PySem.W.Frag) (te : TE) : TE := fun σ H Q => te σ H fun v H1 => ∃ (a : Addr) (xs : List V), v = .ref a ∧ SqL K H1 a xs ∧ ∀ q, H1 q = none → Q (.ref q) (upd H1 q (.lst xs.reverse))
theorem pe_listRev {X : Cx} {e : Expr} {te : TE} {p p2 pos pos2 : Pos} (hc : X.calm = true) (hg : Gl X "list") (hm : X.mg "list" = none) (hg2 : Gl X "reversed") (hm2 : X.mg "reversed" = none) (he : PE X e te)
    (hs : starEach [e] X.env = (false, eval e X.env) :: starEach [] X.env := by rfl)
    (hs2 : starEach [.Call (.Name "reversed" p2) [e] [] pos2] X.env = (false, eval (.Call (.Name "reversed" p2) [e] [] pos2) X.env) :: starEach [] X.env := by rfl) :
    PE X (.Call (.Name "list" p) [.Call (.Name "reversed" p2) [e] [] pos2] [] pos) (tListRev X.K te) := by
  refine ⟨fun pins s σ H Q I h => ?_⟩
  refine Call_ (ld_blt I hg hm boot_list (PyProof.Rows.callWith_type1 (args_cons (Call_ (ld_blt I hg2 hm2 PyProof.Rows.boot_reversed (PyProof.Rows.callWith_type1 (args_cons (thn (he.run pins s σ H _ I h) fun u s1 ⟨v, H1, I1, r1, q1⟩ => args_nil ?_) hs) hs rfl))) hs2) hs2 rfl))
  obtain ⟨a, xs, ev, hq, q⟩ := q1
  subst ev
  obtain rfl : u = Value.ref a := r1
  obtain ⟨its, rv, p', hz⟩ := I1.list hq
  refine call_reversed_list p'.isList (args_nil ?_)
  have k0 : ∀ b o, s1.heap.get? b = some o → (s1.heap.push (revObj a ((its.toArray.size : Int) - 1))).get? b = some o := fun b o e => Heap.get?_push_of_some _ e
  have I2 : Inv X pins σ H1 { s1 with heap := s1.heap.push (revObj a ((its.toArray.size : Int) - 1)) } := I1.kept (t' := s1.toks) k0
  obtain ⟨f0, f1, f2, f3, f4, f5⟩ := I1.fpOk (H' := H1) (b := s1.heap.objs.size) (Nat.le_refl _) (I1.hok.fresh (Nat.le_refl _))
  have hl := p'.isList
  obtain ⟨ol, hol, _⟩ := id hl
  have hne : a ≠ s1.heap.objs.size := Nat.ne_of_lt (Heap.lt_size hol)
  have hn : its.toArray.size ≤ sizeLine := by rw [List.size_toArray, ← rv.length]; exact hz
  have hsz : (s1.heap.push (revObj a ((its.toArray.size : Int) - 1))).objs.size = s1.heap.objs.size + 1 := Heap.size_push ..
  refine call_list_rev (s := { s1 with heap := s1.heap.push (revObj a ((its.toArray.size : Int) - 1)) }) (I1.ok.hd hc) ⟨_, Heap.get?_push_size _ rfl, rfl, rfl⟩ (hl.push _) hne hn fun h' tk acc c hk hS hi => ?_
  have hle : s1.heap.objs.size ≤ (s1.heap.push (revObj a ((its.toArray.size : Int) - 1))).objs.size := by rw [hsz]; exact Nat.le_succ _
  refine ⟨.ref (s1.heap.push (revObj a ((its.toArray.size : Int) - 1))).objs.size, upd H1 (s1.heap.push (revObj a ((its.toArray.size : Int) - 1))).objs.size (.lst xs.reverse), I1.laid (t' := tk) (fun b o e => hk b o (Nat.ne_of_lt (Heap.lt_size e)) (k0 b o e)) hle (show ObjOk X.prog X.w _ _ _ (.lst xs.reverse) from ⟨by rw [List.length_reverse]; exact hz, acc.toList, c, vals_rev rv hi, ?_⟩), rfl, q _ (I1.hok.fresh hle)⟩
  rw [Array.toArray_toList]
  exact hS
end Rg
namespace K01
open PySem PySem.Spec PyProof.Rows L2 Rg
theorem map_inj {α β : Type} {f : α → β} : ∀ {l : List α}, (l.map f).Nodup → ∀ {x y : α}, x ∈ l → y ∈ l → f x = f y → x = y
  | [], _, _, _, h, _, _ => by cases h
  | a :: l, hn, x, y, hx, hy, e => by
    rw [List.map_cons, List.nodup_cons] at hn
    rcases List.mem_cons.mp hx with e1 | h1
    · rcases List.mem_cons.mp hy with e2 | h2
      · rw [e1, e2]
      · exact absurd (List.mem_map.mpr ⟨y, h2, by rw [← e, e1]⟩) hn.1
    · rcases List.mem_cons.mp hy with e2 | h2
      · exact absurd (List.mem_map.mpr ⟨x, h1, by rw [e, e2]⟩) hn.1
      · exact map_inj hn.2 h1 h2 e
theorem nodup_on {α β : Type} {f : α → β} {l : List α} (hn : l.Nodup) (h : ∀ x ∈ l, ∀ y ∈ l, f x = f y → x = y) : (l.map f).Nodup := by
  rw [List.Nodup, List.pairwise_map]
  exact List.Pairwise.imp_of_mem (fun {a b} ha hb ne e => ne (h a ha b hb e)) hn
theorem nodup_of_map {α β : Type} {f : α → β} {l : List α} (hn : (l.map f).Nodup) : l.Nodup := by
  rw [List.Nodup, List.pairwise_map] at hn
  exact hn.imp fun {a b} ne e => ne (by rw [e])
theorem stH_comm {x y : Wv} (hx : Rng 24 30 x.q) (hy : Rng 24 30 y.q) (h : x.q ≠ y.q) (hm : List (Option Ct)) : stH x.q (some x.w) (stH y.q (some y.w) hm) = stH y.q (some y.w) (stH x.q (some x.w) hm) := by
  cases ex : x.q with
  | log i => rfl
  | home i =>
    cases ey : y.q with
    | log j => rfl
    | home j =>
      rw [ex] at hx h
      rw [ey] at hy h
      have h1 : 0 ≤ i := hx.1
      have h2 : 0 ≤ j := hy.1
      exact List.set_comm _ _ (fun z => h (by rw [show i = j by omega]))
theorem stG_comm {x y : Wv} (hx : Rng 24 30 x.q) (hy : Rng 24 30 y.q) (h : x.q ≠ y.q) (hm : List (Option Ct)) : stG x.q (some x.w) (stG y.q (some y.w) hm) = stG y.q (some y.w) (stG x.q (some x.w) hm) := by
  cases ex : x.q with
  | home i => rfl
  | log i =>
    cases ey : y.q with
    | home j => rfl
    | log j =>
      rw [ex] at hx h
      rw [ey] at hy h
      have h1 : 0 ≤ i := hx.1
      have h2 : 0 ≤ j := hy.1
      exact List.set_comm _ _ (fun z => h (by rw [show i = j by omega]))
theorem st_perm {a b : List Wv} (p : a.Perm b) : (∀ x ∈ a, Rng 24 30 x.q) → (a.map (·.q)).Nodup → ∀ hm, stHs a hm = stHs b hm ∧ stGs a hm = stGs b hm := by
  induction p with
  | nil => intro _ _ _; exact ⟨rfl, rfl⟩
  | cons x p ih =>
    intro hr hn hm
    rw [List.map_cons, List.nodup_cons] at hn
    exact ⟨(ih (fun y hy => hr y (by simp [hy])) hn.2 _).1, (ih (fun y hy => hr y (by simp [hy])) hn.2 _).2⟩
  | swap x y l =>
    intro hr hn hm
    rw [List.map_cons, List.map_cons, List.nodup_cons] at hn
    have ne : x.q ≠ y.q := fun e => hn.1 (by simp [e])
    have rx := hr x (by simp)
    have ry := hr y (by simp)
    exact ⟨congrArg (stHs l) (stH_comm rx ry ne hm), congrArg (stGs l) (stG_comm rx ry ne hm)⟩
  | trans p q ih1 ih2 =>
    intro hr hn hm
    have h2 := ih2 (fun x hx => hr x (p.mem_iff.mpr hx)) ((p.map _).nodup_iff.mp hn) hm
    have h1 := ih1 hr hn hm
    exact ⟨h1.1.trans h2.1, h1.2.trans h2.2⟩
theorem st_ext {a b : List Wv} (hr : ∀ x ∈ a, Rng 24 30 x.q) (ha : (a.map (·.q)).Nodup) (hb : b.Nodup) (h : ∀ x, x ∈ a ↔ x ∈ b) (hm : List (Option Ct)) : stHs a hm = stHs b hm ∧ stGs a hm = stGs b hm :=
  st_perm ((List.perm_ext_iff_of_nodup (nodup_of_map ha) hb).mpr h) hr ha hm
theorem st_rev {a : List Wv} (hr : ∀ x ∈ a, Rng 24 30 x.q) (ha : (a.map (·.q)).Nodup) (hm : List (Option Ct)) : stHs a.reverse hm = stHs a hm ∧ stGs a.reverse hm = stGs a hm :=
  st_perm (List.reverse_perm a) (fun x hx => hr x (List.mem_reverse.mp hx)) (by rw [List.map_reverse]; exact (List.reverse_perm _).nodup_iff.mpr ha) hm
theorem pws_of {ps : List Pw} : ∀ ys : List Wv, (∀ y ∈ ys, y ∈ ps.map Pw.wv) → ∃ qs : List Pw, qs.map Pw.wv = ys ∧ ∀ q ∈ qs, q ∈ ps
  | [], _ => ⟨[], rfl, fun q h => by cases h⟩
  | y :: ys, h => by
    obtain ⟨qs, e, hq⟩ := pws_of ys fun z hz => h z (List.mem_cons_of_mem _ hz)
    obtain ⟨p, hp, ep⟩ := List.mem_map.mp (h y List.mem_cons_self)
    exact ⟨p :: qs, by rw [List.map_cons, e, ep], fun q hq' => (List.mem_cons.mp hq').elim (fun e => by rw [e]; exact hp) (hq q)⟩
/-- the books of what is cut -/
def Md.nil0 (M : Md) : Md := { M with la := 0, ws := [] }
section
variable {CD CP : Addr} {K : PySem.W.Frag} {Ps : List Addr} {H H' : Hp} {d : Addr × DA} {B : Addr} {A : BA} {fa : Addr} {M N : Md}
def Out (d : Addr × DA) (B : Addr) (A : BA) (fa : Addr) (T : List Addr) : Prop := ∀ x ∈ T, x ∉ dO d ∧ x ∉ bkO B A ∧ x ≠ fa
/-- something else has changed at places of its own -/
theorem Wd.big (W : Wd CD CP K Ps H d B A fa M N) {T : List Addr} (k : Kp (T ++ Ps) H H') (t : Tab Ps H') (nt : ∀ x ∈ T, NT CP H x) (hT : Out d B A fa T) : Wd CD CP K Ps H' d B A fa M N := by
  have nt' : ∀ x ∈ T ++ Ps, NT CP H x := fun x hx => (List.mem_append.mp hx).elim (nt x) fun h => NT.tab W.t h
  refine { W with t := t, ef := ?_, dk := W.dk.stay k nt' fun x hx z => ?_, bk := W.bk.stay k nt' fun x hx z => ?_ }
  · obtain ⟨fs, e⟩ := W.ef
    refine ⟨fs, k _ _ e fun z => ?_⟩
    rcases List.mem_append.mp z with q | q
    · exact (hT _ q).2.2 rfl
    · exact W.t.ne q e (by intro _ z; cases z) rfl
  · rcases List.mem_append.mp z with q | q
    · exact (hT _ q).1 hx
    · obtain ⟨o, e, n, _⟩ := W.dk.held hx
      exact W.t.ne q e n rfl
  · rcases List.mem_append.mp z with q | q
    · exact (hT _ q).2.1 hx
    · obtain ⟨ys, e⟩ := W.bk.held hx
      exact W.t.ne q e (by intro _ z; cases z) rfl
theorem tab_kp {Ps T : List Addr} {H H' : Hp} (t : Tab Ps H) (k : Kp T H H') (h : ∀ x ∈ T, ∃ xs, H x = some (.lst xs)) : Tab Ps H' := fun P hP => by
  obtain ⟨ps, q, o⟩ := t P hP
  refine ⟨ps, k _ _ q fun z => ?_, o⟩
  obtain ⟨xs, e⟩ := h _ z
  rw [e] at q
  cases q
theorem Wd.lsts (W : Wd CD CP K Ps H d B A fa M N) {T : List Addr} (k : Kp T H H') (h : ∀ x ∈ T, ∃ xs, H x = some (.lst xs)) (hT : Out d B A fa T) : Wd CD CP K Ps H' d B A fa M N :=
  W.big (k.mono fun x hx => List.mem_append.mpr (.inl hx)) (tab_kp W.t k h) (fun x hx => by obtain ⟨xs, e⟩ := h x hx; exact NT.lst e) hT
/-- the law's world, a second book and a list of numbers -/
structure Ca (CD CP : Addr) (K : PySem.W.Frag) (Ps : List Addr) (H : Hp) (d : Addr × DA) (B : Addr) (A : BA) (fa : Addr) (M : Md) (B2 : Addr) (A2 : BA) (N : Md) (KL : Addr) (ns : List Int) : Prop where
  w : Wd CD CP K Ps H d B A fa M M
  bk : BkAt K H B2 A2 N
  be : Out d B A fa (bkO B2 A2)
  kl : H KL = some (.lst (ns.map V.int))
  ke : Out d B A fa [KL]
  kb : KL ∉ bkO B2 A2
variable {B2 KL : Addr} {A2 : BA} {ns : List Int}
theorem Ca.pick (C : Ca CD CP K Ps H d B A fa M B2 A2 N KL ns) (k : Kp [fa] H H') (ef : ∃ fs : List Int, H' fa = some (.lst (fs.map V.int))) : Ca CD CP K Ps H' d B A fa M B2 A2 N KL ns := by
  obtain ⟨fs, e⟩ := C.w.ef
  have nt : ∀ x ∈ [fa], NT CP H x := fun x hx => by rw [List.mem_singleton.mp hx]; exact NT.lst e
  refine { C with w := C.w.pick k ef, bk := C.bk.stay k nt fun x hx z => (C.be x hx).2.2 (List.mem_singleton.mp z), kl := k _ _ C.kl fun z => (C.ke KL (by simp)).2.2 (List.mem_singleton.mp z) }
theorem Ca.app (C : Ca CD CP K Ps H d B A fa M B2 A2 N KL ns) (n : Int) : Ca CD CP K Ps (upd H KL (.lst (ns.map V.int ++ [.int n]))) d B A fa M B2 A2 N KL (ns ++ [n]) := by
  have k : Kp [KL] H (upd H KL (.lst (ns.map V.int ++ [.int n]))) := Kp.refl.own (by simp)
  have hl : ∀ x ∈ [KL], ∃ xs, H x = some (.lst xs) := fun x hx => by rw [List.mem_singleton.mp hx]; exact ⟨_, C.kl⟩
  refine { C with w := C.w.lsts k hl C.ke, bk := C.bk.stay (CP := CP) k (fun x hx => by obtain ⟨xs, e⟩ := hl x hx; exact NT.lst e) fun x hx z => C.kb (by rw [← List.mem_singleton.mp z]; exact hx), kl := by rw [upd_same, List.map_append]; rfl }
theorem Ca.put (C : Ca CD CP K Ps H d B A fa M B2 A2 N KL ns) {N' : Md} (k : Kp [A2.ho, A2.lg] H H') (b : BkAt K H' B2 A2 N') : Ca CD CP K Ps H' d B A fa M B2 A2 N' KL ns := by
  have sub : ∀ x ∈ [A2.ho, A2.lg], x ∈ bkO B2 A2 := fun x hx => by
    simp only [List.mem_cons, List.not_mem_nil, or_false] at hx
    rcases hx with z | z <;> rw [z] <;> simp [bkO]
  refine { C with w := C.w.lsts k (fun x hx => C.bk.held (sub x hx)) fun x hx => C.be x (sub x hx), bk := b, kl := k _ _ C.kl fun z => C.kb (sub _ z) }
theorem Ca.same (C : Ca CD CP K Ps H d B A fa M B2 A2 N KL ns) (s : Same H H') : Ca CD CP K Ps H' d B A fa M B2 A2 N KL ns :=
  { C with w := C.w.same s, bk := C.bk.same s, kl := s _ _ C.kl }
/-- the law's world, a second disk and its book -/
structure Cw (CD CP : Addr) (K : PySem.W.Frag) (Ps : List Addr) (H : Hp) (d : Addr × DA) (B : Addr) (A : BA) (fa : Addr) (M : Md) (e : Addr × DA) (N' : Md) (B2 : Addr) (A2 : BA) (N : Md) : Prop where
  w : Wd CD CP K Ps H d B A fa M M
  dk : DkE CD CP K H e N'
  de : Out d B A fa (dO e)
  bk : BkAt K H B2 A2 N
  be : Out d B A fa (bkO B2 A2)
  bd : ∀ x ∈ bkO B2 A2, x ∉ dO e
variable {e : Addr × DA} {N' : Md}
theorem BkAt.tk {K : PySem.W.Frag} {Ps : List Addr} {H H' : Hp} {B : Addr} {A : BA} {M : Md} (h : BkAt K H B A M) (t : Tab Ps H) (k : Tk Ps H H') : BkAt K H' B A M :=
  h.kp (fun _ _ x => k.seqT t x) fun x hx o e => by
    obtain ⟨ys, y⟩ := h.held hx
    rw [y] at e
    cases e
    exact k.at t y
theorem DkE.tk {CD CP : Addr} {K : PySem.W.Frag} {Ps : List Addr} {H H' : Hp} {d : Addr × DA} {M : Md} (h : DkE CD CP K H d M) (t : Tab Ps H) (k : Tk Ps H H') : DkE CD CP K H' d M := by
  obtain ⟨hs, gs, ps, D⟩ := h
  exact ⟨hs, gs, ps, D.tk t k⟩
theorem Cw.tk (C : Cw CD CP K Ps H d B A fa M e N' B2 A2 N) (k : Tk Ps H H') : Cw CD CP K Ps H' d B A fa M e N' B2 A2 N :=
  { C with w := C.w.tk k, dk := C.dk.tk C.w.t k, bk := C.bk.tk C.w.t k }
theorem Cw.same (C : Cw CD CP K Ps H d B A fa M e N' B2 A2 N) (s : Same H H') : Cw CD CP K Ps H' d B A fa M e N' B2 A2 N := C.tk (.of C.w.t s)
theorem Cw.pick (C : Cw CD CP K Ps H d B A fa M e N' B2 A2 N) (k : Kp [fa] H H') (ef : ∃ fs : List Int, H' fa = some (.lst (fs.map V.int))) : Cw CD CP K Ps H' d B A fa M e N' B2 A2 N := by
  obtain ⟨fs, e0⟩ := C.w.ef
  have nt : ∀ x ∈ [fa], NT CP H x := fun x hx => by rw [List.mem_singleton.mp hx]; exact NT.lst e0
  exact { C with w := C.w.pick k ef, dk := C.dk.stay k nt fun x hx z => (C.de x hx).2.2 (List.mem_singleton.mp z), bk := C.bk.stay k nt fun x hx z => (C.be x hx).2.2 (List.mem_singleton.mp z) }
/-- the second disk has done something -/
theorem Cw.did (C : Cw CD CP K Ps H d B A fa M e N' B2 A2 N) {N2 : Md} (g : Did K Ps (dO e) H H') (h : DkE CD CP K H' e N2) : Cw CD CP K Ps H' d B A fa M e N2 B2 A2 N := by
  refine { C with w := C.w.big g.k g.t C.dk.nt C.de, dk := h, bk := C.bk.kp g.f fun x hx o eo => ?_ }
  obtain ⟨ys, y⟩ := C.bk.held hx
  rw [y] at eo
  cases eo
  refine g.k _ _ y fun z => ?_
  rcases List.mem_append.mp z with q | q
  · exact C.bd x hx q
  · exact C.w.t.ne q y (by intro _ z; cases z) rfl
/-- the second book has changed -/
theorem Cw.book (C : Cw CD CP K Ps H d B A fa M e N' B2 A2 N) {N2 : Md} {A3 : BA} (k : Kp (bkO B2 A2) H H') (b : BkAt K H' B2 A3 N2) (o : Out d B A fa (bkO B2 A3)) (o2 : ∀ x ∈ bkO B2 A3, x ∉ dO e) : Cw CD CP K Ps H' d B A fa M e N' B2 A3 N2 := by
  have nt : ∀ x ∈ bkO B2 A2, NT CP H x := fun x hx => by obtain ⟨ys, y⟩ := C.bk.held hx; exact NT.lst y
  exact ⟨C.w.lsts k (fun x hx => C.bk.held hx) C.be, C.dk.stay k nt fun x hx z => C.bd x z hx, C.de, b, o, o2⟩
/-- what is new lies outside -/
theorem Wd.newOut (W : Wd CD CP K Ps H d B A fa M N) {T : List Addr} (h : ∀ x ∈ T, H x = none) : Out d B A fa T := fun x hx => ⟨(W.new (h x hx)).1, (W.new (h x hx)).2.1, (W.new (h x hx)).2.2.1⟩
end
end K01
namespace K01
open PySem PySem.Spec PyProof.Rows L2 Rg
theorem b_Disk_cut0 {K : PySem.W.Frag} {mg : Str → Option Value} (T : Tx K mg) : ∃ ds, Vals [.ref T.dv_Disk_cut] ds ∧ Binds K T.fd_Disk_cut ["self", "keep"] ds :=
  T.F_Disk_cut.binds1 (ps := ["self", "keep"]) 1 0 (by simp) rfl (fun _ _ _ _ _ _ _ us its hu hi => match us, its, hu, hi with | [_], [_], _, _ => ⟨_, rfl, rfl⟩)
theorem dv_cut {K : PySem.W.Frag} {mg : Str → Option Value} (T : Tx K mg) (H : Hp) : SqT K H T.dv_Disk_cut [] := by
  obtain ⟨od, n, sl, e⟩ := T.ek_Disk_cut
  exact .inr ⟨_, #[], n, e, rfl, rfl, by decide, .nil⟩
theorem nf_eq (NX : Md) (w : Ct) (nla : NX.la = 0) (nws : NX.ws = []) : (((NX.issue (.home 22) w).issue (.home 2) w).sure ⟨NX.la + 1 + 1, .home 2, w⟩).head 9 = { ({ NX.put ⟨2, .home 2, w⟩ with hd := 9, la := 2 } : Md) with ws := [(⟨1, .home 22, w⟩ : Wv)] } := by
  obtain ⟨hm, lg, hd, la, ws⟩ := NX
  have nla : la = 0 := nla
  have nws : ws = [] := nws
  subst nla nws
  rfl
section
variable {K : PySem.W.Frag} {H : Hp} {B : Addr} {A : BA} {M : Md}
theorem BkAt.nm1 (h : BkAt K H B A M) {nl : Addr} {p q : Int} (e : H nl = some (.lst [.int p, .int q])) (n : nl ∉ bkO B A) : BkAt K (upd H B (.lst [.ref A.ho, .ref A.lg, .ref nl, .ref A.pe])) B { A with nm := nl } { M with hd := p, la := q } := by
  have fo := h.own (c := B) (u := [.ref A.ho, .ref A.lg, .ref nl, .ref A.pe]) (by simp [bkO])
  obtain ⟨hs, h1, h2⟩ := h.h
  obtain ⟨gs, g1, g2⟩ := h.g
  obtain ⟨G, w1, w2, w3⟩ := h.w
  have ne := h.ne
  simp only [bkO, List.nodup_cons, List.mem_cons, List.not_mem_nil, or_false, not_or] at ne n
  refine ⟨upd_same, ⟨hs, by rw [upd_ne (Ne.symm ne.1.1)]; exact h1, h2.by fo⟩, ⟨gs, by rw [upd_ne (Ne.symm ne.1.2.1)]; exact g1, g2.by fo⟩, by rw [upd_ne n.1]; exact e, ⟨G, by rw [upd_ne (Ne.symm ne.1.2.2.2)]; exact w1, w2.by fo, w3⟩, h.lh, h.ll, h.ln, h.ft, h.mf, ?_⟩
  simp only [bkO, List.nodup_cons, List.mem_cons, List.not_mem_nil, or_false, not_or]
  exact ⟨⟨ne.1.1, ne.1.2.1, Ne.symm n.1, ne.1.2.2.2⟩, ⟨ne.2.1.1, Ne.symm n.2.1, ne.2.1.2.2⟩, ⟨Ne.symm n.2.2.1, ne.2.2.1.2⟩, n.2.2.2.2, not_false, List.nodup_nil⟩
theorem BkAt.pe1 (h : BkAt K H B A M) {pl : Addr} {G : List Wg} (e : H pl = some (.lst (G.map fun g => .ref g.1))) (hG : WsG K H G) (n : pl ∉ bkO B A) (l : G.length < 900) (ft : ∀ g ∈ G, CtFit 24 30 g.2.q g.2.w) : BkAt K (upd H B (.lst [.ref A.ho, .ref A.lg, .ref A.nm, .ref pl])) B { A with pe := pl } { M with ws := G.map (·.2) } := by
  have fo := h.own (c := B) (u := [.ref A.ho, .ref A.lg, .ref A.nm, .ref pl]) (by simp [bkO])
  obtain ⟨hs, h1, h2⟩ := h.h
  obtain ⟨gs, g1, g2⟩ := h.g
  have ne := h.ne
  simp only [bkO, List.nodup_cons, List.mem_cons, List.not_mem_nil, or_false, not_or] at ne n
  refine ⟨upd_same, ⟨hs, by rw [upd_ne (Ne.symm ne.1.1)]; exact h1, h2.by fo⟩, ⟨gs, by rw [upd_ne (Ne.symm ne.1.2.1)]; exact g1, g2.by fo⟩, by rw [upd_ne (Ne.symm ne.1.2.2.1)]; exact h.n, ⟨G, by rw [upd_ne n.1]; exact e, hG.by fo, rfl⟩, h.lh, h.ll, by show (G.map (·.2)).length < 900; rw [List.length_map]; exact l, fun x hx => ?_, h.mf, ?_⟩
  · obtain ⟨g, hg, rfl⟩ := List.mem_map.mp hx
    exact ft g hg
  · simp only [bkO, List.nodup_cons, List.mem_cons, List.not_mem_nil, or_false, not_or]
    exact ⟨⟨ne.1.1, ne.1.2.1, ne.1.2.2.1, Ne.symm n.1⟩, ⟨ne.2.1.1, ne.2.1.2.1, Ne.symm n.2.1⟩, ⟨ne.2.2.1.1, Ne.symm n.2.2.1⟩, Ne.symm n.2.2.2.1, not_false, List.nodup_nil⟩
end
section
variable {P : Program} {w0_ : World} {K : PySem.W.Frag} {mg : Str → Option Value} {base : Heap}
/-! ### _law_cut -/
theorem ok_Lcut (T : Tx K mg) (B0 : TBs T base) : FnOk P w0_ K mg base CX0 12 T.f_Lcut T.fd_Lcut ["_law_disk", "_law_book", "_law_feed_here"] (sp_step T.C_Disk T.C_Plan K T.Ps) := by
  refine T.F_Lcut.ok sc_Lcut (fun vs H Q E h => ?_) (fun cdv A0 outer s H vs Q E hr h => ?_)
  · obtain ⟨_, _, _, _, _, rfl, _⟩ := h; rfl
  · obtain ⟨d, B, A, fa, M, rfl, W, hn, l0, l1, hp, k⟩ := h
    have hr1 := hr.mono (show 1 ≤ 11 by decide)
    have hr2 := hr.mono (show 2 ≤ 11 by decide)
    have hr4 := hr.mono (show 4 ≤ 11 by decide)
    have hr5 := hr.mono (show 5 ≤ 11 by decide)
    have hr8 := hr.mono (show 8 ≤ 11 by decide)
    have hr10 := hr.mono (show 10 ≤ 11 by decide)
    obtain ⟨ds0, hv0, hb0⟩ := b_Disk_cut0 T
    refine ⟨_, (pss_cons (ps_asg (pv 1) (pg_lst rfl (pgs_cons (pg_name (i := 3) sc_Lcut.nd rfl (.inl rfl)) (pgs_cons (pg_name (i := 4) sc_Lcut.nd rfl (.inl rfl)) (pgs_cons (pg_name (i := 5) sc_Lcut.nd rfl (.inl rfl)) (pgs_cons (pg_name (i := 6) sc_Lcut.nd rfl (.inl rfl)) pgs_nil))))))
      (pss_cons (ps_set (i := 7) sc_Lcut.nd rfl (.inl rfl) (pe_lst (pa_cons (pe_callTy call_list_of rfl T.b_list (by decide +kernel) (pa_cons (pv 3) pa_nil)) (pa_cons (pe_callTy call_list_of rfl T.b_list (by decide +kernel) (pa_cons (pv 4) pa_nil)) (pa_cons (pe_lst (pa_cons (pe_ix ix_list (pv 5) pe_int (fun _ _ => rfl)) (pa_cons pe_int pa_nil))) (pa_cons (pe_lst pa_nil) pa_nil))))))
      (pss_cons (ps_if (pt_not (pt_val (pe_call (ok_Lagrees T B0) hr8 rfl T.mg_Lagrees T.F_Lagrees.kp (b_Lagrees T) .nil pass0 (pa_cons (pe_meth0 (pv 0) T.cl_Disk T.m_Disk_cut (ok_cutT T) hr4 hb0 hv0 pass0) (pa_cons (pv 7) pa_nil)))))
        (pss_one (ps_ret pe_bl))
        pss_nil)
      (pss_cons (ps_set (i := 8) sc_Lcut.nd rfl (.inl rfl) (pe_lst pa_nil))
      (pss_cons (ps_for PassesOwn.never rfl (pi_list (pv 6)) (pg_name (i := 9) sc_Lcut.nd rfl (.inl rfl))
        (pss_one (ps_if (pt_cmpR op_eq (pe_call (ok_Lpick T) hr1 rfl T.mg_Lpick T.F_Lpick.kp (b_Lpick T) .nil pass0 (pa_cons (pv 2) (pa_cons pe_int pa_nil))) pe_int (nomark _))
          (pss_cons (ps_expr (pe_bm PySem.F.plainAttrs_list PySem.F.slot_list_append PySem.F.type_list_append mt_append (pv 8) (pa_cons (pe_ix ix_tup (pv 9) pe_int (fun _ _ => rfl)) pa_nil)))
          (pss_one (ps_expr (pe_call (ok_Lput T) hr1 rfl T.mg_Lput T.F_Lput.kp (b_Lput T) .nil pass0 (pa_cons (pv 7) (pa_cons (pv 9) pa_nil))))))
          pss_nil)))
      (Evl.pss_cut (ps_if (pt_cmpR op_eq (pe_call (ok_Lpick T) hr1 rfl T.mg_Lpick T.F_Lpick.kp (b_Lpick T) .nil pass0 (pa_cons (pv 2) (pa_cons pe_int pa_nil))) pe_int (nomark _))
        (pss_one (ps_set (i := 8) sc_Lcut.nd rfl (.inl rfl) (pe_listRev rfl rfl T.b_list rfl T.b_reversed (pv 8))))
        pss_nil)
      (pss_cons (ps_set (i := 10) sc_Lcut.nd rfl (.inl rfl) (pe_meth (pv 0) T.cl_Disk T.m_Disk_cut (ok_cutT T) hr4 (b_Disk_cut T) .nil pass0 (pa_cons (pe_callTy call_tuple_of rfl T.b_tuple (by decide +kernel) (pa_cons (pv 8) pa_nil)) pa_nil)))
      (pss_cons (ps_if (PW.pt (pw_or (pt_not (pt_val (pe_call (ok_Lagrees T B0) hr8 rfl T.mg_Lagrees T.F_Lagrees.kp (b_Lagrees T) .nil pass0 (pa_cons (pv 10) (pa_cons (pv 7) pa_nil))))) (pw_or1 (pt_not (pt_val (pe_call (ok_Lagrees T B0) hr8 rfl T.mg_Lagrees T.F_Lagrees.kp (b_Lagrees T) .nil pass0 (pa_cons (pe_meth (pv 0) T.cl_Disk T.m_Disk_cut (ok_cut T) hr4 (b_Disk_cut T) .nil pass0 (pa_cons (pe_callTy call_list_of rfl T.b_list (by decide +kernel) (pa_cons (pv 8) pa_nil)) pa_nil)) (pa_cons (pv 7) pa_nil))))))))
        (pss_one (ps_ret pe_bl))
        pss_nil)
      (pss_cons (ps_set (i := 11) sc_Lcut.nd rfl (.inl rfl) (pe_lst (pa_cons (pe_op op_cat (pv 8) (pe_lst (pa_cons (pe_op op_add (pe_ix ix_list (pv 5) pe_int (fun _ _ => rfl)) pe_int) pa_nil))) (pa_cons (pe_op op_cat (pe_lst (pa_cons pe_int pa_nil)) (pv 8)) (pa_cons (pe_op op_cat (pe_op op_cat (pv 8) (pv 8)) (pe_lst (pa_cons (pe_op op_add (pe_ix ix_list (pv 5) pe_int (fun _ _ => rfl)) pe_int) pa_nil))) pa_nil)))))
      (Evl.pss_cut (ps_if (pt_cmpR op_gt (pe_callB call_len_seq rfl T.b_len (by decide +kernel) (pa_cons (pv 8) pa_nil)) pe_int (nomark _))
        (pss_one (ps_expr (pe_bm PySem.F.plainAttrs_list PySem.F.slot_list_extend PySem.F.type_list_extend mt_extend (pv 11) (pa_cons (pe_lst (pa_cons (pe_op op_cat (pv 8) (pe_lst (pa_cons (pe_ix ix_list (pv 8) pe_int (fun _ _ => rfl)) pa_nil))) (pa_cons (pe_op op_cat (pe_lst (pa_cons (pe_ix ix_list (pv 8) pe_int (fun _ _ => rfl)) pa_nil)) (pv 8)) pa_nil))) pa_nil))))
        pss_nil)
      (pss_cons (ps_for PassesOwn.never rfl (pi_list (pv 11)) (pg_name (i := 12) sc_Lcut.nd rfl (.inl rfl))
        (pss_one (ps_if (PW.pt (pw_or (pt_not (pt_val (pe_call (ok_Lno_cutL T) hr5 rfl T.mg_Lno_cut T.F_Lno_cut.kp (b_Lno_cut T) .nil pass0 (pa_cons (pv 0) (pa_cons (pv 12) pa_nil))))) (pw_or1 (pt_not (pt_val (pe_call (ok_Lno_cutT T) hr5 rfl T.mg_Lno_cut T.F_Lno_cut.kp (b_Lno_cut T) .nil pass0 (pa_cons (pv 0) (pa_cons (pe_callTy call_tuple_of rfl T.b_tuple (by decide +kernel) (pa_cons (pv 12) pa_nil)) pa_nil))))))))
          (pss_one (ps_ret pe_bl))
          pss_nil)))
      (pss_cons (ps_set (i := 13) sc_Lcut.nd rfl (.inl rfl) (pe_call (ok_Lcells T) hr2 rfl T.mg_Lcells T.F_Lcells.kp (b_Lcells T) .nil pass0 (pa_cons (pv 2) pa_nil)))
      (pss_cons (ps_if (PW.pt (pw_or (pt_not (pt_val (pe_call (ok_Lsame T 0) hr2 rfl T.mg_Lsame T.F_Lsame.kp (b_Lsame T) .nil pass0 (pa_cons (pe_meth (pv 10) T.cl_Disk T.m_Disk_issue (ok_issueG T B0) hr10 (b_Disk_issue T) .nil pass0 (pa_cons (pe_tup (pa_cons pe_str (pa_cons pe_int pa_nil))) (pa_cons (pe_callTy call_list_of rfl T.b_list (by decide +kernel) (pa_cons (pv 13) pa_nil)) pa_nil))) (pa_cons pe_int pa_nil))))) (pw_or1 (pt_not (pt_val (pe_call (ok_Lsame T 0) hr2 rfl T.mg_Lsame T.F_Lsame.kp (b_Lsame T) .nil pass0 (pa_cons (pe_meth (pv 10) T.cl_Disk T.m_Disk_issue (ok_issueG T B0) hr10 (b_Disk_issue T) .nil pass0 (pa_cons (pe_tup (pa_cons pe_str (pa_cons pe_int pa_nil))) (pa_cons (pe_callTy call_list_of rfl T.b_list (by decide +kernel) (pa_cons (pv 13) pa_nil)) pa_nil))) (pa_cons pe_int pa_nil))))))))
        (pss_one (ps_ret pe_bl))
        pss_nil)
      (pss_cons (ps_expr (pe_meth (pv 10) T.cl_Disk T.m_Disk_sure (ok_sureG T) hr2 (b_Disk_sure T) .nil pass0 (pa_cons pe_int pa_nil)))
      (pss_cons (ps_expr (pe_meth (pv 10) T.cl_Disk T.m_Disk_move_head (ok_move_head T) hr2 (b_Disk_move_head T) .nil pass0 (pa_cons pe_int pa_nil)))
      (pss_cons (ps_expr (pe_call (ok_Lput T) hr1 rfl T.mg_Lput T.F_Lput.kp (b_Lput T) .nil pass0 (pa_cons (pv 7) (pa_cons (pe_tup (pa_cons pe_int (pa_cons (pe_tup (pa_cons pe_str (pa_cons pe_int pa_nil))) (pa_cons (pe_callTy call_tuple_of rfl T.b_tuple (by decide +kernel) (pa_cons (pv 13) pa_nil)) pa_nil)))) pa_nil))))
      (pss_cons (ps_asg (pe_lst (pa_cons pe_int (pa_cons pe_int pa_nil))) (pg_sub (pv 7) pe_int set_list))
      (pss_cons (ps_asg (pe_lst (pa_cons (pe_tup (pa_cons pe_int (pa_cons (pe_tup (pa_cons pe_str (pa_cons pe_int pa_nil))) (pa_cons (pe_callTy call_tuple_of rfl T.b_tuple (by decide +kernel) (pa_cons (pv 13) pa_nil)) pa_nil)))) pa_nil)) (pg_sub (pv 7) pe_int set_list))
      (pss_one (ps_ret (pe_call (ok_Lagrees T B0) hr8 rfl T.mg_Lagrees T.F_Lagrees.kp (b_Lagrees T) .nil pass0 (pa_cons (pv 10) (pa_cons (pv 7) pa_nil))))))))))))))))))))))), ?_⟩
    obtain ⟨hs1, h1, h2⟩ := W.bk.h
    obtain ⟨gs1, g1, g2⟩ := W.bk.g
    refine ⟨_, rfl, B, _, rfl, .inl (.of W.bk.e), rfl, _, _, rfl, _, _, rfl, _, _, rfl, _, _, rfl, rfl, ?_⟩
    ((try dsimp only); (first | (refine Rg.sg (σ' := [some (.ref d.1), some (.ref B), some (.ref fa), some (.ref A.ho), some (.ref A.lg), some (.ref A.nm), some (.ref A.pe), none, none, none, none, none, none, none]) ?_ ?_; focus exact rfl) | (refine Rg.sgG (σ' := [some (.ref d.1), some (.ref B), some (.ref fa), some (.ref A.ho), some (.ref A.lg), some (.ref A.nm), some (.ref A.pe), none, none, none, none, none, none, none]) ?_ ?_; focus exact rfl)))
    refine ⟨_, rfl, A.ho, _, rfl, .inl (.of h1), ?_⟩
    (intro D1 n_D1; generalize he_D1 : upd _ D1 _ = H1; obtain ⟨e_D1, s_D1, f_D1⟩ := new_f he_D1 n_D1; clear he_D1)
    refine ⟨_, rfl, A.lg, _, rfl, .inl (.of (s_D1 _ _ g1)), ?_⟩
    (intro D2 n_D2; generalize he_D2 : upd _ D2 _ = H2; obtain ⟨e_D2, s_D2, f_D2⟩ := new_f he_D2 n_D2; clear he_D2)
    have S02 := s_D1.trans s_D2
    refine ⟨_, rfl, A.nm, _, 0, .int M.hd, rfl, rfl, .of (S02 _ _ W.bk.n), atI_nat (j := 0) rfl, by show 2 ≤ sizeLine; decide, ?_⟩
    (intro D3 n_D3; generalize he_D3 : upd _ D3 _ = H3; obtain ⟨e_D3, s_D3, f_D3⟩ := new_f he_D3 n_D3; clear he_D3)
    refine ⟨by show 0 ≤ sizeLine; decide, ?_⟩
    (intro D4 n_D4; generalize he_D4 : upd _ D4 _ = H4; obtain ⟨e_D4, s_D4, f_D4⟩ := new_f he_D4 n_D4; clear he_D4)
    refine ⟨by show 4 ≤ sizeLine; decide, ?_⟩
    (intro B2 n_B2; generalize he_B2 : upd _ B2 _ = H5; obtain ⟨e_B2, s_B2, f_B2⟩ := new_f he_B2 n_B2; clear he_B2)
    have S35 := s_D3.trans (s_D4.trans s_B2)
    have S25 := s_D2.trans S35
    have S05 := s_D1.trans S25
    have W5 := W.same S05
    have x1 := s_D2 _ _ e_D1
    have x2 := s_D3 _ _ x1
    have x3 := s_D4 _ _ x2
    have y2 := s_D3 _ _ e_D2
    have y3 := s_D4 _ _ y2
    have z3 := s_D4 _ _ e_D3
    have nn : (bkO B2 ⟨D1, D2, D3, D4⟩).Nodup := by
      simp only [bkO, List.nodup_cons, List.mem_cons, List.not_mem_nil, or_false, not_or]
      refine ⟨⟨fun z => ?_, fun z => ?_, fun z => ?_, fun z => ?_⟩, ⟨fun z => ?_, fun z => ?_, fun z => ?_⟩, ⟨fun z => ?_, fun z => ?_⟩, fun z => ?_, not_false, List.nodup_nil⟩
      · rw [z, x3] at n_B2; cases n_B2
      · rw [z, y3] at n_B2; cases n_B2
      · rw [z, z3] at n_B2; cases n_B2
      · rw [z, e_D4] at n_B2; cases n_B2
      · rw [← z, e_D1] at n_D2; cases n_D2
      · rw [← z, x1] at n_D3; cases n_D3
      · rw [← z, x2] at n_D4; cases n_D4
      · rw [← z, e_D2] at n_D3; cases n_D3
      · rw [← z, y2] at n_D4; cases n_D4
      · rw [← z, e_D3] at n_D4; cases n_D4
    have nB : ∀ x ∈ bkO B2 ⟨D1, D2, D3, D4⟩, H x = none := fun x hx => by
      simp only [bkO, List.mem_cons, List.not_mem_nil, or_false] at hx
      rcases hx with z | z | z | z | z <;> rw [z]
      · exact (S02.trans (s_D3.trans s_D4)).free n_B2
      · exact n_D1
      · exact s_D1.free n_D2
      · exact S02.free n_D3
      · exact (S02.trans s_D3).free n_D4
    have b5 : BkAt K H5 B2 ⟨D1, D2, D3, D4⟩ M.nil0 := ⟨e_B2, ⟨_, S25 _ _ e_D1, h2.same S05⟩, ⟨_, S35 _ _ e_D2, g2.same S05⟩, s_B2 _ _ z3, ⟨[], s_B2 _ _ e_D4, (fun g hg => by cases hg), rfl⟩, W.bk.lh, W.bk.ll, (by show (0 : Nat) < 900; decide), (fun x hx => by cases hx), W.bk.mf, nn⟩
    obtain ⟨A2, eA2⟩ : ∃ A2 : BA, A2 = ⟨D1, D2, D3, D4⟩ := ⟨_, rfl⟩
    rw [← eA2] at nB b5
    clear nn x1 x2 x3 y2 y3 z3 e_D1 e_D2 e_D3 e_D4 e_B2 S25 S35 S02
    have o5 := W.newOut nB
    ((try dsimp only); (first | (refine Rg.sg (σ' := [some (.ref d.1), some (.ref B), some (.ref fa), some (.ref A.ho), some (.ref A.lg), some (.ref A.nm), some (.ref A.pe), some (.ref B2), none, none, none, none, none, none]) ?_ ?_; focus exact rfl) | (refine Rg.sgG (σ' := [some (.ref d.1), some (.ref B), some (.ref fa), some (.ref A.ho), some (.ref A.lg), some (.ref A.nm), some (.ref A.pe), some (.ref B2), none, none, none, none, none, none]) ?_ ?_; focus exact rfl)))
    obtain ⟨hs, gs, ps, D⟩ := W5.dk
    obtain ⟨dx, ob⟩ := D.D.ob
    have lp : ps.length = M.ws.length := by rw [← D.e, List.length_map]
    refine ⟨_, rfl, d.1, _, _, rfl, ob, rfl, d.1, T.dv_Disk_cut, d.2, 24, 5, 30, M.hd, M.la, hs, gs, ps, [], rfl, D.D, D.P, D.O, by omega, (fun q h => by cases h), List.nodup_nil, by decide, dv_cut T _, fun H6 e1 Ae s6 ne1 nho nlg npd eAp D6 => ?_⟩
    have DE6 : DkAt T.C_Disk T.C_Plan K H6 e1 Ae hs gs [] M.nil0 := ⟨D6, (fun p hp => by cases hp), ⟨List.nodup_nil, (fun p hp => by cases hp), List.nodup_nil⟩, D.rh.same s6, D.rg.same s6, rfl, by decide⟩
    refine ⟨_, rfl, e1, B2, Ae, A2, hs, gs, [], M.nil0, rfl, DE6, b5.same s6, (W5.same s6).t, fun H7 k7 => ⟨_, rfl, iteF ?_⟩⟩
    have W7 := (W5.same s6).tk k7
    have b7 := (b5.same s6).tk (W5.same s6).t k7
    clear DE6 D6 ob D W5 b5
    refine ⟨by show 0 ≤ sizeLine; decide, ?_⟩
    (intro KL n_KL; generalize he_KL : upd _ KL _ = H8; obtain ⟨e_KL, s_KL, f_KL⟩ := new_f he_KL n_KL; clear he_KL)
    ((try dsimp only); (first | (refine Rg.sg (σ' := [some (.ref d.1), some (.ref B), some (.ref fa), some (.ref A.ho), some (.ref A.lg), some (.ref A.nm), some (.ref A.pe), some (.ref B2), some (.ref KL), none, none, none, none, none]) ?_ ?_; focus exact rfl) | (refine Rg.sgG (σ' := [some (.ref d.1), some (.ref B), some (.ref fa), some (.ref A.ho), some (.ref A.lg), some (.ref A.nm), some (.ref A.pe), some (.ref B2), some (.ref KL), none, none, none, none, none]) ?_ ?_; focus exact rfl)))
    have C8 : Ca T.C_Disk T.C_Plan K T.Ps H8 d B A fa M B2 A2 (M.nil0.puts []) KL [] := ⟨W7.same s_KL, b7.same s_KL, o5, e_KL, (W7.newOut (T := [KL]) fun x hx => by rw [List.mem_singleton.mp hx]; exact n_KL), fun z => by obtain ⟨ys, y⟩ := b7.held z; rw [n_KL] at y; cases y⟩
    obtain ⟨G, w1, w2, w3⟩ := C8.w.bk.w
    have lG : G.length = M.ws.length := by rw [← w3, List.length_map]
    refine ⟨_, rfl, A.pe, rfl, ⟨_, .of w1⟩, for_list (K := K) (a := A.pe) (xs := G.map fun g => V.ref g.1) (fun i σ H' => ∃ (u9 : Option V) (xs : List Wv), σ = [some (.ref d.1), some (.ref B), some (.ref fa), some (.ref A.ho), some (.ref A.lg), some (.ref A.nm), some (.ref A.pe), some (.ref B2), some (.ref KL), u9, none, none, none, none] ∧ Ca T.C_Disk T.C_Plan K T.Ps H' d B A fa M B2 A2 (M.nil0.puts xs) KL (xs.map (·.m)) ∧ xs.Sublist (M.ws.take i) ∧ H' A.pe = some (.lst (G.map fun g => V.ref g.1)) ∧ ∀ b xs, SqT K H8 b xs → SqT K H' b xs) ⟨none, [], rfl, C8, List.Sublist.refl _, w1, fun _ _ h => h⟩ (fun i σ H' _ ⟨_, _, _, _, _, e, _⟩ => .of e) ?_ ?_⟩
    · rintro i y σ H' hi ⟨u9, xs, rfl, C, sb, e1, f1⟩
      rw [List.getElem?_map] at hi
      obtain ⟨g, hg, rfl⟩ := Option.map_eq_some_iff.mp hi
      have gm := List.mem_of_getElem? hg
      have hx : M.ws[i]? = some g.2 := by rw [← w3, List.getElem?_map, hg]; rfl
      have hxm := List.mem_of_getElem? hx
      have hw := (w2 g gm).by f1
      have hf := W.bk.ft g.2 hxm
      have lx : xs.length < 900 := by
        have := sb.length_le
        have := List.length_take_le' i M.ws
        omega
      ((try dsimp only); (first | (refine Rg.sg (σ' := [some (.ref d.1), some (.ref B), some (.ref fa), some (.ref A.ho), some (.ref A.lg), some (.ref A.nm), some (.ref A.pe), some (.ref B2), some (.ref KL), some (.ref g.1), none, none, none, none]) ?_ ?_; focus exact rfl) | (refine Rg.sgG (σ' := [some (.ref d.1), some (.ref B), some (.ref fa), some (.ref A.ho), some (.ref A.lg), some (.ref A.nm), some (.ref A.pe), some (.ref B2), some (.ref KL), some (.ref g.1), none, none, none, none]) ?_ ?_; focus exact rfl)))
      obtain ⟨f0, ef0⟩ := C.w.ef
      refine ⟨_, rfl, fa, f0, 2, rfl, ef0, by decide, fun x f1' x0 x1 _ => ?_⟩
      have pefa : A.pe ≠ fa := fun z => W.f2 (by rw [← z]; simp [bkO])
      have g0 := kF (K := K) (a := fa) (H := H') (H' := upd H' fa (.lst (f1'.map V.int))) (Kp.refl.own (by simp)) ef0
      have C1 := C.pick (Kp.refl.own (by simp)) ⟨f1', upd_same (H := H')⟩
      have e2 : upd H' fa (.lst (f1'.map V.int)) A.pe = _ := (upd_ne pefa).trans e1
      generalize upd H' fa (.lst (f1'.map V.int)) = H9 at g0 C1 e2 ⊢
      have f2 : ∀ b xs, SqT K H8 b xs → SqT K H9 b xs := fun b xs h => g0 b xs (f1 b xs h)
      refine ⟨rfl, _, rfl, wI (fun e => ?_) fun e => ?_⟩
      · obtain ⟨pa, pu, t1, t2, t3⟩ := (w2 g gm).by f2
        refine ⟨_, rfl, .inl ⟨rfl, _, .inl (.inl C1.kl)⟩, _, rfl, g.1, _, 0, .int g.2.m, rfl, rfl, t1, atI_nat (j := 0) rfl, KL, _, _, rfl, rfl, C1.kl, lt_line (by rw [List.length_map, List.length_map]; omega), ?_⟩
        have C2 := C1.app g.2.m
        have pekl : A.pe ≠ KL := fun z => (C1.ke KL (by simp)).2.1 (by rw [← z]; simp [bkO])
        have g2 := kF (K := K) (a := KL) (H := H9) (H' := upd H9 KL (.lst ((xs.map (·.m)).map V.int ++ [.int g.2.m]))) (Kp.refl.own (by simp)) C1.kl
        have e3 : upd H9 KL (.lst ((xs.map (·.m)).map V.int ++ [.int g.2.m])) A.pe = _ := (upd_ne pekl).trans e2
        generalize upd H9 KL (.lst ((xs.map (·.m)).map V.int ++ [.int g.2.m])) = Ha at C2 g2 e3 ⊢
        have f3 : ∀ b xs, SqT K H8 b xs → SqT K Ha b xs := fun b xs h => g2 b xs (f2 b xs h)
        refine ⟨_, rfl, _, rfl, B2, g.1, A2, M.nil0.puts xs, g.2, rfl, C2.bk, (w2 g gm).by f3, hf, fun Hb kb fb bb => ?_⟩
        refine ⟨_, xs ++ [g.2], rfl, ?_, ?_, kb _ _ e3 fun z => ?_, fun b xs h => fb b xs (f3 b xs h)⟩
        · rw [Md.puts_snoc, List.map_append]
          exact C2.put kb bb
        · rw [List.take_succ, hx]
          exact sb.append (List.Sublist.refl _)
        · have : A.pe ∈ bkO B2 A2 := by
            simp only [List.mem_cons, List.not_mem_nil, or_false] at z
            rcases z with z | z <;> rw [z] <;> simp [bkO]
          exact (C2.be _ this).2.1 (by simp [bkO])
      · refine ⟨_, xs, rfl, C1, ?_, e2, f2⟩
        rw [List.take_succ]
        exact sb.trans (List.sublist_append_left _ _)
    rintro σ H9 ⟨u9, xs, rfl, C, sb, e9, f9⟩
    have sub : ∀ x ∈ xs, x ∈ M.ws := fun x hx => List.mem_of_mem_take (sb.subset hx)
    have ndm : (M.ws.map (·.m)).Nodup := by
      obtain ⟨hs, gs, ps, D⟩ := W.dk
      rw [← D.e, List.map_map]
      exact D.O.n
    have ndq : (M.ws.map (·.q)).Nodup := by
      obtain ⟨hs, gs, ps, D⟩ := W.dk
      rw [← D.e, List.map_map]
      exact D.O.q
    have sbw : xs.Sublist M.ws := sb.trans (List.take_sublist _ _)
    have xm : (xs.map (·.m)).Nodup := ndm.sublist (sbw.map _)
    have xq : (xs.map (·.q)).Nodup := ndq.sublist (sbw.map _)
    have xr : ∀ x ∈ xs, Rng 24 30 x.q := fun x hx => CtFit.rng (W.bk.ft x (sub x hx))
    have lx : xs.length < 400 := Nat.lt_of_le_of_lt sbw.length_le hn
    clear sb w1 w2 w3 lG e9 f9 C8
    have oB := C.be
    refine ⟨fun σ Hm => ∃ (K2 : Addr) (ys : List Wv), σ = [some (.ref d.1), some (.ref B), some (.ref fa), some (.ref A.ho), some (.ref A.lg), some (.ref A.nm), some (.ref A.pe), some (.ref B2), some (.ref K2), u9, none, none, none, none] ∧ (ys = xs ∨ ys = xs.reverse) ∧ Hm K2 = some (.lst ((ys.map (·.m)).map V.int)) ∧ Wd T.C_Disk T.C_Plan K T.Ps Hm d B A fa M M ∧ BkAt K Hm B2 A2 (M.nil0.puts xs), ?_, ?_⟩
    · obtain ⟨f0, ef0⟩ := C.w.ef
      refine ⟨_, rfl, fa, f0, 2, rfl, ef0, by decide, fun x f1' x0 x1 _ => ?_⟩
      have C1 := C.pick (Kp.refl.own (by simp)) ⟨f1', upd_same (H := H9)⟩
      generalize upd H9 fa (.lst (f1'.map V.int)) = Ha at C1 ⊢
      refine ⟨rfl, _, rfl, wI (fun e => ?_) fun e => ?_⟩
      · refine ⟨_, rfl, KL, _, rfl, .of C1.kl, ?_⟩
        (intro K2 n_K2; generalize he_K2 : upd _ K2 _ = Hb; obtain ⟨e_K2, s_K2, f_K2⟩ := new_f he_K2 n_K2; clear he_K2)
        refine ⟨K2, xs.reverse, rfl, .inr rfl, ?_, C1.w.same s_K2, C1.bk.same s_K2⟩
        rw [e_K2, List.map_reverse, List.map_reverse]
      · exact ⟨KL, xs, rfl, .inl rfl, C1.kl, C1.w, C1.bk⟩
    rintro σ Hm ⟨K2, ys, rfl, hy, e2, Wm, bm⟩
    have rows : ∀ {hm lg}, stHs ys hm = stHs xs hm ∧ stGs ys lg = stGs xs lg := fun {hm lg} => by
      rcases hy with e | e
      · rw [e]; exact ⟨rfl, rfl⟩
      · rw [e]; exact ⟨(st_rev xr xq hm).1, (st_rev xr xq lg).2⟩
    have yx : ∀ y, y ∈ ys ↔ y ∈ xs := fun y => by
      rcases hy with e | e
      · rw [e]
      · rw [e]; exact List.mem_reverse
    have ym : (ys.map (·.m)).Nodup := by
      rcases hy with e | e
      · rw [e]; exact xm
      · rw [e, List.map_reverse]; exact (List.reverse_perm _).nodup_iff.mpr xm
    have ly : ys.length < 400 := by
      rcases hy with e | e
      · rw [e]; exact lx
      · rw [e, List.length_reverse]; exact lx
    -- the cuts
    have cutDk : ∀ {Hx Hy : Hp} {hs gs : List V} {ps qs : List Pw} {e1 : Addr} {Ae : DA}, DkAt T.C_Disk T.C_Plan K Hx d.1 d.2 hs gs ps M → qs.map Pw.wv = ys → (∀ q ∈ qs, q ∈ ps) → Same Hx Hy → DAt T.C_Disk T.C_Plan Hy e1 Ae 24 5 30 M.hd 0 (putsH qs hs) (putsG qs gs) [] → DkAt T.C_Disk T.C_Plan K Hy e1 Ae (putsH qs hs) (putsG qs gs) [] (M.nil0.puts xs) := fun {Hx Hy hs gs ps qs e1 Ae} D eq sq sm D' => by
      have hc : ∀ p ∈ qs, CtAt K Hy p.u p.w := fun p hp => (D.P p (sq p hp)).u.by fun _ _ => sameT sm
      have r1 := Row.putsH hc (D.rh.same sm)
      have r2 := Row.putsG hc (D.rg.same sm)
      rw [eq] at r1 r2
      rw [(rows (hm := M.hm) (lg := M.lg)).1] at r1
      rw [(rows (hm := M.hm) (lg := M.lg)).2] at r2
      exact ⟨D', (fun p hp => by cases hp), ⟨List.nodup_nil, (fun p hp => by cases hp), List.nodup_nil⟩, r1, r2, rfl, by decide⟩
    have qsOf : ∀ {Hx : Hp} {hs gs : List V} {ps : List Pw}, DkAt T.C_Disk T.C_Plan K Hx d.1 d.2 hs gs ps M → ∃ qs : List Pw, qs.map Pw.wv = ys ∧ (∀ q ∈ qs, q ∈ ps) ∧ qs.map (·.m) = ys.map (·.m) ∧ qs.length = ys.length := fun {Hx hs gs ps} D => by
      obtain ⟨qs, a1, a2⟩ := pws_of (ps := ps) ys fun y hy' => by rw [D.e]; exact sub y ((yx y).mp hy')
      refine ⟨qs, a1, a2, ?_, by rw [← a1, List.length_map]⟩
      rw [← a1, List.map_map]
      rfl
    clear C
    obtain ⟨hs, gs, ps, D⟩ := Wm.dk
    obtain ⟨dx, ob⟩ := D.D.ob
    obtain ⟨qs, q1, q2, q3, q4⟩ := qsOf D
    have lp : ps.length = M.ws.length := by rw [← D.e, List.length_map]
    refine ⟨_, rfl, d.1, _, _, rfl, ob, rfl, _, rfl, K2, _, rfl, .inl ⟨.of e2, fun tp n_tp => ?_⟩⟩
    (generalize he_tp : upd _ tp _ = Hb; obtain ⟨e_tp, s_tp, f_tp⟩ := new_f he_tp n_tp; clear he_tp)
    refine ⟨d.1, tp, d.2, 24, 5, 30, M.hd, M.la, hs, gs, ps, qs, rfl, D.D.same s_tp, (D.same s_tp).P, D.O, by omega, q2, by rw [q3]; exact ym, by omega, .of (by rw [e_tp, q3]), fun Hc e1 Ae sc ne1 nho nlg npd eAp Dc => ?_⟩
    have ncut : ∀ x ∈ dO (e1, Ae), Hb x = none := fun x hx => by
      simp only [dO, dOwn, List.mem_cons, List.not_mem_nil, or_false] at hx
      rcases hx with z | z | z | z <;> rw [z]
      · exact ne1
      · exact nho
      · exact nlg
      · exact npd
    have sbc := s_tp.trans sc
    have C0 : Cw T.C_Disk T.C_Plan K T.Ps Hc d B A fa M (e1, Ae) (M.nil0.puts xs) B2 A2 (M.nil0.puts xs) :=
      ⟨Wm.same sbc, ⟨_, _, _, cutDk (D.same s_tp) q1 q2 sc Dc⟩, (Wm.same s_tp).newOut ncut, bm.same sbc, oB, fun x hx z => by
        obtain ⟨zs, e⟩ := (bm.same s_tp).held hx
        rw [ncut x z] at e
        cases e⟩
    have e2c := sbc _ _ e2
    ((try dsimp only); (first | (refine Rg.sg (σ' := [some (.ref d.1), some (.ref B), some (.ref fa), some (.ref A.ho), some (.ref A.lg), some (.ref A.nm), some (.ref A.pe), some (.ref B2), some (.ref K2), u9, some (.ref e1), none, none, none]) ?_ ?_; focus exact rfl) | (refine Rg.sgG (σ' := [some (.ref d.1), some (.ref B), some (.ref fa), some (.ref A.ho), some (.ref A.lg), some (.ref A.nm), some (.ref A.pe), some (.ref B2), some (.ref K2), u9, some (.ref e1), none, none, none]) ?_ ?_; focus exact rfl)))
    clear D ob Wm bm Dc
    obtain ⟨hs2, gs2, ps2, DE⟩ := C0.dk
    refine ⟨_, rfl, _, rfl, e1, B2, Ae, A2, hs2, gs2, ps2, M.nil0.puts xs, rfl, DE, C0.bk, C0.w.t, fun Hd kd => ⟨_, rfl, iteF ?_⟩⟩
    have C1 := C0.tk kd
    have e2d := kd.at C0.w.t e2c
    clear DE
    obtain ⟨hs, gs, ps, D⟩ := C1.w.dk
    obtain ⟨dx, ob⟩ := D.D.ob
    clear q1 q2 q3 q4
    obtain ⟨qs, q1, q2, q3, q4⟩ := qsOf D
    have lp : ps.length = M.ws.length := by rw [← D.e, List.length_map]
    refine ⟨_, rfl, d.1, _, _, rfl, ob, rfl, _, rfl, K2, _, rfl, .inl (.of e2d), ?_⟩
    (intro L2 n_L2; generalize he_L2 : upd _ L2 _ = He; obtain ⟨e_L2, s_L2, f_L2⟩ := new_f he_L2 n_L2; clear he_L2)
    refine ⟨d.1, L2, d.2, 24, 5, 30, M.hd, M.la, hs, gs, ps, qs, rfl, D.D.same s_L2, (D.same s_L2).P, D.O, by omega, q2, by rw [q3]; exact ym, by omega, (by rw [e_L2, q3]), fun Hf e2' Ae2 sf _ _ _ _ _ Df => ?_⟩
    have C2 := (C1.same s_L2).same sf
    refine ⟨_, rfl, e2', B2, Ae2, A2, _, _, _, M.nil0.puts xs, rfl, cutDk (D.same s_L2) q1 q2 sf Df, C2.bk, C2.w.t, fun Hg kg => ⟨_, rfl, iteF ?_⟩⟩
    have C3 := C2.tk kg
    have e2g := kg.at C2.w.t (sf _ _ (s_L2 _ _ e2d))
    clear D ob Df C0 C1 C2 cutDk qsOf q1 q2 q3 q4 e2c e2d
    obtain ⟨ms, ems⟩ : ∃ ms : List Int, ms = ys.map (·.m) := ⟨_, rfl⟩
    rw [← ems] at e2g ym
    have lm : ms.length < 400 := by rw [ems, List.length_map]; exact ly
    have pm1 : ∀ y ∈ ms, ∃ x ∈ M.ws, x.m = y := fun y hy' => by
      rw [ems] at hy'
      obtain ⟨x, hx, e⟩ := List.mem_map.mp hy'
      exact ⟨x, sub x ((yx x).mp hx), e⟩
    have c0 : (1 : Nat) = [V.int 0].length := rfl
    have sz : ∀ {n : Nat}, n < 1000 → n ≤ sizeLine := fun {n} h => Nat.le_of_lt (lt_line (by omega))
    have nmG := C3.w.bk.n
    refine ⟨_, rfl, _, rfl, A.nm, _, 1, .int M.la, rfl, rfl, .of nmG, atI_nat (j := 1) rfl, _, _, rfl, rfl, by show 1 ≤ sizeLine; decide, ?_⟩
    (intro p1 n_p1; generalize he_p1 : upd _ p1 _ = H1; obtain ⟨e_p1, s_p1, f_p1⟩ := new_f he_p1 n_p1; clear he_p1)
    refine ⟨K2, p1, _, _, rfl, rfl, s_p1 _ _ e2g, e_p1, sz (by rw [List.length_map]; simp only [List.length_cons, List.length_nil]; omega), ?_⟩
    (intro r1 n_r1; generalize he_r1 : upd _ r1 _ = H2; obtain ⟨e_r1, s_r1, f_r1⟩ := new_f he_r1 n_r1; clear he_r1)
    have S2 := s_p1.trans s_r1
    refine ⟨by show 1 ≤ sizeLine; decide, ?_⟩
    (intro p2 n_p2; generalize he_p2 : upd _ p2 _ = H3; obtain ⟨e_p2, s_p2, f_p2⟩ := new_f he_p2 n_p2; clear he_p2)
    have S3 := S2.trans s_p2
    refine ⟨_, rfl, p2, K2, _, _, rfl, rfl, e_p2, S3 _ _ e2g, sz (by rw [List.length_map]; simp only [List.length_cons, List.length_nil]; omega), ?_⟩
    (intro r2 n_r2; generalize he_r2 : upd _ r2 _ = H4; obtain ⟨e_r2, s_r2, f_r2⟩ := new_f he_r2 n_r2; clear he_r2)
    have S4 := S3.trans s_r2
    refine ⟨_, rfl, _, rfl, K2, K2, _, _, rfl, rfl, S4 _ _ e2g, S4 _ _ e2g, sz (by rw [List.length_map]; omega), ?_⟩
    (intro p3 n_p3; generalize he_p3 : upd _ p3 _ = H5; obtain ⟨e_p3, s_p3, f_p3⟩ := new_f he_p3 n_p3; clear he_p3)
    have S5 := S4.trans s_p3
    refine ⟨_, rfl, A.nm, _, 1, .int M.la, rfl, rfl, .of (S5 _ _ nmG), atI_nat (j := 1) rfl, _, _, rfl, rfl, by show 1 ≤ sizeLine; decide, ?_⟩
    (intro p4 n_p4; generalize he_p4 : upd _ p4 _ = H6; obtain ⟨e_p4, s_p4, f_p4⟩ := new_f he_p4 n_p4; clear he_p4)
    refine ⟨p3, p4, _, _, rfl, rfl, s_p4 _ _ e_p3, e_p4, sz (by rw [List.length_append, List.length_map]; simp only [List.length_cons, List.length_nil]; omega), ?_⟩
    (intro r3 n_r3; generalize he_r3 : upd _ r3 _ = H7; obtain ⟨e_r3, s_r3, f_r3⟩ := new_f he_r3 n_r3; clear he_r3)
    have S7 := S5.trans (s_p4.trans s_r3)
    refine ⟨by show 3 ≤ sizeLine; decide, ?_⟩
    (intro BL n_BL; generalize he_BL : upd _ BL _ = H8; obtain ⟨e_BL, s_BL, f_BL⟩ := new_f he_BL n_BL; clear he_BL)
    have S8 := S7.trans s_BL
    have C8 := C3.same S8
    have e28 := S8 _ _ e2g
    ((try dsimp only); (first | (refine Rg.sg (σ' := [some (.ref d.1), some (.ref B), some (.ref fa), some (.ref A.ho), some (.ref A.lg), some (.ref A.nm), some (.ref A.pe), some (.ref B2), some (.ref K2), u9, some (.ref e1), some (.ref BL), none, none]) ?_ ?_; focus exact rfl) | (refine Rg.sgG (σ' := [some (.ref d.1), some (.ref B), some (.ref fa), some (.ref A.ho), some (.ref A.lg), some (.ref A.nm), some (.ref A.pe), some (.ref B2), some (.ref K2), u9, some (.ref e1), some (.ref BL), none, none]) ?_ ?_; focus exact rfl)))
    have noP : ∀ {hs gs : List V} {ps : List Pw} {Hx : Hp}, DkAt T.C_Disk T.C_Plan K Hx d.1 d.2 hs gs ps M → ∀ v : Int, (v < 1 ∨ M.la < v) → ∀ ns : List Int, v ∈ ns → ¬ ((∀ m ∈ ns, ∃ p ∈ ps, p.m = m) ∧ ns.Nodup) := fun {hs gs ps Hx} D v hv ns hm h => by
      obtain ⟨p, hp', e⟩ := h.1 v hm
      have a1 := D.O.le p hp'
      have a2 : 1 ≤ p.m := hp p.wv (by rw [← D.e]; exact List.mem_map.mpr ⟨p, hp', rfl⟩)
      omega
    have f24 : Same H2 H8 := s_p2.trans (s_r2.trans (s_p3.trans (s_p4.trans (s_r3.trans s_BL))))
    have f48 : Same H4 H8 := s_p3.trans (s_p4.trans (s_r3.trans s_BL))
    have b0 : ∀ x ∈ [r1, r2, r3], ∃ ns : List Int, H8 x = some (.lst (ns.map V.int)) ∧ ns.length < 1000 ∧ ∀ {hs gs : List V} {ps : List Pw} {Hx : Hp}, DkAt T.C_Disk T.C_Plan K Hx d.1 d.2 hs gs ps M → ¬ ((∀ m ∈ ns, ∃ p ∈ ps, p.m = m) ∧ ns.Nodup) := fun x hx => by
      simp only [List.mem_cons, List.not_mem_nil, or_false] at hx
      rcases hx with e | e | e <;> rw [e]
      · refine ⟨ms ++ [M.la + 1], by rw [f24 _ _ e_r1, List.map_append]; rfl, by rw [List.length_append]; simp only [List.length_cons, List.length_nil]; omega, fun D => noP D (M.la + 1) (by omega) _ (by simp)⟩
      · refine ⟨[0] ++ ms, by rw [f48 _ _ e_r2, List.map_append]; rfl, by rw [List.length_append]; simp only [List.length_cons, List.length_nil]; omega, fun D => noP D 0 (by omega) _ (by simp)⟩
      · refine ⟨ms ++ ms ++ [M.la + 2], by rw [s_BL _ _ e_r3, List.map_append, List.map_append]; rfl, by rw [List.length_append, List.length_append]; simp only [List.length_cons, List.length_nil]; omega, fun D => noP D (M.la + 2) (by omega) _ (by simp)⟩
    refine ⟨fun σ Hm => ∃ Lb : List Addr, σ = [some (.ref d.1), some (.ref B), some (.ref fa), some (.ref A.ho), some (.ref A.lg), some (.ref A.nm), some (.ref A.pe), some (.ref B2), some (.ref K2), u9, some (.ref e1), some (.ref BL), none, none] ∧ Hm BL = some (.lst (Lb.map V.ref)) ∧ (∀ x ∈ Lb, ∃ ns : List Int, Hm x = some (.lst (ns.map V.int)) ∧ ns.length < 1000 ∧ ∀ {hs gs : List V} {ps : List Pw} {Hx : Hp}, DkAt T.C_Disk T.C_Plan K Hx d.1 d.2 hs gs ps M → ¬ ((∀ m ∈ ns, ∃ p ∈ ps, p.m = m) ∧ ns.Nodup)) ∧ Cw T.C_Disk T.C_Plan K T.Ps Hm d B A fa M (e1, Ae) (M.nil0.puts xs) B2 A2 (M.nil0.puts xs), ?_, ?_⟩
    · refine ⟨_, rfl, K2, _, rfl, .inl (.of e28), _, _, rfl, rfl, _, rfl, wD (fun h => ?_) fun h => ?_⟩
      · rw [List.length_map] at h
        obtain ⟨m0, mr, rfl⟩ : ∃ m0 mr, ms = m0 :: mr := by
          cases ms with
          | nil => simp at h
          | cons a b => exact ⟨a, b, rfl⟩
        refine ⟨_, rfl, .inl ⟨rfl, _, .inl (.inl e_BL)⟩, ?_⟩
        refine ⟨_, rfl, _, rfl, K2, _, 0, .int m0, rfl, rfl, .of e28, atI_nat (j := 0) rfl, by show 1 ≤ sizeLine; decide, ?_⟩
        (intro p5 n_p5; generalize he_p5 : upd _ p5 _ = H9; obtain ⟨e_p5, s_p5, f_p5⟩ := new_f he_p5 n_p5; clear he_p5)
        refine ⟨K2, p5, _, _, rfl, rfl, s_p5 _ _ e28, e_p5, sz (by rw [List.length_map]; simp only [List.length_cons, List.length_nil] at lm ⊢; omega), ?_⟩
        (intro r4 n_r4; generalize he_r4 : upd _ r4 _ = Ha; obtain ⟨e_r4, s_r4, f_r4⟩ := new_f he_r4 n_r4; clear he_r4)
        have Sa := s_p5.trans s_r4
        refine ⟨_, rfl, K2, _, 0, .int m0, rfl, rfl, .of (Sa _ _ e28), atI_nat (j := 0) rfl, by show 1 ≤ sizeLine; decide, ?_⟩
        (intro p6 n_p6; generalize he_p6 : upd _ p6 _ = Hbb; obtain ⟨e_p6, s_p6, f_p6⟩ := new_f he_p6 n_p6; clear he_p6)
        refine ⟨_, rfl, p6, K2, _, _, rfl, rfl, e_p6, s_p6 _ _ (Sa _ _ e28), sz (by rw [List.length_map]; simp only [List.length_cons, List.length_nil] at lm ⊢; omega), ?_⟩
        (intro r5 n_r5; generalize he_r5 : upd _ r5 _ = Hcc; obtain ⟨e_r5, s_r5, f_r5⟩ := new_f he_r5 n_r5; clear he_r5)
        have Sc := Sa.trans (s_p6.trans s_r5)
        refine ⟨by show 2 ≤ sizeLine; decide, ?_⟩
        (intro xl n_xl; generalize he_xl : upd _ xl _ = Hdd; obtain ⟨e_xl, s_xl, f_xl⟩ := new_f he_xl n_xl; clear he_xl)
        have Sd := Sc.trans s_xl
        have eBLd := Sd _ _ e_BL
        have nBx : BL ≠ xl := fun z => by rw [← z, Sc _ _ e_BL] at n_xl; cases n_xl
        refine ⟨BL, xl, _, _, rfl, rfl, eBLd, e_xl, by show 5 ≤ sizeLine; decide, ?_⟩
        have C9 := C8.same Sd
        have oBL := (C3.same S7).w.newOut (T := [BL]) fun x hx => by rw [List.mem_singleton.mp hx]; exact n_BL
        have o2 : BL ∉ dO (e1, Ae) := fun z => by obtain ⟨o, e, _⟩ := (C3.same S7).dk.held z; rw [n_BL] at e; cases e
        have o3 : BL ∉ bkO B2 A2 := fun z => by obtain ⟨o, e⟩ := (C3.same S7).bk.held z; rw [n_BL] at e; cases e
        have kz : Kp [BL] Hdd (upd Hdd BL (.lst ([V.ref r1, .ref r2, .ref r3] ++ [.ref r4, .ref r5]))) := Kp.refl.own (by simp)
        have hl : ∀ x ∈ [BL], ∃ xs, Hdd x = some (.lst xs) := fun x hx => by rw [List.mem_singleton.mp hx]; exact ⟨_, eBLd⟩
        have nt : ∀ x ∈ [BL], NT T.C_Plan Hdd x := fun x hx => by rw [List.mem_singleton.mp hx]; exact NT.lst eBLd
        have Cz : Cw T.C_Disk T.C_Plan K T.Ps (upd Hdd BL (.lst ([V.ref r1, .ref r2, .ref r3] ++ [.ref r4, .ref r5]))) d B A fa M (e1, Ae) (M.nil0.puts xs) B2 A2 (M.nil0.puts xs) :=
          ⟨C9.w.lsts kz hl oBL, C9.dk.stay kz nt (fun x hx z => o2 (by rw [← List.mem_singleton.mp z]; exact hx)), C9.de, C9.bk.stay kz nt (fun x hx z => o3 (by rw [← List.mem_singleton.mp z]; exact hx)), C9.be, C9.bd⟩
        have st : ∀ {x : Addr} {xs : List V}, x ≠ BL → Hdd x = some (.lst xs) → upd Hdd BL (.lst ([V.ref r1, .ref r2, .ref r3] ++ [.ref r4, .ref r5])) x = some (.lst xs) := fun {x xs} n e => by rw [upd_ne n]; exact e
        refine ⟨[r1, r2, r3, r4, r5], rfl, upd_same, fun x hx => ?_, Cz⟩
        have al4 : ∀ {x : Addr} {o : HO}, H7 x = some o → x ≠ BL := fun {x o} e z => by rw [z, n_BL] at e; cases e
        have hx : x ∈ [r1, r2, r3] ∨ x = r4 ∨ x = r5 := by
          simp only [List.mem_cons, List.not_mem_nil, or_false] at hx ⊢
          rcases hx with e | e | e | e | e
          · exact .inl (.inl e)
          · exact .inl (.inr (.inl e))
          · exact .inl (.inr (.inr e))
          · exact .inr (.inl e)
          · exact .inr (.inr e)
        rcases hx with hx | e | e
        · obtain ⟨ns, a1, a2, a3⟩ := b0 x hx
          refine ⟨ns, st ?_ (Sd _ _ a1), a2, a3⟩
          simp only [List.mem_cons, List.not_mem_nil, or_false] at hx
          rcases hx with e | e | e <;> rw [e]
          · exact al4 ((s_p2.trans (s_r2.trans (s_p3.trans (s_p4.trans s_r3)))) _ _ e_r1)
          · exact al4 ((s_p3.trans (s_p4.trans s_r3)) _ _ e_r2)
          · exact al4 e_r3
        · rw [e]
          refine ⟨m0 :: mr ++ [m0], ?_, by rw [List.length_append]; simp only [List.length_cons, List.length_nil] at lm ⊢; omega, fun D h => ?_⟩
          · rw [st (fun z => by rw [z, s_p5 _ _ e_BL] at n_r4; cases n_r4) ((s_p6.trans (s_r5.trans s_xl)) _ _ e_r4), List.map_append]
            rfl
          · have := h.2
            simp at this
        · rw [e]
          refine ⟨[m0] ++ m0 :: mr, ?_, by rw [List.length_append]; simp only [List.length_cons, List.length_nil] at lm ⊢; omega, fun D h => ?_⟩
          · rw [st (fun z => by rw [z, s_p6 _ _ (Sa _ _ e_BL)] at n_r5; cases n_r5) (s_xl _ _ e_r5), List.map_append]
            rfl
          · have := h.2
            simp at this
      · exact ⟨[r1, r2, r3], rfl, e_BL, b0, C8⟩
    rintro σ Hx ⟨Lb, rfl, eL, bL, Cx⟩
    clear b0 C8 noP f24 f48 S2 S3 S4 S5 S7 S8 e28
    refine ⟨_, rfl, BL, rfl, ⟨_, .of eL⟩, for_list (K := K) (a := BL) (xs := Lb.map V.ref) (fun i σ H' => ∃ u12 : Option V, σ = [some (.ref d.1), some (.ref B), some (.ref fa), some (.ref A.ho), some (.ref A.lg), some (.ref A.nm), some (.ref A.pe), some (.ref B2), some (.ref K2), u9, some (.ref e1), some (.ref BL), u12, none] ∧ Same Hx H') ⟨none, rfl, Same.refl _⟩ (fun i σ H' _ ⟨_, _, s⟩ => .of (s _ _ eL)) ?_ ?_⟩
    · rintro i y σ H' hi ⟨u12, rfl, s⟩
      rw [List.getElem?_map] at hi
      obtain ⟨px, hx, rfl⟩ := Option.map_eq_some_iff.mp hi
      obtain ⟨ns, a1, a2, a3⟩ := bL px (List.mem_of_getElem? hx)
      ((try dsimp only); (first | (refine Rg.sg (σ' := [some (.ref d.1), some (.ref B), some (.ref fa), some (.ref A.ho), some (.ref A.lg), some (.ref A.nm), some (.ref A.pe), some (.ref B2), some (.ref K2), u9, some (.ref e1), some (.ref BL), some (.ref px), none]) ?_ ?_; focus exact rfl) | (refine Rg.sgG (σ' := [some (.ref d.1), some (.ref B), some (.ref fa), some (.ref A.ho), some (.ref A.lg), some (.ref A.nm), some (.ref A.pe), some (.ref B2), some (.ref K2), u9, some (.ref e1), some (.ref BL), some (.ref px), none]) ?_ ?_; focus exact rfl)))
      obtain ⟨hs, gs, ps, D⟩ := (Cx.same s).w.dk
      have lp : ps.length = M.ws.length := by rw [← D.e, List.length_map]
      refine ⟨_, rfl, _, rfl, d.1, px, d.2, 24, 5, 30, M.hd, M.la, hs, gs, ps, ns, rfl, D.D, D.P, D.O, by omega, a2, s _ _ a1, a3 D, fun H1 s1 => ⟨_, rfl, iteF ?_⟩⟩
      refine ⟨_, rfl, _, rfl, px, _, rfl, .inl ⟨.of (s1 _ _ (s _ _ a1)), fun tq n_tq => ?_⟩⟩
      (generalize he_tq : upd _ tq _ = H2; obtain ⟨e_tq, s_tq, f_tq⟩ := new_f he_tq n_tq; clear he_tq)
      have D2 := (D.same s1).same s_tq
      refine ⟨d.1, tq, d.2, 24, 5, 30, M.hd, M.la, hs, gs, ps, ns, rfl, D2.D, D2.P, D.O, by omega, a2, .of e_tq, a3 D, fun H3 s3 => ⟨_, rfl, iteF ?_⟩⟩
      exact ⟨_, rfl, s.trans (s1.trans (s_tq.trans s3))⟩
    rintro σ Hy ⟨u12, rfl, sy⟩
    have Cy := Cx.same sy
    clear Cx bL eL
    obtain ⟨f0, ef0⟩ := Cy.w.ef
    refine ⟨_, rfl, fa, f0, rfl, ef0, fun H1 cl c f1 k1 ef1 ncl ecl hc ncf => ?_⟩
    have C1 := Cy.pick k1 ⟨f1, ef1⟩
    have hcl := hc.len
    have ncd : cl ∉ dO (e1, Ae) := fun z => by obtain ⟨o, e, _⟩ := Cy.dk.held z; rw [ncl] at e; cases e
    have ncP := (Cy.w.new ncl).2.2.2
    have ncb : cl ∉ bkO B2 A2 := fun z => by obtain ⟨o, e⟩ := Cy.bk.held z; rw [ncl] at e; cases e
    clear Cy
    ((try dsimp only); (first | (refine Rg.sg (σ' := [some (.ref d.1), some (.ref B), some (.ref fa), some (.ref A.ho), some (.ref A.lg), some (.ref A.nm), some (.ref A.pe), some (.ref B2), some (.ref K2), u9, some (.ref e1), some (.ref BL), u12, some (.ref cl)]) ?_ ?_; focus exact rfl) | (refine Rg.sgG (σ' := [some (.ref d.1), some (.ref B), some (.ref fa), some (.ref A.ho), some (.ref A.lg), some (.ref A.nm), some (.ref A.pe), some (.ref B2), some (.ref K2), u9, some (.ref e1), some (.ref BL), u12, some (.ref cl)]) ?_ ?_; focus exact rfl)))
    have issued : ∀ {Ha Hb : Hp} {hs gs : List V} {ps : List Pw} {p : Pw} {MM : Md} {q : Plc} {w : Ct}, DkAt T.C_Disk T.C_Plan K Ha e1 Ae hs gs ps MM → (∀ b xs, SqT K Ha b xs → SqT K Hb b xs) → DAt T.C_Disk T.C_Plan Hb e1 Ae 24 5 30 MM.hd (MM.la + 1) hs gs (pwK (ps ++ [p])) → PwsAt K Hb 24 30 (ps ++ [p]) → PwOk (MM.la + 1) (ps ++ [p]) → ps.length < 800 → p.wv = ⟨MM.la + 1, q, w⟩ → DkAt T.C_Disk T.C_Plan K Hb e1 Ae hs gs (ps ++ [p]) (MM.issue q w) := fun {Ha Hb hs gs ps p MM q w} D fb Db Pb Ob hl e =>
      ⟨Db, Pb, Ob, D.rh.by fb, D.rg.by fb, by rw [List.map_append, D.e]; show _ ++ [p.wv] = _; rw [e]; rfl, by rw [List.length_append]; simp only [List.length_cons, List.length_nil]; omega⟩
    obtain ⟨NX, eNX⟩ : ∃ NX : Md, NX = M.nil0.puts xs := ⟨_, rfl⟩
    have nla : NX.la = 0 := by rw [eNX]; rfl
    have nws : NX.ws = [] := by rw [eNX]; rfl
    have nhd : NX.hd = M.hd := by rw [eNX]; rfl
    rw [← eNX] at C1
    -- the first write
    obtain ⟨hs, gs, ps, D⟩ := C1.dk
    obtain ⟨dx, ob⟩ := D.D.ob
    have ps0 : ps = [] := by
      have := D.e
      rw [nws] at this
      exact List.map_eq_nil_iff.mp this
    subst ps0
    refine ⟨_, rfl, e1, _, _, rfl, ob, rfl, by show 2 ≤ sizeLine; decide, ?_⟩
    (intro t1 n_t1; generalize he_t1 : upd _ t1 _ = H2; obtain ⟨e_t1, s_t1, f_t1⟩ := new_f he_t1 n_t1; clear he_t1)
    refine ⟨_, rfl, cl, _, rfl, .inl (.of (s_t1 _ _ ecl)), ?_⟩
    (intro L3 n_L3; generalize he_L3 : upd _ L3 _ = H3; obtain ⟨e_L3, s_L3, f_L3⟩ := new_f he_L3 n_L3; clear he_L3)
    have S13 := s_t1.trans s_L3
    have C3 := C1.same S13
    have D3 := D.same S13
    refine ⟨e1, t1, L3, Ae, 24, 5, 30, NX.hd, NX.la, hs, gs, [], .home 22, .cells c, rfl, D3.D, D3.P, D3.O, by decide, .of (s_L3 _ _ e_t1), .inr ⟨c, rfl, e_L3⟩, ⟨by decide, by decide, hc⟩, rfl, C3.w.t, fun H4 ta ua tb4 k4 f4 D4 P4 O4 _ nta => ?_⟩
    have I4 := issued D3 f4 D4 P4 O4 (by decide) rfl
    have kd4 : Did K T.Ps (dO (e1, Ae)) H3 H4 := ⟨tb4, fun y o e n => k4 y o e fun z => n (by
      simp only [dO, dOwn, List.mem_cons, List.mem_append, List.not_mem_nil, or_false] at z ⊢
      rcases z with e | e | e <;> simp [e]), f4⟩
    have C4 := C3.did kd4 ⟨_, _, _, I4⟩
    have ncS : cl ∉ dO (e1, Ae) ++ T.Ps := fun z => (List.mem_append.mp z).elim ncd ncP
    have ecl4 := kd4.k _ _ (S13 _ _ ecl) ncS
    have S0 : ∀ {Hx : Hp} {a b : Int}, a = b → Sm K Hx 0 (.int a) (.int b) := fun {Hx a b} e => by rw [e]; exact Sm.int
    refine ⟨_, _, rfl, S0 (by rw [nla]; rfl), _, rfl, iteF ?_⟩
    clear D D3 C3 C1 ob dx
    -- the second write
    obtain ⟨dx, ob⟩ := I4.D.ob
    refine ⟨_, rfl, e1, _, _, rfl, ob, rfl, by show 2 ≤ sizeLine; decide, ?_⟩
    (intro t2 n_t2; generalize he_t2 : upd _ t2 _ = H5; obtain ⟨e_t2, s_t2, f_t2⟩ := new_f he_t2 n_t2; clear he_t2)
    refine ⟨_, rfl, cl, _, rfl, .inl (.of (s_t2 _ _ ecl4)), ?_⟩
    (intro L4 n_L4; generalize he_L4 : upd _ L4 _ = H6; obtain ⟨e_L4, s_L4, f_L4⟩ := new_f he_L4 n_L4; clear he_L4)
    have S46 := s_t2.trans s_L4
    have C6 := C4.same S46
    have I6 := I4.same S46
    refine ⟨e1, t2, L4, Ae, 24, 5, 30, _, _, hs, gs, _, .home 2, .cells c, rfl, I6.D, I6.P, I6.O, (by show (1 : Nat) < 1000; decide), .of (s_L4 _ _ e_t2), .inr ⟨c, rfl, e_L4⟩, ⟨by decide, by decide, hc⟩, rfl, C6.w.t, fun H7 tb ub tb7 k7 f7 D7 P7 O7 _ ntb => ?_⟩
    have I7 := issued I6 f7 D7 P7 O7 (by show (1 : Nat) < 800; decide) rfl
    have kd7 : Did K T.Ps (dO (e1, Ae)) H6 H7 := ⟨tb7, fun y o e n => k7 y o e fun z => n (by
      simp only [dO, dOwn, List.mem_cons, List.mem_append, List.not_mem_nil, or_false] at z ⊢
      rcases z with e | e | e <;> simp [e]), f7⟩
    have C7 := C6.did kd7 ⟨_, _, _, I7⟩
    have ecl7 := kd7.k _ _ (S46 _ _ ecl4) ncS
    refine ⟨_, _, rfl, S0 (by show NX.la + 1 + 1 = 2; rw [nla]; rfl), _, rfl, iteF ?_⟩
    clear I6 C6 C4 ob dx issued
    -- the second one is sure
    obtain ⟨dx, ob⟩ := I7.D.ob
    refine ⟨_, rfl, e1, _, _, rfl, ob, rfl, e1, ⟨NX.la + 1 + 1, tb, t2, ub, .home 2, .cells c⟩, Ae, 24, 5, 30, _, _, hs, gs, _, ?_, I7.D, I7.P, I7.O, List.mem_append.mpr (.inr List.mem_cons_self), C7.w.t, fun H8 tb8 k8 f8 D8 P8 => ?_⟩
    · show [V.ref e1, V.int 2] = [V.ref e1, V.int (NX.la + 1 + 1)]
      rw [nla]
      rfl
    have vp : VAt K H8 (.ref ub) (some (.cells c)) := ⟨ub, rfl, (I7.P ⟨NX.la + 1 + 1, tb, t2, ub, .home 2, .cells c⟩ (List.mem_append.mpr (.inr List.mem_cons_self))).u.by f8⟩
    have I8 : DkAt T.C_Disk T.C_Plan K H8 e1 Ae _ _ _ (((NX.issue (.home 22) (.cells c)).issue (.home 2) (.cells c)).sure ⟨NX.la + 1 + 1, .home 2, .cells c⟩) :=
      ⟨D8, P8, I7.O.out _, Row.putH (q := .home 2) (I7.rh.by f8) vp, Row.putG (q := .home 2) (I7.rg.by f8) vp, by rw [out_w, I7.e]; rfl, Nat.lt_of_le_of_lt (List.length_filter_le _ _) (by show (2 : Nat) < 900; decide)⟩
    have kd8 : Did K T.Ps (dO (e1, Ae)) H7 H8 := ⟨tb8, fun y o e n => k8 y o e fun z => n (by
      simp only [dO, dOwn, List.mem_cons, List.mem_append, List.not_mem_nil, or_false] at z ⊢
      rcases z with e | e | e <;> simp [e]), f8⟩
    have C8 := C7.did kd8 ⟨_, _, _, I8⟩
    have ecl8 := kd8.k _ _ ecl7 ncS
    clear I7 C7 ob dx
    obtain ⟨dx, ob⟩ := I8.D.ob
    refine ⟨_, rfl, e1, _, _, rfl, ob, rfl, e1, 9, Ae, 24, 5, 30, NX.hd, NX.la + 1 + 1, _, _, _, dx, rfl, ob, I8.D, by decide, by decide, ?_⟩
    have f9 : ∀ b xs, SqT K H8 b xs → SqT K (upd H8 e1 (.ins T.C_Disk dx (dskF Ae 9 (NX.la + 1 + 1)))) b xs := fun b xs h => seqT_ne h ob
    obtain ⟨NF, eNF⟩ : ∃ NF : Md, NF = (((NX.issue (.home 22) (.cells c)).issue (.home 2) (.cells c)).sure ⟨NX.la + 1 + 1, .home 2, .cells c⟩).head 9 := ⟨_, rfl⟩
    have C9 : Cw T.C_Disk T.C_Plan K T.Ps (upd H8 e1 (.ins T.C_Disk dx (dskF Ae 9 (NX.la + 1 + 1)))) d B A fa M (e1, Ae) NF B2 A2 NX := by
      rw [eNF]
      refine C8.did ⟨C8.w.t.upd ob (by intro _ z; cases z), Kp.refl.own (by simp [dO, dOwn]), f9⟩ ⟨_, _, _, I8.D.num _ _, I8.P.by f9 (fun x xs e => by rw [upd_ne (fun z => by rw [z, ob] at e; cases e)]; exact e), I8.O, I8.rh.by f9, I8.rg.by f9, I8.e, I8.n⟩
    have ecl9 : upd H8 e1 (.ins T.C_Disk dx (dskF Ae 9 (NX.la + 1 + 1))) cl = some (.lst (c.map V.int)) := by rw [upd_ne fun z => ncd (by simp [dO, dOwn, z])]; exact ecl8
    generalize upd H8 e1 (.ins T.C_Disk dx (dskF Ae 9 (NX.la + 1 + 1))) = H9 at C9 ecl9 ⊢
    clear I8 C8 f9 ob
    -- the book follows
    refine ⟨_, rfl, by show 2 ≤ sizeLine; decide, ?_⟩
    (intro t5 n_t5; generalize he_t5 : upd _ t5 _ = Ha; obtain ⟨e_t5, s_t5, f_t5⟩ := new_f he_t5 n_t5; clear he_t5)
    refine ⟨_, rfl, cl, _, rfl, .inl ⟨.of (s_t5 _ _ ecl9), fun t6 n_t6 => ?_⟩⟩
    (generalize he_t6 : upd _ t6 _ = Hb; obtain ⟨e_t6, s_t6, f_t6⟩ := new_f he_t6 n_t6; clear he_t6)
    refine ⟨by show 3 ≤ sizeLine; decide, ?_⟩
    (intro t7 n_t7; generalize he_t7 : upd _ t7 _ = Hc; obtain ⟨e_t7, s_t7, f_t7⟩ := new_f he_t7 n_t7; clear he_t7)
    have Sc := s_t5.trans (s_t6.trans s_t7)
    have Cc := C9.same Sc
    have fit2 : CtFit 24 30 (.home 2) (.cells c) := ⟨by decide, by decide, hc⟩
    refine ⟨B2, t7, A2, NX, ⟨2, .home 2, .cells c⟩, rfl, Cc.bk, ⟨t5, t6, .of e_t7, .of ((s_t6.trans s_t7) _ _ e_t5), .of (s_t7 _ _ e_t6)⟩, fit2, fun Hd kd fd bd => ?_⟩
    have sub2 : ∀ x ∈ [A2.ho, A2.lg], x ∈ bkO B2 A2 := fun x hx => by
      simp only [List.mem_cons, List.not_mem_nil, or_false] at hx
      rcases hx with z | z <;> rw [z] <;> simp [bkO]
    have Cd := Cc.book (kd.mono sub2) bd Cc.be Cc.bd
    have ecld : Hd cl = some (.lst (c.map V.int)) := kd _ _ (Sc _ _ ecl9) fun z => ncb (sub2 _ z)
    clear C9 Cc
    refine ⟨by show 2 ≤ sizeLine; decide, ?_⟩
    (intro nl n_nl; generalize he_nl : upd _ nl _ = He; obtain ⟨e_nl, s_nl, f_nl⟩ := new_f he_nl n_nl; clear he_nl)
    have nnl : nl ∉ bkO B2 A2 := fun z => by obtain ⟨o, e⟩ := Cd.bk.held z; rw [n_nl] at e; cases e
    have onl := Cd.w.newOut (T := [nl]) fun x hx => by rw [List.mem_singleton.mp hx]; exact n_nl
    have dnl : nl ∉ dO (e1, Ae) := fun z => by obtain ⟨o, e, _⟩ := Cd.dk.held z; rw [n_nl] at e; cases e
    have Ce := Cd.same s_nl
    have bke := Ce.bk.e
    refine ⟨_, rfl, B2, _, _, 2, rfl, rfl, bke, ixN_at (by omega) (by simp only [List.length_cons, List.length_nil]; omega), ?_⟩
    have Cf := Ce.book (A3 := { A2 with nm := nl }) (Kp.refl.own (by simp [bkO])) (Ce.bk.nm1 e_nl nnl) (fun x hx => by
      simp only [bkO, List.mem_cons, List.not_mem_nil, or_false] at hx
      rcases hx with z | z | z | z | z
      · exact Ce.be x (by simp [bkO, z])
      · exact Ce.be x (by simp [bkO, z])
      · exact Ce.be x (by simp [bkO, z])
      · exact onl x (by simp [z])
      · exact Ce.be x (by simp [bkO, z])) (fun x hx => by
      simp only [bkO, List.mem_cons, List.not_mem_nil, or_false] at hx
      rcases hx with z | z | z | z | z
      · exact Ce.bd x (by simp [bkO, z])
      · exact Ce.bd x (by simp [bkO, z])
      · exact Ce.bd x (by simp [bkO, z])
      · rw [z]; exact dnl
      · exact Ce.bd x (by simp [bkO, z]))
    have eclf : upd He B2 (.lst [.ref A2.ho, .ref A2.lg, .ref nl, .ref A2.pe]) cl = some (.lst (c.map V.int)) := by rw [upd_ne fun z => ncb (by simp [bkO, z])]; exact s_nl _ _ ecld
    have nclnl : cl ≠ nl := fun z => by rw [← z, ecld] at n_nl; cases n_nl
    show _
    generalize hHf : upd He B2 (.lst [.ref A2.ho, .ref A2.lg, .ref nl, .ref A2.pe]) = Hf at Cf eclf
    have hHf : upd He B2 (.lst (([.ref A2.ho, .ref A2.lg, .ref A2.nm, .ref A2.pe] : List V).set 2 (.ref nl))) = Hf := hHf
    rw [hHf]
    clear hHf Ce Cd bke
    refine ⟨by show 2 ≤ sizeLine; decide, ?_⟩
    (intro v5 n_v5; generalize he_v5 : upd _ v5 _ = Hg1; obtain ⟨e_v5, s_v5, f_v5⟩ := new_f he_v5 n_v5; clear he_v5)
    refine ⟨_, rfl, cl, _, rfl, .inl ⟨.of (s_v5 _ _ eclf), fun v6 n_v6 => ?_⟩⟩
    (generalize he_v6 : upd _ v6 _ = Hg2; obtain ⟨e_v6, s_v6, f_v6⟩ := new_f he_v6 n_v6; clear he_v6)
    refine ⟨by show 3 ≤ sizeLine; decide, ?_⟩
    (intro v7 n_v7; generalize he_v7 : upd _ v7 _ = Hg3; obtain ⟨e_v7, s_v7, f_v7⟩ := new_f he_v7 n_v7; clear he_v7)
    refine ⟨by show 1 ≤ sizeLine; decide, ?_⟩
    (intro pl n_pl; generalize he_pl : upd _ pl _ = Hg4; obtain ⟨e_pl, s_pl, f_pl⟩ := new_f he_pl n_pl; clear he_pl)
    have Sg := s_v5.trans (s_v6.trans (s_v7.trans s_pl))
    have C5 := (Cf.same (s_v5.trans (s_v6.trans s_v7)))
    have npl : pl ∉ bkO B2 { A2 with nm := nl } := fun z => by obtain ⟨o, e⟩ := C5.bk.held z; rw [n_pl] at e; cases e
    have opl := C5.w.newOut (T := [pl]) fun x hx => by rw [List.mem_singleton.mp hx]; exact n_pl
    have dpl : pl ∉ dO (e1, Ae) := fun z => by obtain ⟨o, e, _⟩ := C5.dk.held z; rw [n_pl] at e; cases e
    have C6 := C5.same s_pl
    refine ⟨_, rfl, B2, _, _, 3, rfl, rfl, C6.bk.e, ixN_at (by omega) (by simp only [List.length_cons, List.length_nil]; omega), ?_⟩
    have Wa : WAt K Hg4 (v7, ⟨1, .home 22, .cells c⟩) := ⟨v5, v6, .of (s_pl _ _ e_v7), .of ((s_v6.trans (s_v7.trans s_pl)) _ _ e_v5), .of ((s_v7.trans s_pl) _ _ e_v6)⟩
    have Cg := C6.book (A3 := { ({ A2 with nm := nl } : BA) with pe := pl }) (Kp.refl.own (by simp [bkO])) (C6.bk.pe1 (G := [(v7, ⟨1, .home 22, .cells c⟩)]) e_pl (fun g hg => by rw [List.mem_singleton.mp hg]; exact Wa) npl (by simp) (fun g hg => by rw [List.mem_singleton.mp hg]; exact ⟨by decide, by decide, hc⟩)) (fun x hx => by
      simp only [bkO, List.mem_cons, List.not_mem_nil, or_false] at hx
      rcases hx with z | z | z | z | z
      · exact C6.be x (by simp [bkO, z])
      · exact C6.be x (by simp [bkO, z])
      · exact C6.be x (by simp [bkO, z])
      · exact C6.be x (by simp [bkO, z])
      · exact opl x (by simp [z])) (fun x hx => by
      simp only [bkO, List.mem_cons, List.not_mem_nil, or_false] at hx
      rcases hx with z | z | z | z | z
      · exact C6.bd x (by simp [bkO, z])
      · exact C6.bd x (by simp [bkO, z])
      · exact C6.bd x (by simp [bkO, z])
      · exact C6.bd x (by simp [bkO, z])
      · rw [z]; exact dpl)
    have eN := (nf_eq NX (.cells c) nla nws).symm
    rw [← eNF] at eN
    have bkz := Cg.bk
    obtain ⟨hz, gz, pz, Dz⟩ := Cg.dk
    refine ⟨_, rfl, _, rfl, e1, B2, Ae, { ({ A2 with nm := nl } : BA) with pe := pl }, hz, gz, pz, NF, rfl, Dz, by rw [← eN]; exact bkz, Cg.w.t, fun Hz kz => ?_⟩
    exact k Hz M (Cg.w.tk kz) ⟨Nat.le_succ _, Int.le_refl _, by omega, hp⟩
end
end K01
namespace K01
open PySem PySem.Spec PyProof.Rows L2 Rg
section
variable {K : PySem.W.Frag}
theorem op_notInDK {X : Cx} (hu : X.A.units + 65 < cLine) (hK : X.K = K := by rfl) : OpR X (compareOp .NotIn) (rNotInD K) := by
  subst hK
  exact op_notInD hu
end
/-- a list of places -/
def PlL (K : PySem.W.Frag) (H0 H : Hp) (D : Addr) (n : Nat) : Prop := Same H0 H ∧ ∃ ts : List Addr, ts.length = n ∧ H D = some (.lst (ts.map V.ref)) ∧ ∀ t ∈ ts, ∃ q, PlcAt K H t q
theorem PlL.start {K : PySem.W.Frag} {H : Hp} {D : Addr} (hD : H D = none) : PlL K H (upd H D (.lst [])) D 0 := ⟨same_upd hD, [], rfl, upd_same, fun t h => by cases h⟩
theorem PlL.snoc {K : PySem.W.Frag} {H0 H H2 : Hp} {D t : Addr} {n : Nat} {q : Plc} (h : PlL K H0 H D n) (hD : H0 D = none) (s : Same H H2) (hp : PlcAt K H2 t q) (hn : n < 900) :
    ∃ acc, H2 D = some (.lst acc) ∧ acc.length < sizeLine ∧ PlL K H0 (upd H2 D (.lst (acc ++ [.ref t]))) D (n + 1) := by
  obtain ⟨S, ts, l, e, a⟩ := h
  have e2 := s _ _ e
  have f : ∀ b xs, SqT K H2 b xs → SqT K (upd H2 D (.lst (ts.map V.ref ++ [.ref t]))) b xs := fun b xs h => seqT_ne h e2
  refine ⟨_, e2, lt_line (by rw [List.length_map]; omega), fun x o z => ?_, ts ++ [t], by rw [List.length_append, l]; rfl, by rw [upd_same, List.map_append]; rfl, fun x hx => ?_⟩
  · rw [upd_ne (ne_of_none z hD)]
    exact s _ _ (S _ _ z)
  · rcases List.mem_append.mp hx with z | z
    · obtain ⟨q, hq⟩ := a x z
      exact ⟨q, (hq.by fun _ _ => sameT s).by f⟩
    · rw [List.mem_singleton.mp z]
      exact ⟨q, hp.by f⟩
def sp_law (K : PySem.W.Frag) (Ps : List Addr) : Sp := fun vs H Q _ => ∃ (a : Addr) (ns : List Int), vs = [.ref a] ∧ Tab Ps H ∧ SqL K H a (ns.map V.int) ∧ ns.length ≤ 63 ∧ ∀ H', Q (.bl true) H'
section
variable {P : Program} {w0_ : World} {K : PySem.W.Frag} {mg : Str → Option Value} {base : Heap}
theorem ok_law (T : Tx K mg) (B0 : TBs T base) : FnOk P w0_ K mg base CX0 13 T.f_law T.fd_law ["_law_script"] (sp_law K T.Ps) := by
  refine T.F_law.ok sc_law (fun vs H Q E h => ?_) (fun cdv A0 outer s H vs Q E hr h => ?_)
  · obtain ⟨_, _, rfl, _⟩ := h; rfl
  · obtain ⟨a, ns, rfl, ht, hS, hlen, k⟩ := h
    have hr1 := hr.mono (show 1 ≤ 12 by decide)
    have hr2 := hr.mono (show 2 ≤ 12 by decide)
    have hr4 := hr.mono (show 4 ≤ 12 by decide)
    have hr8 := hr.mono (show 8 ≤ 12 by decide)
    refine ⟨_, (pss_cons (ps_set (i := 1) sc_law.nd rfl (.inl rfl) (pe_call (ok_Lfeed T) hr1 rfl T.mg_Lfeed T.F_Lfeed.kp (b_Lfeed T) .nil pass0 (pa_cons (pv 0) pa_nil)))
      (pss_cons (ps_set (i := 2) sc_law.nd rfl (.inl rfl) (pe_make T.mk_Disk (ok_Disk_init T) hr2 rfl T.mg_Disk (b_Disk___init__ T) .nil pass0 (pa_cons (pe_makeK T.mk_Plan (ok_Plan_init T) hr2 rfl T.mg_Plan (kb_Plan T) pass0 (pa_cons pe_int pa_nil) (pk_cons pe_int (pk_cons pe_int pk_nil))) pa_nil)))
      (pss_cons (ps_set (i := 3) sc_law.nd rfl (.inl rfl) (pe_call0 (ok_Lstart T) hr1 rfl T.mg_Lstart T.F_Lstart.kp (b_Lstart T) .nil pass0))
      (pss_cons (ps_if (PW.pt (pw_or (pt_not (pt_val (pe_call (ok_Lagrees T B0) hr8 rfl T.mg_Lagrees T.F_Lagrees.kp (b_Lagrees T) .nil pass0 (pa_cons (pv 2) (pa_cons (pv 3) pa_nil))))) (pw_or1 (pt_cmpR op_ne (pe_meth0 (pe_fld (pv 2) rfl) T.cl_Plan T.m_Plan_text (ok_Ptext T) hr1 (b_Plan_text T) .nil pass0) pe_str (nomark _)))))
        (pss_one (ps_ret pe_bl))
        pss_nil)
      (pss_cons (ps_for PassesOwn.never rfl (pi_range1 rfl T.b_range (pa_cons (pe_op op_add pe_int (pe_call (ok_Lpick T) hr1 rfl T.mg_Lpick T.F_Lpick.kp (b_Lpick T) .nil pass0 (pa_cons (pv 1) (pa_cons pe_int pa_nil)))) pa_nil)) (pg_name (i := 4) sc_law.nd rfl (.inl rfl))
        (pss_cons (ps_set (i := 5) sc_law.nd rfl (.inl rfl) (pe_call (ok_Lpick T) hr1 rfl T.mg_Lpick T.F_Lpick.kp (b_Lpick T) .nil pass0 (pa_cons (pv 1) (pa_cons pe_int pa_nil))))
        (pss_cons (ps_set (i := 6) sc_law.nd rfl (.inl rfl) pe_bl)
        (Evl.pss_cut (ps_if (pt_cmpR op_lt (pv 5) pe_int (nomark _))
          (pss_one (ps_set (i := 6) sc_law.nd rfl (.inl rfl) (pe_call (ok_Lissue T B0) hr rfl T.mg_Lissue T.F_Lissue.kp (b_Lissue T) .nil pass0 (pa_cons (pv 2) (pa_cons (pv 3) (pa_cons (pv 1) pa_nil))))))
          (pss_one (ps_if (pt_cmpR op_lt (pv 5) pe_int (nomark _))
            (pss_one (ps_set (i := 6) sc_law.nd rfl (.inl rfl) (pe_call (ok_Lsure T) hr4 rfl T.mg_Lsure T.F_Lsure.kp (b_Lsure T) .nil pass0 (pa_cons (pv 2) (pa_cons (pv 3) (pa_cons (pv 1) pa_nil))))))
            (pss_one (ps_if (pt_cmpR op_eq (pv 5) pe_int (nomark _))
              (pss_one (ps_set (i := 6) sc_law.nd rfl (.inl rfl) (pe_call (ok_Lbarrier T) hr4 rfl T.mg_Lbarrier T.F_Lbarrier.kp (b_Lbarrier T) .nil pass0 (pa_cons (pv 2) (pa_cons (pv 3) pa_nil)))))
              (pss_one (ps_if (pt_cmpR op_eq (pv 5) pe_int (nomark _))
                (pss_one (ps_set (i := 6) sc_law.nd rfl (.inl rfl) (pe_call (ok_Lhead T) hr4 rfl T.mg_Lhead T.F_Lhead.kp (b_Lhead T) .nil pass0 (pa_cons (pv 2) (pa_cons (pv 3) (pa_cons (pv 1) pa_nil))))))
                (pss_one (ps_if (pt_cmpR op_eq (pv 5) pe_int (nomark _))
                  (pss_one (ps_set (i := 6) sc_law.nd rfl (.inl rfl) (pe_call (ok_Lbad T B0) hr rfl T.mg_Lbad T.F_Lbad.kp (b_Lbad T) .nil pass0 (pa_cons (pv 2) (pa_cons (pv 3) (pa_cons (pv 1) pa_nil))))))
                  (pss_one (ps_set (i := 6) sc_law.nd rfl (.inl rfl) (pe_call (ok_Lcut T B0) hr rfl T.mg_Lcut T.F_Lcut.kp (b_Lcut T) .nil pass0 (pa_cons (pv 2) (pa_cons (pv 3) (pa_cons (pv 1) pa_nil)))))))))))))))
        (pss_one (ps_if (PW.pt (pw_or (pt_cmpR op_notV (pv 6) pe_bl (nomark _)) (pw_or1 (pt_not (pt_val (pe_call (ok_Lagrees T B0) hr8 rfl T.mg_Lagrees T.F_Lagrees.kp (b_Lagrees T) .nil pass0 (pa_cons (pv 2) (pa_cons (pv 3) pa_nil))))))))
          (pss_one (ps_ret pe_bl))
          pss_nil))))))
      (pss_cons (ps_setLc (i := 7) (own := [("_law_write", 8)]) (g := gName 8) (tt := tYes) rfl sc_law.nd rfl rfl (sw_true rfl rfl rfl (by decide +kernel)) (pi_list (pe_ixK (K := K) (pv 3) pe_int (fun _ _ => rfl))) (blkOk_by (N := ["_law_script", "_law_feed_here", "_law_disk", "_law_book", "_law_k", "_law_choice", "_law_good", "_law_places", "_law_write", "_law_place_here", "_law_x", "_law_s"]) (sc := defScope s_law) (by decide +kernel)) (fun _ _ _ _ _ => pg_name (i := 8) sc_law.nd rfl (Or.inl rfl)) (fun _ _ _ _ _ => pts_nil) (fun _ _ _ _ _ => (pe_ixTK (K := K) (pv 8) pe_int (fun _ _ => rfl))))
      (pss_cons (ps_for PassesOwn.never rfl (pi_list (pe_op op_cat (pe_lc rfl (own := [("_law_x", 10)]) (g := gName 10) (tt := tYes) sc_law.nd (pi_range1 rfl T.b_range (pa_cons pe_int pa_nil)) (blkOk_by (N := ["_law_script", "_law_feed_here", "_law_disk", "_law_book", "_law_k", "_law_choice", "_law_good", "_law_places", "_law_write", "_law_place_here", "_law_x", "_law_s"]) (sc := defScope s_law) (by decide +kernel)) (fun _ _ _ _ _ => pg_name (i := 10) sc_law.nd rfl (Or.inl rfl)) (fun _ _ _ _ _ => pts_nil) (fun _ _ _ _ _ => (pe_tup (pa_cons pe_str (pa_cons (pv 10) pa_nil))))) (pe_lc rfl (own := [("_law_s", 11)]) (g := gName 11) (tt := tYes) sc_law.nd (pi_range1 rfl T.b_range (pa_cons pe_int pa_nil)) (blkOk_by (N := ["_law_script", "_law_feed_here", "_law_disk", "_law_book", "_law_k", "_law_choice", "_law_good", "_law_places", "_law_write", "_law_place_here", "_law_x", "_law_s"]) (sc := defScope s_law) (by decide +kernel)) (fun _ _ _ _ _ => pg_name (i := 11) sc_law.nd rfl (Or.inl rfl)) (fun _ _ _ _ _ => pts_nil) (fun _ _ _ _ _ => (pe_tup (pa_cons pe_str (pa_cons (pv 11) pa_nil))))))) (pg_name (i := 9) sc_law.nd rfl (.inl rfl))
        (pss_cons (ps_if (PW.pt (pw_and (pt_cmpR op_notV (pe_meth (pv 2) T.cl_Disk T.m_Disk_busy (ok_busyG T B0) hr4 (b_Disk_busy T) .nil pass0 (pa_cons (pv 9) pa_nil)) pe_bl (nomark _)) (pw_and1 (pt_cmpR (op_inDK (K := K) (room65 hr)) (pv 9) (pv 7) rfl))))
          (pss_one (ps_ret pe_bl))
          pss_nil)
        (pss_one (ps_if (PW.pt (pw_and (pt_cmpR op_notV (pe_meth (pv 2) T.cl_Disk T.m_Disk_busy (ok_busyG T B0) hr4 (b_Disk_busy T) .nil pass0 (pa_cons (pv 9) pa_nil)) pe_bl (nomark _)) (pw_and1 (pt_cmpR (op_notInDK (K := K) (room65 hr)) (pv 9) (pv 7) rfl))))
          (pss_one (ps_ret pe_bl))
          pss_nil))))
      (pss_one (ps_ret (pe_and (pe_cmpR op_isV (pe_call (ok_Lcut T B0) hr rfl T.mg_Lcut T.F_Lcut.kp (b_Lcut T) .nil pass0 (pa_cons (pv 2) (pa_cons (pv 3) (pa_cons (pv 1) pa_nil)))) pe_bl (nomark _)) (pe_one (pe_call (ok_Lagrees T B0) hr8 rfl T.mg_Lagrees T.F_Lagrees.kp (b_Lagrees T) .nil pass0 (pa_cons (pv 2) (pa_cons (pv 3) pa_nil)))))))))))))), ?_⟩
    refine ⟨_, rfl, a, ns, rfl, hS, hlen, fun H1 fa fs S1 np ep hf => ?_⟩
    refine ⟨rfl, rfl, fun px pdx npx npdx ned => ?_⟩
    refine ⟨px, pdx, 24, 5, 30, rfl, upd_same, by decide, by decide, by decide, by decide, by decide, by decide, by decide, ?_⟩
    have Pl : PlanAt T.C_Plan (upd (upd (upd H1 pdx (.own px)) px (.ins T.C_Plan pdx [])) px (.ins T.C_Plan pdx (planF 24 5 30))) px 24 5 30 :=
      ⟨⟨pdx, upd_same⟩, by decide, by decide, by decide, by decide, by decide, by decide, by decide⟩
    have s2 : Same H1 (upd (upd (upd H1 pdx (.own px)) px (.ins T.C_Plan pdx [])) px (.ins T.C_Plan pdx (planF 24 5 30))) := fun x o e => by
      rw [upd_ne (ne_of_none e npx), upd_ne (ne_of_none e npx), upd_ne (ne_of_none e npdx)]
      exact e
    generalize upd (upd (upd H1 pdx (.own px)) px (.ins T.C_Plan pdx [])) px (.ins T.C_Plan pdx (planF 24 5 30)) = H2 at Pl s2 ⊢
    have ep2 := s2 _ _ ep
    have t2 := (ht.same S1).same s2
    refine ⟨rfl, fun d ddx nd nddx ned2 => ?_⟩
    have s3 : Same H2 (upd (upd H2 ddx (.own d)) d (.ins T.C_Disk ddx [])) := fun x o e => by
      rw [upd_ne (ne_of_none e nd), upd_ne (ne_of_none e nddx)]
      exact e
    obtain ⟨pdx2, epx⟩ := Pl.ob
    refine ⟨d, ddx, px, 24, 5, 30, rfl, upd_same, Pl.same s3, ne_of_none epx nd, fun H3 A ts eA k3 fho flg fpd D3 ets => ⟨rfl, ?_⟩⟩
    have k3' : Same H2 H3 := fun x o e => k3.at1 (s3 _ _ e) (ne_of_none e nd)
    have ep3 := k3' _ _ ep2
    have t3 := t2.same k3'
    have tsl : ts.length = 24 := by have := D3.hl; rw [List.length_map] at this; omega
    have DK3 : DkE T.C_Disk T.C_Plan K H3 (d, A) md0 := ⟨_, _, [], D3, (fun p hp => by cases hp), ⟨List.nodup_nil, (fun p hp => by cases hp), List.nodup_nil⟩, row_zer tsl fun t h => ets t h, row_rep rfl, rfl, by decide⟩
    have nf3 : fa ∉ dO (d, A) := fun z => by
      simp only [dO, dOwn, List.mem_cons, List.not_mem_nil, or_false] at z
      rcases z with z | z | z | z
      · rw [← z, ep2] at nd; cases nd
      · rw [← z, s3 _ _ ep2] at fho; cases fho
      · rw [← z, s3 _ _ ep2] at flg; cases flg
      · rw [← z, s3 _ _ ep2] at fpd; cases fpd
    refine ⟨rfl, fun H4 B A2 s4 nB b4 => ?_⟩
    obtain ⟨d2, ed2⟩ : ∃ d2 : Addr × DA, d2 = (d, A) := ⟨_, rfl⟩
    have W4 : Wd T.C_Disk T.C_Plan K T.Ps H4 d2 B A2 fa md0 md0 := by
      rw [ed2]
      exact ⟨t3.same s4, ⟨fs, s4 _ _ ep3⟩, DK3.same s4, b4, (fun x hx z => by obtain ⟨o, e, _⟩ := DK3.held z; rw [nB x hx] at e; cases e), nf3, (fun z => by rw [nB _ z] at ep3; cases ep3)⟩
    have ed1 : d = d2.1 := by rw [ed2]
    rw [ed1]
    clear DK3 D3 nf3 nB b4 ed1 ets
    ((try dsimp only); (first | (refine Rg.sg (σ' := [some (.ref a), some (.ref fa), some (.ref d2.1), some (.ref B), none, none, none, none, none, none, none, none]) ?_ ?_; focus exact rfl) | (refine Rg.sgG (σ' := [some (.ref a), some (.ref fa), some (.ref d2.1), some (.ref B), none, none, none, none, none, none, none, none]) ?_ ?_; focus exact rfl)))
    obtain ⟨hs, gs, ps, D⟩ := W4.dk
    refine ⟨_, rfl, _, rfl, d2.1, B, d2.2, A2, hs, gs, ps, md0, rfl, D, W4.bk, W4.t, fun H5 k5 => ⟨_, rfl, iteF ?_⟩⟩
    have W5 := W4.tk k5
    clear D W4
    obtain ⟨hs, gs, ps, D⟩ := W5.dk
    obtain ⟨dx, ob⟩ := D.D.ob
    obtain ⟨px5, po5⟩ := D.D.pl.ob
    refine ⟨_, rfl, d2.1, _, _, _, _, rfl, ob, T.cl_Disk, T.na_Disk_plan, rfl, d2.2.p, _, _, rfl, po5, rfl, d2.2.p, rfl, D.D.pl, rfl, _, rfl, iteF ?_⟩
    obtain ⟨f0, ef0⟩ := W5.ef
    refine ⟨_, rfl, fa, f0, 24, rfl, ef0, by decide, fun x f1 x0 x1 _ => ?_⟩
    have W6 := W5.pick (Kp.refl.own (by simp)) ⟨f1, upd_same (H := H5)⟩
    generalize upd H5 fa (.lst (f1.map V.int)) = H6 at W6 ⊢
    clear D ob po5 W5
    refine ⟨_, _, rfl, rfl, 1 + x, rfl, by omega, by omega, for_range (lo := 0) (n := (1 + x).toNat) (fun i σ H' => ∃ (u4 u5 u6 : Option V) (M : Md), σ = [some (.ref a), some (.ref fa), some (.ref d2.1), some (.ref B), u4, u5, u6, none, none, none, none, none] ∧ Wd T.C_Disk T.C_Plan K T.Ps H' d2 B A2 fa M M ∧ M.ws.length ≤ i ∧ 0 ≤ M.la ∧ M.la ≤ i ∧ ∀ x ∈ M.ws, 1 ≤ x.m) ⟨none, none, none, md0, rfl, W6, Nat.le_refl _, Int.le_refl _, Int.le_refl _, (fun x hx => by cases hx)⟩ ?_ ?_⟩
    · rintro i σ H7 hi ⟨u4, u5, u6, M, rfl, W, ln, l0, l1, hm⟩
      have hi : i < (1 + x).toNat := hi
      obtain ⟨f0, ef0⟩ := W.ef
      refine ⟨_, rfl, fa, f0, 12, rfl, ef0, by decide, fun y f1 y0 y1 _ => ?_⟩
      have W8 := W.pick (Kp.refl.own (by simp)) ⟨f1, upd_same (H := H7)⟩
      generalize upd H7 fa (.lst (f1.map V.int)) = H8 at W8 ⊢
      ((try dsimp only); (first | (refine Rg.sg (σ' := [some (.ref a), some (.ref fa), some (.ref d2.1), some (.ref B), some (.int (0 + (i : Int))), some (.int y), u6, none, none, none, none, none]) ?_ ?_; focus exact rfl) | (refine Rg.sgG (σ' := [some (.ref a), some (.ref fa), some (.ref d2.1), some (.ref B), some (.int (0 + (i : Int))), some (.int y), u6, none, none, none, none, none]) ?_ ?_; focus exact rfl)))
      have ln4 : M.ws.length < 400 := by omega
      have la8 : M.la < 800 := by omega
      refine ⟨fun σ Hm => σ = [some (.ref a), some (.ref fa), some (.ref d2.1), some (.ref B), some (.int (0 + (i : Int))), some (.int y), some (.bl true), none, none, none, none, none] ∧ ∃ M', Wd T.C_Disk T.C_Plan K T.Ps Hm d2 B A2 fa M' M' ∧ Stp M M', ?_, ?_⟩
      · refine ⟨_, rfl, _, _, rfl, rfl, _, rfl, wD (fun h => ?_) fun h => ?_⟩
        · exact ⟨_, rfl, _, rfl, _, rfl, d2, B, A2, fa, M, rfl, W8, ln4, l0, la8, hm, fun H' M' W' S => ⟨rfl, M', W', S⟩⟩
        refine ⟨_, rfl, _, _, rfl, rfl, _, rfl, wD (fun h => ?_) fun h => ?_⟩
        · exact ⟨_, rfl, _, rfl, _, rfl, d2, B, A2, fa, M, rfl, W8, ln4, l0, la8, hm, fun H' M' W' S => ⟨rfl, M', W', S⟩⟩
        refine ⟨_, rfl, rfl, _, rfl, wI (fun h => ?_) fun h => ?_⟩
        · exact ⟨_, rfl, _, rfl, d2, B, A2, fa, M, rfl, W8, fun H' W' => ⟨rfl, M.bar, W', Nat.zero_le _, Int.le_refl _, by show M.la ≤ M.la + 1; omega, fun x hx => by cases hx⟩⟩
        refine ⟨_, rfl, rfl, _, rfl, wI (fun h => ?_) fun h => ?_⟩
        · exact ⟨_, rfl, _, rfl, _, rfl, d2, B, A2, fa, M, rfl, W8, ln4, l0, la8, hm, fun H' M' W' S => ⟨rfl, M', W', S⟩⟩
        refine ⟨_, rfl, rfl, _, rfl, wI (fun h => ?_) fun h => ?_⟩
        · exact ⟨_, rfl, _, rfl, _, rfl, d2, B, A2, fa, M, rfl, W8, ln4, l0, la8, hm, fun H' M' W' S => ⟨rfl, M', W', S⟩⟩
        · exact ⟨_, rfl, _, rfl, _, rfl, d2, B, A2, fa, M, rfl, W8, ln4, l0, la8, hm, fun H' M' W' S => ⟨rfl, M', W', S⟩⟩
      rintro σ Hm ⟨rfl, M', Wm, p1, p2, p3, p4⟩
      obtain ⟨hs, gs, ps, D⟩ := Wm.dk
      refine ⟨_, rfl, _, _, rfl, rfl, _, rfl, iteF ⟨_, rfl, _, rfl, d2.1, B, d2.2, A2, hs, gs, ps, M', rfl, D, Wm.bk, Wm.t, fun H' k' => ⟨_, rfl, iteF ?_⟩⟩⟩
      exact ⟨_, _, _, M', rfl, Wm.tk k', by omega, by omega, by omega, p4⟩
    rintro σ Hn ⟨u4, u5, u6, M, rfl, Wn, ln, l0, l1, hm⟩
    have ln4 : M.ws.length < 400 := by omega
    have la8 : M.la < 800 := by omega
    obtain ⟨G, w1, w2, w3⟩ := Wn.bk.w
    have lG : G.length = M.ws.length := by rw [← w3, List.length_map]
    refine ⟨_, rfl, B, _, 3, .ref A2.pe, rfl, rfl, .of Wn.bk.e, atI_nat (j := 3) rfl, A2.pe, rfl, ⟨_, .of w1⟩, fun Dd hD => ?_⟩
    refine lc_list (K := K) (a := A2.pe) (xs := G.map fun g => V.ref g.1) (fun i H' => Pls K Hn H' Dd i M.ws) (Pls.start hD) (fun i H' _ p => .of (p.s _ _ w1)) ?_ ?_
    · rintro j y' H' hj Pv
      rw [List.getElem?_map] at hj
      obtain ⟨g, hg, rfl⟩ := Option.map_eq_some_iff.mp hj
      obtain ⟨pb, pu, t1, t2, t3⟩ := (w2 g (List.mem_of_getElem? hg)).by fun _ _ => sameT Pv.s
      exact ⟨rfl, yes_ ⟨_, rfl, g.1, _, 1, .ref pb, rfl, rfl, t1, atI_nat (j := 1) rfl, Pv.snoc hD (by rw [← w3, List.getElem?_map, hg]; rfl) t2 (by omega)⟩⟩
    intro Ho Pv
    have So := Pv.s
    obtain ⟨as, ea, la', pa'⟩ := Pv.e
    rw [List.length_map, lG] at la'
    have Wo := Wn.same So
    ((try dsimp only); (first | (refine Rg.sg (σ' := [some (.ref a), some (.ref fa), some (.ref d2.1), some (.ref B), u4, u5, u6, some (.ref Dd), none, none, none, none]) ?_ ?_; focus exact rfl) | (refine Rg.sgG (σ' := [some (.ref a), some (.ref fa), some (.ref d2.1), some (.ref B), u4, u5, u6, some (.ref Dd), none, none, none, none]) ?_ ?_; focus exact rfl)))
    clear Pv Wn w1 w2 w3 lG
    -- all places
    refine ⟨24, rfl, by omega, by omega, fun D1 hD1 => ?_⟩
    refine lc_range (lo := 0) (n := (24 : Int).toNat) (fun i H' => PlL K Ho H' D1 i) (PlL.start hD1) ?_ ?_
    · rintro i H' hi p
      have hi : i < 24 := hi
      refine ⟨rfl, yes_ ⟨_, rfl, by show 2 ≤ sizeLine; decide, ?_⟩⟩
      (intro t n_t; generalize he_t : upd _ t _ = H2; obtain ⟨e_t, s_t, f_t⟩ := new_f he_t n_t; clear he_t)
      exact p.snoc hD1 s_t (q := .home (0 + (i : Int))) (.of e_t) (by omega)
    rintro Hp1 ⟨Sp1, ts1, l1', e1, a1⟩
    refine ⟨30, rfl, by omega, by omega, fun D2 hD2 => ?_⟩
    refine lc_range (lo := 0) (n := (30 : Int).toNat) (fun i H' => PlL K Hp1 H' D2 i) (PlL.start hD2) ?_ ?_
    · rintro i H' hi p
      have hi : i < 30 := hi
      refine ⟨rfl, yes_ ⟨_, rfl, by show 2 ≤ sizeLine; decide, ?_⟩⟩
      (intro t n_t; generalize he_t : upd _ t _ = H2; obtain ⟨e_t, s_t, f_t⟩ := new_f he_t n_t; clear he_t)
      exact p.snoc hD2 s_t (q := .log (0 + (i : Int))) (.of e_t) (by omega)
    rintro Hp2 ⟨Sp2, ts2, l2', e2, a2⟩
    refine ⟨D1, D2, _, _, rfl, rfl, Sp2 _ _ e1, e2, Nat.le_of_lt (lt_line (by rw [List.length_map, List.length_map, l1', l2']; decide)), ?_⟩
    (intro DL n_DL; generalize he_DL : upd _ DL _ = Hp3; obtain ⟨e_DL, s_DL, f_DL⟩ := new_f he_DL n_DL; clear he_DL)
    have S3p := Sp2.trans s_DL
    have hT : ∀ t ∈ ts1 ++ ts2, ∃ q, PlcAt K Hp3 t q := fun t h => by
      rcases List.mem_append.mp h with z | z
      · obtain ⟨q, hq⟩ := a1 t z; exact ⟨q, hq.by fun _ _ => sameT S3p⟩
      · obtain ⟨q, hq⟩ := a2 t z; exact ⟨q, hq.by fun _ _ => sameT s_DL⟩
    have eDL : Hp3 DL = some (.lst ((ts1 ++ ts2).map V.ref)) := by rw [e_DL, List.map_append]
    have Wp := Wo.same (Sp1.trans S3p)
    have S0p := Sp1.trans S3p
    have dpp : ∀ {Hx : Hp}, Tk T.Ps Hp3 Hx → Dp K Hx (.ref Dd) (.list (M.ws.map fun x => dPlc x.q)) := fun {Hx} kt =>
      .lst (.of (kt.at Wp.t (S0p _ _ ea))) (dpAllPs as _ la' fun i b x h1 h2 => ((pa' i b x h1 h2).by fun _ _ => sameT S0p).by fun _ _ => kt.seqT Wp.t)
    generalize ts1 ++ ts2 = Ts at hT eDL
    clear e1 e2 a1 a2 e_DL Wo
    refine ⟨DL, rfl, ⟨_, .of eDL⟩, for_list (K := K) (a := DL) (xs := Ts.map V.ref) (fun i σ H' => ∃ u9 : Option V, σ = [some (.ref a), some (.ref fa), some (.ref d2.1), some (.ref B), u4, u5, u6, some (.ref Dd), none, u9, none, none] ∧ Tk T.Ps Hp3 H') ⟨none, rfl, .of Wp.t (Same.refl _)⟩ (fun i σ H' _ ⟨_, _, kt⟩ => .of (kt.at Wp.t eDL)) ?_ ?_⟩
    · rintro i y σ H' hi ⟨u9, rfl, kt⟩
      rw [List.getElem?_map] at hi
      obtain ⟨px, hx, rfl⟩ := Option.map_eq_some_iff.mp hi
      obtain ⟨q, hq⟩ := hT px (List.mem_of_getElem? hx)
      ((try dsimp only); (first | (refine Rg.sg (σ' := [some (.ref a), some (.ref fa), some (.ref d2.1), some (.ref B), u4, u5, u6, some (.ref Dd), none, some (.ref px), none, none]) ?_ ?_; focus exact rfl) | (refine Rg.sgG (σ' := [some (.ref a), some (.ref fa), some (.ref d2.1), some (.ref B), u4, u5, u6, some (.ref Dd), none, some (.ref px), none, none]) ?_ ?_; focus exact rfl)))
      have Wq := Wp.tk kt
      have hq1 := hq.by fun _ _ => kt.seqT Wp.t
      obtain ⟨hs, gs, ps, D⟩ := Wq.dk
      obtain ⟨dx, ob⟩ := D.D.ob
      have tkn : taken q ps = wTaken q M.ws := by rw [taken_w, D.e]
      refine ⟨_, rfl, d2.1, _, _, rfl, ob, rfl, _, rfl, d2.1, px, d2.2, 24, 5, 30, M.hd, M.la, hs, gs, ps, q, rfl, D.D, D.P, hq1, Wq.t, fun H1 k1 => ⟨_, _, rfl, rfl, _, rfl, ?_⟩⟩
      rw [tkn]
      have kt1 := kt.trans k1
      have W1 := Wp.tk kt1
      have hq2 := hq.by fun _ _ => kt1.seqT Wp.t
      clear D ob
      obtain ⟨hs, gs, ps, D⟩ := W1.dk
      obtain ⟨dx, ob⟩ := D.D.ob
      have tkn : taken q ps = wTaken q M.ws := by rw [taken_w, D.e]
      cases hb : wTaken q M.ws with
      | true =>
        refine iteF ?_
        refine ⟨_, rfl, d2.1, _, _, rfl, ob, rfl, _, rfl, d2.1, px, d2.2, 24, 5, 30, M.hd, M.la, hs, gs, ps, q, rfl, D.D, D.P, hq2, W1.t, fun H2 k2 => ⟨_, _, rfl, rfl, _, rfl, ?_⟩⟩
        rw [tkn, hb]
        have kt2 := kt1.trans k2
        refine iteT ?_
        refine ⟨_, rfl, _, rfl, _, _, dpPlc (hq.by fun _ _ => kt2.seqT Wp.t), dpp kt2, shPlc q, shPs _, ?_⟩
        rw [anyPs, hb]
        exact ⟨_, rfl, iteF ⟨_, rfl, kt2⟩⟩
      | false =>
        refine iteT ?_
        refine ⟨_, rfl, _, rfl, _, _, dpPlc hq2, dpp kt1, shPlc q, shPs _, ?_⟩
        rw [anyPs, hb]
        refine ⟨_, rfl, iteF ?_⟩
        refine ⟨_, rfl, d2.1, _, _, rfl, ob, rfl, _, rfl, d2.1, px, d2.2, 24, 5, 30, M.hd, M.la, hs, gs, ps, q, rfl, D.D, D.P, hq2, W1.t, fun H2 k2 => ⟨_, _, rfl, rfl, _, rfl, ?_⟩⟩
        rw [tkn, hb]
        exact iteF ⟨_, rfl, kt1.trans k2⟩
    rintro σ Hr ⟨u9, rfl, kr⟩
    have Wr := Wp.tk kr
    refine ⟨_, rfl, _, rfl, _, rfl, d2, B, A2, fa, M, rfl, Wr, ln4, l0, la8, hm, fun H' M' W' S => ⟨_, _, rfl, rfl, _, rfl, iteT ?_⟩⟩
    obtain ⟨hs, gs, ps, D⟩ := W'.dk
    exact ⟨_, rfl, _, rfl, d2.1, B, d2.2, A2, hs, gs, ps, M', rfl, D, W'.bk, W'.t, fun H'' k' => k H''⟩
end
end K01
namespace K01
open L2
noncomputable def heapK : PySem.Params → PySem.W.Frag :=
fun P =>
  (nat_lit 2, { cls := PySem.Value.none, data := PySem.Data.dict #[] }) ::
    (nat_lit 3,
      { cls := PySem.Value.type "dict",
        data :=
          PySem.Data.dict
            #[{ hash := PySem.PyData.keyHash P (PySem.Str.ofString "__name__"),
                key := PySem.Value.str (PySem.Str.ofString "__name__") 165,
                val := PySem.Value.str (PySem.Str.ofString "law_lotsandties_k01_writes_and_cuts") 712 },
              { hash := PySem.PyData.keyHash P (PySem.Str.ofString "__doc__"),
                key := PySem.Value.str (PySem.Str.ofString "__doc__") 166, val := PySem.Value.none },
              { hash := PySem.PyData.keyHash P (PySem.Str.ofString "__package__"),
                key := PySem.Value.str (PySem.Str.ofString "__package__") 167, val := PySem.Value.none },
              { hash := PySem.PyData.keyHash P (PySem.Str.ofString "__loader__"),
                key := PySem.Value.str (PySem.Str.ofString "__loader__") 168,
                val := PySem.Value.builtin "__main__.__loader__#opaque" },
              { hash := PySem.PyData.keyHash P (PySem.Str.ofString "__spec__"),
                key := PySem.Value.str (PySem.Str.ofString "__spec__") 169, val := PySem.Value.none },
              { hash := PySem.PyData.keyHash P (PySem.Str.ofString "__annotations__"),
                key := PySem.Value.str (PySem.Str.ofString "__annotations__") 170, val := PySem.Value.ref 6 },
              { hash := PySem.PyData.keyHash P (PySem.Str.ofString "__builtins__"),
                key := PySem.Value.str (PySem.Str.ofString "__builtins__") 171, val := PySem.Value.ref 4 },
              { hash := PySem.PyData.keyHash P (PySem.Str.ofString "__file__"),
                key := PySem.Value.str (PySem.Str.ofString "__file__") 173,
                val := PySem.Value.str (PySem.Str.ofString "/claim/cut.py") 172 },
              { hash := PySem.PyData.keyHash P (PySem.Str.ofString "__cached__"),
                key := PySem.Value.str (PySem.Str.ofString "__cached__") 174, val := PySem.Value.none },
              { hash := PySem.PyData.keyHash P (PySem.Str.ofString "_wall"),
                key := PySem.Value.str (PySem.Str.ofString "_wall") 193, val := PySem.Value.ref 21 },
              { hash := PySem.PyData.keyHash P (PySem.Str.ofString "StoreError"),
                key := PySem.Value.str (PySem.Str.ofString "StoreError") 213, val := PySem.Value.ref 31 },
              { hash := PySem.PyData.keyHash P (PySem.Str.ofString "BadText"),
                key := PySem.Value.str (PySem.Str.ofString "BadText") 229, val := PySem.Value.ref 44 },
              { hash := PySem.PyData.keyHash P (PySem.Str.ofString "BadValue"),
                key := PySem.Value.str (PySem.Str.ofString "BadValue") 245, val := PySem.Value.ref 56 },
              { hash := PySem.PyData.keyHash P (PySem.Str.ofString "Refused"),
                key := PySem.Value.str (PySem.Str.ofString "Refused") 261, val := PySem.Value.ref 68 },
              { hash := PySem.PyData.keyHash P (PySem.Str.ofString "NotNow"),
                key := PySem.Value.str (PySem.Str.ofString "NotNow") 277, val := PySem.Value.ref 80 },
              { hash := PySem.PyData.keyHash P (PySem.Str.ofString "PlaceBusy"),
                key := PySem.Value.str (PySem.Str.ofString "PlaceBusy") 293, val := PySem.Value.ref 92 },
              { hash := PySem.PyData.keyHash P (PySem.Str.ofString "NoWrite"),
                key := PySem.Value.str (PySem.Str.ofString "NoWrite") 309, val := PySem.Value.ref 104 },
              { hash := PySem.PyData.keyHash P (PySem.Str.ofString "DIGITS"),
                key := PySem.Value.str (PySem.Str.ofString "DIGITS") 313,
                val := PySem.Value.str (PySem.Str.ofString "0123456789") 312 },
              { hash := PySem.PyData.keyHash P (PySem.Str.ofString "MOST_DIGITS"),
                key := PySem.Value.str (PySem.Str.ofString "MOST_DIGITS") 315, val := PySem.Value.int 12 314 },
              { hash := PySem.PyData.keyHash P (PySem.Str.ofString "_is_written_number"),
                key := PySem.Value.str (PySem.Str.ofString "_is_written_number") 322, val := PySem.Value.ref 113 },
              { hash := PySem.PyData.keyHash P (PySem.Str.ofString "read_number"),
                key := PySem.Value.str (PySem.Str.ofString "read_number") 331, val := PySem.Value.ref 120 },
              { hash := PySem.PyData.keyHash P (PySem.Str.ofString "split_words"),
                key := PySem.Value.str (PySem.Str.ofString "split_words") 339, val := PySem.Value.ref 127 },
              { hash := PySem.PyData.keyHash P (PySem.Str.ofString "MOST_WRITTEN"),
                key := PySem.Value.str (PySem.Str.ofString "MOST_WRITTEN") 343,
                val := PySem.Value.int 999999999999 342 },
              { hash := PySem.PyData.keyHash P (PySem.Str.ofString "LEAST_BLOCKS"),
                key := PySem.Value.str (PySem.Str.ofString "LEAST_BLOCKS") 345, val := PySem.Value.int 8 344 },
              { hash := PySem.PyData.keyHash P (PySem.Str.ofString "MOST_BLOCKS"),
                key := PySem.Value.str (PySem.Str.ofString "MOST_BLOCKS") 347, val := PySem.Value.int 64 346 },
              { hash := PySem.PyData.keyHash P (PySem.Str.ofString "LEAST_NODES"),
                key := PySem.Value.str (PySem.Str.ofString "LEAST_NODES") 349, val := PySem.Value.int 2 348 },
              { hash := PySem.PyData.keyHash P (PySem.Str.ofString "MOST_NODES"),
                key := PySem.Value.str (PySem.Str.ofString "MOST_NODES") 351, val := PySem.Value.int 16 350 },
              { hash := PySem.PyData.keyHash P (PySem.Str.ofString "MOST_SLOTS"),
                key := PySem.Value.str (PySem.Str.ofString "MOST_SLOTS") 353, val := PySem.Value.int 200 352 },
              { hash := PySem.PyData.keyHash P (PySem.Str.ofString "LEAST_DATA"),
                key := PySem.Value.str (PySem.Str.ofString "LEAST_DATA") 355, val := PySem.Value.int 2 354 },
              { hash := PySem.PyData.keyHash P (PySem.Str.ofString "FIRST_MAP"),
                key := PySem.Value.str (PySem.Str.ofString "FIRST_MAP") 357, val := PySem.Value.int 2 356 },
              { hash := PySem.PyData.keyHash P (PySem.Str.ofString "Plan"),
                key := PySem.Value.str (PySem.Str.ofString "Plan") 453, val := PySem.Value.ref 180 },
              { hash := PySem.PyData.keyHash P (PySem.Str.ofString "CELL_MOST"),
                key := PySem.Value.str (PySem.Str.ofString "CELL_MOST") 457, val := PySem.Value.int 999999999 456 },
              { hash := PySem.PyData.keyHash P (PySem.Str.ofString "BLOCK_MOST"),
                key := PySem.Value.str (PySem.Str.ofString "BLOCK_MOST") 459, val := PySem.Value.int 63 458 },
              { hash := PySem.PyData.keyHash P (PySem.Str.ofString "is_number"),
                key := PySem.Value.str (PySem.Str.ofString "is_number") 468, val := PySem.Value.ref 191 },
              { hash := PySem.PyData.keyHash P (PySem.Str.ofString "is_cell"),
                key := PySem.Value.str (PySem.Str.ofString "is_cell") 475, val := PySem.Value.ref 198 },
              { hash := PySem.PyData.keyHash P (PySem.Str.ofString "is_block"),
                key := PySem.Value.str (PySem.Str.ofString "is_block") 482, val := PySem.Value.ref 205 },
              { hash := PySem.PyData.keyHash P (PySem.Str.ofString "is_cell_row"),
                key := PySem.Value.str (PySem.Str.ofString "is_cell_row") 489, val := PySem.Value.ref 212 },
              { hash := PySem.PyData.keyHash P (PySem.Str.ofString "is_ascending"),
                key := PySem.Value.str (PySem.Str.ofString "is_ascending") 496, val := PySem.Value.ref 219 },
              { hash := PySem.PyData.keyHash P (PySem.Str.ofString "MOST_LOT"),
                key := PySem.Value.str (PySem.Str.ofString "MOST_LOT") 500, val := PySem.Value.int 999999 499 },
              { hash := PySem.PyData.keyHash P (PySem.Str.ofString "MOST_SLOT"),
                key := PySem.Value.str (PySem.Str.ofString "MOST_SLOT") 502, val := PySem.Value.int 199 501 },
              { hash := PySem.PyData.keyHash P (PySem.Str.ofString "NO_SLOT"),
                key := PySem.Value.str (PySem.Str.ofString "NO_SLOT") 505, val := PySem.Value.int (-1) 504 },
              { hash := PySem.PyData.keyHash P (PySem.Str.ofString "_is_pair"),
                key := PySem.Value.str (PySem.Str.ofString "_is_pair") 512, val := PySem.Value.ref 226 },
              { hash := PySem.PyData.keyHash P (PySem.Str.ofString "_are_pairs"),
                key := PySem.Value.str (PySem.Str.ofString "_are_pairs") 518, val := PySem.Value.ref 231 },
              { hash := PySem.PyData.keyHash P (PySem.Str.ofString "_are_revokes"),
                key := PySem.Value.str (PySem.Str.ofString "_are_revokes") 525, val := PySem.Value.ref 238 },
              { hash := PySem.PyData.keyHash P (PySem.Str.ofString "is_record"),
                key := PySem.Value.str (PySem.Str.ofString "is_record") 532, val := PySem.Value.ref 245 },
              { hash := PySem.PyData.keyHash P (PySem.Str.ofString "fits_plan"),
                key := PySem.Value.str (PySem.Str.ofString "fits_plan") 541, val := PySem.Value.ref 252 },
              { hash := PySem.PyData.keyHash P (PySem.Str.ofString "MOST_HEAD"),
                key := PySem.Value.str (PySem.Str.ofString "MOST_HEAD") 545, val := PySem.Value.int 999999 544 },
              { hash := PySem.PyData.keyHash P (PySem.Str.ofString "_is_place"),
                key := PySem.Value.str (PySem.Str.ofString "_is_place") 553, val := PySem.Value.ref 259 },
              { hash := PySem.PyData.keyHash P (PySem.Str.ofString "_is_content"),
                key := PySem.Value.str (PySem.Str.ofString "_is_content") 562, val := PySem.Value.ref 266 },
              { hash := PySem.PyData.keyHash P (PySem.Str.ofString "Disk"),
                key := PySem.Value.str (PySem.Str.ofString "Disk") 711, val := PySem.Value.ref 369 },
              { hash := PySem.PyData.keyHash P (PySem.Str.ofString "_law_feed"),
                key := PySem.Value.str (PySem.Str.ofString "_law_feed") 724, val := PySem.Value.ref 380 },
              { hash := PySem.PyData.keyHash P (PySem.Str.ofString "_law_pick"),
                key := PySem.Value.str (PySem.Str.ofString "_law_pick") 732, val := PySem.Value.ref 387 },
              { hash := PySem.PyData.keyHash P (PySem.Str.ofString "_law_same"),
                key := PySem.Value.str (PySem.Str.ofString "_law_same") 741, val := PySem.Value.ref 394 },
              { hash := PySem.PyData.keyHash P (PySem.Str.ofString "_law_start"),
                key := PySem.Value.str (PySem.Str.ofString "_law_start") 747, val := PySem.Value.ref 399 },
              { hash := PySem.PyData.keyHash P (PySem.Str.ofString "_law_agrees"),
                key := PySem.Value.str (PySem.Str.ofString "_law_agrees") 761, val := PySem.Value.ref 406 },
              { hash := PySem.PyData.keyHash P (PySem.Str.ofString "_law_put"),
                key := PySem.Value.str (PySem.Str.ofString "_law_put") 774, val := PySem.Value.ref 413 },
              { hash := PySem.PyData.keyHash P (PySem.Str.ofString "_law_place"),
                key := PySem.Value.str (PySem.Str.ofString "_law_place") 782, val := PySem.Value.ref 420 },
              { hash := PySem.PyData.keyHash P (PySem.Str.ofString "_law_cells"),
                key := PySem.Value.str (PySem.Str.ofString "_law_cells") 791, val := PySem.Value.ref 427 },
              { hash := PySem.PyData.keyHash P (PySem.Str.ofString "_law_record"),
                key := PySem.Value.str (PySem.Str.ofString "_law_record") 802, val := PySem.Value.ref 434 },
              { hash := PySem.PyData.keyHash P (PySem.Str.ofString "_law_busy"),
                key := PySem.Value.str (PySem.Str.ofString "_law_busy") 812, val := PySem.Value.ref 441 },
              { hash := PySem.PyData.keyHash P (PySem.Str.ofString "_law_bad_issue"),
                key := PySem.Value.str (PySem.Str.ofString "_law_bad_issue") 822, val := PySem.Value.ref 448 },
              { hash := PySem.PyData.keyHash P (PySem.Str.ofString "_law_bad_head"),
                key := PySem.Value.str (PySem.Str.ofString "_law_bad_head") 831, val := PySem.Value.ref 455 },
              { hash := PySem.PyData.keyHash P (PySem.Str.ofString "_law_no_write"),
                key := PySem.Value.str (PySem.Str.ofString "_law_no_write") 840, val := PySem.Value.ref 462 },
              { hash := PySem.PyData.keyHash P (PySem.Str.ofString "_law_no_cut"),
                key := PySem.Value.str (PySem.Str.ofString "_law_no_cut") 849, val := PySem.Value.ref 469 },
              { hash := PySem.PyData.keyHash P (PySem.Str.ofString "_law_issue"),
                key := PySem.Value.str (PySem.Str.ofString "_law_issue") 855, val := PySem.Value.ref 474 },
              { hash := PySem.PyData.keyHash P (PySem.Str.ofString "_law_sure"),
                key := PySem.Value.str (PySem.Str.ofString "_law_sure") 861, val := PySem.Value.ref 479 },
              { hash := PySem.PyData.keyHash P (PySem.Str.ofString "_law_barrier"),
                key := PySem.Value.str (PySem.Str.ofString "_law_barrier") 874, val := PySem.Value.ref 486 },
              { hash := PySem.PyData.keyHash P (PySem.Str.ofString "_law_head"),
                key := PySem.Value.str (PySem.Str.ofString "_law_head") 885, val := PySem.Value.ref 493 },
              { hash := PySem.PyData.keyHash P (PySem.Str.ofString "_law_bad"),
                key := PySem.Value.str (PySem.Str.ofString "_law_bad") 903, val := PySem.Value.ref 500 },
              { hash := PySem.PyData.keyHash P (PySem.Str.ofString "_law_cut"),
                key := PySem.Value.str (PySem.Str.ofString "_law_cut") 923, val := PySem.Value.ref 507 },
              { hash := PySem.PyData.keyHash P (PySem.Str.ofString "law"),
                key := PySem.Value.str (PySem.Str.ofString "law") 929, val := PySem.Value.ref 512 }]
            71 }) ::
    (nat_lit 15, { cls := PySem.Value.type "tuple", data := PySem.Data.seq #[] }) ::
    (nat_lit 17, { cls := PySem.Value.type "tuple", data := PySem.Data.seq #[PySem.Value.str (PySem.Str.ofString "k") 190] }) ::
    (nat_lit 18, { cls := PySem.Value.type "tuple", data := PySem.Data.seq #[] }) ::
    (nat_lit 20,
      { cls := PySem.Value.type "code",
        data :=
          PySem.Data.fields
            #[PySem.Value.str (PySem.Str.ofString "_wall") 187, PySem.Value.str (PySem.Str.ofString "_wall") 188,
              PySem.Value.str (PySem.Str.ofString "/claim/cut.py") 189, PySem.Value.int 1 0, PySem.Value.int 1 0,
              PySem.Value.int 0 0, PySem.Value.int 0 0, PySem.Value.int 3 0, PySem.Value.ref 15, PySem.Value.bool true,
              PySem.Value.int 181 0, PySem.Value.ref 16, PySem.Value.none, PySem.Value.ref 17, PySem.Value.ref 18,
              PySem.Value.ref 19, PySem.Value.int 191 0, PySem.Value.int 1 0,
              PySem.Value.str (PySem.Str.ofString "/claim/cut.py") 192] }) ::
    (nat_lit 22, { cls := PySem.Value.type "tuple", data := PySem.Data.seq #[PySem.Value.type "ValueError"] }) ::
    (nat_lit 29, { cls := PySem.Value.type "tuple", data := PySem.Data.seq #[] }) ::
    (nat_lit 30,
      { cls := PySem.Value.type "dict",
        data :=
          PySem.Data.dict
            #[{ hash := PySem.PyData.keyHash P (PySem.Str.ofString "__module__"),
                key := PySem.Value.str (PySem.Str.ofString "__module__") 203,
                val := PySem.Value.str (PySem.Str.ofString "lotsandties.errors") 194 },
              { hash := PySem.PyData.keyHash P (PySem.Str.ofString "__firstlineno__"),
                key := PySem.Value.str (PySem.Str.ofString "__firstlineno__") 207, val := PySem.Value.int 5 206 },
              { hash := PySem.PyData.keyHash P (PySem.Str.ofString "__static_attributes__"),
                key := PySem.Value.str (PySem.Str.ofString "__static_attributes__") 208, val := PySem.Value.ref 29 },
              { hash := PySem.PyData.keyHash P (PySem.Str.ofString "__weakref__"),
                key := PySem.Value.str (PySem.Str.ofString "__weakref__") 210, val := PySem.Value.ref 32 },
              { hash := PySem.PyData.keyHash P (PySem.Str.ofString "__doc__"),
                key := PySem.Value.str (PySem.Str.ofString "__doc__") 211, val := PySem.Value.none }]
            3 }) ::
    (nat_lit 31,
      { cls := PySem.Value.type "type",
        data :=
          PySem.Data.cls
            { name := PySem.Str.ofString "StoreError", bases := [PySem.Value.type "ValueError"],
              mro :=
                [PySem.Value.ref 31, PySem.Value.type "ValueError", PySem.Value.type "Exception",
                  PySem.Value.type "BaseException", PySem.Value.type "object"],
              ns := 30, qualname := PySem.Str.ofString "StoreError",
              subclasses := [PySem.Value.ref 44, PySem.Value.ref 56, PySem.Value.ref 68, PySem.Value.ref 80] },
        slots :=
          #[some (PySem.Value.ref 22), none, some (PySem.Value.str (PySem.Str.ofString "StoreError") 196),
            some (PySem.Value.str (PySem.Str.ofString "StoreError") 204),
            some (PySem.Value.builtin "ValueError.__new__"), some (PySem.Value.bool true)] }) ::
    (nat_lit 32,
      { cls := PySem.Value.type "getset_descriptor",
        data :=
          PySem.Data.fields
            #[PySem.Value.str (PySem.Str.ofString "__weakref__") 209, PySem.Value.ref 31,
              PySem.Value.builtin "ExceptionGroup.__weakref__", PySem.Value.none] }) ::
    (nat_lit 35, { cls := PySem.Value.type "tuple", data := PySem.Data.seq #[PySem.Value.ref 31] }) ::
    (nat_lit 42, { cls := PySem.Value.type "tuple", data := PySem.Data.seq #[] }) ::
    (nat_lit 43,
      { cls := PySem.Value.type "dict",
        data :=
          PySem.Data.dict
            #[{ hash := PySem.PyData.keyHash P (PySem.Str.ofString "__module__"),
                key := PySem.Value.str (PySem.Str.ofString "__module__") 221,
                val := PySem.Value.str (PySem.Str.ofString "lotsandties.errors") 194 },
              { hash := PySem.PyData.keyHash P (PySem.Str.ofString "__firstlineno__"),
                key := PySem.Value.str (PySem.Str.ofString "__firstlineno__") 225, val := PySem.Value.int 7 224 },
              { hash := PySem.PyData.keyHash P (PySem.Str.ofString "__static_attributes__"),
                key := PySem.Value.str (PySem.Str.ofString "__static_attributes__") 226, val := PySem.Value.ref 42 },
              { hash := PySem.PyData.keyHash P (PySem.Str.ofString "__doc__"),
                key := PySem.Value.str (PySem.Str.ofString "__doc__") 227, val := PySem.Value.none }]
            2 }) ::
    (nat_lit 44,
      { cls := PySem.Value.type "type",
        data :=
          PySem.Data.cls
            { name := PySem.Str.ofString "BadText", bases := [PySem.Value.ref 31],
              mro :=
                [PySem.Value.ref 44, PySem.Value.ref 31, PySem.Value.type "ValueError", PySem.Value.type "Exception",
                  PySem.Value.type "BaseException", PySem.Value.type "object"],
              ns := 43, qualname := PySem.Str.ofString "BadText" },
        slots :=
          #[some (PySem.Value.ref 35), none, some (PySem.Value.str (PySem.Str.ofString "BadText") 214),
            some (PySem.Value.str (PySem.Str.ofString "BadText") 222), some (PySem.Value.builtin "ValueError.__new__"),
            some (PySem.Value.bool true)] }) ::
    (nat_lit 47, { cls := PySem.Value.type "tuple", data := PySem.Data.seq #[PySem.Value.ref 31] }) ::
    (nat_lit 54, { cls := PySem.Value.type "tuple", data := PySem.Data.seq #[] }) ::
    (nat_lit 55,
      { cls := PySem.Value.type "dict",
        data :=
          PySem.Data.dict
            #[{ hash := PySem.PyData.keyHash P (PySem.Str.ofString "__module__"),
                key := PySem.Value.str (PySem.Str.ofString "__module__") 237,
                val := PySem.Value.str (PySem.Str.ofString "lotsandties.errors") 194 },
              { hash := PySem.PyData.keyHash P (PySem.Str.ofString "__firstlineno__"),
                key := PySem.Value.str (PySem.Str.ofString "__firstlineno__") 241, val := PySem.Value.int 9 240 },
              { hash := PySem.PyData.keyHash P (PySem.Str.ofString "__static_attributes__"),
                key := PySem.Value.str (PySem.Str.ofString "__static_attributes__") 242, val := PySem.Value.ref 54 },
              { hash := PySem.PyData.keyHash P (PySem.Str.ofString "__doc__"),
                key := PySem.Value.str (PySem.Str.ofString "__doc__") 243, val := PySem.Value.none }]
            2 }) ::
    (nat_lit 56,
      { cls := PySem.Value.type "type",
        data :=
          PySem.Data.cls
            { name := PySem.Str.ofString "BadValue", bases := [PySem.Value.ref 31],
              mro :=
                [PySem.Value.ref 56, PySem.Value.ref 31, PySem.Value.type "ValueError", PySem.Value.type "Exception",
                  PySem.Value.type "BaseException", PySem.Value.type "object"],
              ns := 55, qualname := PySem.Str.ofString "BadValue" },
        slots :=
          #[some (PySem.Value.ref 47), none, some (PySem.Value.str (PySem.Str.ofString "BadValue") 230),
            some (PySem.Value.str (PySem.Str.ofString "BadValue") 238), some (PySem.Value.builtin "ValueError.__new__"),
            some (PySem.Value.bool true)] }) ::
    (nat_lit 59, { cls := PySem.Value.type "tuple", data := PySem.Data.seq #[PySem.Value.ref 31] }) ::
    (nat_lit 66, { cls := PySem.Value.type "tuple", data := PySem.Data.seq #[] }) ::
    (nat_lit 67,
      { cls := PySem.Value.type "dict",
        data :=
          PySem.Data.dict
            #[{ hash := PySem.PyData.keyHash P (PySem.Str.ofString "__module__"),
                key := PySem.Value.str (PySem.Str.ofString "__module__") 253,
                val := PySem.Value.str (PySem.Str.ofString "lotsandties.errors") 194 },
              { hash := PySem.PyData.keyHash P (PySem.Str.ofString "__firstlineno__"),
                key := PySem.Value.str (PySem.Str.ofString "__firstlineno__") 257, val := PySem.Value.int 11 256 },
              { hash := PySem.PyData.keyHash P (PySem.Str.ofString "__static_attributes__"),
                key := PySem.Value.str (PySem.Str.ofString "__static_attributes__") 258, val := PySem.Value.ref 66 },
              { hash := PySem.PyData.keyHash P (PySem.Str.ofString "__doc__"),
                key := PySem.Value.str (PySem.Str.ofString "__doc__") 259, val := PySem.Value.none }]
            2 }) ::
    (nat_lit 68,
      { cls := PySem.Value.type "type",
        data :=
          PySem.Data.cls
            { name := PySem.Str.ofString "Refused", bases := [PySem.Value.ref 31],
              mro :=
                [PySem.Value.ref 68, PySem.Value.ref 31, PySem.Value.type "ValueError", PySem.Value.type "Exception",
                  PySem.Value.type "BaseException", PySem.Value.type "object"],
              ns := 67, qualname := PySem.Str.ofString "Refused" },
        slots :=
          #[some (PySem.Value.ref 59), none, some (PySem.Value.str (PySem.Str.ofString "Refused") 246),
            some (PySem.Value.str (PySem.Str.ofString "Refused") 254), some (PySem.Value.builtin "ValueError.__new__"),
            some (PySem.Value.bool true)] }) ::
    (nat_lit 71, { cls := PySem.Value.type "tuple", data := PySem.Data.seq #[PySem.Value.ref 31] }) ::
    (nat_lit 78, { cls := PySem.Value.type "tuple", data := PySem.Data.seq #[] }) ::
    (nat_lit 79,
      { cls := PySem.Value.type "dict",
        data :=
          PySem.Data.dict
            #[{ hash := PySem.PyData.keyHash P (PySem.Str.ofString "__module__"),
                key := PySem.Value.str (PySem.Str.ofString "__module__") 269,
                val := PySem.Value.str (PySem.Str.ofString "lotsandties.errors") 194 },
              { hash := PySem.PyData.keyHash P (PySem.Str.ofString "__firstlineno__"),
                key := PySem.Value.str (PySem.Str.ofString "__firstlineno__") 273, val := PySem.Value.int 13 272 },
              { hash := PySem.PyData.keyHash P (PySem.Str.ofString "__static_attributes__"),
                key := PySem.Value.str (PySem.Str.ofString "__static_attributes__") 274, val := PySem.Value.ref 78 },
              { hash := PySem.PyData.keyHash P (PySem.Str.ofString "__doc__"),
                key := PySem.Value.str (PySem.Str.ofString "__doc__") 275, val := PySem.Value.none }]
            2 }) ::
    (nat_lit 80,
      { cls := PySem.Value.type "type",
        data :=
          PySem.Data.cls
            { name := PySem.Str.ofString "NotNow", bases := [PySem.Value.ref 31],
              mro :=
                [PySem.Value.ref 80, PySem.Value.ref 31, PySem.Value.type "ValueError", PySem.Value.type "Exception",
                  PySem.Value.type "BaseException", PySem.Value.type "object"],
              ns := 79, qualname := PySem.Str.ofString "NotNow",
              subclasses := [PySem.Value.ref 92, PySem.Value.ref 104] },
        slots :=
          #[some (PySem.Value.ref 71), none, some (PySem.Value.str (PySem.Str.ofString "NotNow") 262),
            some (PySem.Value.str (PySem.Str.ofString "NotNow") 270), some (PySem.Value.builtin "ValueError.__new__"),
            some (PySem.Value.bool true)] }) ::
    (nat_lit 83, { cls := PySem.Value.type "tuple", data := PySem.Data.seq #[PySem.Value.ref 80] }) ::
    (nat_lit 90, { cls := PySem.Value.type "tuple", data := PySem.Data.seq #[] }) ::
    (nat_lit 91,
      { cls := PySem.Value.type "dict",
        data :=
          PySem.Data.dict
            #[{ hash := PySem.PyData.keyHash P (PySem.Str.ofString "__module__"),
                key := PySem.Value.str (PySem.Str.ofString "__module__") 285,
                val := PySem.Value.str (PySem.Str.ofString "lotsandties.errors") 194 },
              { hash := PySem.PyData.keyHash P (PySem.Str.ofString "__firstlineno__"),
                key := PySem.Value.str (PySem.Str.ofString "__firstlineno__") 289, val := PySem.Value.int 15 288 },
              { hash := PySem.PyData.keyHash P (PySem.Str.ofString "__static_attributes__"),
                key := PySem.Value.str (PySem.Str.ofString "__static_attributes__") 290, val := PySem.Value.ref 90 },
              { hash := PySem.PyData.keyHash P (PySem.Str.ofString "__doc__"),
                key := PySem.Value.str (PySem.Str.ofString "__doc__") 291, val := PySem.Value.none }]
            2 }) ::
    (nat_lit 92,
      { cls := PySem.Value.type "type",
        data :=
          PySem.Data.cls
            { name := PySem.Str.ofString "PlaceBusy", bases := [PySem.Value.ref 80],
              mro :=
                [PySem.Value.ref 92, PySem.Value.ref 80, PySem.Value.ref 31, PySem.Value.type "ValueError",
                  PySem.Value.type "Exception", PySem.Value.type "BaseException", PySem.Value.type "object"],
              ns := 91, qualname := PySem.Str.ofString "PlaceBusy" },
        slots :=
          #[some (PySem.Value.ref 83), none, some (PySem.Value.str (PySem.Str.ofString "PlaceBusy") 278),
            some (PySem.Value.str (PySem.Str.ofString "PlaceBusy") 286),
            some (PySem.Value.builtin "ValueError.__new__"), some (PySem.Value.bool true)] }) ::
    (nat_lit 95, { cls := PySem.Value.type "tuple", data := PySem.Data.seq #[PySem.Value.ref 80] }) ::
    (nat_lit 102, { cls := PySem.Value.type "tuple", data := PySem.Data.seq #[] }) ::
    (nat_lit 103,
      { cls := PySem.Value.type "dict",
        data :=
          PySem.Data.dict
            #[{ hash := PySem.PyData.keyHash P (PySem.Str.ofString "__module__"),
                key := PySem.Value.str (PySem.Str.ofString "__module__") 301,
                val := PySem.Value.str (PySem.Str.ofString "lotsandties.errors") 194 },
              { hash := PySem.PyData.keyHash P (PySem.Str.ofString "__firstlineno__"),
                key := PySem.Value.str (PySem.Str.ofString "__firstlineno__") 305, val := PySem.Value.int 17 304 },
              { hash := PySem.PyData.keyHash P (PySem.Str.ofString "__static_attributes__"),
                key := PySem.Value.str (PySem.Str.ofString "__static_attributes__") 306, val := PySem.Value.ref 102 },
              { hash := PySem.PyData.keyHash P (PySem.Str.ofString "__doc__"),
                key := PySem.Value.str (PySem.Str.ofString "__doc__") 307, val := PySem.Value.none }]
            2 }) ::
    (nat_lit 104,
      { cls := PySem.Value.type "type",
        data :=
          PySem.Data.cls
            { name := PySem.Str.ofString "NoWrite", bases := [PySem.Value.ref 80],
              mro :=
                [PySem.Value.ref 104, PySem.Value.ref 80, PySem.Value.ref 31, PySem.Value.type "ValueError",
                  PySem.Value.type "Exception", PySem.Value.type "BaseException", PySem.Value.type "object"],
              ns := 103, qualname := PySem.Str.ofString "NoWrite" },
        slots :=
          #[some (PySem.Value.ref 95), none, some (PySem.Value.str (PySem.Str.ofString "NoWrite") 294),
            some (PySem.Value.str (PySem.Str.ofString "NoWrite") 302), some (PySem.Value.builtin "ValueError.__new__"),
            some (PySem.Value.bool true)] }) ::
    (nat_lit 107, { cls := PySem.Value.type "tuple", data := PySem.Data.seq #[] }) ::
    (nat_lit 109,
      { cls := PySem.Value.type "tuple", data := PySem.Data.seq #[PySem.Value.str (PySem.Str.ofString "word") 319] }) ::
    (nat_lit 110, { cls := PySem.Value.type "tuple", data := PySem.Data.seq #[] }) ::
    (nat_lit 112,
      { cls := PySem.Value.type "code",
        data :=
          PySem.Data.fields
            #[PySem.Value.str (PySem.Str.ofString "_is_written_number") 316,
              PySem.Value.str (PySem.Str.ofString "_is_written_number") 317,
              PySem.Value.str (PySem.Str.ofString "/claim/cut.py") 318, PySem.Value.int 22 0, PySem.Value.int 1 0,
              PySem.Value.int 0 0, PySem.Value.int 0 0, PySem.Value.int 3 0, PySem.Value.ref 107, PySem.Value.bool true,
              PySem.Value.int 181 0, PySem.Value.ref 108, PySem.Value.none, PySem.Value.ref 109, PySem.Value.ref 110,
              PySem.Value.ref 111, PySem.Value.int 320 0, PySem.Value.int 22 0,
              PySem.Value.str (PySem.Str.ofString "/claim/cut.py") 321] }) ::
    (nat_lit 114, { cls := PySem.Value.type "tuple", data := PySem.Data.seq #[] }) ::
    (nat_lit 116,
      { cls := PySem.Value.type "tuple",
        data :=
          PySem.Data.seq
            #[PySem.Value.str (PySem.Str.ofString "word") 326, PySem.Value.str (PySem.Str.ofString "most") 327,
              PySem.Value.str (PySem.Str.ofString "number") 328] }) ::
    (nat_lit 117, { cls := PySem.Value.type "tuple", data := PySem.Data.seq #[] }) ::
    (nat_lit 119,
      { cls := PySem.Value.type "code",
        data :=
          PySem.Data.fields
            #[PySem.Value.str (PySem.Str.ofString "read_number") 323,
              PySem.Value.str (PySem.Str.ofString "read_number") 324,
              PySem.Value.str (PySem.Str.ofString "/claim/cut.py") 325, PySem.Value.int 26 0, PySem.Value.int 2 0,
              PySem.Value.int 0 0, PySem.Value.int 0 0, PySem.Value.int 3 0, PySem.Value.ref 114, PySem.Value.bool true,
              PySem.Value.int 181 0, PySem.Value.ref 115, PySem.Value.none, PySem.Value.ref 116, PySem.Value.ref 117,
              PySem.Value.ref 118, PySem.Value.int 329 0, PySem.Value.int 26 0,
              PySem.Value.str (PySem.Str.ofString "/claim/cut.py") 330] }) ::
    (nat_lit 121, { cls := PySem.Value.type "tuple", data := PySem.Data.seq #[] }) ::
    (nat_lit 123,
      { cls := PySem.Value.type "tuple",
        data :=
          PySem.Data.seq
            #[PySem.Value.str (PySem.Str.ofString "line") 335, PySem.Value.str (PySem.Str.ofString "words") 336] }) ::
    (nat_lit 124, { cls := PySem.Value.type "tuple", data := PySem.Data.seq #[] }) ::
    (nat_lit 126,
      { cls := PySem.Value.type "code",
        data :=
          PySem.Data.fields
            #[PySem.Value.str (PySem.Str.ofString "split_words") 332,
              PySem.Value.str (PySem.Str.ofString "split_words") 333,
              PySem.Value.str (PySem.Str.ofString "/claim/cut.py") 334, PySem.Value.int 33 0, PySem.Value.int 1 0,
              PySem.Value.int 0 0, PySem.Value.int 0 0, PySem.Value.int 3 0, PySem.Value.ref 121, PySem.Value.bool true,
              PySem.Value.int 181 0, PySem.Value.ref 122, PySem.Value.none, PySem.Value.ref 123, PySem.Value.ref 124,
              PySem.Value.ref 125, PySem.Value.int 337 0, PySem.Value.int 33 0,
              PySem.Value.str (PySem.Str.ofString "/claim/cut.py") 338] }) ::
    (nat_lit 135, { cls := PySem.Value.type "tuple", data := PySem.Data.seq #[] }) ::
    (nat_lit 137,
      { cls := PySem.Value.type "tuple",
        data :=
          PySem.Data.seq
            #[PySem.Value.str (PySem.Str.ofString "self") 385, PySem.Value.str (PySem.Str.ofString "blocks") 386,
              PySem.Value.str (PySem.Str.ofString "nodes") 387, PySem.Value.str (PySem.Str.ofString "slots") 388] }) ::
    (nat_lit 138, { cls := PySem.Value.type "tuple", data := PySem.Data.seq #[] }) ::
    (nat_lit 140,
      { cls := PySem.Value.type "code",
        data :=
          PySem.Data.fields
            #[PySem.Value.str (PySem.Str.ofString "__init__") 382,
              PySem.Value.str (PySem.Str.ofString "Plan.__init__") 383,
              PySem.Value.str (PySem.Str.ofString "/claim/cut.py") 384, PySem.Value.int 57 0, PySem.Value.int 2 0,
              PySem.Value.int 0 0, PySem.Value.int 2 0, PySem.Value.int 3 0, PySem.Value.ref 135, PySem.Value.bool true,
              PySem.Value.int 181 0, PySem.Value.ref 136, PySem.Value.none, PySem.Value.ref 137, PySem.Value.ref 138,
              PySem.Value.ref 139, PySem.Value.int 389 0, PySem.Value.int 57 0,
              PySem.Value.str (PySem.Str.ofString "/claim/cut.py") 390] }) ::
 (nat_lit 141, { cls := PySem.Value.type "function", data := PySem.Data.func { name := PySem.Str.ofString "__init__", qualname := PySem.Str.ofString "Plan.__init__", params := L2.defArgs s_Plan___init__, body := PySem.FuncBody.stmts (L2.defBody s_Plan___init__), scope := L2.defScope s_Plan___init__, globals := 3, closure := [], defaults := PySem.Value.none, kwdefaults := PySem.Value.none, pyModule := PySem.Value.str (PySem.Str.ofString "lotsandties.plan") 340, code := PySem.Value.ref 140 } }) ::
    (nat_lit 142, { cls := PySem.Value.type "tuple", data := PySem.Data.seq #[] }) ::
    (nat_lit 145,
      { cls := PySem.Value.type "code",
        data :=
          PySem.Data.fields
            #[PySem.Value.str (PySem.Str.ofString "read") 392, PySem.Value.str (PySem.Str.ofString "Plan.read") 393,
              PySem.Value.str (PySem.Str.ofString "/claim/cut.py") 394, PySem.Value.int 73 0, PySem.Value.int 1 0,
              PySem.Value.int 0 0, PySem.Value.int 0 0, PySem.Value.int 3 0, PySem.Value.ref 142, PySem.Value.bool true,
              PySem.Value.int 181 0, PySem.Value.ref 143, PySem.Value.none, PySem.Value.none, PySem.Value.none,
              PySem.Value.ref 144, PySem.Value.int 395 0, PySem.Value.int 73 0,
              PySem.Value.str (PySem.Str.ofString "/claim/cut.py") 396] }) ::
    (nat_lit 147,
      { cls := PySem.Value.type "dict",
        data :=
          PySem.Data.dict
            #[{ hash := PySem.PyData.keyHash P (PySem.Str.ofString "__module__"),
                key := PySem.Value.str (PySem.Str.ofString "__module__") 398,
                val := PySem.Value.str (PySem.Str.ofString "lotsandties.plan") 340 },
              { hash := PySem.PyData.keyHash P (PySem.Str.ofString "__name__"),
                key := PySem.Value.str (PySem.Str.ofString "__name__") 401,
                val := PySem.Value.str (PySem.Str.ofString "read") 400 },
              { hash := PySem.PyData.keyHash P (PySem.Str.ofString "__qualname__"),
                key := PySem.Value.str (PySem.Str.ofString "__qualname__") 404,
                val := PySem.Value.str (PySem.Str.ofString "Plan.read") 403 },
              { hash := PySem.PyData.keyHash P (PySem.Str.ofString "__doc__"),
                key := PySem.Value.str (PySem.Str.ofString "__doc__") 406, val := PySem.Value.none },
              { hash := PySem.PyData.keyHash P (PySem.Str.ofString "__annotations__"),
                key := PySem.Value.str (PySem.Str.ofString "__annotations__") 408, val := PySem.Value.ref 149 }]
            5 }) ::
    (nat_lit 148,
      { cls := PySem.Value.type "staticmethod", dict := some 147,
        data := PySem.Data.fields #[PySem.Value.ref 146, PySem.Value.bool false] }) ::
    (nat_lit 149, { cls := PySem.Value.type "dict", data := PySem.Data.dict #[] }) ::
    (nat_lit 150, { cls := PySem.Value.type "tuple", data := PySem.Data.seq #[] }) ::
    (nat_lit 152,
      { cls := PySem.Value.type "tuple", data := PySem.Data.seq #[PySem.Value.str (PySem.Str.ofString "self") 413] }) ::
    (nat_lit 153, { cls := PySem.Value.type "tuple", data := PySem.Data.seq #[] }) ::
    (nat_lit 155,
      { cls := PySem.Value.type "code",
        data :=
          PySem.Data.fields
            #[PySem.Value.str (PySem.Str.ofString "text") 410, PySem.Value.str (PySem.Str.ofString "Plan.text") 411,
              PySem.Value.str (PySem.Str.ofString "/claim/cut.py") 412, PySem.Value.int 81 0, PySem.Value.int 1 0,
              PySem.Value.int 0 0, PySem.Value.int 0 0, PySem.Value.int 3 0, PySem.Value.ref 150, PySem.Value.bool true,
              PySem.Value.int 181 0, PySem.Value.ref 151, PySem.Value.none, PySem.Value.ref 152, PySem.Value.ref 153,
              PySem.Value.ref 154, PySem.Value.int 414 0, PySem.Value.int 81 0,
              PySem.Value.str (PySem.Str.ofString "/claim/cut.py") 415] }) ::
 (nat_lit 156, { cls := PySem.Value.type "function", data := PySem.Data.func { name := PySem.Str.ofString "text", qualname := PySem.Str.ofString "Plan.text", params := L2.defArgs s_Plan_text, body := PySem.FuncBody.stmts (L2.defBody s_Plan_text), scope := L2.defScope s_Plan_text, globals := 3, closure := [], defaults := PySem.Value.none, kwdefaults := PySem.Value.none, pyModule := PySem.Value.str (PySem.Str.ofString "lotsandties.plan") 340, code := PySem.Value.ref 155 } }) ::
    (nat_lit 157, { cls := PySem.Value.type "tuple", data := PySem.Data.seq #[] }) ::
    (nat_lit 159,
      { cls := PySem.Value.type "tuple",
        data :=
          PySem.Data.seq
            #[PySem.Value.str (PySem.Str.ofString "self") 420, PySem.Value.str (PySem.Str.ofString "x") 421] }) ::
    (nat_lit 160, { cls := PySem.Value.type "tuple", data := PySem.Data.seq #[] }) ::
    (nat_lit 162,
      { cls := PySem.Value.type "code",
        data :=
          PySem.Data.fields
            #[PySem.Value.str (PySem.Str.ofString "map_place") 417,
              PySem.Value.str (PySem.Str.ofString "Plan.map_place") 418,
              PySem.Value.str (PySem.Str.ofString "/claim/cut.py") 419, PySem.Value.int 84 0, PySem.Value.int 2 0,
              PySem.Value.int 0 0, PySem.Value.int 0 0, PySem.Value.int 3 0, PySem.Value.ref 157, PySem.Value.bool true,
              PySem.Value.int 181 0, PySem.Value.ref 158, PySem.Value.none, PySem.Value.ref 159, PySem.Value.ref 160,
              PySem.Value.ref 161, PySem.Value.int 422 0, PySem.Value.int 84 0,
              PySem.Value.str (PySem.Str.ofString "/claim/cut.py") 423] }) ::
    (nat_lit 164, { cls := PySem.Value.type "tuple", data := PySem.Data.seq #[] }) ::
    (nat_lit 166,
      { cls := PySem.Value.type "tuple",
        data :=
          PySem.Data.seq
            #[PySem.Value.str (PySem.Str.ofString "self") 428, PySem.Value.str (PySem.Str.ofString "n") 429] }) ::
    (nat_lit 167, { cls := PySem.Value.type "tuple", data := PySem.Data.seq #[] }) ::
    (nat_lit 169,
      { cls := PySem.Value.type "code",
        data :=
          PySem.Data.fields
            #[PySem.Value.str (PySem.Str.ofString "node_block") 425,
              PySem.Value.str (PySem.Str.ofString "Plan.node_block") 426,
              PySem.Value.str (PySem.Str.ofString "/claim/cut.py") 427, PySem.Value.int 87 0, PySem.Value.int 2 0,
              PySem.Value.int 0 0, PySem.Value.int 0 0, PySem.Value.int 3 0, PySem.Value.ref 164, PySem.Value.bool true,
              PySem.Value.int 181 0, PySem.Value.ref 165, PySem.Value.none, PySem.Value.ref 166, PySem.Value.ref 167,
              PySem.Value.ref 168, PySem.Value.int 430 0, PySem.Value.int 87 0,
              PySem.Value.str (PySem.Str.ofString "/claim/cut.py") 431] }) ::
    (nat_lit 171, { cls := PySem.Value.type "tuple", data := PySem.Data.seq #[] }) ::
    (nat_lit 173,
      { cls := PySem.Value.type "tuple", data := PySem.Data.seq #[PySem.Value.str (PySem.Str.ofString "self") 436] }) ::
    (nat_lit 174, { cls := PySem.Value.type "tuple", data := PySem.Data.seq #[] }) ::
    (nat_lit 176,
      { cls := PySem.Value.type "code",
        data :=
          PySem.Data.fields
            #[PySem.Value.str (PySem.Str.ofString "data_blocks") 433,
              PySem.Value.str (PySem.Str.ofString "Plan.data_blocks") 434,
              PySem.Value.str (PySem.Str.ofString "/claim/cut.py") 435, PySem.Value.int 90 0, PySem.Value.int 1 0,
              PySem.Value.int 0 0, PySem.Value.int 0 0, PySem.Value.int 3 0, PySem.Value.ref 171, PySem.Value.bool true,
              PySem.Value.int 181 0, PySem.Value.ref 172, PySem.Value.none, PySem.Value.ref 173, PySem.Value.ref 174,
              PySem.Value.ref 175, PySem.Value.int 437 0, PySem.Value.int 90 0,
              PySem.Value.str (PySem.Str.ofString "/claim/cut.py") 438] }) ::
    (nat_lit 178,
      { cls := PySem.Value.type "tuple",
        data :=
          PySem.Data.seq
            #[PySem.Value.str (PySem.Str.ofString "blocks") 440, PySem.Value.str (PySem.Str.ofString "first_data") 441,
              PySem.Value.str (PySem.Str.ofString "first_node") 442, PySem.Value.str (PySem.Str.ofString "maps") 443,
              PySem.Value.str (PySem.Str.ofString "nodes") 444, PySem.Value.str (PySem.Str.ofString "slots") 445] }) ::
    (nat_lit 179,
      { cls := PySem.Value.type "dict",
        data :=
          PySem.Data.dict
            #[{ hash := PySem.PyData.keyHash P (PySem.Str.ofString "__module__"),
                key := PySem.Value.str (PySem.Str.ofString "__module__") 365,
                val := PySem.Value.str (PySem.Str.ofString "lotsandties.plan") 340 },
              { hash := PySem.PyData.keyHash P (PySem.Str.ofString "__firstlineno__"),
                key := PySem.Value.str (PySem.Str.ofString "__firstlineno__") 369, val := PySem.Value.int 49 368 },
              { hash := PySem.PyData.keyHash P (PySem.Str.ofString "WIDTH"),
                key := PySem.Value.str (PySem.Str.ofString "WIDTH") 371, val := PySem.Value.int 8 370 },
              { hash := PySem.PyData.keyHash P (PySem.Str.ofString "OWNERS"),
                key := PySem.Value.str (PySem.Str.ofString "OWNERS") 373, val := PySem.Value.int 4 372 },
              { hash := PySem.PyData.keyHash P (PySem.Str.ofString "LONGEST"),
                key := PySem.Value.str (PySem.Str.ofString "LONGEST") 375, val := PySem.Value.int 80 374 },
              { hash := PySem.PyData.keyHash P (PySem.Str.ofString "FREE"),
                key := PySem.Value.str (PySem.Str.ofString "FREE") 377, val := PySem.Value.int 0 376 },
              { hash := PySem.PyData.keyHash P (PySem.Str.ofString "LOGGED"),
                key := PySem.Value.str (PySem.Str.ofString "LOGGED") 379, val := PySem.Value.int 1 378 },
              { hash := PySem.PyData.keyHash P (PySem.Str.ofString "PLAIN"),
                key := PySem.Value.str (PySem.Str.ofString "PLAIN") 381, val := PySem.Value.int 2 380 },
              { hash := PySem.PyData.keyHash P (PySem.Str.ofString "__init__"),
                key := PySem.Value.str (PySem.Str.ofString "__init__") 391, val := PySem.Value.ref 141 },
              { hash := PySem.PyData.keyHash P (PySem.Str.ofString "read"),
                key := PySem.Value.str (PySem.Str.ofString "read") 409, val := PySem.Value.ref 148 },
              { hash := PySem.PyData.keyHash P (PySem.Str.ofString "text"),
                key := PySem.Value.str (PySem.Str.ofString "text") 416, val := PySem.Value.ref 156 },
              { hash := PySem.PyData.keyHash P (PySem.Str.ofString "map_place"),
                key := PySem.Value.str (PySem.Str.ofString "map_place") 424, val := PySem.Value.ref 163 },
              { hash := PySem.PyData.keyHash P (PySem.Str.ofString "node_block"),
                key := PySem.Value.str (PySem.Str.ofString "node_block") 432, val := PySem.Value.ref 170 },
              { hash := PySem.PyData.keyHash P (PySem.Str.ofString "data_blocks"),
                key := PySem.Value.str (PySem.Str.ofString "data_blocks") 439, val := PySem.Value.ref 177 },
              { hash := PySem.PyData.keyHash P (PySem.Str.ofString "__static_attributes__"),
                key := PySem.Value.str (PySem.Str.ofString "__static_attributes__") 446, val := PySem.Value.ref 178 },
              { hash := PySem.PyData.keyHash P (PySem.Str.ofString "__dict__"),
                key := PySem.Value.str (PySem.Str.ofString "__dict__") 448, val := PySem.Value.ref 181 },
              { hash := PySem.PyData.keyHash P (PySem.Str.ofString "__weakref__"),
                key := PySem.Value.str (PySem.Str.ofString "__weakref__") 450, val := PySem.Value.ref 182 },
              { hash := PySem.PyData.keyHash P (PySem.Str.ofString "__doc__"),
                key := PySem.Value.str (PySem.Str.ofString "__doc__") 451, val := PySem.Value.none }]
            4 }) ::
    (nat_lit 180,
      { cls := PySem.Value.type "type",
        data :=
          PySem.Data.cls
            { name := PySem.Str.ofString "Plan", bases := [PySem.Value.type "object"],
              mro := [PySem.Value.ref 180, PySem.Value.type "object"], ns := 179,
              qualname := PySem.Str.ofString "Plan" },
        slots :=
          #[none, none, some (PySem.Value.str (PySem.Str.ofString "Plan") 358),
            some (PySem.Value.str (PySem.Str.ofString "Plan") 366), some (PySem.Value.builtin "object.__new__"),
            some (PySem.Value.bool true)] }) ::
    (nat_lit 181,
      { cls := PySem.Value.type "getset_descriptor",
        data :=
          PySem.Data.fields
            #[PySem.Value.str (PySem.Str.ofString "__dict__") 447, PySem.Value.ref 180,
              PySem.Value.builtin "function.__dict__", PySem.Value.builtin "function.__dict__#set"] }) ::
    (nat_lit 182,
      { cls := PySem.Value.type "getset_descriptor",
        data :=
          PySem.Data.fields
            #[PySem.Value.str (PySem.Str.ofString "__weakref__") 449, PySem.Value.ref 180,
              PySem.Value.builtin "ExceptionGroup.__weakref__", PySem.Value.none] }) ::
    (nat_lit 185, { cls := PySem.Value.type "tuple", data := PySem.Data.seq #[] }) ::
    (nat_lit 187,
      { cls := PySem.Value.type "tuple",
        data :=
          PySem.Data.seq
            #[PySem.Value.str (PySem.Str.ofString "value") 463, PySem.Value.str (PySem.Str.ofString "least") 464,
              PySem.Value.str (PySem.Str.ofString "most") 465] }) ::
    (nat_lit 188, { cls := PySem.Value.type "tuple", data := PySem.Data.seq #[] }) ::
    (nat_lit 190,
      { cls := PySem.Value.type "code",
        data :=
          PySem.Data.fields
            #[PySem.Value.str (PySem.Str.ofString "is_number") 460,
              PySem.Value.str (PySem.Str.ofString "is_number") 461,
              PySem.Value.str (PySem.Str.ofString "/claim/cut.py") 462, PySem.Value.int 95 0, PySem.Value.int 3 0,
              PySem.Value.int 0 0, PySem.Value.int 0 0, PySem.Value.int 3 0, PySem.Value.ref 185, PySem.Value.bool true,
              PySem.Value.int 181 0, PySem.Value.ref 186, PySem.Value.none, PySem.Value.ref 187, PySem.Value.ref 188,
              PySem.Value.ref 189, PySem.Value.int 466 0, PySem.Value.int 95 0,
              PySem.Value.str (PySem.Str.ofString "/claim/cut.py") 467] }) ::
 (nat_lit 191, { cls := PySem.Value.type "function", data := PySem.Data.func { name := PySem.Str.ofString "is_number", qualname := PySem.Str.ofString "is_number", params := L2.defArgs s_is_number, body := PySem.FuncBody.stmts (L2.defBody s_is_number), scope := L2.defScope s_is_number, globals := 3, closure := [], defaults := PySem.Value.none, kwdefaults := PySem.Value.none, pyModule := PySem.Value.str (PySem.Str.ofString "lotsandties.values") 454, code := PySem.Value.ref 190 } }) ::
    (nat_lit 192, { cls := PySem.Value.type "tuple", data := PySem.Data.seq #[] }) ::
    (nat_lit 194,
      { cls := PySem.Value.type "tuple", data := PySem.Data.seq #[PySem.Value.str (PySem.Str.ofString "value") 472] }) ::
    (nat_lit 195, { cls := PySem.Value.type "tuple", data := PySem.Data.seq #[] }) ::
    (nat_lit 197,
      { cls := PySem.Value.type "code",
        data :=
          PySem.Data.fields
            #[PySem.Value.str (PySem.Str.ofString "is_cell") 469, PySem.Value.str (PySem.Str.ofString "is_cell") 470,
              PySem.Value.str (PySem.Str.ofString "/claim/cut.py") 471, PySem.Value.int 97 0, PySem.Value.int 1 0,
              PySem.Value.int 0 0, PySem.Value.int 0 0, PySem.Value.int 3 0, PySem.Value.ref 192, PySem.Value.bool true,
              PySem.Value.int 181 0, PySem.Value.ref 193, PySem.Value.none, PySem.Value.ref 194, PySem.Value.ref 195,
              PySem.Value.ref 196, PySem.Value.int 473 0, PySem.Value.int 97 0,
              PySem.Value.str (PySem.Str.ofString "/claim/cut.py") 474] }) ::
 (nat_lit 198, { cls := PySem.Value.type "function", data := PySem.Data.func { name := PySem.Str.ofString "is_cell", qualname := PySem.Str.ofString "is_cell", params := L2.defArgs s_is_cell, body := PySem.FuncBody.stmts (L2.defBody s_is_cell), scope := L2.defScope s_is_cell, globals := 3, closure := [], defaults := PySem.Value.none, kwdefaults := PySem.Value.none, pyModule := PySem.Value.str (PySem.Str.ofString "lotsandties.values") 454, code := PySem.Value.ref 197 } }) ::
    (nat_lit 199, { cls := PySem.Value.type "tuple", data := PySem.Data.seq #[] }) ::
    (nat_lit 201,
      { cls := PySem.Value.type "tuple", data := PySem.Data.seq #[PySem.Value.str (PySem.Str.ofString "value") 479] }) ::
    (nat_lit 202, { cls := PySem.Value.type "tuple", data := PySem.Data.seq #[] }) ::
    (nat_lit 204,
      { cls := PySem.Value.type "code",
        data :=
          PySem.Data.fields
            #[PySem.Value.str (PySem.Str.ofString "is_block") 476, PySem.Value.str (PySem.Str.ofString "is_block") 477,
              PySem.Value.str (PySem.Str.ofString "/claim/cut.py") 478, PySem.Value.int 99 0, PySem.Value.int 1 0,
              PySem.Value.int 0 0, PySem.Value.int 0 0, PySem.Value.int 3 0, PySem.Value.ref 199, PySem.Value.bool true,
              PySem.Value.int 181 0, PySem.Value.ref 200, PySem.Value.none, PySem.Value.ref 201, PySem.Value.ref 202,
              PySem.Value.ref 203, PySem.Value.int 480 0, PySem.Value.int 99 0,
              PySem.Value.str (PySem.Str.ofString "/claim/cut.py") 481] }) ::
 (nat_lit 205, { cls := PySem.Value.type "function", data := PySem.Data.func { name := PySem.Str.ofString "is_block", qualname := PySem.Str.ofString "is_block", params := L2.defArgs s_is_block, body := PySem.FuncBody.stmts (L2.defBody s_is_block), scope := L2.defScope s_is_block, globals := 3, closure := [], defaults := PySem.Value.none, kwdefaults := PySem.Value.none, pyModule := PySem.Value.str (PySem.Str.ofString "lotsandties.values") 454, code := PySem.Value.ref 204 } }) ::
    (nat_lit 206, { cls := PySem.Value.type "tuple", data := PySem.Data.seq #[] }) ::
    (nat_lit 208,
      { cls := PySem.Value.type "tuple", data := PySem.Data.seq #[PySem.Value.str (PySem.Str.ofString "value") 486] }) ::
    (nat_lit 209, { cls := PySem.Value.type "tuple", data := PySem.Data.seq #[] }) ::
    (nat_lit 211,
      { cls := PySem.Value.type "code",
        data :=
          PySem.Data.fields
            #[PySem.Value.str (PySem.Str.ofString "is_cell_row") 483,
              PySem.Value.str (PySem.Str.ofString "is_cell_row") 484,
              PySem.Value.str (PySem.Str.ofString "/claim/cut.py") 485, PySem.Value.int 101 0, PySem.Value.int 1 0,
              PySem.Value.int 0 0, PySem.Value.int 0 0, PySem.Value.int 3 0, PySem.Value.ref 206, PySem.Value.bool true,
              PySem.Value.int 181 0, PySem.Value.ref 207, PySem.Value.none, PySem.Value.ref 208, PySem.Value.ref 209,
              PySem.Value.ref 210, PySem.Value.int 487 0, PySem.Value.int 101 0,
              PySem.Value.str (PySem.Str.ofString "/claim/cut.py") 488] }) ::
 (nat_lit 212, { cls := PySem.Value.type "function", data := PySem.Data.func { name := PySem.Str.ofString "is_cell_row", qualname := PySem.Str.ofString "is_cell_row", params := L2.defArgs s_is_cell_row, body := PySem.FuncBody.stmts (L2.defBody s_is_cell_row), scope := L2.defScope s_is_cell_row, globals := 3, closure := [], defaults := PySem.Value.none, kwdefaults := PySem.Value.none, pyModule := PySem.Value.str (PySem.Str.ofString "lotsandties.values") 454, code := PySem.Value.ref 211 } }) ::
    (nat_lit 213, { cls := PySem.Value.type "tuple", data := PySem.Data.seq #[] }) ::
    (nat_lit 215,
      { cls := PySem.Value.type "tuple",
        data := PySem.Data.seq #[PySem.Value.str (PySem.Str.ofString "numbers") 493] }) ::
    (nat_lit 216, { cls := PySem.Value.type "tuple", data := PySem.Data.seq #[] }) ::
    (nat_lit 218,
      { cls := PySem.Value.type "code",
        data :=
          PySem.Data.fields
            #[PySem.Value.str (PySem.Str.ofString "is_ascending") 490,
              PySem.Value.str (PySem.Str.ofString "is_ascending") 491,
              PySem.Value.str (PySem.Str.ofString "/claim/cut.py") 492, PySem.Value.int 103 0, PySem.Value.int 1 0,
              PySem.Value.int 0 0, PySem.Value.int 0 0, PySem.Value.int 3 0, PySem.Value.ref 213, PySem.Value.bool true,
              PySem.Value.int 181 0, PySem.Value.ref 214, PySem.Value.none, PySem.Value.ref 215, PySem.Value.ref 216,
              PySem.Value.ref 217, PySem.Value.int 494 0, PySem.Value.int 103 0,
              PySem.Value.str (PySem.Str.ofString "/claim/cut.py") 495] }) ::
 (nat_lit 219, { cls := PySem.Value.type "function", data := PySem.Data.func { name := PySem.Str.ofString "is_ascending", qualname := PySem.Str.ofString "is_ascending", params := L2.defArgs s_is_ascending, body := PySem.FuncBody.stmts (L2.defBody s_is_ascending), scope := L2.defScope s_is_ascending, globals := 3, closure := [], defaults := PySem.Value.none, kwdefaults := PySem.Value.none, pyModule := PySem.Value.str (PySem.Str.ofString "lotsandties.values") 454, code := PySem.Value.ref 218 } }) ::
    (nat_lit 220, { cls := PySem.Value.type "tuple", data := PySem.Data.seq #[] }) ::
    (nat_lit 222,
      { cls := PySem.Value.type "tuple", data := PySem.Data.seq #[PySem.Value.str (PySem.Str.ofString "value") 509] }) ::
    (nat_lit 223, { cls := PySem.Value.type "tuple", data := PySem.Data.seq #[] }) ::
    (nat_lit 225,
      { cls := PySem.Value.type "code",
        data :=
          PySem.Data.fields
            #[PySem.Value.str (PySem.Str.ofString "_is_pair") 506, PySem.Value.str (PySem.Str.ofString "_is_pair") 507,
              PySem.Value.str (PySem.Str.ofString "/claim/cut.py") 508, PySem.Value.int 109 0, PySem.Value.int 1 0,
              PySem.Value.int 0 0, PySem.Value.int 0 0, PySem.Value.int 3 0, PySem.Value.ref 220, PySem.Value.bool true,
              PySem.Value.int 181 0, PySem.Value.ref 221, PySem.Value.none, PySem.Value.ref 222, PySem.Value.ref 223,
              PySem.Value.ref 224, PySem.Value.int 510 0, PySem.Value.int 109 0,
              PySem.Value.str (PySem.Str.ofString "/claim/cut.py") 511] }) ::
 (nat_lit 226, { cls := PySem.Value.type "function", data := PySem.Data.func { name := PySem.Str.ofString "_is_pair", qualname := PySem.Str.ofString "_is_pair", params := L2.defArgs s_is_pair, body := PySem.FuncBody.stmts (L2.defBody s_is_pair), scope := L2.defScope s_is_pair, globals := 3, closure := [], defaults := PySem.Value.none, kwdefaults := PySem.Value.none, pyModule := PySem.Value.str (PySem.Str.ofString "lotsandties.records") 497, code := PySem.Value.ref 225 } }) ::
    (nat_lit 227, { cls := PySem.Value.type "tuple", data := PySem.Data.seq #[] }) ::
    (nat_lit 230,
      { cls := PySem.Value.type "code",
        data :=
          PySem.Data.fields
            #[PySem.Value.str (PySem.Str.ofString "_are_pairs") 513,
              PySem.Value.str (PySem.Str.ofString "_are_pairs") 514,
              PySem.Value.str (PySem.Str.ofString "/claim/cut.py") 515, PySem.Value.int 113 0, PySem.Value.int 1 0,
              PySem.Value.int 0 0, PySem.Value.int 0 0, PySem.Value.int 3 0, PySem.Value.ref 227, PySem.Value.bool true,
              PySem.Value.int 181 0, PySem.Value.ref 228, PySem.Value.none, PySem.Value.none, PySem.Value.none,
              PySem.Value.ref 229, PySem.Value.int 516 0, PySem.Value.int 113 0,
              PySem.Value.str (PySem.Str.ofString "/claim/cut.py") 517] }) ::
 (nat_lit 231, { cls := PySem.Value.type "function", data := PySem.Data.func { name := PySem.Str.ofString "_are_pairs", qualname := PySem.Str.ofString "_are_pairs", params := L2.defArgs s_are_pairs, body := PySem.FuncBody.stmts (L2.defBody s_are_pairs), scope := L2.defScope s_are_pairs, globals := 3, closure := [], defaults := PySem.Value.none, kwdefaults := PySem.Value.none, pyModule := PySem.Value.str (PySem.Str.ofString "lotsandties.records") 497, code := PySem.Value.ref 230 } }) ::
    (nat_lit 232, { cls := PySem.Value.type "tuple", data := PySem.Data.seq #[] }) ::
    (nat_lit 234,
      { cls := PySem.Value.type "tuple", data := PySem.Data.seq #[PySem.Value.str (PySem.Str.ofString "value") 522] }) ::
    (nat_lit 235, { cls := PySem.Value.type "tuple", data := PySem.Data.seq #[] }) ::
    (nat_lit 237,
      { cls := PySem.Value.type "code",
        data :=
          PySem.Data.fields
            #[PySem.Value.str (PySem.Str.ofString "_are_revokes") 519,
              PySem.Value.str (PySem.Str.ofString "_are_revokes") 520,
              PySem.Value.str (PySem.Str.ofString "/claim/cut.py") 521, PySem.Value.int 117 0, PySem.Value.int 1 0,
              PySem.Value.int 0 0, PySem.Value.int 0 0, PySem.Value.int 3 0, PySem.Value.ref 232, PySem.Value.bool true,
              PySem.Value.int 181 0, PySem.Value.ref 233, PySem.Value.none, PySem.Value.ref 234, PySem.Value.ref 235,
              PySem.Value.ref 236, PySem.Value.int 523 0, PySem.Value.int 117 0,
              PySem.Value.str (PySem.Str.ofString "/claim/cut.py") 524] }) ::
 (nat_lit 238, { cls := PySem.Value.type "function", data := PySem.Data.func { name := PySem.Str.ofString "_are_revokes", qualname := PySem.Str.ofString "_are_revokes", params := L2.defArgs s_are_revokes, body := PySem.FuncBody.stmts (L2.defBody s_are_revokes), scope := L2.defScope s_are_revokes, globals := 3, closure := [], defaults := PySem.Value.none, kwdefaults := PySem.Value.none, pyModule := PySem.Value.str (PySem.Str.ofString "lotsandties.records") 497, code := PySem.Value.ref 237 } }) ::
    (nat_lit 239, { cls := PySem.Value.type "tuple", data := PySem.Data.seq #[] }) ::
    (nat_lit 241,
      { cls := PySem.Value.type "tuple", data := PySem.Data.seq #[PySem.Value.str (PySem.Str.ofString "record") 529] }) ::
    (nat_lit 242, { cls := PySem.Value.type "tuple", data := PySem.Data.seq #[] }) ::
    (nat_lit 244,
      { cls := PySem.Value.type "code",
        data :=
          PySem.Data.fields
            #[PySem.Value.str (PySem.Str.ofString "is_record") 526,
              PySem.Value.str (PySem.Str.ofString "is_record") 527,
              PySem.Value.str (PySem.Str.ofString "/claim/cut.py") 528, PySem.Value.int 119 0, PySem.Value.int 1 0,
              PySem.Value.int 0 0, PySem.Value.int 0 0, PySem.Value.int 3 0, PySem.Value.ref 239, PySem.Value.bool true,
              PySem.Value.int 181 0, PySem.Value.ref 240, PySem.Value.none, PySem.Value.ref 241, PySem.Value.ref 242,
              PySem.Value.ref 243, PySem.Value.int 530 0, PySem.Value.int 119 0,
              PySem.Value.str (PySem.Str.ofString "/claim/cut.py") 531] }) ::
 (nat_lit 245, { cls := PySem.Value.type "function", data := PySem.Data.func { name := PySem.Str.ofString "is_record", qualname := PySem.Str.ofString "is_record", params := L2.defArgs s_is_record, body := PySem.FuncBody.stmts (L2.defBody s_is_record), scope := L2.defScope s_is_record, globals := 3, closure := [], defaults := PySem.Value.none, kwdefaults := PySem.Value.none, pyModule := PySem.Value.str (PySem.Str.ofString "lotsandties.records") 497, code := PySem.Value.ref 244 } }) ::
    (nat_lit 246, { cls := PySem.Value.type "tuple", data := PySem.Data.seq #[] }) ::
    (nat_lit 248,
      { cls := PySem.Value.type "tuple",
        data :=
          PySem.Data.seq
            #[PySem.Value.str (PySem.Str.ofString "record") 536, PySem.Value.str (PySem.Str.ofString "plan") 537] }) ::
    (nat_lit 249,
      { cls := PySem.Value.type "tuple", data := PySem.Data.seq #[PySem.Value.str (PySem.Str.ofString "plan") 538] }) ::
    (nat_lit 251,
      { cls := PySem.Value.type "code",
        data :=
          PySem.Data.fields
            #[PySem.Value.str (PySem.Str.ofString "fits_plan") 533,
              PySem.Value.str (PySem.Str.ofString "fits_plan") 534,
              PySem.Value.str (PySem.Str.ofString "/claim/cut.py") 535, PySem.Value.int 125 0, PySem.Value.int 2 0,
              PySem.Value.int 0 0, PySem.Value.int 0 0, PySem.Value.int 3 0, PySem.Value.ref 246, PySem.Value.bool true,
              PySem.Value.int 181 0, PySem.Value.ref 247, PySem.Value.none, PySem.Value.ref 248, PySem.Value.ref 249,
              PySem.Value.ref 250, PySem.Value.int 539 0, PySem.Value.int 125 0,
              PySem.Value.str (PySem.Str.ofString "/claim/cut.py") 540] }) ::
 (nat_lit 252, { cls := PySem.Value.type "function", data := PySem.Data.func { name := PySem.Str.ofString "fits_plan", qualname := PySem.Str.ofString "fits_plan", params := L2.defArgs s_fits_plan, body := PySem.FuncBody.stmts (L2.defBody s_fits_plan), scope := L2.defScope s_fits_plan, globals := 3, closure := [], defaults := PySem.Value.none, kwdefaults := PySem.Value.none, pyModule := PySem.Value.str (PySem.Str.ofString "lotsandties.records") 497, code := PySem.Value.ref 251 } }) ::
    (nat_lit 253, { cls := PySem.Value.type "tuple", data := PySem.Data.seq #[] }) ::
    (nat_lit 255,
      { cls := PySem.Value.type "tuple",
        data :=
          PySem.Data.seq
            #[PySem.Value.str (PySem.Str.ofString "plan") 549, PySem.Value.str (PySem.Str.ofString "place") 550] }) ::
    (nat_lit 256, { cls := PySem.Value.type "tuple", data := PySem.Data.seq #[] }) ::
    (nat_lit 258,
      { cls := PySem.Value.type "code",
        data :=
          PySem.Data.fields
            #[PySem.Value.str (PySem.Str.ofString "_is_place") 546,
              PySem.Value.str (PySem.Str.ofString "_is_place") 547,
              PySem.Value.str (PySem.Str.ofString "/claim/cut.py") 548, PySem.Value.int 133 0, PySem.Value.int 2 0,
              PySem.Value.int 0 0, PySem.Value.int 0 0, PySem.Value.int 3 0, PySem.Value.ref 253, PySem.Value.bool true,
              PySem.Value.int 181 0, PySem.Value.ref 254, PySem.Value.none, PySem.Value.ref 255, PySem.Value.ref 256,
              PySem.Value.ref 257, PySem.Value.int 551 0, PySem.Value.int 133 0,
              PySem.Value.str (PySem.Str.ofString "/claim/cut.py") 552] }) ::
 (nat_lit 259, { cls := PySem.Value.type "function", data := PySem.Data.func { name := PySem.Str.ofString "_is_place", qualname := PySem.Str.ofString "_is_place", params := L2.defArgs s_is_place, body := PySem.FuncBody.stmts (L2.defBody s_is_place), scope := L2.defScope s_is_place, globals := 3, closure := [], defaults := PySem.Value.none, kwdefaults := PySem.Value.none, pyModule := PySem.Value.str (PySem.Str.ofString "lotsandties.disk") 542, code := PySem.Value.ref 258 } }) ::
    (nat_lit 260, { cls := PySem.Value.type "tuple", data := PySem.Data.seq #[] }) ::
    (nat_lit 262,
      { cls := PySem.Value.type "tuple",
        data :=
          PySem.Data.seq
            #[PySem.Value.str (PySem.Str.ofString "plan") 557, PySem.Value.str (PySem.Str.ofString "place") 558,
              PySem.Value.str (PySem.Str.ofString "what") 559] }) ::
    (nat_lit 263, { cls := PySem.Value.type "tuple", data := PySem.Data.seq #[] }) ::
    (nat_lit 265,
      { cls := PySem.Value.type "code",
        data :=
          PySem.Data.fields
            #[PySem.Value.str (PySem.Str.ofString "_is_content") 554,
              PySem.Value.str (PySem.Str.ofString "_is_content") 555,
              PySem.Value.str (PySem.Str.ofString "/claim/cut.py") 556, PySem.Value.int 139 0, PySem.Value.int 3 0,
              PySem.Value.int 0 0, PySem.Value.int 0 0, PySem.Value.int 3 0, PySem.Value.ref 260, PySem.Value.bool true,
              PySem.Value.int 181 0, PySem.Value.ref 261, PySem.Value.none, PySem.Value.ref 262, PySem.Value.ref 263,
              PySem.Value.ref 264, PySem.Value.int 560 0, PySem.Value.int 139 0,
              PySem.Value.str (PySem.Str.ofString "/claim/cut.py") 561] }) ::
 (nat_lit 266, { cls := PySem.Value.type "function", data := PySem.Data.func { name := PySem.Str.ofString "_is_content", qualname := PySem.Str.ofString "_is_content", params := L2.defArgs s_is_content, body := PySem.FuncBody.stmts (L2.defBody s_is_content), scope := L2.defScope s_is_content, globals := 3, closure := [], defaults := PySem.Value.none, kwdefaults := PySem.Value.none, pyModule := PySem.Value.str (PySem.Str.ofString "lotsandties.disk") 542, code := PySem.Value.ref 265 } }) ::
    (nat_lit 274, { cls := PySem.Value.type "tuple", data := PySem.Data.seq #[] }) ::
    (nat_lit 277,
      { cls := PySem.Value.type "code",
        data :=
          PySem.Data.fields
            #[PySem.Value.str (PySem.Str.ofString "__init__") 575,
              PySem.Value.str (PySem.Str.ofString "Disk.__init__") 576,
              PySem.Value.str (PySem.Str.ofString "/claim/cut.py") 577, PySem.Value.int 145 0, PySem.Value.int 2 0,
              PySem.Value.int 0 0, PySem.Value.int 0 0, PySem.Value.int 3 0, PySem.Value.ref 274, PySem.Value.bool true,
              PySem.Value.int 181 0, PySem.Value.ref 275, PySem.Value.none, PySem.Value.none, PySem.Value.none,
              PySem.Value.ref 276, PySem.Value.int 578 0, PySem.Value.int 145 0,
              PySem.Value.str (PySem.Str.ofString "/claim/cut.py") 579] }) ::
 (nat_lit 278, { cls := PySem.Value.type "function", data := PySem.Data.func { name := PySem.Str.ofString "__init__", qualname := PySem.Str.ofString "Disk.__init__", params := L2.defArgs s_Disk___init__, body := PySem.FuncBody.stmts (L2.defBody s_Disk___init__), scope := L2.defScope s_Disk___init__, globals := 3, closure := [], defaults := PySem.Value.none, kwdefaults := PySem.Value.none, pyModule := PySem.Value.str (PySem.Str.ofString "lotsandties.disk") 542, code := PySem.Value.ref 277 } }) ::
    (nat_lit 279, { cls := PySem.Value.type "tuple", data := PySem.Data.seq #[] }) ::
    (nat_lit 281,
      { cls := PySem.Value.type "tuple",
        data :=
          PySem.Data.seq
            #[PySem.Value.str (PySem.Str.ofString "cls") 584, PySem.Value.str (PySem.Str.ofString "image") 585] }) ::
    (nat_lit 282, { cls := PySem.Value.type "tuple", data := PySem.Data.seq #[] }) ::
    (nat_lit 284,
      { cls := PySem.Value.type "code",
        data :=
          PySem.Data.fields
            #[PySem.Value.str (PySem.Str.ofString "of_image") 581,
              PySem.Value.str (PySem.Str.ofString "Disk.of_image") 582,
              PySem.Value.str (PySem.Str.ofString "/claim/cut.py") 583, PySem.Value.int 153 0, PySem.Value.int 2 0,
              PySem.Value.int 0 0, PySem.Value.int 0 0, PySem.Value.int 3 0, PySem.Value.ref 279, PySem.Value.bool true,
              PySem.Value.int 181 0, PySem.Value.ref 280, PySem.Value.none, PySem.Value.ref 281, PySem.Value.ref 282,
              PySem.Value.ref 283, PySem.Value.int 586 0, PySem.Value.int 153 0,
              PySem.Value.str (PySem.Str.ofString "/claim/cut.py") 587] }) ::
    (nat_lit 286,
      { cls := PySem.Value.type "dict",
        data :=
          PySem.Data.dict
            #[{ hash := PySem.PyData.keyHash P (PySem.Str.ofString "__module__"),
                key := PySem.Value.str (PySem.Str.ofString "__module__") 589,
                val := PySem.Value.str (PySem.Str.ofString "lotsandties.disk") 542 },
              { hash := PySem.PyData.keyHash P (PySem.Str.ofString "__name__"),
                key := PySem.Value.str (PySem.Str.ofString "__name__") 592,
                val := PySem.Value.str (PySem.Str.ofString "of_image") 591 },
              { hash := PySem.PyData.keyHash P (PySem.Str.ofString "__qualname__"),
                key := PySem.Value.str (PySem.Str.ofString "__qualname__") 595,
                val := PySem.Value.str (PySem.Str.ofString "Disk.of_image") 594 },
              { hash := PySem.PyData.keyHash P (PySem.Str.ofString "__doc__"),
                key := PySem.Value.str (PySem.Str.ofString "__doc__") 597, val := PySem.Value.none },
              { hash := PySem.PyData.keyHash P (PySem.Str.ofString "__annotations__"),
                key := PySem.Value.str (PySem.Str.ofString "__annotations__") 599, val := PySem.Value.ref 288 }]
            5 }) ::
    (nat_lit 287,
      { cls := PySem.Value.type "classmethod", dict := some 286,
        data := PySem.Data.fields #[PySem.Value.ref 285, PySem.Value.bool false] }) ::
    (nat_lit 288, { cls := PySem.Value.type "dict", data := PySem.Data.dict #[] }) ::
    (nat_lit 289, { cls := PySem.Value.type "tuple", data := PySem.Data.seq #[] }) ::
    (nat_lit 291,
      { cls := PySem.Value.type "tuple", data := PySem.Data.seq #[PySem.Value.str (PySem.Str.ofString "self") 604] }) ::
    (nat_lit 292, { cls := PySem.Value.type "tuple", data := PySem.Data.seq #[] }) ::
    (nat_lit 294,
      { cls := PySem.Value.type "code",
        data :=
          PySem.Data.fields
            #[PySem.Value.str (PySem.Str.ofString "quiet") 601, PySem.Value.str (PySem.Str.ofString "Disk.quiet") 602,
              PySem.Value.str (PySem.Str.ofString "/claim/cut.py") 603, PySem.Value.int 157 0, PySem.Value.int 1 0,
              PySem.Value.int 0 0, PySem.Value.int 0 0, PySem.Value.int 3 0, PySem.Value.ref 289, PySem.Value.bool true,
              PySem.Value.int 181 0, PySem.Value.ref 290, PySem.Value.none, PySem.Value.ref 291, PySem.Value.ref 292,
              PySem.Value.ref 293, PySem.Value.int 605 0, PySem.Value.int 157 0,
              PySem.Value.str (PySem.Str.ofString "/claim/cut.py") 606] }) ::
 (nat_lit 295, { cls := PySem.Value.type "function", data := PySem.Data.func { name := PySem.Str.ofString "quiet", qualname := PySem.Str.ofString "Disk.quiet", params := L2.defArgs s_Disk_quiet, body := PySem.FuncBody.stmts (L2.defBody s_Disk_quiet), scope := L2.defScope s_Disk_quiet, globals := 3, closure := [], defaults := PySem.Value.none, kwdefaults := PySem.Value.none, pyModule := PySem.Value.str (PySem.Str.ofString "lotsandties.disk") 542, code := PySem.Value.ref 294 } }) ::
    (nat_lit 296,
      { cls := PySem.Value.type "property",
        data :=
          PySem.Data.fields
            #[PySem.Value.ref 295, PySem.Value.none, PySem.Value.none, PySem.Value.none,
              PySem.Value.str (PySem.Str.ofString "quiet") 608, PySem.Value.bool false] }) ::
    (nat_lit 297, { cls := PySem.Value.type "tuple", data := PySem.Data.seq #[] }) ::
    (nat_lit 299,
      { cls := PySem.Value.type "tuple",
        data :=
          PySem.Data.seq
            #[PySem.Value.str (PySem.Str.ofString "self") 612, PySem.Value.str (PySem.Str.ofString "place") 613,
              PySem.Value.str (PySem.Str.ofString "what") 614] }) ::
    (nat_lit 300, { cls := PySem.Value.type "tuple", data := PySem.Data.seq #[] }) ::
    (nat_lit 302,
      { cls := PySem.Value.type "code",
        data :=
          PySem.Data.fields
            #[PySem.Value.str (PySem.Str.ofString "issue") 609, PySem.Value.str (PySem.Str.ofString "Disk.issue") 610,
              PySem.Value.str (PySem.Str.ofString "/claim/cut.py") 611, PySem.Value.int 161 0, PySem.Value.int 3 0,
              PySem.Value.int 0 0, PySem.Value.int 0 0, PySem.Value.int 3 0, PySem.Value.ref 297, PySem.Value.bool true,
              PySem.Value.int 181 0, PySem.Value.ref 298, PySem.Value.none, PySem.Value.ref 299, PySem.Value.ref 300,
              PySem.Value.ref 301, PySem.Value.int 615 0, PySem.Value.int 161 0,
              PySem.Value.str (PySem.Str.ofString "/claim/cut.py") 616] }) ::
 (nat_lit 303, { cls := PySem.Value.type "function", data := PySem.Data.func { name := PySem.Str.ofString "issue", qualname := PySem.Str.ofString "Disk.issue", params := L2.defArgs s_Disk_issue, body := PySem.FuncBody.stmts (L2.defBody s_Disk_issue), scope := L2.defScope s_Disk_issue, globals := 3, closure := [], defaults := PySem.Value.none, kwdefaults := PySem.Value.none, pyModule := PySem.Value.str (PySem.Str.ofString "lotsandties.disk") 542, code := PySem.Value.ref 302 } }) ::
    (nat_lit 304, { cls := PySem.Value.type "tuple", data := PySem.Data.seq #[] }) ::
    (nat_lit 306,
      { cls := PySem.Value.type "tuple",
        data :=
          PySem.Data.seq
            #[PySem.Value.str (PySem.Str.ofString "self") 621, PySem.Value.str (PySem.Str.ofString "place") 622] }) ::
    (nat_lit 307,
      { cls := PySem.Value.type "tuple", data := PySem.Data.seq #[PySem.Value.str (PySem.Str.ofString "place") 623] }) ::
    (nat_lit 309,
      { cls := PySem.Value.type "code",
        data :=
          PySem.Data.fields
            #[PySem.Value.str (PySem.Str.ofString "busy") 618, PySem.Value.str (PySem.Str.ofString "Disk.busy") 619,
              PySem.Value.str (PySem.Str.ofString "/claim/cut.py") 620, PySem.Value.int 170 0, PySem.Value.int 2 0,
              PySem.Value.int 0 0, PySem.Value.int 0 0, PySem.Value.int 3 0, PySem.Value.ref 304, PySem.Value.bool true,
              PySem.Value.int 181 0, PySem.Value.ref 305, PySem.Value.none, PySem.Value.ref 306, PySem.Value.ref 307,
              PySem.Value.ref 308, PySem.Value.int 624 0, PySem.Value.int 170 0,
              PySem.Value.str (PySem.Str.ofString "/claim/cut.py") 625] }) ::
 (nat_lit 310, { cls := PySem.Value.type "function", data := PySem.Data.func { name := PySem.Str.ofString "busy", qualname := PySem.Str.ofString "Disk.busy", params := L2.defArgs s_Disk_busy, body := PySem.FuncBody.stmts (L2.defBody s_Disk_busy), scope := L2.defScope s_Disk_busy, globals := 3, closure := [], defaults := PySem.Value.none, kwdefaults := PySem.Value.none, pyModule := PySem.Value.str (PySem.Str.ofString "lotsandties.disk") 542, code := PySem.Value.ref 309 } }) ::
    (nat_lit 311, { cls := PySem.Value.type "tuple", data := PySem.Data.seq #[] }) ::
    (nat_lit 314,
      { cls := PySem.Value.type "code",
        data :=
          PySem.Data.fields
            #[PySem.Value.str (PySem.Str.ofString "pending") 627,
              PySem.Value.str (PySem.Str.ofString "Disk.pending") 628,
              PySem.Value.str (PySem.Str.ofString "/claim/cut.py") 629, PySem.Value.int 173 0, PySem.Value.int 1 0,
              PySem.Value.int 0 0, PySem.Value.int 0 0, PySem.Value.int 3 0, PySem.Value.ref 311, PySem.Value.bool true,
              PySem.Value.int 181 0, PySem.Value.ref 312, PySem.Value.none, PySem.Value.none, PySem.Value.none,
              PySem.Value.ref 313, PySem.Value.int 630 0, PySem.Value.int 173 0,
              PySem.Value.str (PySem.Str.ofString "/claim/cut.py") 631] }) ::
 (nat_lit 315, { cls := PySem.Value.type "function", data := PySem.Data.func { name := PySem.Str.ofString "pending", qualname := PySem.Str.ofString "Disk.pending", params := L2.defArgs s_Disk_pending, body := PySem.FuncBody.stmts (L2.defBody s_Disk_pending), scope := L2.defScope s_Disk_pending, globals := 3, closure := [], defaults := PySem.Value.none, kwdefaults := PySem.Value.none, pyModule := PySem.Value.str (PySem.Str.ofString "lotsandties.disk") 542, code := PySem.Value.ref 314 } }) ::
    (nat_lit 316, { cls := PySem.Value.type "tuple", data := PySem.Data.seq #[] }) ::
    (nat_lit 318,
      { cls := PySem.Value.type "tuple",
        data :=
          PySem.Data.seq
            #[PySem.Value.str (PySem.Str.ofString "self") 636, PySem.Value.str (PySem.Str.ofString "number") 637,
              PySem.Value.str (PySem.Str.ofString "place") 638, PySem.Value.str (PySem.Str.ofString "what") 639] }) ::
    (nat_lit 319, { cls := PySem.Value.type "tuple", data := PySem.Data.seq #[] }) ::
    (nat_lit 321,
      { cls := PySem.Value.type "code",
        data :=
          PySem.Data.fields
            #[PySem.Value.str (PySem.Str.ofString "sure") 633, PySem.Value.str (PySem.Str.ofString "Disk.sure") 634,
              PySem.Value.str (PySem.Str.ofString "/claim/cut.py") 635, PySem.Value.int 176 0, PySem.Value.int 2 0,
              PySem.Value.int 0 0, PySem.Value.int 0 0, PySem.Value.int 3 0, PySem.Value.ref 316, PySem.Value.bool true,
              PySem.Value.int 181 0, PySem.Value.ref 317, PySem.Value.none, PySem.Value.ref 318, PySem.Value.ref 319,
              PySem.Value.ref 320, PySem.Value.int 640 0, PySem.Value.int 176 0,
              PySem.Value.str (PySem.Str.ofString "/claim/cut.py") 641] }) ::
 (nat_lit 322, { cls := PySem.Value.type "function", data := PySem.Data.func { name := PySem.Str.ofString "sure", qualname := PySem.Str.ofString "Disk.sure", params := L2.defArgs s_Disk_sure, body := PySem.FuncBody.stmts (L2.defBody s_Disk_sure), scope := L2.defScope s_Disk_sure, globals := 3, closure := [], defaults := PySem.Value.none, kwdefaults := PySem.Value.none, pyModule := PySem.Value.str (PySem.Str.ofString "lotsandties.disk") 542, code := PySem.Value.ref 321 } }) ::
    (nat_lit 323, { cls := PySem.Value.type "tuple", data := PySem.Data.seq #[] }) ::
    (nat_lit 325,
      { cls := PySem.Value.type "tuple",
        data :=
          PySem.Data.seq
            #[PySem.Value.str (PySem.Str.ofString "self") 646, PySem.Value.str (PySem.Str.ofString "number") 647] }) ::
    (nat_lit 326, { cls := PySem.Value.type "tuple", data := PySem.Data.seq #[] }) ::
    (nat_lit 328,
      { cls := PySem.Value.type "code",
        data :=
          PySem.Data.fields
            #[PySem.Value.str (PySem.Str.ofString "barrier") 643,
              PySem.Value.str (PySem.Str.ofString "Disk.barrier") 644,
              PySem.Value.str (PySem.Str.ofString "/claim/cut.py") 645, PySem.Value.int 182 0, PySem.Value.int 1 0,
              PySem.Value.int 0 0, PySem.Value.int 0 0, PySem.Value.int 3 0, PySem.Value.ref 323, PySem.Value.bool true,
              PySem.Value.int 181 0, PySem.Value.ref 324, PySem.Value.none, PySem.Value.ref 325, PySem.Value.ref 326,
              PySem.Value.ref 327, PySem.Value.int 648 0, PySem.Value.int 182 0,
              PySem.Value.str (PySem.Str.ofString "/claim/cut.py") 649] }) ::
 (nat_lit 329, { cls := PySem.Value.type "function", data := PySem.Data.func { name := PySem.Str.ofString "barrier", qualname := PySem.Str.ofString "Disk.barrier", params := L2.defArgs s_Disk_barrier, body := PySem.FuncBody.stmts (L2.defBody s_Disk_barrier), scope := L2.defScope s_Disk_barrier, globals := 3, closure := [], defaults := PySem.Value.none, kwdefaults := PySem.Value.none, pyModule := PySem.Value.str (PySem.Str.ofString "lotsandties.disk") 542, code := PySem.Value.ref 328 } }) ::
    (nat_lit 330, { cls := PySem.Value.type "tuple", data := PySem.Data.seq #[] }) ::
    (nat_lit 332,
      { cls := PySem.Value.type "tuple",
        data :=
          PySem.Data.seq
            #[PySem.Value.str (PySem.Str.ofString "self") 654, PySem.Value.str (PySem.Str.ofString "p") 655] }) ::
    (nat_lit 333, { cls := PySem.Value.type "tuple", data := PySem.Data.seq #[] }) ::
    (nat_lit 335,
      { cls := PySem.Value.type "code",
        data :=
          PySem.Data.fields
            #[PySem.Value.str (PySem.Str.ofString "move_head") 651,
              PySem.Value.str (PySem.Str.ofString "Disk.move_head") 652,
              PySem.Value.str (PySem.Str.ofString "/claim/cut.py") 653, PySem.Value.int 186 0, PySem.Value.int 2 0,
              PySem.Value.int 0 0, PySem.Value.int 0 0, PySem.Value.int 3 0, PySem.Value.ref 330, PySem.Value.bool true,
              PySem.Value.int 181 0, PySem.Value.ref 331, PySem.Value.none, PySem.Value.ref 332, PySem.Value.ref 333,
              PySem.Value.ref 334, PySem.Value.int 656 0, PySem.Value.int 186 0,
              PySem.Value.str (PySem.Str.ofString "/claim/cut.py") 657] }) ::
 (nat_lit 336, { cls := PySem.Value.type "function", data := PySem.Data.func { name := PySem.Str.ofString "move_head", qualname := PySem.Str.ofString "Disk.move_head", params := L2.defArgs s_Disk_move_head, body := PySem.FuncBody.stmts (L2.defBody s_Disk_move_head), scope := L2.defScope s_Disk_move_head, globals := 3, closure := [], defaults := PySem.Value.none, kwdefaults := PySem.Value.none, pyModule := PySem.Value.str (PySem.Str.ofString "lotsandties.disk") 542, code := PySem.Value.ref 335 } }) ::
    (nat_lit 337, { cls := PySem.Value.type "tuple", data := PySem.Data.seq #[] }) ::
    (nat_lit 338, { cls := PySem.Value.type "tuple", data := PySem.Data.seq #[PySem.Value.ref 337] }) ::
    (nat_lit 339, { cls := PySem.Value.type "tuple", data := PySem.Data.seq #[] }) ::
    (nat_lit 341,
      { cls := PySem.Value.type "tuple",
        data :=
          PySem.Data.seq
            #[PySem.Value.str (PySem.Str.ofString "self") 662, PySem.Value.str (PySem.Str.ofString "keep") 663,
              PySem.Value.str (PySem.Str.ofString "found") 664, PySem.Value.str (PySem.Str.ofString "k") 665,
              PySem.Value.str (PySem.Str.ofString "number") 666, PySem.Value.str (PySem.Str.ofString "place") 667,
              PySem.Value.str (PySem.Str.ofString "what") 668] }) ::
    (nat_lit 342, { cls := PySem.Value.type "tuple", data := PySem.Data.seq #[] }) ::
    (nat_lit 344,
      { cls := PySem.Value.type "code",
        data :=
          PySem.Data.fields
            #[PySem.Value.str (PySem.Str.ofString "cut") 659, PySem.Value.str (PySem.Str.ofString "Disk.cut") 660,
              PySem.Value.str (PySem.Str.ofString "/claim/cut.py") 661, PySem.Value.int 191 0, PySem.Value.int 2 0,
              PySem.Value.int 0 0, PySem.Value.int 0 0, PySem.Value.int 3 0, PySem.Value.ref 339, PySem.Value.bool true,
              PySem.Value.int 181 0, PySem.Value.ref 340, PySem.Value.none, PySem.Value.ref 341, PySem.Value.ref 342,
              PySem.Value.ref 343, PySem.Value.int 669 0, PySem.Value.int 191 0,
              PySem.Value.str (PySem.Str.ofString "/claim/cut.py") 670] }) ::
 (nat_lit 345, { cls := PySem.Value.type "function", data := PySem.Data.func { name := PySem.Str.ofString "cut", qualname := PySem.Str.ofString "Disk.cut", params := L2.defArgs s_Disk_cut, body := PySem.FuncBody.stmts (L2.defBody s_Disk_cut), scope := L2.defScope s_Disk_cut, globals := 3, closure := [], defaults := PySem.Value.ref 338, kwdefaults := PySem.Value.none, pyModule := PySem.Value.str (PySem.Str.ofString "lotsandties.disk") 542, code := PySem.Value.ref 344 } }) ::
    (nat_lit 346, { cls := PySem.Value.type "tuple", data := PySem.Data.seq #[] }) ::
    (nat_lit 348,
      { cls := PySem.Value.type "tuple", data := PySem.Data.seq #[PySem.Value.str (PySem.Str.ofString "self") 675] }) ::
    (nat_lit 349, { cls := PySem.Value.type "tuple", data := PySem.Data.seq #[] }) ::
    (nat_lit 351,
      { cls := PySem.Value.type "code",
        data :=
          PySem.Data.fields
            #[PySem.Value.str (PySem.Str.ofString "twin") 672, PySem.Value.str (PySem.Str.ofString "Disk.twin") 673,
              PySem.Value.str (PySem.Str.ofString "/claim/cut.py") 674, PySem.Value.int 200 0, PySem.Value.int 1 0,
              PySem.Value.int 0 0, PySem.Value.int 0 0, PySem.Value.int 3 0, PySem.Value.ref 346, PySem.Value.bool true,
              PySem.Value.int 181 0, PySem.Value.ref 347, PySem.Value.none, PySem.Value.ref 348, PySem.Value.ref 349,
              PySem.Value.ref 350, PySem.Value.int 676 0, PySem.Value.int 200 0,
              PySem.Value.str (PySem.Str.ofString "/claim/cut.py") 677] }) ::
    (nat_lit 353, { cls := PySem.Value.type "tuple", data := PySem.Data.seq #[] }) ::
    (nat_lit 355,
      { cls := PySem.Value.type "tuple",
        data :=
          PySem.Data.seq
            #[PySem.Value.str (PySem.Str.ofString "self") 682, PySem.Value.str (PySem.Str.ofString "other") 683] }) ::
    (nat_lit 356, { cls := PySem.Value.type "tuple", data := PySem.Data.seq #[] }) ::
    (nat_lit 358,
      { cls := PySem.Value.type "code",
        data :=
          PySem.Data.fields
            #[PySem.Value.str (PySem.Str.ofString "_settled") 679,
              PySem.Value.str (PySem.Str.ofString "Disk._settled") 680,
              PySem.Value.str (PySem.Str.ofString "/claim/cut.py") 681, PySem.Value.int 203 0, PySem.Value.int 1 0,
              PySem.Value.int 0 0, PySem.Value.int 0 0, PySem.Value.int 3 0, PySem.Value.ref 353, PySem.Value.bool true,
              PySem.Value.int 181 0, PySem.Value.ref 354, PySem.Value.none, PySem.Value.ref 355, PySem.Value.ref 356,
              PySem.Value.ref 357, PySem.Value.int 684 0, PySem.Value.int 203 0,
              PySem.Value.str (PySem.Str.ofString "/claim/cut.py") 685] }) ::
 (nat_lit 359, { cls := PySem.Value.type "function", data := PySem.Data.func { name := PySem.Str.ofString "_settled", qualname := PySem.Str.ofString "Disk._settled", params := L2.defArgs s_Disk__settled, body := PySem.FuncBody.stmts (L2.defBody s_Disk__settled), scope := L2.defScope s_Disk__settled, globals := 3, closure := [], defaults := PySem.Value.none, kwdefaults := PySem.Value.none, pyModule := PySem.Value.str (PySem.Str.ofString "lotsandties.disk") 542, code := PySem.Value.ref 358 } }) ::
    (nat_lit 360, { cls := PySem.Value.type "tuple", data := PySem.Data.seq #[] }) ::
    (nat_lit 362,
      { cls := PySem.Value.type "tuple",
        data :=
          PySem.Data.seq
            #[PySem.Value.str (PySem.Str.ofString "self") 690, PySem.Value.str (PySem.Str.ofString "place") 691,
              PySem.Value.str (PySem.Str.ofString "what") 692, PySem.Value.str (PySem.Str.ofString "kind") 693,
              PySem.Value.str (PySem.Str.ofString "at") 694] }) ::
    (nat_lit 363, { cls := PySem.Value.type "tuple", data := PySem.Data.seq #[] }) ::
    (nat_lit 365,
      { cls := PySem.Value.type "code",
        data :=
          PySem.Data.fields
            #[PySem.Value.str (PySem.Str.ofString "_put") 687, PySem.Value.str (PySem.Str.ofString "Disk._put") 688,
              PySem.Value.str (PySem.Str.ofString "/claim/cut.py") 689, PySem.Value.int 210 0, PySem.Value.int 3 0,
              PySem.Value.int 0 0, PySem.Value.int 0 0, PySem.Value.int 3 0, PySem.Value.ref 360, PySem.Value.bool true,
              PySem.Value.int 181 0, PySem.Value.ref 361, PySem.Value.none, PySem.Value.ref 362, PySem.Value.ref 363,
              PySem.Value.ref 364, PySem.Value.int 695 0, PySem.Value.int 210 0,
              PySem.Value.str (PySem.Str.ofString "/claim/cut.py") 696] }) ::
 (nat_lit 366, { cls := PySem.Value.type "function", data := PySem.Data.func { name := PySem.Str.ofString "_put", qualname := PySem.Str.ofString "Disk._put", params := L2.defArgs s_Disk__put, body := PySem.FuncBody.stmts (L2.defBody s_Disk__put), scope := L2.defScope s_Disk__put, globals := 3, closure := [], defaults := PySem.Value.none, kwdefaults := PySem.Value.none, pyModule := PySem.Value.str (PySem.Str.ofString "lotsandties.disk") 542, code := PySem.Value.ref 365 } }) ::
    (nat_lit 367,
      { cls := PySem.Value.type "tuple",
        data :=
          PySem.Data.seq
            #[PySem.Value.str (PySem.Str.ofString "_pending") 698, PySem.Value.str (PySem.Str.ofString "head") 699,
              PySem.Value.str (PySem.Str.ofString "home") 700, PySem.Value.str (PySem.Str.ofString "last") 701,
              PySem.Value.str (PySem.Str.ofString "log") 702, PySem.Value.str (PySem.Str.ofString "plan") 703] }) ::
    (nat_lit 368,
      { cls := PySem.Value.type "dict",
        data :=
          PySem.Data.dict
            #[{ hash := PySem.PyData.keyHash P (PySem.Str.ofString "__module__"),
                key := PySem.Value.str (PySem.Str.ofString "__module__") 570,
                val := PySem.Value.str (PySem.Str.ofString "lotsandties.disk") 542 },
              { hash := PySem.PyData.keyHash P (PySem.Str.ofString "__firstlineno__"),
                key := PySem.Value.str (PySem.Str.ofString "__firstlineno__") 574, val := PySem.Value.int 143 573 },
              { hash := PySem.PyData.keyHash P (PySem.Str.ofString "__init__"),
                key := PySem.Value.str (PySem.Str.ofString "__init__") 580, val := PySem.Value.ref 278 },
              { hash := PySem.PyData.keyHash P (PySem.Str.ofString "of_image"),
                key := PySem.Value.str (PySem.Str.ofString "of_image") 600, val := PySem.Value.ref 287 },
              { hash := PySem.PyData.keyHash P (PySem.Str.ofString "quiet"),
                key := PySem.Value.str (PySem.Str.ofString "quiet") 608, val := PySem.Value.ref 296 },
              { hash := PySem.PyData.keyHash P (PySem.Str.ofString "issue"),
                key := PySem.Value.str (PySem.Str.ofString "issue") 617, val := PySem.Value.ref 303 },
              { hash := PySem.PyData.keyHash P (PySem.Str.ofString "busy"),
                key := PySem.Value.str (PySem.Str.ofString "busy") 626, val := PySem.Value.ref 310 },
              { hash := PySem.PyData.keyHash P (PySem.Str.ofString "pending"),
                key := PySem.Value.str (PySem.Str.ofString "pending") 632, val := PySem.Value.ref 315 },
              { hash := PySem.PyData.keyHash P (PySem.Str.ofString "sure"),
                key := PySem.Value.str (PySem.Str.ofString "sure") 642, val := PySem.Value.ref 322 },
              { hash := PySem.PyData.keyHash P (PySem.Str.ofString "barrier"),
                key := PySem.Value.str (PySem.Str.ofString "barrier") 650, val := PySem.Value.ref 329 },
              { hash := PySem.PyData.keyHash P (PySem.Str.ofString "move_head"),
                key := PySem.Value.str (PySem.Str.ofString "move_head") 658, val := PySem.Value.ref 336 },
              { hash := PySem.PyData.keyHash P (PySem.Str.ofString "cut"),
                key := PySem.Value.str (PySem.Str.ofString "cut") 671, val := PySem.Value.ref 345 },
              { hash := PySem.PyData.keyHash P (PySem.Str.ofString "twin"),
                key := PySem.Value.str (PySem.Str.ofString "twin") 678, val := PySem.Value.ref 352 },
              { hash := PySem.PyData.keyHash P (PySem.Str.ofString "_settled"),
                key := PySem.Value.str (PySem.Str.ofString "_settled") 686, val := PySem.Value.ref 359 },
              { hash := PySem.PyData.keyHash P (PySem.Str.ofString "_put"),
                key := PySem.Value.str (PySem.Str.ofString "_put") 697, val := PySem.Value.ref 366 },
              { hash := PySem.PyData.keyHash P (PySem.Str.ofString "__static_attributes__"),
                key := PySem.Value.str (PySem.Str.ofString "__static_attributes__") 704, val := PySem.Value.ref 367 },
              { hash := PySem.PyData.keyHash P (PySem.Str.ofString "__dict__"),
                key := PySem.Value.str (PySem.Str.ofString "__dict__") 706, val := PySem.Value.ref 370 },
              { hash := PySem.PyData.keyHash P (PySem.Str.ofString "__weakref__"),
                key := PySem.Value.str (PySem.Str.ofString "__weakref__") 708, val := PySem.Value.ref 371 },
              { hash := PySem.PyData.keyHash P (PySem.Str.ofString "__doc__"),
                key := PySem.Value.str (PySem.Str.ofString "__doc__") 709, val := PySem.Value.none }]
            4 }) ::
    (nat_lit 369,
      { cls := PySem.Value.type "type",
        data :=
          PySem.Data.cls
            { name := PySem.Str.ofString "Disk", bases := [PySem.Value.type "object"],
              mro := [PySem.Value.ref 369, PySem.Value.type "object"], ns := 368,
              qualname := PySem.Str.ofString "Disk" },
        slots :=
          #[none, none, some (PySem.Value.str (PySem.Str.ofString "Disk") 563),
            some (PySem.Value.str (PySem.Str.ofString "Disk") 571), some (PySem.Value.builtin "object.__new__"),
            some (PySem.Value.bool true)] }) ::
    (nat_lit 370,
      { cls := PySem.Value.type "getset_descriptor",
        data :=
          PySem.Data.fields
            #[PySem.Value.str (PySem.Str.ofString "__dict__") 705, PySem.Value.ref 369,
              PySem.Value.builtin "function.__dict__", PySem.Value.builtin "function.__dict__#set"] }) ::
    (nat_lit 371,
      { cls := PySem.Value.type "getset_descriptor",
        data :=
          PySem.Data.fields
            #[PySem.Value.str (PySem.Str.ofString "__weakref__") 707, PySem.Value.ref 369,
              PySem.Value.builtin "ExceptionGroup.__weakref__", PySem.Value.none] }) ::
    (nat_lit 374, { cls := PySem.Value.type "tuple", data := PySem.Data.seq #[] }) ::
    (nat_lit 376,
      { cls := PySem.Value.type "tuple",
        data :=
          PySem.Data.seq
            #[PySem.Value.str (PySem.Str.ofString "_law_script") 717,
              PySem.Value.str (PySem.Str.ofString "_law_feed_here") 718,
              PySem.Value.str (PySem.Str.ofString "_law_cell") 719,
              PySem.Value.str (PySem.Str.ofString "_law_rest") 720,
              PySem.Value.str (PySem.Str.ofString "_law_k") 721] }) ::
    (nat_lit 377, { cls := PySem.Value.type "tuple", data := PySem.Data.seq #[] }) ::
    (nat_lit 379,
      { cls := PySem.Value.type "code",
        data :=
          PySem.Data.fields
            #[PySem.Value.str (PySem.Str.ofString "_law_feed") 714,
              PySem.Value.str (PySem.Str.ofString "_law_feed") 715,
              PySem.Value.str (PySem.Str.ofString "/claim/cut.py") 716, PySem.Value.int 217 0, PySem.Value.int 1 0,
              PySem.Value.int 0 0, PySem.Value.int 0 0, PySem.Value.int 3 0, PySem.Value.ref 374, PySem.Value.bool true,
              PySem.Value.int 181 0, PySem.Value.ref 375, PySem.Value.none, PySem.Value.ref 376, PySem.Value.ref 377,
              PySem.Value.ref 378, PySem.Value.int 722 0, PySem.Value.int 217 0,
              PySem.Value.str (PySem.Str.ofString "/claim/cut.py") 723] }) ::
 (nat_lit 380, { cls := PySem.Value.type "function", data := PySem.Data.func { name := PySem.Str.ofString "_law_feed", qualname := PySem.Str.ofString "_law_feed", params := L2.defArgs s_Lfeed, body := PySem.FuncBody.stmts (L2.defBody s_Lfeed), scope := L2.defScope s_Lfeed, globals := 3, closure := [], defaults := PySem.Value.none, kwdefaults := PySem.Value.none, pyModule := PySem.Value.str (PySem.Str.ofString "law_lotsandties_k01_writes_and_cuts") 712, code := PySem.Value.ref 379 } }) ::
    (nat_lit 381, { cls := PySem.Value.type "tuple", data := PySem.Data.seq #[] }) ::
    (nat_lit 383,
      { cls := PySem.Value.type "tuple",
        data :=
          PySem.Data.seq
            #[PySem.Value.str (PySem.Str.ofString "_law_feed_here") 728,
              PySem.Value.str (PySem.Str.ofString "_law_limit") 729] }) ::
    (nat_lit 384, { cls := PySem.Value.type "tuple", data := PySem.Data.seq #[] }) ::
    (nat_lit 386,
      { cls := PySem.Value.type "code",
        data :=
          PySem.Data.fields
            #[PySem.Value.str (PySem.Str.ofString "_law_pick") 725,
              PySem.Value.str (PySem.Str.ofString "_law_pick") 726,
              PySem.Value.str (PySem.Str.ofString "/claim/cut.py") 727, PySem.Value.int 230 0, PySem.Value.int 2 0,
              PySem.Value.int 0 0, PySem.Value.int 0 0, PySem.Value.int 3 0, PySem.Value.ref 381, PySem.Value.bool true,
              PySem.Value.int 181 0, PySem.Value.ref 382, PySem.Value.none, PySem.Value.ref 383, PySem.Value.ref 384,
              PySem.Value.ref 385, PySem.Value.int 730 0, PySem.Value.int 230 0,
              PySem.Value.str (PySem.Str.ofString "/claim/cut.py") 731] }) ::
 (nat_lit 387, { cls := PySem.Value.type "function", data := PySem.Data.func { name := PySem.Str.ofString "_law_pick", qualname := PySem.Str.ofString "_law_pick", params := L2.defArgs s_Lpick, body := PySem.FuncBody.stmts (L2.defBody s_Lpick), scope := L2.defScope s_Lpick, globals := 3, closure := [], defaults := PySem.Value.none, kwdefaults := PySem.Value.none, pyModule := PySem.Value.str (PySem.Str.ofString "law_lotsandties_k01_writes_and_cuts") 712, code := PySem.Value.ref 386 } }) ::
    (nat_lit 388, { cls := PySem.Value.type "tuple", data := PySem.Data.seq #[] }) ::
    (nat_lit 390,
      { cls := PySem.Value.type "tuple",
        data :=
          PySem.Data.seq
            #[PySem.Value.str (PySem.Str.ofString "_law_actual") 736,
              PySem.Value.str (PySem.Str.ofString "_law_due") 737,
              PySem.Value.str (PySem.Str.ofString "_law_k") 738] }) ::
    (nat_lit 391, { cls := PySem.Value.type "tuple", data := PySem.Data.seq #[] }) ::
    (nat_lit 393,
      { cls := PySem.Value.type "code",
        data :=
          PySem.Data.fields
            #[PySem.Value.str (PySem.Str.ofString "_law_same") 733,
              PySem.Value.str (PySem.Str.ofString "_law_same") 734,
              PySem.Value.str (PySem.Str.ofString "/claim/cut.py") 735, PySem.Value.int 234 0, PySem.Value.int 2 0,
              PySem.Value.int 0 0, PySem.Value.int 0 0, PySem.Value.int 3 0, PySem.Value.ref 388, PySem.Value.bool true,
              PySem.Value.int 181 0, PySem.Value.ref 389, PySem.Value.none, PySem.Value.ref 390, PySem.Value.ref 391,
              PySem.Value.ref 392, PySem.Value.int 739 0, PySem.Value.int 234 0,
              PySem.Value.str (PySem.Str.ofString "/claim/cut.py") 740] }) ::
 (nat_lit 394, { cls := PySem.Value.type "function", data := PySem.Data.func { name := PySem.Str.ofString "_law_same", qualname := PySem.Str.ofString "_law_same", params := L2.defArgs s_Lsame, body := PySem.FuncBody.stmts (L2.defBody s_Lsame), scope := L2.defScope s_Lsame, globals := 3, closure := [], defaults := PySem.Value.none, kwdefaults := PySem.Value.none, pyModule := PySem.Value.str (PySem.Str.ofString "law_lotsandties_k01_writes_and_cuts") 712, code := PySem.Value.ref 393 } }) ::
    (nat_lit 395, { cls := PySem.Value.type "tuple", data := PySem.Data.seq #[] }) ::
    (nat_lit 398,
      { cls := PySem.Value.type "code",
        data :=
          PySem.Data.fields
            #[PySem.Value.str (PySem.Str.ofString "_law_start") 742,
              PySem.Value.str (PySem.Str.ofString "_law_start") 743,
              PySem.Value.str (PySem.Str.ofString "/claim/cut.py") 744, PySem.Value.int 247 0, PySem.Value.int 0 0,
              PySem.Value.int 0 0, PySem.Value.int 0 0, PySem.Value.int 3 0, PySem.Value.ref 395, PySem.Value.bool true,
              PySem.Value.int 181 0, PySem.Value.ref 396, PySem.Value.none, PySem.Value.none, PySem.Value.none,
              PySem.Value.ref 397, PySem.Value.int 745 0, PySem.Value.int 247 0,
              PySem.Value.str (PySem.Str.ofString "/claim/cut.py") 746] }) ::
 (nat_lit 399, { cls := PySem.Value.type "function", data := PySem.Data.func { name := PySem.Str.ofString "_law_start", qualname := PySem.Str.ofString "_law_start", params := L2.defArgs s_Lstart, body := PySem.FuncBody.stmts (L2.defBody s_Lstart), scope := L2.defScope s_Lstart, globals := 3, closure := [], defaults := PySem.Value.none, kwdefaults := PySem.Value.none, pyModule := PySem.Value.str (PySem.Str.ofString "law_lotsandties_k01_writes_and_cuts") 712, code := PySem.Value.ref 398 } }) ::
    (nat_lit 400, { cls := PySem.Value.type "tuple", data := PySem.Data.seq #[] }) ::
    (nat_lit 402,
      { cls := PySem.Value.type "tuple",
        data :=
          PySem.Data.seq
            #[PySem.Value.str (PySem.Str.ofString "_law_disk") 751,
              PySem.Value.str (PySem.Str.ofString "_law_book") 752,
              PySem.Value.str (PySem.Str.ofString "_law_home") 753, PySem.Value.str (PySem.Str.ofString "_law_log") 754,
              PySem.Value.str (PySem.Str.ofString "_law_numbers") 755,
              PySem.Value.str (PySem.Str.ofString "_law_pending") 756,
              PySem.Value.str (PySem.Str.ofString "_law_told") 757,
              PySem.Value.str (PySem.Str.ofString "_law_write") 758] }) ::
    (nat_lit 403, { cls := PySem.Value.type "tuple", data := PySem.Data.seq #[] }) ::
    (nat_lit 405,
      { cls := PySem.Value.type "code",
        data :=
          PySem.Data.fields
            #[PySem.Value.str (PySem.Str.ofString "_law_agrees") 748,
              PySem.Value.str (PySem.Str.ofString "_law_agrees") 749,
              PySem.Value.str (PySem.Str.ofString "/claim/cut.py") 750, PySem.Value.int 249 0, PySem.Value.int 2 0,
              PySem.Value.int 0 0, PySem.Value.int 0 0, PySem.Value.int 3 0, PySem.Value.ref 400, PySem.Value.bool true,
              PySem.Value.int 181 0, PySem.Value.ref 401, PySem.Value.none, PySem.Value.ref 402, PySem.Value.ref 403,
              PySem.Value.ref 404, PySem.Value.int 759 0, PySem.Value.int 249 0,
              PySem.Value.str (PySem.Str.ofString "/claim/cut.py") 760] }) ::
 (nat_lit 406, { cls := PySem.Value.type "function", data := PySem.Data.func { name := PySem.Str.ofString "_law_agrees", qualname := PySem.Str.ofString "_law_agrees", params := L2.defArgs s_Lagrees, body := PySem.FuncBody.stmts (L2.defBody s_Lagrees), scope := L2.defScope s_Lagrees, globals := 3, closure := [], defaults := PySem.Value.none, kwdefaults := PySem.Value.none, pyModule := PySem.Value.str (PySem.Str.ofString "law_lotsandties_k01_writes_and_cuts") 712, code := PySem.Value.ref 405 } }) ::
    (nat_lit 407, { cls := PySem.Value.type "tuple", data := PySem.Data.seq #[] }) ::
    (nat_lit 409,
      { cls := PySem.Value.type "tuple",
        data :=
          PySem.Data.seq
            #[PySem.Value.str (PySem.Str.ofString "_law_book") 765,
              PySem.Value.str (PySem.Str.ofString "_law_write") 766,
              PySem.Value.str (PySem.Str.ofString "_law_home") 767, PySem.Value.str (PySem.Str.ofString "_law_log") 768,
              PySem.Value.str (PySem.Str.ofString "_law_numbers") 769,
              PySem.Value.str (PySem.Str.ofString "_law_pending") 770,
              PySem.Value.str (PySem.Str.ofString "_law_place_here") 771] }) ::
    (nat_lit 410, { cls := PySem.Value.type "tuple", data := PySem.Data.seq #[] }) ::
    (nat_lit 412,
      { cls := PySem.Value.type "code",
        data :=
          PySem.Data.fields
            #[PySem.Value.str (PySem.Str.ofString "_law_put") 762, PySem.Value.str (PySem.Str.ofString "_law_put") 763,
              PySem.Value.str (PySem.Str.ofString "/claim/cut.py") 764, PySem.Value.int 267 0, PySem.Value.int 2 0,
              PySem.Value.int 0 0, PySem.Value.int 0 0, PySem.Value.int 3 0, PySem.Value.ref 407, PySem.Value.bool true,
              PySem.Value.int 181 0, PySem.Value.ref 408, PySem.Value.none, PySem.Value.ref 409, PySem.Value.ref 410,
              PySem.Value.ref 411, PySem.Value.int 772 0, PySem.Value.int 267 0,
              PySem.Value.str (PySem.Str.ofString "/claim/cut.py") 773] }) ::
 (nat_lit 413, { cls := PySem.Value.type "function", data := PySem.Data.func { name := PySem.Str.ofString "_law_put", qualname := PySem.Str.ofString "_law_put", params := L2.defArgs s_Lput, body := PySem.FuncBody.stmts (L2.defBody s_Lput), scope := L2.defScope s_Lput, globals := 3, closure := [], defaults := PySem.Value.none, kwdefaults := PySem.Value.none, pyModule := PySem.Value.str (PySem.Str.ofString "law_lotsandties_k01_writes_and_cuts") 712, code := PySem.Value.ref 412 } }) ::
    (nat_lit 414, { cls := PySem.Value.type "tuple", data := PySem.Data.seq #[] }) ::
    (nat_lit 416,
      { cls := PySem.Value.type "tuple",
        data :=
          PySem.Data.seq
            #[PySem.Value.str (PySem.Str.ofString "_law_feed_here") 778,
              PySem.Value.str (PySem.Str.ofString "_law_choice") 779] }) ::
    (nat_lit 417, { cls := PySem.Value.type "tuple", data := PySem.Data.seq #[] }) ::
    (nat_lit 419,
      { cls := PySem.Value.type "code",
        data :=
          PySem.Data.fields
            #[PySem.Value.str (PySem.Str.ofString "_law_place") 775,
              PySem.Value.str (PySem.Str.ofString "_law_place") 776,
              PySem.Value.str (PySem.Str.ofString "/claim/cut.py") 777, PySem.Value.int 274 0, PySem.Value.int 1 0,
              PySem.Value.int 0 0, PySem.Value.int 0 0, PySem.Value.int 3 0, PySem.Value.ref 414, PySem.Value.bool true,
              PySem.Value.int 181 0, PySem.Value.ref 415, PySem.Value.none, PySem.Value.ref 416, PySem.Value.ref 417,
              PySem.Value.ref 418, PySem.Value.int 780 0, PySem.Value.int 274 0,
              PySem.Value.str (PySem.Str.ofString "/claim/cut.py") 781] }) ::
 (nat_lit 420, { cls := PySem.Value.type "function", data := PySem.Data.func { name := PySem.Str.ofString "_law_place", qualname := PySem.Str.ofString "_law_place", params := L2.defArgs s_Lplace, body := PySem.FuncBody.stmts (L2.defBody s_Lplace), scope := L2.defScope s_Lplace, globals := 3, closure := [], defaults := PySem.Value.none, kwdefaults := PySem.Value.none, pyModule := PySem.Value.str (PySem.Str.ofString "law_lotsandties_k01_writes_and_cuts") 712, code := PySem.Value.ref 419 } }) ::
    (nat_lit 421, { cls := PySem.Value.type "tuple", data := PySem.Data.seq #[] }) ::
    (nat_lit 423,
      { cls := PySem.Value.type "tuple",
        data :=
          PySem.Data.seq
            #[PySem.Value.str (PySem.Str.ofString "_law_feed_here") 786,
              PySem.Value.str (PySem.Str.ofString "_law_cells_here") 787,
              PySem.Value.str (PySem.Str.ofString "_law_at") 788] }) ::
    (nat_lit 424, { cls := PySem.Value.type "tuple", data := PySem.Data.seq #[] }) ::
    (nat_lit 426,
      { cls := PySem.Value.type "code",
        data :=
          PySem.Data.fields
            #[PySem.Value.str (PySem.Str.ofString "_law_cells") 783,
              PySem.Value.str (PySem.Str.ofString "_law_cells") 784,
              PySem.Value.str (PySem.Str.ofString "/claim/cut.py") 785, PySem.Value.int 283 0, PySem.Value.int 1 0,
              PySem.Value.int 0 0, PySem.Value.int 0 0, PySem.Value.int 3 0, PySem.Value.ref 421, PySem.Value.bool true,
              PySem.Value.int 181 0, PySem.Value.ref 422, PySem.Value.none, PySem.Value.ref 423, PySem.Value.ref 424,
              PySem.Value.ref 425, PySem.Value.int 789 0, PySem.Value.int 283 0,
              PySem.Value.str (PySem.Str.ofString "/claim/cut.py") 790] }) ::
 (nat_lit 427, { cls := PySem.Value.type "function", data := PySem.Data.func { name := PySem.Str.ofString "_law_cells", qualname := PySem.Str.ofString "_law_cells", params := L2.defArgs s_Lcells, body := PySem.FuncBody.stmts (L2.defBody s_Lcells), scope := L2.defScope s_Lcells, globals := 3, closure := [], defaults := PySem.Value.none, kwdefaults := PySem.Value.none, pyModule := PySem.Value.str (PySem.Str.ofString "law_lotsandties_k01_writes_and_cuts") 712, code := PySem.Value.ref 426 } }) ::
    (nat_lit 428, { cls := PySem.Value.type "tuple", data := PySem.Data.seq #[] }) ::
    (nat_lit 430,
      { cls := PySem.Value.type "tuple",
        data :=
          PySem.Data.seq
            #[PySem.Value.str (PySem.Str.ofString "_law_feed_here") 795,
              PySem.Value.str (PySem.Str.ofString "_law_lot") 796,
              PySem.Value.str (PySem.Str.ofString "_law_block") 797,
              PySem.Value.str (PySem.Str.ofString "_law_pairs") 798,
              PySem.Value.str (PySem.Str.ofString "_law_revokes") 799] }) ::
    (nat_lit 431, { cls := PySem.Value.type "tuple", data := PySem.Data.seq #[] }) ::
    (nat_lit 433,
      { cls := PySem.Value.type "code",
        data :=
          PySem.Data.fields
            #[PySem.Value.str (PySem.Str.ofString "_law_record") 792,
              PySem.Value.str (PySem.Str.ofString "_law_record") 793,
              PySem.Value.str (PySem.Str.ofString "/claim/cut.py") 794, PySem.Value.int 292 0, PySem.Value.int 1 0,
              PySem.Value.int 0 0, PySem.Value.int 0 0, PySem.Value.int 3 0, PySem.Value.ref 428, PySem.Value.bool true,
              PySem.Value.int 181 0, PySem.Value.ref 429, PySem.Value.none, PySem.Value.ref 430, PySem.Value.ref 431,
              PySem.Value.ref 432, PySem.Value.int 800 0, PySem.Value.int 292 0,
              PySem.Value.str (PySem.Str.ofString "/claim/cut.py") 801] }) ::
 (nat_lit 434, { cls := PySem.Value.type "function", data := PySem.Data.func { name := PySem.Str.ofString "_law_record", qualname := PySem.Str.ofString "_law_record", params := L2.defArgs s_Lrecord, body := PySem.FuncBody.stmts (L2.defBody s_Lrecord), scope := L2.defScope s_Lrecord, globals := 3, closure := [], defaults := PySem.Value.none, kwdefaults := PySem.Value.none, pyModule := PySem.Value.str (PySem.Str.ofString "law_lotsandties_k01_writes_and_cuts") 712, code := PySem.Value.ref 433 } }) ::
    (nat_lit 435, { cls := PySem.Value.type "tuple", data := PySem.Data.seq #[] }) ::
    (nat_lit 437,
      { cls := PySem.Value.type "tuple",
        data :=
          PySem.Data.seq
            #[PySem.Value.str (PySem.Str.ofString "_law_disk") 806,
              PySem.Value.str (PySem.Str.ofString "_law_place_here") 807,
              PySem.Value.str (PySem.Str.ofString "_law_what") 808, PySem.Value.str (PySem.Str.ofString "e") 809] }) ::
    (nat_lit 438, { cls := PySem.Value.type "tuple", data := PySem.Data.seq #[] }) ::
    (nat_lit 440,
      { cls := PySem.Value.type "code",
        data :=
          PySem.Data.fields
            #[PySem.Value.str (PySem.Str.ofString "_law_busy") 803,
              PySem.Value.str (PySem.Str.ofString "_law_busy") 804,
              PySem.Value.str (PySem.Str.ofString "/claim/cut.py") 805, PySem.Value.int 300 0, PySem.Value.int 3 0,
              PySem.Value.int 0 0, PySem.Value.int 0 0, PySem.Value.int 3 0, PySem.Value.ref 435, PySem.Value.bool true,
              PySem.Value.int 181 0, PySem.Value.ref 436, PySem.Value.none, PySem.Value.ref 437, PySem.Value.ref 438,
              PySem.Value.ref 439, PySem.Value.int 810 0, PySem.Value.int 300 0,
              PySem.Value.str (PySem.Str.ofString "/claim/cut.py") 811] }) ::
 (nat_lit 441, { cls := PySem.Value.type "function", data := PySem.Data.func { name := PySem.Str.ofString "_law_busy", qualname := PySem.Str.ofString "_law_busy", params := L2.defArgs s_Lbusy, body := PySem.FuncBody.stmts (L2.defBody s_Lbusy), scope := L2.defScope s_Lbusy, globals := 3, closure := [], defaults := PySem.Value.none, kwdefaults := PySem.Value.none, pyModule := PySem.Value.str (PySem.Str.ofString "law_lotsandties_k01_writes_and_cuts") 712, code := PySem.Value.ref 440 } }) ::
    (nat_lit 442, { cls := PySem.Value.type "tuple", data := PySem.Data.seq #[] }) ::
    (nat_lit 444,
      { cls := PySem.Value.type "tuple",
        data :=
          PySem.Data.seq
            #[PySem.Value.str (PySem.Str.ofString "_law_disk") 816,
              PySem.Value.str (PySem.Str.ofString "_law_place_here") 817,
              PySem.Value.str (PySem.Str.ofString "_law_what") 818, PySem.Value.str (PySem.Str.ofString "e") 819] }) ::
    (nat_lit 445, { cls := PySem.Value.type "tuple", data := PySem.Data.seq #[] }) ::
    (nat_lit 447,
      { cls := PySem.Value.type "code",
        data :=
          PySem.Data.fields
            #[PySem.Value.str (PySem.Str.ofString "_law_bad_issue") 813,
              PySem.Value.str (PySem.Str.ofString "_law_bad_issue") 814,
              PySem.Value.str (PySem.Str.ofString "/claim/cut.py") 815, PySem.Value.int 306 0, PySem.Value.int 3 0,
              PySem.Value.int 0 0, PySem.Value.int 0 0, PySem.Value.int 3 0, PySem.Value.ref 442, PySem.Value.bool true,
              PySem.Value.int 181 0, PySem.Value.ref 443, PySem.Value.none, PySem.Value.ref 444, PySem.Value.ref 445,
              PySem.Value.ref 446, PySem.Value.int 820 0, PySem.Value.int 306 0,
              PySem.Value.str (PySem.Str.ofString "/claim/cut.py") 821] }) ::
 (nat_lit 448, { cls := PySem.Value.type "function", data := PySem.Data.func { name := PySem.Str.ofString "_law_bad_issue", qualname := PySem.Str.ofString "_law_bad_issue", params := L2.defArgs s_Lbad_issue, body := PySem.FuncBody.stmts (L2.defBody s_Lbad_issue), scope := L2.defScope s_Lbad_issue, globals := 3, closure := [], defaults := PySem.Value.none, kwdefaults := PySem.Value.none, pyModule := PySem.Value.str (PySem.Str.ofString "law_lotsandties_k01_writes_and_cuts") 712, code := PySem.Value.ref 447 } }) ::
    (nat_lit 449, { cls := PySem.Value.type "tuple", data := PySem.Data.seq #[] }) ::
    (nat_lit 451,
      { cls := PySem.Value.type "tuple",
        data :=
          PySem.Data.seq
            #[PySem.Value.str (PySem.Str.ofString "_law_disk") 826, PySem.Value.str (PySem.Str.ofString "_law_p") 827,
              PySem.Value.str (PySem.Str.ofString "e") 828] }) ::
    (nat_lit 452, { cls := PySem.Value.type "tuple", data := PySem.Data.seq #[] }) ::
    (nat_lit 454,
      { cls := PySem.Value.type "code",
        data :=
          PySem.Data.fields
            #[PySem.Value.str (PySem.Str.ofString "_law_bad_head") 823,
              PySem.Value.str (PySem.Str.ofString "_law_bad_head") 824,
              PySem.Value.str (PySem.Str.ofString "/claim/cut.py") 825, PySem.Value.int 312 0, PySem.Value.int 2 0,
              PySem.Value.int 0 0, PySem.Value.int 0 0, PySem.Value.int 3 0, PySem.Value.ref 449, PySem.Value.bool true,
              PySem.Value.int 181 0, PySem.Value.ref 450, PySem.Value.none, PySem.Value.ref 451, PySem.Value.ref 452,
              PySem.Value.ref 453, PySem.Value.int 829 0, PySem.Value.int 312 0,
              PySem.Value.str (PySem.Str.ofString "/claim/cut.py") 830] }) ::
 (nat_lit 455, { cls := PySem.Value.type "function", data := PySem.Data.func { name := PySem.Str.ofString "_law_bad_head", qualname := PySem.Str.ofString "_law_bad_head", params := L2.defArgs s_Lbad_head, body := PySem.FuncBody.stmts (L2.defBody s_Lbad_head), scope := L2.defScope s_Lbad_head, globals := 3, closure := [], defaults := PySem.Value.none, kwdefaults := PySem.Value.none, pyModule := PySem.Value.str (PySem.Str.ofString "law_lotsandties_k01_writes_and_cuts") 712, code := PySem.Value.ref 454 } }) ::
    (nat_lit 456, { cls := PySem.Value.type "tuple", data := PySem.Data.seq #[] }) ::
    (nat_lit 458,
      { cls := PySem.Value.type "tuple",
        data :=
          PySem.Data.seq
            #[PySem.Value.str (PySem.Str.ofString "_law_disk") 835,
              PySem.Value.str (PySem.Str.ofString "_law_number") 836, PySem.Value.str (PySem.Str.ofString "e") 837] }) ::
    (nat_lit 459, { cls := PySem.Value.type "tuple", data := PySem.Data.seq #[] }) ::
    (nat_lit 461,
      { cls := PySem.Value.type "code",
        data :=
          PySem.Data.fields
            #[PySem.Value.str (PySem.Str.ofString "_law_no_write") 832,
              PySem.Value.str (PySem.Str.ofString "_law_no_write") 833,
              PySem.Value.str (PySem.Str.ofString "/claim/cut.py") 834, PySem.Value.int 318 0, PySem.Value.int 2 0,
              PySem.Value.int 0 0, PySem.Value.int 0 0, PySem.Value.int 3 0, PySem.Value.ref 456, PySem.Value.bool true,
              PySem.Value.int 181 0, PySem.Value.ref 457, PySem.Value.none, PySem.Value.ref 458, PySem.Value.ref 459,
              PySem.Value.ref 460, PySem.Value.int 838 0, PySem.Value.int 318 0,
              PySem.Value.str (PySem.Str.ofString "/claim/cut.py") 839] }) ::
 (nat_lit 462, { cls := PySem.Value.type "function", data := PySem.Data.func { name := PySem.Str.ofString "_law_no_write", qualname := PySem.Str.ofString "_law_no_write", params := L2.defArgs s_Lno_write, body := PySem.FuncBody.stmts (L2.defBody s_Lno_write), scope := L2.defScope s_Lno_write, globals := 3, closure := [], defaults := PySem.Value.none, kwdefaults := PySem.Value.none, pyModule := PySem.Value.str (PySem.Str.ofString "law_lotsandties_k01_writes_and_cuts") 712, code := PySem.Value.ref 461 } }) ::
    (nat_lit 463, { cls := PySem.Value.type "tuple", data := PySem.Data.seq #[] }) ::
    (nat_lit 465,
      { cls := PySem.Value.type "tuple",
        data :=
          PySem.Data.seq
            #[PySem.Value.str (PySem.Str.ofString "_law_disk") 844,
              PySem.Value.str (PySem.Str.ofString "_law_keep") 845, PySem.Value.str (PySem.Str.ofString "e") 846] }) ::
    (nat_lit 466, { cls := PySem.Value.type "tuple", data := PySem.Data.seq #[] }) ::
    (nat_lit 468,
      { cls := PySem.Value.type "code",
        data :=
          PySem.Data.fields
            #[PySem.Value.str (PySem.Str.ofString "_law_no_cut") 841,
              PySem.Value.str (PySem.Str.ofString "_law_no_cut") 842,
              PySem.Value.str (PySem.Str.ofString "/claim/cut.py") 843, PySem.Value.int 324 0, PySem.Value.int 2 0,
              PySem.Value.int 0 0, PySem.Value.int 0 0, PySem.Value.int 3 0, PySem.Value.ref 463, PySem.Value.bool true,
              PySem.Value.int 181 0, PySem.Value.ref 464, PySem.Value.none, PySem.Value.ref 465, PySem.Value.ref 466,
              PySem.Value.ref 467, PySem.Value.int 847 0, PySem.Value.int 324 0,
              PySem.Value.str (PySem.Str.ofString "/claim/cut.py") 848] }) ::
 (nat_lit 469, { cls := PySem.Value.type "function", data := PySem.Data.func { name := PySem.Str.ofString "_law_no_cut", qualname := PySem.Str.ofString "_law_no_cut", params := L2.defArgs s_Lno_cut, body := PySem.FuncBody.stmts (L2.defBody s_Lno_cut), scope := L2.defScope s_Lno_cut, globals := 3, closure := [], defaults := PySem.Value.none, kwdefaults := PySem.Value.none, pyModule := PySem.Value.str (PySem.Str.ofString "law_lotsandties_k01_writes_and_cuts") 712, code := PySem.Value.ref 468 } }) ::
    (nat_lit 470, { cls := PySem.Value.type "tuple", data := PySem.Data.seq #[] }) ::
    (nat_lit 473,
      { cls := PySem.Value.type "code",
        data :=
          PySem.Data.fields
            #[PySem.Value.str (PySem.Str.ofString "_law_issue") 850,
              PySem.Value.str (PySem.Str.ofString "_law_issue") 851,
              PySem.Value.str (PySem.Str.ofString "/claim/cut.py") 852, PySem.Value.int 330 0, PySem.Value.int 3 0,
              PySem.Value.int 0 0, PySem.Value.int 0 0, PySem.Value.int 3 0, PySem.Value.ref 470, PySem.Value.bool true,
              PySem.Value.int 181 0, PySem.Value.ref 471, PySem.Value.none, PySem.Value.none, PySem.Value.none,
              PySem.Value.ref 472, PySem.Value.int 853 0, PySem.Value.int 330 0,
              PySem.Value.str (PySem.Str.ofString "/claim/cut.py") 854] }) ::
 (nat_lit 474, { cls := PySem.Value.type "function", data := PySem.Data.func { name := PySem.Str.ofString "_law_issue", qualname := PySem.Str.ofString "_law_issue", params := L2.defArgs s_Lissue, body := PySem.FuncBody.stmts (L2.defBody s_Lissue), scope := L2.defScope s_Lissue, globals := 3, closure := [], defaults := PySem.Value.none, kwdefaults := PySem.Value.none, pyModule := PySem.Value.str (PySem.Str.ofString "law_lotsandties_k01_writes_and_cuts") 712, code := PySem.Value.ref 473 } }) ::
    (nat_lit 475, { cls := PySem.Value.type "tuple", data := PySem.Data.seq #[] }) ::
    (nat_lit 478,
      { cls := PySem.Value.type "code",
        data :=
          PySem.Data.fields
            #[PySem.Value.str (PySem.Str.ofString "_law_sure") 856,
              PySem.Value.str (PySem.Str.ofString "_law_sure") 857,
              PySem.Value.str (PySem.Str.ofString "/claim/cut.py") 858, PySem.Value.int 353 0, PySem.Value.int 3 0,
              PySem.Value.int 0 0, PySem.Value.int 0 0, PySem.Value.int 3 0, PySem.Value.ref 475, PySem.Value.bool true,
              PySem.Value.int 181 0, PySem.Value.ref 476, PySem.Value.none, PySem.Value.none, PySem.Value.none,
              PySem.Value.ref 477, PySem.Value.int 859 0, PySem.Value.int 353 0,
              PySem.Value.str (PySem.Str.ofString "/claim/cut.py") 860] }) ::
 (nat_lit 479, { cls := PySem.Value.type "function", data := PySem.Data.func { name := PySem.Str.ofString "_law_sure", qualname := PySem.Str.ofString "_law_sure", params := L2.defArgs s_Lsure, body := PySem.FuncBody.stmts (L2.defBody s_Lsure), scope := L2.defScope s_Lsure, globals := 3, closure := [], defaults := PySem.Value.none, kwdefaults := PySem.Value.none, pyModule := PySem.Value.str (PySem.Str.ofString "law_lotsandties_k01_writes_and_cuts") 712, code := PySem.Value.ref 478 } }) ::
    (nat_lit 480, { cls := PySem.Value.type "tuple", data := PySem.Data.seq #[] }) ::
    (nat_lit 482,
      { cls := PySem.Value.type "tuple",
        data :=
          PySem.Data.seq
            #[PySem.Value.str (PySem.Str.ofString "_law_disk") 865,
              PySem.Value.str (PySem.Str.ofString "_law_book") 866,
              PySem.Value.str (PySem.Str.ofString "_law_home") 867, PySem.Value.str (PySem.Str.ofString "_law_log") 868,
              PySem.Value.str (PySem.Str.ofString "_law_numbers") 869,
              PySem.Value.str (PySem.Str.ofString "_law_pending") 870,
              PySem.Value.str (PySem.Str.ofString "_law_write") 871] }) ::
    (nat_lit 483, { cls := PySem.Value.type "tuple", data := PySem.Data.seq #[] }) ::
    (nat_lit 485,
      { cls := PySem.Value.type "code",
        data :=
          PySem.Data.fields
            #[PySem.Value.str (PySem.Str.ofString "_law_barrier") 862,
              PySem.Value.str (PySem.Str.ofString "_law_barrier") 863,
              PySem.Value.str (PySem.Str.ofString "/claim/cut.py") 864, PySem.Value.int 366 0, PySem.Value.int 2 0,
              PySem.Value.int 0 0, PySem.Value.int 0 0, PySem.Value.int 3 0, PySem.Value.ref 480, PySem.Value.bool true,
              PySem.Value.int 181 0, PySem.Value.ref 481, PySem.Value.none, PySem.Value.ref 482, PySem.Value.ref 483,
              PySem.Value.ref 484, PySem.Value.int 872 0, PySem.Value.int 366 0,
              PySem.Value.str (PySem.Str.ofString "/claim/cut.py") 873] }) ::
 (nat_lit 486, { cls := PySem.Value.type "function", data := PySem.Data.func { name := PySem.Str.ofString "_law_barrier", qualname := PySem.Str.ofString "_law_barrier", params := L2.defArgs s_Lbarrier, body := PySem.FuncBody.stmts (L2.defBody s_Lbarrier), scope := L2.defScope s_Lbarrier, globals := 3, closure := [], defaults := PySem.Value.none, kwdefaults := PySem.Value.none, pyModule := PySem.Value.str (PySem.Str.ofString "law_lotsandties_k01_writes_and_cuts") 712, code := PySem.Value.ref 485 } }) ::
    (nat_lit 487, { cls := PySem.Value.type "tuple", data := PySem.Data.seq #[] }) ::
    (nat_lit 489,
      { cls := PySem.Value.type "tuple",
        data :=
          PySem.Data.seq
            #[PySem.Value.str (PySem.Str.ofString "_law_disk") 878,
              PySem.Value.str (PySem.Str.ofString "_law_book") 879,
              PySem.Value.str (PySem.Str.ofString "_law_feed_here") 880,
              PySem.Value.str (PySem.Str.ofString "_law_numbers") 881,
              PySem.Value.str (PySem.Str.ofString "_law_p") 882] }) ::
    (nat_lit 490, { cls := PySem.Value.type "tuple", data := PySem.Data.seq #[] }) ::
    (nat_lit 492,
      { cls := PySem.Value.type "code",
        data :=
          PySem.Data.fields
            #[PySem.Value.str (PySem.Str.ofString "_law_head") 875,
              PySem.Value.str (PySem.Str.ofString "_law_head") 876,
              PySem.Value.str (PySem.Str.ofString "/claim/cut.py") 877, PySem.Value.int 372 0, PySem.Value.int 3 0,
              PySem.Value.int 0 0, PySem.Value.int 0 0, PySem.Value.int 3 0, PySem.Value.ref 487, PySem.Value.bool true,
              PySem.Value.int 181 0, PySem.Value.ref 488, PySem.Value.none, PySem.Value.ref 489, PySem.Value.ref 490,
              PySem.Value.ref 491, PySem.Value.int 883 0, PySem.Value.int 372 0,
              PySem.Value.str (PySem.Str.ofString "/claim/cut.py") 884] }) ::
 (nat_lit 493, { cls := PySem.Value.type "function", data := PySem.Data.func { name := PySem.Str.ofString "_law_head", qualname := PySem.Str.ofString "_law_head", params := L2.defArgs s_Lhead, body := PySem.FuncBody.stmts (L2.defBody s_Lhead), scope := L2.defScope s_Lhead, globals := 3, closure := [], defaults := PySem.Value.none, kwdefaults := PySem.Value.none, pyModule := PySem.Value.str (PySem.Str.ofString "law_lotsandties_k01_writes_and_cuts") 712, code := PySem.Value.ref 492 } }) ::
    (nat_lit 494, { cls := PySem.Value.type "tuple", data := PySem.Data.seq #[] }) ::
    (nat_lit 496,
      { cls := PySem.Value.type "tuple",
        data :=
          PySem.Data.seq
            #[PySem.Value.str (PySem.Str.ofString "_law_disk") 889,
              PySem.Value.str (PySem.Str.ofString "_law_book") 890,
              PySem.Value.str (PySem.Str.ofString "_law_feed_here") 891,
              PySem.Value.str (PySem.Str.ofString "_law_near") 892,
              PySem.Value.str (PySem.Str.ofString "_law_cells_here") 893,
              PySem.Value.str (PySem.Str.ofString "_law_at") 894, PySem.Value.str (PySem.Str.ofString "_law_low") 895,
              PySem.Value.str (PySem.Str.ofString "_law_high") 896,
              PySem.Value.str (PySem.Str.ofString "_law_place_here") 897,
              PySem.Value.str (PySem.Str.ofString "_law_what") 898,
              PySem.Value.str (PySem.Str.ofString "_law_whole") 899,
              PySem.Value.str (PySem.Str.ofString "_law_records") 900] }) ::
    (nat_lit 497, { cls := PySem.Value.type "tuple", data := PySem.Data.seq #[] }) ::
    (nat_lit 499,
      { cls := PySem.Value.type "code",
        data :=
          PySem.Data.fields
            #[PySem.Value.str (PySem.Str.ofString "_law_bad") 886, PySem.Value.str (PySem.Str.ofString "_law_bad") 887,
              PySem.Value.str (PySem.Str.ofString "/claim/cut.py") 888, PySem.Value.int 379 0, PySem.Value.int 3 0,
              PySem.Value.int 0 0, PySem.Value.int 0 0, PySem.Value.int 3 0, PySem.Value.ref 494, PySem.Value.bool true,
              PySem.Value.int 181 0, PySem.Value.ref 495, PySem.Value.none, PySem.Value.ref 496, PySem.Value.ref 497,
              PySem.Value.ref 498, PySem.Value.int 901 0, PySem.Value.int 379 0,
              PySem.Value.str (PySem.Str.ofString "/claim/cut.py") 902] }) ::
 (nat_lit 500, { cls := PySem.Value.type "function", data := PySem.Data.func { name := PySem.Str.ofString "_law_bad", qualname := PySem.Str.ofString "_law_bad", params := L2.defArgs s_Lbad, body := PySem.FuncBody.stmts (L2.defBody s_Lbad), scope := L2.defScope s_Lbad, globals := 3, closure := [], defaults := PySem.Value.none, kwdefaults := PySem.Value.none, pyModule := PySem.Value.str (PySem.Str.ofString "law_lotsandties_k01_writes_and_cuts") 712, code := PySem.Value.ref 499 } }) ::
    (nat_lit 501, { cls := PySem.Value.type "tuple", data := PySem.Data.seq #[] }) ::
    (nat_lit 503,
      { cls := PySem.Value.type "tuple",
        data :=
          PySem.Data.seq
            #[PySem.Value.str (PySem.Str.ofString "_law_disk") 907,
              PySem.Value.str (PySem.Str.ofString "_law_book") 908,
              PySem.Value.str (PySem.Str.ofString "_law_feed_here") 909,
              PySem.Value.str (PySem.Str.ofString "_law_home") 910, PySem.Value.str (PySem.Str.ofString "_law_log") 911,
              PySem.Value.str (PySem.Str.ofString "_law_numbers") 912,
              PySem.Value.str (PySem.Str.ofString "_law_pending") 913,
              PySem.Value.str (PySem.Str.ofString "_law_due") 914, PySem.Value.str (PySem.Str.ofString "_law_keep") 915,
              PySem.Value.str (PySem.Str.ofString "_law_write") 916,
              PySem.Value.str (PySem.Str.ofString "_law_cut_here") 917,
              PySem.Value.str (PySem.Str.ofString "_law_bad_here") 918,
              PySem.Value.str (PySem.Str.ofString "_law_row") 919,
              PySem.Value.str (PySem.Str.ofString "_law_cells_here") 920] }) ::
    (nat_lit 504, { cls := PySem.Value.type "tuple", data := PySem.Data.seq #[] }) ::
    (nat_lit 506,
      { cls := PySem.Value.type "code",
        data :=
          PySem.Data.fields
            #[PySem.Value.str (PySem.Str.ofString "_law_cut") 904, PySem.Value.str (PySem.Str.ofString "_law_cut") 905,
              PySem.Value.str (PySem.Str.ofString "/claim/cut.py") 906, PySem.Value.int 398 0, PySem.Value.int 3 0,
              PySem.Value.int 0 0, PySem.Value.int 0 0, PySem.Value.int 3 0, PySem.Value.ref 501, PySem.Value.bool true,
              PySem.Value.int 181 0, PySem.Value.ref 502, PySem.Value.none, PySem.Value.ref 503, PySem.Value.ref 504,
              PySem.Value.ref 505, PySem.Value.int 921 0, PySem.Value.int 398 0,
              PySem.Value.str (PySem.Str.ofString "/claim/cut.py") 922] }) ::
 (nat_lit 507, { cls := PySem.Value.type "function", data := PySem.Data.func { name := PySem.Str.ofString "_law_cut", qualname := PySem.Str.ofString "_law_cut", params := L2.defArgs s_Lcut, body := PySem.FuncBody.stmts (L2.defBody s_Lcut), scope := L2.defScope s_Lcut, globals := 3, closure := [], defaults := PySem.Value.none, kwdefaults := PySem.Value.none, pyModule := PySem.Value.str (PySem.Str.ofString "law_lotsandties_k01_writes_and_cuts") 712, code := PySem.Value.ref 506 } }) ::
    (nat_lit 508, { cls := PySem.Value.type "tuple", data := PySem.Data.seq #[] }) ::
    (nat_lit 511,
      { cls := PySem.Value.type "code",
        data :=
          PySem.Data.fields
            #[PySem.Value.str (PySem.Str.ofString "law") 924, PySem.Value.str (PySem.Str.ofString "law") 925,
              PySem.Value.str (PySem.Str.ofString "/claim/cut.py") 926, PySem.Value.int 428 0, PySem.Value.int 1 0,
              PySem.Value.int 0 0, PySem.Value.int 0 0, PySem.Value.int 3 0, PySem.Value.ref 508, PySem.Value.bool true,
              PySem.Value.int 181 0, PySem.Value.ref 509, PySem.Value.none, PySem.Value.none, PySem.Value.none,
              PySem.Value.ref 510, PySem.Value.int 927 0, PySem.Value.int 428 0,
              PySem.Value.str (PySem.Str.ofString "/claim/cut.py") 928] }) ::
 (nat_lit 512, { cls := PySem.Value.type "function", data := PySem.Data.func { name := PySem.Str.ofString "law", qualname := PySem.Str.ofString "law", params := L2.defArgs s_law, body := PySem.FuncBody.stmts (L2.defBody s_law), scope := L2.defScope s_law, globals := 3, closure := [], defaults := PySem.Value.none, kwdefaults := PySem.Value.none, pyModule := PySem.Value.str (PySem.Str.ofString "law_lotsandties_k01_writes_and_cuts") 712, code := PySem.Value.ref 511 } }) :: []
end K01
namespace K01
open PySem PySem.Spec PyProof.Rows L2 Rg
theorem law_binds {K : PySem.W.Frag} {mg : Str → Option Value} (T : Tx K mg) (s : Shared) (v : Value) : BindsTo s T.fd_law ⟨[v], []⟩ [("_law_script", v)] := by
  obtain ⟨oc, od, kV, doc, pm, an, cdv, ct, osl, e, lk, hcd⟩ := T.F_law.ex
  rw [e]
  exact .of_eq rfl
/-- the tables of the code objects that stand written -/
def tabsK (K : PySem.W.Frag) : List Addr := K.filterMap fun p => match p.2 with
  | ⟨.type "code", _, .fields vs, _⟩ => (match (vs[11]? : Option Value) with
    | some (.ref P) => some P
    | _ => none)
  | _ => none
theorem look_mem {c : Addr} {o : Obj} : ∀ K : PySem.W.Frag, K.lookup c = some o → (c, o) ∈ K
  | [], h => by cases h
  | (a, u) :: K, h => by
    by_cases e : (c == a) = true
    · rw [List.lookup_cons, e] at h
      cases h
      rw [show c = a from beq_iff_eq.mp e]
      exact List.mem_cons_self
    · rw [List.lookup_cons, show (c == a) = false by simpa using e] at h
      exact List.mem_cons_of_mem _ (look_mem K h)
theorem tabs_all {K : PySem.W.Frag} {ts : List Addr} (h : (tabsK K).all (fun P => ts.contains P) = true) {c P : Addr} (e : PySem.W.codeHdIn K c P = true) : P ∈ ts := by
  have hp : P ∈ tabsK K := by
    unfold PySem.W.codeHdIn at e
    split at e
    · rename_i vs _ hk
      refine List.mem_filterMap.mpr ⟨_, look_mem K hk, ?_⟩
      simp only [Bool.and_eq_true] at e
      obtain ⟨⟨⟨⟨⟨e1, _⟩, _⟩, _⟩, _⟩, _⟩ := e
      split at e1
      · rename_i P' h11
        rw [show P' = P from beq_iff_eq.mp e1] at h11
        show (match (vs[11]? : Option Value) with | some (.ref P) => some P | _ => none) = some P
        rw [h11]
      · cases e1
    · cases e
  simpa using List.all_eq_true.mp h P hp
theorem fin_G {l : PySem.W.OpenLaw} {w : World} {K : PySem.W.Frag} {mg : Str → Option Value} {fa : Addr} {h : Heap} {ts : List Addr} (z : Nonempty (Tx K mg)) (hmg : mg "law" = some (.ref fa)) (KX : K.In h) (TT : ∀ P ∈ ts, h.get? P = some { cls := .none, data := .fields #[] }) (TK : ∀ {c P : Addr}, PySem.W.codeHdIn K c P = true → P ∈ ts) :
    LamX.LawAtS l w K L2.CX0 13 63 "_law_script" mg fa h := by
  obtain ⟨T⟩ := z
  have e : T.f_law = fa := Value.ref.inj (Option.some.inj (T.mg_law.symm.trans hmg))
  subst e
  refine ⟨T.fd_law, [(T.cc_is_cell_row, T.P_is_cell_row), (T.cc_is_ascending, T.P_is_ascending), (T.cc_are_pairs, T.P_are_pairs), (T.cc_are_revokes, T.P_are_revokes), (T.cc_fits_plan, T.P_fits_plan), (T.cc_Disk_busy, T.P_Disk_busy)], sp_law K T.Ps, List.forall_mem_cons.mpr ⟨TT _ (TK T.ch_is_cell_row), List.forall_mem_cons.mpr ⟨TT _ (TK T.ch_is_ascending), List.forall_mem_cons.mpr ⟨TT _ (TK T.ch_are_pairs), List.forall_mem_cons.mpr ⟨TT _ (TK T.ch_are_revokes), List.forall_mem_cons.mpr ⟨TT _ (TK T.ch_fits_plan), List.forall_mem_cons.mpr ⟨TT _ (TK T.ch_Disk_busy), fun _ z => nomatch z⟩⟩⟩⟩⟩⟩, List.forall_mem_cons.mpr ⟨T.cn_is_cell_row, List.forall_mem_cons.mpr ⟨T.cn_is_ascending, List.forall_mem_cons.mpr ⟨T.cn_are_pairs, List.forall_mem_cons.mpr ⟨T.cn_are_revokes, List.forall_mem_cons.mpr ⟨T.cn_fits_plan, List.forall_mem_cons.mpr ⟨T.cn_Disk_busy, fun _ z => nomatch z⟩⟩⟩⟩⟩⟩, List.forall_mem_cons.mpr ⟨PySem.W.codeHd_of_K KX T.ch_is_cell_row, List.forall_mem_cons.mpr ⟨PySem.W.codeHd_of_K KX T.ch_is_ascending, List.forall_mem_cons.mpr ⟨PySem.W.codeHd_of_K KX T.ch_are_pairs, List.forall_mem_cons.mpr ⟨PySem.W.codeHd_of_K KX T.ch_are_revokes, List.forall_mem_cons.mpr ⟨PySem.W.codeHd_of_K KX T.ch_fits_plan, List.forall_mem_cons.mpr ⟨PySem.W.codeHd_of_K KX T.ch_Disk_busy, fun _ z => nomatch z⟩⟩⟩⟩⟩⟩, fun s v => law_binds T s v, fun H a ns hl _ hT hS => ⟨a, ns, rfl, ?_, hS, hl, fun _ => rfl⟩, fun base _ _ TB => ok_law T ⟨TB (T.cc_is_cell_row, T.P_is_cell_row) (by simp), TB (T.cc_is_ascending, T.P_is_ascending) (by simp), TB (T.cc_are_pairs, T.P_are_pairs) (by simp), TB (T.cc_are_revokes, T.P_are_revokes) (by simp), TB (T.cc_fits_plan, T.P_fits_plan) (by simp), TB (T.cc_Disk_busy, T.P_Disk_busy) (by simp)⟩⟩
  exact List.forall_mem_cons.mpr ⟨⟨#[], hT (T.cc_is_cell_row, T.P_is_cell_row) (by simp), True.intro⟩, List.forall_mem_cons.mpr ⟨⟨#[], hT (T.cc_is_ascending, T.P_is_ascending) (by simp), True.intro⟩, List.forall_mem_cons.mpr ⟨⟨#[], hT (T.cc_are_pairs, T.P_are_pairs) (by simp), True.intro⟩, List.forall_mem_cons.mpr ⟨⟨#[], hT (T.cc_are_revokes, T.P_are_revokes) (by simp), True.intro⟩, List.forall_mem_cons.mpr ⟨⟨#[], hT (T.cc_fits_plan, T.P_fits_plan) (by simp), True.intro⟩, List.forall_mem_cons.mpr ⟨⟨#[], hT (T.cc_Disk_busy, T.P_Disk_busy) (by simp), True.intro⟩, fun _ z => nomatch z⟩⟩⟩⟩⟩⟩
theorem all_mk {w : World} {K : PySem.W.Frag} {h : Heap} {mg : Str → Option Value} (X : K.In h) (G : h.Ns mainGlobals mg)
    {a_is_number : Addr}
    {od_is_number an_is_number : Option Addr} {sl_is_number : Array (Option Value)} {oc_is_number kV_is_number dc_is_number pm_is_number cd_is_number ct_is_number : Value}
    (l_is_number : K.lookup a_is_number = some ⟨oc_is_number, od_is_number, .func (PySem.W.fnOf "is_number" "is_number" (defArgs s_is_number) (defBody s_is_number) (defScope s_is_number) .none kV_is_number dc_is_number pm_is_number an_is_number cd_is_number ct_is_number), sl_is_number⟩)
    (c_is_number : PySem.W.codeIn K cd_is_number "is_number" = true)
    (k_is_number : PySem.W.keepIn K (.ref a_is_number) = true)
    (g_is_number : PySem.W.nsIn K mainGlobals "is_number" = some (some (.ref a_is_number)))
    {a_is_cell : Addr}
    {od_is_cell an_is_cell : Option Addr} {sl_is_cell : Array (Option Value)} {oc_is_cell kV_is_cell dc_is_cell pm_is_cell cd_is_cell ct_is_cell : Value}
    (l_is_cell : K.lookup a_is_cell = some ⟨oc_is_cell, od_is_cell, .func (PySem.W.fnOf "is_cell" "is_cell" (defArgs s_is_cell) (defBody s_is_cell) (defScope s_is_cell) .none kV_is_cell dc_is_cell pm_is_cell an_is_cell cd_is_cell ct_is_cell), sl_is_cell⟩)
    (c_is_cell : PySem.W.codeIn K cd_is_cell "is_cell" = true)
    (k_is_cell : PySem.W.keepIn K (.ref a_is_cell) = true)
    (g_is_cell : PySem.W.nsIn K mainGlobals "is_cell" = some (some (.ref a_is_cell)))
    {a_is_block : Addr}
    {od_is_block an_is_block : Option Addr} {sl_is_block : Array (Option Value)} {oc_is_block kV_is_block dc_is_block pm_is_block cd_is_block ct_is_block : Value}
    (l_is_block : K.lookup a_is_block = some ⟨oc_is_block, od_is_block, .func (PySem.W.fnOf "is_block" "is_block" (defArgs s_is_block) (defBody s_is_block) (defScope s_is_block) .none kV_is_block dc_is_block pm_is_block an_is_block cd_is_block ct_is_block), sl_is_block⟩)
    (c_is_block : PySem.W.codeIn K cd_is_block "is_block" = true)
    (k_is_block : PySem.W.keepIn K (.ref a_is_block) = true)
    (g_is_block : PySem.W.nsIn K mainGlobals "is_block" = some (some (.ref a_is_block)))
    {a_is_cell_row : Addr}
    {od_is_cell_row an_is_cell_row : Option Addr} {sl_is_cell_row : Array (Option Value)} {oc_is_cell_row kV_is_cell_row dc_is_cell_row pm_is_cell_row cd_is_cell_row ct_is_cell_row : Value}
    (l_is_cell_row : K.lookup a_is_cell_row = some ⟨oc_is_cell_row, od_is_cell_row, .func (PySem.W.fnOf "is_cell_row" "is_cell_row" (defArgs s_is_cell_row) (defBody s_is_cell_row) (defScope s_is_cell_row) .none kV_is_cell_row dc_is_cell_row pm_is_cell_row an_is_cell_row cd_is_cell_row ct_is_cell_row), sl_is_cell_row⟩)
    (c_is_cell_row : PySem.W.codeIn K cd_is_cell_row "is_cell_row" = true)
    (k_is_cell_row : PySem.W.keepIn K (.ref a_is_cell_row) = true)
    (g_is_cell_row : PySem.W.nsIn K mainGlobals "is_cell_row" = some (some (.ref a_is_cell_row)))
    {ac_is_cell_row : Addr}
    (cc1_is_cell_row : cd_is_cell_row = .ref ac_is_cell_row)
    (ch1_is_cell_row : PySem.W.codeHdIn K ac_is_cell_row (He.tabOf K ac_is_cell_row) = true)
    (cn1_is_cell_row : K.lookup (He.tabOf K ac_is_cell_row) = none)
    {a_is_ascending : Addr}
    {od_is_ascending an_is_ascending : Option Addr} {sl_is_ascending : Array (Option Value)} {oc_is_ascending kV_is_ascending dc_is_ascending pm_is_ascending cd_is_ascending ct_is_ascending : Value}
    (l_is_ascending : K.lookup a_is_ascending = some ⟨oc_is_ascending, od_is_ascending, .func (PySem.W.fnOf "is_ascending" "is_ascending" (defArgs s_is_ascending) (defBody s_is_ascending) (defScope s_is_ascending) .none kV_is_ascending dc_is_ascending pm_is_ascending an_is_ascending cd_is_ascending ct_is_ascending), sl_is_ascending⟩)
    (c_is_ascending : PySem.W.codeIn K cd_is_ascending "is_ascending" = true)
    (k_is_ascending : PySem.W.keepIn K (.ref a_is_ascending) = true)
    (g_is_ascending : PySem.W.nsIn K mainGlobals "is_ascending" = some (some (.ref a_is_ascending)))
    {ac_is_ascending : Addr}
    (cc1_is_ascending : cd_is_ascending = .ref ac_is_ascending)
    (ch1_is_ascending : PySem.W.codeHdIn K ac_is_ascending (He.tabOf K ac_is_ascending) = true)
    (cn1_is_ascending : K.lookup (He.tabOf K ac_is_ascending) = none)
    {a_is_pair : Addr}
    {od_is_pair an_is_pair : Option Addr} {sl_is_pair : Array (Option Value)} {oc_is_pair kV_is_pair dc_is_pair pm_is_pair cd_is_pair ct_is_pair : Value}
    (l_is_pair : K.lookup a_is_pair = some ⟨oc_is_pair, od_is_pair, .func (PySem.W.fnOf "_is_pair" "_is_pair" (defArgs s_is_pair) (defBody s_is_pair) (defScope s_is_pair) .none kV_is_pair dc_is_pair pm_is_pair an_is_pair cd_is_pair ct_is_pair), sl_is_pair⟩)
    (c_is_pair : PySem.W.codeIn K cd_is_pair "_is_pair" = true)
    (k_is_pair : PySem.W.keepIn K (.ref a_is_pair) = true)
    (g_is_pair : PySem.W.nsIn K mainGlobals "_is_pair" = some (some (.ref a_is_pair)))
    {a_are_pairs : Addr}
    {od_are_pairs an_are_pairs : Option Addr} {sl_are_pairs : Array (Option Value)} {oc_are_pairs kV_are_pairs dc_are_pairs pm_are_pairs cd_are_pairs ct_are_pairs : Value}
    (l_are_pairs : K.lookup a_are_pairs = some ⟨oc_are_pairs, od_are_pairs, .func (PySem.W.fnOf "_are_pairs" "_are_pairs" (defArgs s_are_pairs) (defBody s_are_pairs) (defScope s_are_pairs) .none kV_are_pairs dc_are_pairs pm_are_pairs an_are_pairs cd_are_pairs ct_are_pairs), sl_are_pairs⟩)
    (c_are_pairs : PySem.W.codeIn K cd_are_pairs "_are_pairs" = true)
    (k_are_pairs : PySem.W.keepIn K (.ref a_are_pairs) = true)
    (g_are_pairs : PySem.W.nsIn K mainGlobals "_are_pairs" = some (some (.ref a_are_pairs)))
    {ac_are_pairs : Addr}
    (cc1_are_pairs : cd_are_pairs = .ref ac_are_pairs)
    (ch1_are_pairs : PySem.W.codeHdIn K ac_are_pairs (He.tabOf K ac_are_pairs) = true)
    (cn1_are_pairs : K.lookup (He.tabOf K ac_are_pairs) = none)
    {a_are_revokes : Addr}
    {od_are_revokes an_are_revokes : Option Addr} {sl_are_revokes : Array (Option Value)} {oc_are_revokes kV_are_revokes dc_are_revokes pm_are_revokes cd_are_revokes ct_are_revokes : Value}
    (l_are_revokes : K.lookup a_are_revokes = some ⟨oc_are_revokes, od_are_revokes, .func (PySem.W.fnOf "_are_revokes" "_are_revokes" (defArgs s_are_revokes) (defBody s_are_revokes) (defScope s_are_revokes) .none kV_are_revokes dc_are_revokes pm_are_revokes an_are_revokes cd_are_revokes ct_are_revokes), sl_are_revokes⟩)
    (c_are_revokes : PySem.W.codeIn K cd_are_revokes "_are_revokes" = true)
    (k_are_revokes : PySem.W.keepIn K (.ref a_are_revokes) = true)
    (g_are_revokes : PySem.W.nsIn K mainGlobals "_are_revokes" = some (some (.ref a_are_revokes)))
    {ac_are_revokes : Addr}
    (cc1_are_revokes : cd_are_revokes = .ref ac_are_revokes)
    (ch1_are_revokes : PySem.W.codeHdIn K ac_are_revokes (He.tabOf K ac_are_revokes) = true)
    (cn1_are_revokes : K.lookup (He.tabOf K ac_are_revokes) = none)
    {a_is_record : Addr}
    {od_is_record an_is_record : Option Addr} {sl_is_record : Array (Option Value)} {oc_is_record kV_is_record dc_is_record pm_is_record cd_is_record ct_is_record : Value}
    (l_is_record : K.lookup a_is_record = some ⟨oc_is_record, od_is_record, .func (PySem.W.fnOf "is_record" "is_record" (defArgs s_is_record) (defBody s_is_record) (defScope s_is_record) .none kV_is_record dc_is_record pm_is_record an_is_record cd_is_record ct_is_record), sl_is_record⟩)
    (c_is_record : PySem.W.codeIn K cd_is_record "is_record" = true)
    (k_is_record : PySem.W.keepIn K (.ref a_is_record) = true)
    (g_is_record : PySem.W.nsIn K mainGlobals "is_record" = some (some (.ref a_is_record)))
    {a_fits_plan : Addr}
    {od_fits_plan an_fits_plan : Option Addr} {sl_fits_plan : Array (Option Value)} {oc_fits_plan kV_fits_plan dc_fits_plan pm_fits_plan cd_fits_plan ct_fits_plan : Value}
    (l_fits_plan : K.lookup a_fits_plan = some ⟨oc_fits_plan, od_fits_plan, .func (PySem.W.fnOf "fits_plan" "fits_plan" (defArgs s_fits_plan) (defBody s_fits_plan) (defScope s_fits_plan) .none kV_fits_plan dc_fits_plan pm_fits_plan an_fits_plan cd_fits_plan ct_fits_plan), sl_fits_plan⟩)
    (c_fits_plan : PySem.W.codeIn K cd_fits_plan "fits_plan" = true)
    (k_fits_plan : PySem.W.keepIn K (.ref a_fits_plan) = true)
    (g_fits_plan : PySem.W.nsIn K mainGlobals "fits_plan" = some (some (.ref a_fits_plan)))
    {ac_fits_plan : Addr}
    (cc1_fits_plan : cd_fits_plan = .ref ac_fits_plan)
    (ch1_fits_plan : PySem.W.codeHdIn K ac_fits_plan (He.tabOf K ac_fits_plan) = true)
    (cn1_fits_plan : K.lookup (He.tabOf K ac_fits_plan) = none)
    {a_is_place : Addr}
    {od_is_place an_is_place : Option Addr} {sl_is_place : Array (Option Value)} {oc_is_place kV_is_place dc_is_place pm_is_place cd_is_place ct_is_place : Value}
    (l_is_place : K.lookup a_is_place = some ⟨oc_is_place, od_is_place, .func (PySem.W.fnOf "_is_place" "_is_place" (defArgs s_is_place) (defBody s_is_place) (defScope s_is_place) .none kV_is_place dc_is_place pm_is_place an_is_place cd_is_place ct_is_place), sl_is_place⟩)
    (c_is_place : PySem.W.codeIn K cd_is_place "_is_place" = true)
    (k_is_place : PySem.W.keepIn K (.ref a_is_place) = true)
    (g_is_place : PySem.W.nsIn K mainGlobals "_is_place" = some (some (.ref a_is_place)))
    {a_is_content : Addr}
    {od_is_content an_is_content : Option Addr} {sl_is_content : Array (Option Value)} {oc_is_content kV_is_content dc_is_content pm_is_content cd_is_content ct_is_content : Value}
    (l_is_content : K.lookup a_is_content = some ⟨oc_is_content, od_is_content, .func (PySem.W.fnOf "_is_content" "_is_content" (defArgs s_is_content) (defBody s_is_content) (defScope s_is_content) .none kV_is_content dc_is_content pm_is_content an_is_content cd_is_content ct_is_content), sl_is_content⟩)
    (c_is_content : PySem.W.codeIn K cd_is_content "_is_content" = true)
    (k_is_content : PySem.W.keepIn K (.ref a_is_content) = true)
    (g_is_content : PySem.W.nsIn K mainGlobals "_is_content" = some (some (.ref a_is_content)))
    {a_Lfeed : Addr}
    {od_Lfeed an_Lfeed : Option Addr} {sl_Lfeed : Array (Option Value)} {oc_Lfeed kV_Lfeed dc_Lfeed pm_Lfeed cd_Lfeed ct_Lfeed : Value}
    (l_Lfeed : K.lookup a_Lfeed = some ⟨oc_Lfeed, od_Lfeed, .func (PySem.W.fnOf "_law_feed" "_law_feed" (defArgs s_Lfeed) (defBody s_Lfeed) (defScope s_Lfeed) .none kV_Lfeed dc_Lfeed pm_Lfeed an_Lfeed cd_Lfeed ct_Lfeed), sl_Lfeed⟩)
    (c_Lfeed : PySem.W.codeIn K cd_Lfeed "_law_feed" = true)
    (k_Lfeed : PySem.W.keepIn K (.ref a_Lfeed) = true)
    (g_Lfeed : PySem.W.nsIn K mainGlobals "_law_feed" = some (some (.ref a_Lfeed)))
    {a_Lpick : Addr}
    {od_Lpick an_Lpick : Option Addr} {sl_Lpick : Array (Option Value)} {oc_Lpick kV_Lpick dc_Lpick pm_Lpick cd_Lpick ct_Lpick : Value}
    (l_Lpick : K.lookup a_Lpick = some ⟨oc_Lpick, od_Lpick, .func (PySem.W.fnOf "_law_pick" "_law_pick" (defArgs s_Lpick) (defBody s_Lpick) (defScope s_Lpick) .none kV_Lpick dc_Lpick pm_Lpick an_Lpick cd_Lpick ct_Lpick), sl_Lpick⟩)
    (c_Lpick : PySem.W.codeIn K cd_Lpick "_law_pick" = true)
    (k_Lpick : PySem.W.keepIn K (.ref a_Lpick) = true)
    (g_Lpick : PySem.W.nsIn K mainGlobals "_law_pick" = some (some (.ref a_Lpick)))
    {a_Lsame : Addr}
    {od_Lsame an_Lsame : Option Addr} {sl_Lsame : Array (Option Value)} {oc_Lsame kV_Lsame dc_Lsame pm_Lsame cd_Lsame ct_Lsame : Value}
    (l_Lsame : K.lookup a_Lsame = some ⟨oc_Lsame, od_Lsame, .func (PySem.W.fnOf "_law_same" "_law_same" (defArgs s_Lsame) (defBody s_Lsame) (defScope s_Lsame) .none kV_Lsame dc_Lsame pm_Lsame an_Lsame cd_Lsame ct_Lsame), sl_Lsame⟩)
    (c_Lsame : PySem.W.codeIn K cd_Lsame "_law_same" = true)
    (k_Lsame : PySem.W.keepIn K (.ref a_Lsame) = true)
    (g_Lsame : PySem.W.nsIn K mainGlobals "_law_same" = some (some (.ref a_Lsame)))
    {a_Lstart : Addr}
    {od_Lstart an_Lstart : Option Addr} {sl_Lstart : Array (Option Value)} {oc_Lstart kV_Lstart dc_Lstart pm_Lstart cd_Lstart ct_Lstart : Value}
    (l_Lstart : K.lookup a_Lstart = some ⟨oc_Lstart, od_Lstart, .func (PySem.W.fnOf "_law_start" "_law_start" (defArgs s_Lstart) (defBody s_Lstart) (defScope s_Lstart) .none kV_Lstart dc_Lstart pm_Lstart an_Lstart cd_Lstart ct_Lstart), sl_Lstart⟩)
    (c_Lstart : PySem.W.codeIn K cd_Lstart "_law_start" = true)
    (k_Lstart : PySem.W.keepIn K (.ref a_Lstart) = true)
    (g_Lstart : PySem.W.nsIn K mainGlobals "_law_start" = some (some (.ref a_Lstart)))
    {a_Lagrees : Addr}
    {od_Lagrees an_Lagrees : Option Addr} {sl_Lagrees : Array (Option Value)} {oc_Lagrees kV_Lagrees dc_Lagrees pm_Lagrees cd_Lagrees ct_Lagrees : Value}
    (l_Lagrees : K.lookup a_Lagrees = some ⟨oc_Lagrees, od_Lagrees, .func (PySem.W.fnOf "_law_agrees" "_law_agrees" (defArgs s_Lagrees) (defBody s_Lagrees) (defScope s_Lagrees) .none kV_Lagrees dc_Lagrees pm_Lagrees an_Lagrees cd_Lagrees ct_Lagrees), sl_Lagrees⟩)
    (c_Lagrees : PySem.W.codeIn K cd_Lagrees "_law_agrees" = true)
    (k_Lagrees : PySem.W.keepIn K (.ref a_Lagrees) = true)
    (g_Lagrees : PySem.W.nsIn K mainGlobals "_law_agrees" = some (some (.ref a_Lagrees)))
    {a_Lput : Addr}
    {od_Lput an_Lput : Option Addr} {sl_Lput : Array (Option Value)} {oc_Lput kV_Lput dc_Lput pm_Lput cd_Lput ct_Lput : Value}
    (l_Lput : K.lookup a_Lput = some ⟨oc_Lput, od_Lput, .func (PySem.W.fnOf "_law_put" "_law_put" (defArgs s_Lput) (defBody s_Lput) (defScope s_Lput) .none kV_Lput dc_Lput pm_Lput an_Lput cd_Lput ct_Lput), sl_Lput⟩)
    (c_Lput : PySem.W.codeIn K cd_Lput "_law_put" = true)
    (k_Lput : PySem.W.keepIn K (.ref a_Lput) = true)
    (g_Lput : PySem.W.nsIn K mainGlobals "_law_put" = some (some (.ref a_Lput)))
    {a_Lplace : Addr}
    {od_Lplace an_Lplace : Option Addr} {sl_Lplace : Array (Option Value)} {oc_Lplace kV_Lplace dc_Lplace pm_Lplace cd_Lplace ct_Lplace : Value}
    (l_Lplace : K.lookup a_Lplace = some ⟨oc_Lplace, od_Lplace, .func (PySem.W.fnOf "_law_place" "_law_place" (defArgs s_Lplace) (defBody s_Lplace) (defScope s_Lplace) .none kV_Lplace dc_Lplace pm_Lplace an_Lplace cd_Lplace ct_Lplace), sl_Lplace⟩)
    (c_Lplace : PySem.W.codeIn K cd_Lplace "_law_place" = true)
    (k_Lplace : PySem.W.keepIn K (.ref a_Lplace) = true)
    (g_Lplace : PySem.W.nsIn K mainGlobals "_law_place" = some (some (.ref a_Lplace)))
    {a_Lcells : Addr}
    {od_Lcells an_Lcells : Option Addr} {sl_Lcells : Array (Option Value)} {oc_Lcells kV_Lcells dc_Lcells pm_Lcells cd_Lcells ct_Lcells : Value}
    (l_Lcells : K.lookup a_Lcells = some ⟨oc_Lcells, od_Lcells, .func (PySem.W.fnOf "_law_cells" "_law_cells" (defArgs s_Lcells) (defBody s_Lcells) (defScope s_Lcells) .none kV_Lcells dc_Lcells pm_Lcells an_Lcells cd_Lcells ct_Lcells), sl_Lcells⟩)
    (c_Lcells : PySem.W.codeIn K cd_Lcells "_law_cells" = true)
    (k_Lcells : PySem.W.keepIn K (.ref a_Lcells) = true)
    (g_Lcells : PySem.W.nsIn K mainGlobals "_law_cells" = some (some (.ref a_Lcells)))
    {a_Lrecord : Addr}
    {od_Lrecord an_Lrecord : Option Addr} {sl_Lrecord : Array (Option Value)} {oc_Lrecord kV_Lrecord dc_Lrecord pm_Lrecord cd_Lrecord ct_Lrecord : Value}
    (l_Lrecord : K.lookup a_Lrecord = some ⟨oc_Lrecord, od_Lrecord, .func (PySem.W.fnOf "_law_record" "_law_record" (defArgs s_Lrecord) (defBody s_Lrecord) (defScope s_Lrecord) .none kV_Lrecord dc_Lrecord pm_Lrecord an_Lrecord cd_Lrecord ct_Lrecord), sl_Lrecord⟩)
    (c_Lrecord : PySem.W.codeIn K cd_Lrecord "_law_record" = true)
    (k_Lrecord : PySem.W.keepIn K (.ref a_Lrecord) = true)
    (g_Lrecord : PySem.W.nsIn K mainGlobals "_law_record" = some (some (.ref a_Lrecord)))
    {a_Lbusy : Addr}
    {od_Lbusy an_Lbusy : Option Addr} {sl_Lbusy : Array (Option Value)} {oc_Lbusy kV_Lbusy dc_Lbusy pm_Lbusy cd_Lbusy ct_Lbusy : Value}
    (l_Lbusy : K.lookup a_Lbusy = some ⟨oc_Lbusy, od_Lbusy, .func (PySem.W.fnOf "_law_busy" "_law_busy" (defArgs s_Lbusy) (defBody s_Lbusy) (defScope s_Lbusy) .none kV_Lbusy dc_Lbusy pm_Lbusy an_Lbusy cd_Lbusy ct_Lbusy), sl_Lbusy⟩)
    (c_Lbusy : PySem.W.codeIn K cd_Lbusy "_law_busy" = true)
    (k_Lbusy : PySem.W.keepIn K (.ref a_Lbusy) = true)
    (g_Lbusy : PySem.W.nsIn K mainGlobals "_law_busy" = some (some (.ref a_Lbusy)))
    {a_Lbad_issue : Addr}
    {od_Lbad_issue an_Lbad_issue : Option Addr} {sl_Lbad_issue : Array (Option Value)} {oc_Lbad_issue kV_Lbad_issue dc_Lbad_issue pm_Lbad_issue cd_Lbad_issue ct_Lbad_issue : Value}
    (l_Lbad_issue : K.lookup a_Lbad_issue = some ⟨oc_Lbad_issue, od_Lbad_issue, .func (PySem.W.fnOf "_law_bad_issue" "_law_bad_issue" (defArgs s_Lbad_issue) (defBody s_Lbad_issue) (defScope s_Lbad_issue) .none kV_Lbad_issue dc_Lbad_issue pm_Lbad_issue an_Lbad_issue cd_Lbad_issue ct_Lbad_issue), sl_Lbad_issue⟩)
    (c_Lbad_issue : PySem.W.codeIn K cd_Lbad_issue "_law_bad_issue" = true)
    (k_Lbad_issue : PySem.W.keepIn K (.ref a_Lbad_issue) = true)
    (g_Lbad_issue : PySem.W.nsIn K mainGlobals "_law_bad_issue" = some (some (.ref a_Lbad_issue)))
    {a_Lbad_head : Addr}
    {od_Lbad_head an_Lbad_head : Option Addr} {sl_Lbad_head : Array (Option Value)} {oc_Lbad_head kV_Lbad_head dc_Lbad_head pm_Lbad_head cd_Lbad_head ct_Lbad_head : Value}
    (l_Lbad_head : K.lookup a_Lbad_head = some ⟨oc_Lbad_head, od_Lbad_head, .func (PySem.W.fnOf "_law_bad_head" "_law_bad_head" (defArgs s_Lbad_head) (defBody s_Lbad_head) (defScope s_Lbad_head) .none kV_Lbad_head dc_Lbad_head pm_Lbad_head an_Lbad_head cd_Lbad_head ct_Lbad_head), sl_Lbad_head⟩)
    (c_Lbad_head : PySem.W.codeIn K cd_Lbad_head "_law_bad_head" = true)
    (k_Lbad_head : PySem.W.keepIn K (.ref a_Lbad_head) = true)
    (g_Lbad_head : PySem.W.nsIn K mainGlobals "_law_bad_head" = some (some (.ref a_Lbad_head)))
    {a_Lno_write : Addr}
    {od_Lno_write an_Lno_write : Option Addr} {sl_Lno_write : Array (Option Value)} {oc_Lno_write kV_Lno_write dc_Lno_write pm_Lno_write cd_Lno_write ct_Lno_write : Value}
    (l_Lno_write : K.lookup a_Lno_write = some ⟨oc_Lno_write, od_Lno_write, .func (PySem.W.fnOf "_law_no_write" "_law_no_write" (defArgs s_Lno_write) (defBody s_Lno_write) (defScope s_Lno_write) .none kV_Lno_write dc_Lno_write pm_Lno_write an_Lno_write cd_Lno_write ct_Lno_write), sl_Lno_write⟩)
    (c_Lno_write : PySem.W.codeIn K cd_Lno_write "_law_no_write" = true)
    (k_Lno_write : PySem.W.keepIn K (.ref a_Lno_write) = true)
    (g_Lno_write : PySem.W.nsIn K mainGlobals "_law_no_write" = some (some (.ref a_Lno_write)))
    {a_Lno_cut : Addr}
    {od_Lno_cut an_Lno_cut : Option Addr} {sl_Lno_cut : Array (Option Value)} {oc_Lno_cut kV_Lno_cut dc_Lno_cut pm_Lno_cut cd_Lno_cut ct_Lno_cut : Value}
    (l_Lno_cut : K.lookup a_Lno_cut = some ⟨oc_Lno_cut, od_Lno_cut, .func (PySem.W.fnOf "_law_no_cut" "_law_no_cut" (defArgs s_Lno_cut) (defBody s_Lno_cut) (defScope s_Lno_cut) .none kV_Lno_cut dc_Lno_cut pm_Lno_cut an_Lno_cut cd_Lno_cut ct_Lno_cut), sl_Lno_cut⟩)
    (c_Lno_cut : PySem.W.codeIn K cd_Lno_cut "_law_no_cut" = true)
    (k_Lno_cut : PySem.W.keepIn K (.ref a_Lno_cut) = true)
    (g_Lno_cut : PySem.W.nsIn K mainGlobals "_law_no_cut" = some (some (.ref a_Lno_cut)))
    {a_Lissue : Addr}
    {od_Lissue an_Lissue : Option Addr} {sl_Lissue : Array (Option Value)} {oc_Lissue kV_Lissue dc_Lissue pm_Lissue cd_Lissue ct_Lissue : Value}
    (l_Lissue : K.lookup a_Lissue = some ⟨oc_Lissue, od_Lissue, .func (PySem.W.fnOf "_law_issue" "_law_issue" (defArgs s_Lissue) (defBody s_Lissue) (defScope s_Lissue) .none kV_Lissue dc_Lissue pm_Lissue an_Lissue cd_Lissue ct_Lissue), sl_Lissue⟩)
    (c_Lissue : PySem.W.codeIn K cd_Lissue "_law_issue" = true)
    (k_Lissue : PySem.W.keepIn K (.ref a_Lissue) = true)
    (g_Lissue : PySem.W.nsIn K mainGlobals "_law_issue" = some (some (.ref a_Lissue)))
    {a_Lsure : Addr}
    {od_Lsure an_Lsure : Option Addr} {sl_Lsure : Array (Option Value)} {oc_Lsure kV_Lsure dc_Lsure pm_Lsure cd_Lsure ct_Lsure : Value}
    (l_Lsure : K.lookup a_Lsure = some ⟨oc_Lsure, od_Lsure, .func (PySem.W.fnOf "_law_sure" "_law_sure" (defArgs s_Lsure) (defBody s_Lsure) (defScope s_Lsure) .none kV_Lsure dc_Lsure pm_Lsure an_Lsure cd_Lsure ct_Lsure), sl_Lsure⟩)
    (c_Lsure : PySem.W.codeIn K cd_Lsure "_law_sure" = true)
    (k_Lsure : PySem.W.keepIn K (.ref a_Lsure) = true)
    (g_Lsure : PySem.W.nsIn K mainGlobals "_law_sure" = some (some (.ref a_Lsure)))
    {a_Lbarrier : Addr}
    {od_Lbarrier an_Lbarrier : Option Addr} {sl_Lbarrier : Array (Option Value)} {oc_Lbarrier kV_Lbarrier dc_Lbarrier pm_Lbarrier cd_Lbarrier ct_Lbarrier : Value}
    (l_Lbarrier : K.lookup a_Lbarrier = some ⟨oc_Lbarrier, od_Lbarrier, .func (PySem.W.fnOf "_law_barrier" "_law_barrier" (defArgs s_Lbarrier) (defBody s_Lbarrier) (defScope s_Lbarrier) .none kV_Lbarrier dc_Lbarrier pm_Lbarrier an_Lbarrier cd_Lbarrier ct_Lbarrier), sl_Lbarrier⟩)
    (c_Lbarrier : PySem.W.codeIn K cd_Lbarrier "_law_barrier" = true)
    (k_Lbarrier : PySem.W.keepIn K (.ref a_Lbarrier) = true)
    (g_Lbarrier : PySem.W.nsIn K mainGlobals "_law_barrier" = some (some (.ref a_Lbarrier)))
    {a_Lhead : Addr}
    {od_Lhead an_Lhead : Option Addr} {sl_Lhead : Array (Option Value)} {oc_Lhead kV_Lhead dc_Lhead pm_Lhead cd_Lhead ct_Lhead : Value}
    (l_Lhead : K.lookup a_Lhead = some ⟨oc_Lhead, od_Lhead, .func (PySem.W.fnOf "_law_head" "_law_head" (defArgs s_Lhead) (defBody s_Lhead) (defScope s_Lhead) .none kV_Lhead dc_Lhead pm_Lhead an_Lhead cd_Lhead ct_Lhead), sl_Lhead⟩)
    (c_Lhead : PySem.W.codeIn K cd_Lhead "_law_head" = true)
    (k_Lhead : PySem.W.keepIn K (.ref a_Lhead) = true)
    (g_Lhead : PySem.W.nsIn K mainGlobals "_law_head" = some (some (.ref a_Lhead)))
    {a_Lbad : Addr}
    {od_Lbad an_Lbad : Option Addr} {sl_Lbad : Array (Option Value)} {oc_Lbad kV_Lbad dc_Lbad pm_Lbad cd_Lbad ct_Lbad : Value}
    (l_Lbad : K.lookup a_Lbad = some ⟨oc_Lbad, od_Lbad, .func (PySem.W.fnOf "_law_bad" "_law_bad" (defArgs s_Lbad) (defBody s_Lbad) (defScope s_Lbad) .none kV_Lbad dc_Lbad pm_Lbad an_Lbad cd_Lbad ct_Lbad), sl_Lbad⟩)
    (c_Lbad : PySem.W.codeIn K cd_Lbad "_law_bad" = true)
    (k_Lbad : PySem.W.keepIn K (.ref a_Lbad) = true)
    (g_Lbad : PySem.W.nsIn K mainGlobals "_law_bad" = some (some (.ref a_Lbad)))
    {a_Lcut : Addr}
    {od_Lcut an_Lcut : Option Addr} {sl_Lcut : Array (Option Value)} {oc_Lcut kV_Lcut dc_Lcut pm_Lcut cd_Lcut ct_Lcut : Value}
    (l_Lcut : K.lookup a_Lcut = some ⟨oc_Lcut, od_Lcut, .func (PySem.W.fnOf "_law_cut" "_law_cut" (defArgs s_Lcut) (defBody s_Lcut) (defScope s_Lcut) .none kV_Lcut dc_Lcut pm_Lcut an_Lcut cd_Lcut ct_Lcut), sl_Lcut⟩)
    (c_Lcut : PySem.W.codeIn K cd_Lcut "_law_cut" = true)
    (k_Lcut : PySem.W.keepIn K (.ref a_Lcut) = true)
    (g_Lcut : PySem.W.nsIn K mainGlobals "_law_cut" = some (some (.ref a_Lcut)))
    {a_law : Addr}
    {od_law an_law : Option Addr} {sl_law : Array (Option Value)} {oc_law kV_law dc_law pm_law cd_law ct_law : Value}
    (l_law : K.lookup a_law = some ⟨oc_law, od_law, .func (PySem.W.fnOf "law" "law" (defArgs s_law) (defBody s_law) (defScope s_law) .none kV_law dc_law pm_law an_law cd_law ct_law), sl_law⟩)
    (c_law : PySem.W.codeIn K cd_law "law" = true)
    (k_law : PySem.W.keepIn K (.ref a_law) = true)
    (g_law : PySem.W.nsIn K mainGlobals "law" = some (some (.ref a_law)))
    {a_Plan___init__ : Addr}
    {od_Plan___init__ an_Plan___init__ : Option Addr} {sl_Plan___init__ : Array (Option Value)} {oc_Plan___init__ kV_Plan___init__ dc_Plan___init__ pm_Plan___init__ cd_Plan___init__ ct_Plan___init__ : Value}
    (l_Plan___init__ : K.lookup a_Plan___init__ = some ⟨oc_Plan___init__, od_Plan___init__, .func (PySem.W.fnOf "__init__" "Plan.__init__" (defArgs s_Plan___init__) (defBody s_Plan___init__) (defScope s_Plan___init__) .none kV_Plan___init__ dc_Plan___init__ pm_Plan___init__ an_Plan___init__ cd_Plan___init__ ct_Plan___init__), sl_Plan___init__⟩)
    (c_Plan___init__ : PySem.W.codeIn K cd_Plan___init__ "Plan.__init__" = true)
    (k_Plan___init__ : PySem.W.keepIn K (.ref a_Plan___init__) = true)
    {a_Plan_text : Addr}
    {od_Plan_text an_Plan_text : Option Addr} {sl_Plan_text : Array (Option Value)} {oc_Plan_text kV_Plan_text dc_Plan_text pm_Plan_text cd_Plan_text ct_Plan_text : Value}
    (l_Plan_text : K.lookup a_Plan_text = some ⟨oc_Plan_text, od_Plan_text, .func (PySem.W.fnOf "text" "Plan.text" (defArgs s_Plan_text) (defBody s_Plan_text) (defScope s_Plan_text) .none kV_Plan_text dc_Plan_text pm_Plan_text an_Plan_text cd_Plan_text ct_Plan_text), sl_Plan_text⟩)
    (c_Plan_text : PySem.W.codeIn K cd_Plan_text "Plan.text" = true)
    (k_Plan_text : PySem.W.keepIn K (.ref a_Plan_text) = true)
    {a_Disk___init__ : Addr}
    {od_Disk___init__ an_Disk___init__ : Option Addr} {sl_Disk___init__ : Array (Option Value)} {oc_Disk___init__ kV_Disk___init__ dc_Disk___init__ pm_Disk___init__ cd_Disk___init__ ct_Disk___init__ : Value}
    (l_Disk___init__ : K.lookup a_Disk___init__ = some ⟨oc_Disk___init__, od_Disk___init__, .func (PySem.W.fnOf "__init__" "Disk.__init__" (defArgs s_Disk___init__) (defBody s_Disk___init__) (defScope s_Disk___init__) .none kV_Disk___init__ dc_Disk___init__ pm_Disk___init__ an_Disk___init__ cd_Disk___init__ ct_Disk___init__), sl_Disk___init__⟩)
    (c_Disk___init__ : PySem.W.codeIn K cd_Disk___init__ "Disk.__init__" = true)
    (k_Disk___init__ : PySem.W.keepIn K (.ref a_Disk___init__) = true)
    {a_Disk_issue : Addr}
    {od_Disk_issue an_Disk_issue : Option Addr} {sl_Disk_issue : Array (Option Value)} {oc_Disk_issue kV_Disk_issue dc_Disk_issue pm_Disk_issue cd_Disk_issue ct_Disk_issue : Value}
    (l_Disk_issue : K.lookup a_Disk_issue = some ⟨oc_Disk_issue, od_Disk_issue, .func (PySem.W.fnOf "issue" "Disk.issue" (defArgs s_Disk_issue) (defBody s_Disk_issue) (defScope s_Disk_issue) .none kV_Disk_issue dc_Disk_issue pm_Disk_issue an_Disk_issue cd_Disk_issue ct_Disk_issue), sl_Disk_issue⟩)
    (c_Disk_issue : PySem.W.codeIn K cd_Disk_issue "Disk.issue" = true)
    (k_Disk_issue : PySem.W.keepIn K (.ref a_Disk_issue) = true)
    {a_Disk_busy : Addr}
    {od_Disk_busy an_Disk_busy : Option Addr} {sl_Disk_busy : Array (Option Value)} {oc_Disk_busy kV_Disk_busy dc_Disk_busy pm_Disk_busy cd_Disk_busy ct_Disk_busy : Value}
    (l_Disk_busy : K.lookup a_Disk_busy = some ⟨oc_Disk_busy, od_Disk_busy, .func (PySem.W.fnOf "busy" "Disk.busy" (defArgs s_Disk_busy) (defBody s_Disk_busy) (defScope s_Disk_busy) .none kV_Disk_busy dc_Disk_busy pm_Disk_busy an_Disk_busy cd_Disk_busy ct_Disk_busy), sl_Disk_busy⟩)
    (c_Disk_busy : PySem.W.codeIn K cd_Disk_busy "Disk.busy" = true)
    (k_Disk_busy : PySem.W.keepIn K (.ref a_Disk_busy) = true)
    {ac_Disk_busy : Addr}
    (cc1_Disk_busy : cd_Disk_busy = .ref ac_Disk_busy)
    (ch1_Disk_busy : PySem.W.codeHdIn K ac_Disk_busy (He.tabOf K ac_Disk_busy) = true)
    (cn1_Disk_busy : K.lookup (He.tabOf K ac_Disk_busy) = none)
    {a_Disk_pending : Addr}
    {od_Disk_pending an_Disk_pending : Option Addr} {sl_Disk_pending : Array (Option Value)} {oc_Disk_pending kV_Disk_pending dc_Disk_pending pm_Disk_pending cd_Disk_pending ct_Disk_pending : Value}
    (l_Disk_pending : K.lookup a_Disk_pending = some ⟨oc_Disk_pending, od_Disk_pending, .func (PySem.W.fnOf "pending" "Disk.pending" (defArgs s_Disk_pending) (defBody s_Disk_pending) (defScope s_Disk_pending) .none kV_Disk_pending dc_Disk_pending pm_Disk_pending an_Disk_pending cd_Disk_pending ct_Disk_pending), sl_Disk_pending⟩)
    (c_Disk_pending : PySem.W.codeIn K cd_Disk_pending "Disk.pending" = true)
    (k_Disk_pending : PySem.W.keepIn K (.ref a_Disk_pending) = true)
    {a_Disk_sure : Addr}
    {od_Disk_sure an_Disk_sure : Option Addr} {sl_Disk_sure : Array (Option Value)} {oc_Disk_sure kV_Disk_sure dc_Disk_sure pm_Disk_sure cd_Disk_sure ct_Disk_sure : Value}
    (l_Disk_sure : K.lookup a_Disk_sure = some ⟨oc_Disk_sure, od_Disk_sure, .func (PySem.W.fnOf "sure" "Disk.sure" (defArgs s_Disk_sure) (defBody s_Disk_sure) (defScope s_Disk_sure) .none kV_Disk_sure dc_Disk_sure pm_Disk_sure an_Disk_sure cd_Disk_sure ct_Disk_sure), sl_Disk_sure⟩)
    (c_Disk_sure : PySem.W.codeIn K cd_Disk_sure "Disk.sure" = true)
    (k_Disk_sure : PySem.W.keepIn K (.ref a_Disk_sure) = true)
    {a_Disk_barrier : Addr}
    {od_Disk_barrier an_Disk_barrier : Option Addr} {sl_Disk_barrier : Array (Option Value)} {oc_Disk_barrier kV_Disk_barrier dc_Disk_barrier pm_Disk_barrier cd_Disk_barrier ct_Disk_barrier : Value}
    (l_Disk_barrier : K.lookup a_Disk_barrier = some ⟨oc_Disk_barrier, od_Disk_barrier, .func (PySem.W.fnOf "barrier" "Disk.barrier" (defArgs s_Disk_barrier) (defBody s_Disk_barrier) (defScope s_Disk_barrier) .none kV_Disk_barrier dc_Disk_barrier pm_Disk_barrier an_Disk_barrier cd_Disk_barrier ct_Disk_barrier), sl_Disk_barrier⟩)
    (c_Disk_barrier : PySem.W.codeIn K cd_Disk_barrier "Disk.barrier" = true)
    (k_Disk_barrier : PySem.W.keepIn K (.ref a_Disk_barrier) = true)
    {a_Disk_move_head : Addr}
    {od_Disk_move_head an_Disk_move_head : Option Addr} {sl_Disk_move_head : Array (Option Value)} {oc_Disk_move_head kV_Disk_move_head dc_Disk_move_head pm_Disk_move_head cd_Disk_move_head ct_Disk_move_head : Value}
    (l_Disk_move_head : K.lookup a_Disk_move_head = some ⟨oc_Disk_move_head, od_Disk_move_head, .func (PySem.W.fnOf "move_head" "Disk.move_head" (defArgs s_Disk_move_head) (defBody s_Disk_move_head) (defScope s_Disk_move_head) .none kV_Disk_move_head dc_Disk_move_head pm_Disk_move_head an_Disk_move_head cd_Disk_move_head ct_Disk_move_head), sl_Disk_move_head⟩)
    (c_Disk_move_head : PySem.W.codeIn K cd_Disk_move_head "Disk.move_head" = true)
    (k_Disk_move_head : PySem.W.keepIn K (.ref a_Disk_move_head) = true)
    {a_Disk_cut : Addr}
    {od_Disk_cut an_Disk_cut : Option Addr} {sl_Disk_cut : Array (Option Value)} {oc_Disk_cut kV_Disk_cut dc_Disk_cut pm_Disk_cut cd_Disk_cut ct_Disk_cut : Value} {aT_Disk_cut aE_Disk_cut : Addr} {cD_Disk_cut : Value} {dD_Disk_cut : Option Addr} {nD_Disk_cut : Nat} {sD_Disk_cut : Array (Option Value)}
    (l_Disk_cut : K.lookup a_Disk_cut = some ⟨oc_Disk_cut, od_Disk_cut, .func (PySem.W.fnOf "cut" "Disk.cut" (defArgs s_Disk_cut) (defBody s_Disk_cut) (defScope s_Disk_cut) (.ref aT_Disk_cut) kV_Disk_cut dc_Disk_cut pm_Disk_cut an_Disk_cut cd_Disk_cut ct_Disk_cut), sl_Disk_cut⟩)
    (ld_Disk_cut : K.lookup aT_Disk_cut = some ⟨cD_Disk_cut, dD_Disk_cut, .seq #[.ref aE_Disk_cut] nD_Disk_cut, sD_Disk_cut⟩)
    (c_Disk_cut : PySem.W.codeIn K cd_Disk_cut "Disk.cut" = true)
    (k_Disk_cut : PySem.W.keepIn K (.ref a_Disk_cut) = true)
    {a_Disk__settled : Addr}
    {od_Disk__settled an_Disk__settled : Option Addr} {sl_Disk__settled : Array (Option Value)} {oc_Disk__settled kV_Disk__settled dc_Disk__settled pm_Disk__settled cd_Disk__settled ct_Disk__settled : Value}
    (l_Disk__settled : K.lookup a_Disk__settled = some ⟨oc_Disk__settled, od_Disk__settled, .func (PySem.W.fnOf "_settled" "Disk._settled" (defArgs s_Disk__settled) (defBody s_Disk__settled) (defScope s_Disk__settled) .none kV_Disk__settled dc_Disk__settled pm_Disk__settled an_Disk__settled cd_Disk__settled ct_Disk__settled), sl_Disk__settled⟩)
    (c_Disk__settled : PySem.W.codeIn K cd_Disk__settled "Disk._settled" = true)
    (k_Disk__settled : PySem.W.keepIn K (.ref a_Disk__settled) = true)
    {a_Disk__put : Addr}
    {od_Disk__put an_Disk__put : Option Addr} {sl_Disk__put : Array (Option Value)} {oc_Disk__put kV_Disk__put dc_Disk__put pm_Disk__put cd_Disk__put ct_Disk__put : Value}
    (l_Disk__put : K.lookup a_Disk__put = some ⟨oc_Disk__put, od_Disk__put, .func (PySem.W.fnOf "_put" "Disk._put" (defArgs s_Disk__put) (defBody s_Disk__put) (defScope s_Disk__put) .none kV_Disk__put dc_Disk__put pm_Disk__put an_Disk__put cd_Disk__put ct_Disk__put), sl_Disk__put⟩)
    (c_Disk__put : PySem.W.codeIn K cd_Disk__put "Disk._put" = true)
    (k_Disk__put : PySem.W.keepIn K (.ref a_Disk__put) = true)
    {a_Disk_quiet : Addr}
    {od_Disk_quiet an_Disk_quiet : Option Addr} {sl_Disk_quiet : Array (Option Value)} {oc_Disk_quiet kV_Disk_quiet dc_Disk_quiet pm_Disk_quiet cd_Disk_quiet ct_Disk_quiet : Value}
    (l_Disk_quiet : K.lookup a_Disk_quiet = some ⟨oc_Disk_quiet, od_Disk_quiet, .func (PySem.W.fnOf "quiet" "Disk.quiet" (defArgs s_Disk_quiet) (defBody s_Disk_quiet) (defScope s_Disk_quiet) .none kV_Disk_quiet dc_Disk_quiet pm_Disk_quiet an_Disk_quiet cd_Disk_quiet ct_Disk_quiet), sl_Disk_quiet⟩)
    (c_Disk_quiet : PySem.W.codeIn K cd_Disk_quiet "Disk.quiet" = true)
    (k_Disk_quiet : PySem.W.keepIn K (.ref a_Disk_quiet) = true)
    {aC_Plan : Addr}
    (g_Plan : PySem.W.nsIn K mainGlobals "Plan" = some (some (.ref aC_Plan)))
    (pg_Plan : PySem.W.plainGet K aC_Plan Str.empty = true)
    (hd_Plan : PySem.W.hasDictIn K aC_Plan = true)
    (po_Plan : PySem.W.plainOver K aC_Plan = true)
    (sa_Plan : PySem.W.findIn K (.ref aC_Plan) "__setattr__" = some (some (.builtin "object.__setattr__")))
    (n_Plan_blocks : PySem.W.findIn K (.ref aC_Plan) "blocks" = some none)
    (n_Plan_nodes : PySem.W.findIn K (.ref aC_Plan) "nodes" = some none)
    (n_Plan_slots : PySem.W.findIn K (.ref aC_Plan) "slots" = some none)
    (n_Plan_maps : PySem.W.findIn K (.ref aC_Plan) "maps" = some none)
    (n_Plan_first_node : PySem.W.findIn K (.ref aC_Plan) "first_node" = some none)
    (n_Plan_first_data : PySem.W.findIn K (.ref aC_Plan) "first_data" = some none)
    (mk1_Plan : PySem.W.makesIn K aC_Plan = true)
    (mk2_Plan : PySem.W.findIn K (.ref aC_Plan) "__init__" = some (some (.ref a_Plan___init__)))
    (mk3_Plan : PySem.W.isFn K (.ref a_Plan___init__) = true)
    (mk4_Plan : PySem.W.keepIn K (.ref aC_Plan) = true)
    {mcv_Plan : Value}
    (tp_Plan : PySem.W.typeIn K (.ref aC_Plan) = some mcv_Plan)
    (rd_Plan : PySem.W.readsIn K aC_Plan mcv_Plan = true)
    (ga_Plan : PySem.W.specialIn K (.ref aC_Plan) "__getattribute__" = some (some (.builtin "type.__getattribute__")))
    {tv_Plan_WIDTH : Tok}
    (v_Plan_WIDTH : PySem.W.findCls K (.ref aC_Plan) mcv_Plan "WIDTH" = some (.val (.int 8 tv_Plan_WIDTH)))
    {tc_Plan_WIDTH : Tok}
    (o_Plan_WIDTH : PySem.W.findIn K (.ref aC_Plan) "WIDTH" = some (some (.int 8 tc_Plan_WIDTH)))
    (og_Plan_WIDTH : PySem.W.specialIn K (.int 8 tc_Plan_WIDTH) "__get__" = some none)
    {aC_Disk : Addr}
    (g_Disk : PySem.W.nsIn K mainGlobals "Disk" = some (some (.ref aC_Disk)))
    (pg_Disk : PySem.W.plainGet K aC_Disk Str.empty = true)
    (hd_Disk : PySem.W.hasDictIn K aC_Disk = true)
    (po_Disk : PySem.W.plainOver K aC_Disk = true)
    (sa_Disk : PySem.W.findIn K (.ref aC_Disk) "__setattr__" = some (some (.builtin "object.__setattr__")))
    (n_Disk_plan : PySem.W.findIn K (.ref aC_Disk) "plan" = some none)
    (n_Disk_home : PySem.W.findIn K (.ref aC_Disk) "home" = some none)
    (n_Disk_log : PySem.W.findIn K (.ref aC_Disk) "log" = some none)
    (n_Disk_head : PySem.W.findIn K (.ref aC_Disk) "head" = some none)
    (n_Disk_last : PySem.W.findIn K (.ref aC_Disk) "last" = some none)
    (n_Disk__pending : PySem.W.findIn K (.ref aC_Disk) "_pending" = some none)
    (mk1_Disk : PySem.W.makesIn K aC_Disk = true)
    (mk2_Disk : PySem.W.findIn K (.ref aC_Disk) "__init__" = some (some (.ref a_Disk___init__)))
    (mk3_Disk : PySem.W.isFn K (.ref a_Disk___init__) = true)
    (mk4_Disk : PySem.W.keepIn K (.ref aC_Disk) = true)
    (m1_Plan_text : PySem.W.findIn K (.ref aC_Plan) "text" = some (some (.ref a_Plan_text)))
    (m2_Plan_text : PySem.W.isFn K (.ref a_Plan_text) = true)
    (m1_Disk_issue : PySem.W.findIn K (.ref aC_Disk) "issue" = some (some (.ref a_Disk_issue)))
    (m2_Disk_issue : PySem.W.isFn K (.ref a_Disk_issue) = true)
    (m1_Disk_busy : PySem.W.findIn K (.ref aC_Disk) "busy" = some (some (.ref a_Disk_busy)))
    (m2_Disk_busy : PySem.W.isFn K (.ref a_Disk_busy) = true)
    (m1_Disk_pending : PySem.W.findIn K (.ref aC_Disk) "pending" = some (some (.ref a_Disk_pending)))
    (m2_Disk_pending : PySem.W.isFn K (.ref a_Disk_pending) = true)
    (m1_Disk_sure : PySem.W.findIn K (.ref aC_Disk) "sure" = some (some (.ref a_Disk_sure)))
    (m2_Disk_sure : PySem.W.isFn K (.ref a_Disk_sure) = true)
    (m1_Disk_barrier : PySem.W.findIn K (.ref aC_Disk) "barrier" = some (some (.ref a_Disk_barrier)))
    (m2_Disk_barrier : PySem.W.isFn K (.ref a_Disk_barrier) = true)
    (m1_Disk_move_head : PySem.W.findIn K (.ref aC_Disk) "move_head" = some (some (.ref a_Disk_move_head)))
    (m2_Disk_move_head : PySem.W.isFn K (.ref a_Disk_move_head) = true)
    (m1_Disk_cut : PySem.W.findIn K (.ref aC_Disk) "cut" = some (some (.ref a_Disk_cut)))
    (m2_Disk_cut : PySem.W.isFn K (.ref a_Disk_cut) = true)
    (m1_Disk__settled : PySem.W.findIn K (.ref aC_Disk) "_settled" = some (some (.ref a_Disk__settled)))
    (m2_Disk__settled : PySem.W.isFn K (.ref a_Disk__settled) = true)
    (m1_Disk__put : PySem.W.findIn K (.ref aC_Disk) "_put" = some (some (.ref a_Disk__put)))
    (m2_Disk__put : PySem.W.isFn K (.ref a_Disk__put) = true)
    {pp_Disk_quiet : Addr} {pt_Disk_quiet : List Value}
    (s1_Disk_quiet : PySem.W.findIn K (.ref aC_Disk) "quiet" = some (some (.ref pp_Disk_quiet)))
    (sq_Disk_quiet : PySem.W.specialIn K (.ref pp_Disk_quiet) "__get__" = some (some (.builtin "property.__get__")))
    (sv_Disk_quiet : PySem.W.takesIn K (.ref pp_Disk_quiet) = some true)
    (s2_Disk_quiet : PySem.W.recIn K pp_Disk_quiet "property" = some (.ref a_Disk_quiet :: pt_Disk_quiet))
    {aC_StoreError : Addr}
    (g_StoreError : PySem.W.nsIn K mainGlobals "StoreError" = some (some (.ref aC_StoreError)))
    (be1_StoreError : PySem.W.subIn K (.ref aC_StoreError) (.type "BaseException") = some true)
    (te1_StoreError : PySem.W.typeIn K (.ref aC_StoreError) = some (.type "type"))
    (ie1_StoreError : PySem.W.isClsIn K aC_StoreError = true)
    {aC_BadValue : Addr}
    (g_BadValue : PySem.W.nsIn K mainGlobals "BadValue" = some (some (.ref aC_BadValue)))
    (be1_BadValue : PySem.W.subIn K (.ref aC_BadValue) (.type "BaseException") = some true)
    (te1_BadValue : PySem.W.typeIn K (.ref aC_BadValue) = some (.type "type"))
    (ie1_BadValue : PySem.W.isClsIn K aC_BadValue = true)
    (xe1_BadValue : PySem.W.excIn K aC_BadValue [.type "ValueError", .type "Exception", .type "BaseException", .type "object"] "ValueError.__new__" = true)
    (ke1_BadValue : PySem.W.keepIn K (.ref aC_BadValue) = true)
    (ec1_BadValue : PySem.W.findIn K (.ref aC_BadValue) "__getattribute__" = some (some (.builtin "BaseException.__getattribute__")))
    (ec2_BadValue : PySem.W.findIn K (.ref aC_BadValue) "__getattr__" = some none)
    (ec4_BadValue : PySem.W.hasDictIn K aC_BadValue = true)
    (ec5_BadValue : PySem.W.findIn K (.ref aC_BadValue) "__class__" = some (some (.builtin "object.__class__")))
    (ec6_BadValue : PySem.W.specialIn K (.builtin "object.__class__") "__get__" = some (some (.builtin "getset_descriptor.__get__")))
    (ec7_BadValue : PySem.W.takesIn K (.builtin "object.__class__") = some true)
    (ec8_BadValue : PySem.W.mroIn K aC_BadValue (.type "object") = some true)
    {aC_Refused : Addr}
    (g_Refused : PySem.W.nsIn K mainGlobals "Refused" = some (some (.ref aC_Refused)))
    (be1_Refused : PySem.W.subIn K (.ref aC_Refused) (.type "BaseException") = some true)
    (te1_Refused : PySem.W.typeIn K (.ref aC_Refused) = some (.type "type"))
    (ie1_Refused : PySem.W.isClsIn K aC_Refused = true)
    {aC_NotNow : Addr}
    (g_NotNow : PySem.W.nsIn K mainGlobals "NotNow" = some (some (.ref aC_NotNow)))
    (be1_NotNow : PySem.W.subIn K (.ref aC_NotNow) (.type "BaseException") = some true)
    (te1_NotNow : PySem.W.typeIn K (.ref aC_NotNow) = some (.type "type"))
    (ie1_NotNow : PySem.W.isClsIn K aC_NotNow = true)
    {aC_PlaceBusy : Addr}
    (g_PlaceBusy : PySem.W.nsIn K mainGlobals "PlaceBusy" = some (some (.ref aC_PlaceBusy)))
    (be1_PlaceBusy : PySem.W.subIn K (.ref aC_PlaceBusy) (.type "BaseException") = some true)
    (te1_PlaceBusy : PySem.W.typeIn K (.ref aC_PlaceBusy) = some (.type "type"))
    (ie1_PlaceBusy : PySem.W.isClsIn K aC_PlaceBusy = true)
    (xe1_PlaceBusy : PySem.W.excIn K aC_PlaceBusy [.type "ValueError", .type "Exception", .type "BaseException", .type "object"] "ValueError.__new__" = true)
    (ke1_PlaceBusy : PySem.W.keepIn K (.ref aC_PlaceBusy) = true)
    (ec1_PlaceBusy : PySem.W.findIn K (.ref aC_PlaceBusy) "__getattribute__" = some (some (.builtin "BaseException.__getattribute__")))
    (ec2_PlaceBusy : PySem.W.findIn K (.ref aC_PlaceBusy) "__getattr__" = some none)
    (ec4_PlaceBusy : PySem.W.hasDictIn K aC_PlaceBusy = true)
    (ec5_PlaceBusy : PySem.W.findIn K (.ref aC_PlaceBusy) "__class__" = some (some (.builtin "object.__class__")))
    (ec6_PlaceBusy : PySem.W.specialIn K (.builtin "object.__class__") "__get__" = some (some (.builtin "getset_descriptor.__get__")))
    (ec7_PlaceBusy : PySem.W.takesIn K (.builtin "object.__class__") = some true)
    (ec8_PlaceBusy : PySem.W.mroIn K aC_PlaceBusy (.type "object") = some true)
    {aC_NoWrite : Addr}
    (g_NoWrite : PySem.W.nsIn K mainGlobals "NoWrite" = some (some (.ref aC_NoWrite)))
    (be1_NoWrite : PySem.W.subIn K (.ref aC_NoWrite) (.type "BaseException") = some true)
    (te1_NoWrite : PySem.W.typeIn K (.ref aC_NoWrite) = some (.type "type"))
    (ie1_NoWrite : PySem.W.isClsIn K aC_NoWrite = true)
    (xe1_NoWrite : PySem.W.excIn K aC_NoWrite [.type "ValueError", .type "Exception", .type "BaseException", .type "object"] "ValueError.__new__" = true)
    (ke1_NoWrite : PySem.W.keepIn K (.ref aC_NoWrite) = true)
    (ec1_NoWrite : PySem.W.findIn K (.ref aC_NoWrite) "__getattribute__" = some (some (.builtin "BaseException.__getattribute__")))
    (ec2_NoWrite : PySem.W.findIn K (.ref aC_NoWrite) "__getattr__" = some none)
    (ec4_NoWrite : PySem.W.hasDictIn K aC_NoWrite = true)
    (ec5_NoWrite : PySem.W.findIn K (.ref aC_NoWrite) "__class__" = some (some (.builtin "object.__class__")))
    (ec6_NoWrite : PySem.W.specialIn K (.builtin "object.__class__") "__get__" = some (some (.builtin "getset_descriptor.__get__")))
    (ec7_NoWrite : PySem.W.takesIn K (.builtin "object.__class__") = some true)
    (ec8_NoWrite : PySem.W.mroIn K aC_NoWrite (.type "object") = some true)
    (sb_BadValue_StoreError : PySem.W.subIn K (.ref aC_BadValue) (.ref aC_StoreError) = some true)
    (sb_BadValue_BadValue : PySem.W.subIn K (.ref aC_BadValue) (.ref aC_BadValue) = some true)
    (sb_BadValue_Refused : PySem.W.subIn K (.ref aC_BadValue) (.ref aC_Refused) = some false)
    (sb_BadValue_NotNow : PySem.W.subIn K (.ref aC_BadValue) (.ref aC_NotNow) = some false)
    (sb_BadValue_PlaceBusy : PySem.W.subIn K (.ref aC_BadValue) (.ref aC_PlaceBusy) = some false)
    (sb_BadValue_NoWrite : PySem.W.subIn K (.ref aC_BadValue) (.ref aC_NoWrite) = some false)
    (sb_PlaceBusy_StoreError : PySem.W.subIn K (.ref aC_PlaceBusy) (.ref aC_StoreError) = some true)
    (sb_PlaceBusy_BadValue : PySem.W.subIn K (.ref aC_PlaceBusy) (.ref aC_BadValue) = some false)
    (sb_PlaceBusy_Refused : PySem.W.subIn K (.ref aC_PlaceBusy) (.ref aC_Refused) = some false)
    (sb_PlaceBusy_NotNow : PySem.W.subIn K (.ref aC_PlaceBusy) (.ref aC_NotNow) = some true)
    (sb_PlaceBusy_PlaceBusy : PySem.W.subIn K (.ref aC_PlaceBusy) (.ref aC_PlaceBusy) = some true)
    (sb_PlaceBusy_NoWrite : PySem.W.subIn K (.ref aC_PlaceBusy) (.ref aC_NoWrite) = some false)
    (sb_NoWrite_StoreError : PySem.W.subIn K (.ref aC_NoWrite) (.ref aC_StoreError) = some true)
    (sb_NoWrite_BadValue : PySem.W.subIn K (.ref aC_NoWrite) (.ref aC_BadValue) = some false)
    (sb_NoWrite_Refused : PySem.W.subIn K (.ref aC_NoWrite) (.ref aC_Refused) = some false)
    (sb_NoWrite_NotNow : PySem.W.subIn K (.ref aC_NoWrite) (.ref aC_NotNow) = some true)
    (sb_NoWrite_PlaceBusy : PySem.W.subIn K (.ref aC_NoWrite) (.ref aC_PlaceBusy) = some false)
    (sb_NoWrite_NoWrite : PySem.W.subIn K (.ref aC_NoWrite) (.ref aC_NoWrite) = some true)
    (bs_BadValue_ValueError : PySem.W.subIn K (.ref aC_BadValue) (.type "ValueError") = some true)
    (bs_PlaceBusy_ValueError : PySem.W.subIn K (.ref aC_PlaceBusy) (.type "ValueError") = some true)
    (bs_NoWrite_ValueError : PySem.W.subIn K (.ref aC_NoWrite) (.type "ValueError") = some true)
    {t_LEAST_BLOCKS : Tok}
    (gc_LEAST_BLOCKS : PySem.W.nsIn K mainGlobals "LEAST_BLOCKS" = some (some (.int 8 t_LEAST_BLOCKS)))
    {t_MOST_BLOCKS : Tok}
    (gc_MOST_BLOCKS : PySem.W.nsIn K mainGlobals "MOST_BLOCKS" = some (some (.int 64 t_MOST_BLOCKS)))
    {t_LEAST_NODES : Tok}
    (gc_LEAST_NODES : PySem.W.nsIn K mainGlobals "LEAST_NODES" = some (some (.int 2 t_LEAST_NODES)))
    {t_MOST_NODES : Tok}
    (gc_MOST_NODES : PySem.W.nsIn K mainGlobals "MOST_NODES" = some (some (.int 16 t_MOST_NODES)))
    {t_MOST_SLOTS : Tok}
    (gc_MOST_SLOTS : PySem.W.nsIn K mainGlobals "MOST_SLOTS" = some (some (.int 200 t_MOST_SLOTS)))
    {t_LEAST_DATA : Tok}
    (gc_LEAST_DATA : PySem.W.nsIn K mainGlobals "LEAST_DATA" = some (some (.int 2 t_LEAST_DATA)))
    {t_FIRST_MAP : Tok}
    (gc_FIRST_MAP : PySem.W.nsIn K mainGlobals "FIRST_MAP" = some (some (.int 2 t_FIRST_MAP)))
    {t_CELL_MOST : Tok}
    (gc_CELL_MOST : PySem.W.nsIn K mainGlobals "CELL_MOST" = some (some (.int 999999999 t_CELL_MOST)))
    {t_BLOCK_MOST : Tok}
    (gc_BLOCK_MOST : PySem.W.nsIn K mainGlobals "BLOCK_MOST" = some (some (.int 63 t_BLOCK_MOST)))
    {t_MOST_LOT : Tok}
    (gc_MOST_LOT : PySem.W.nsIn K mainGlobals "MOST_LOT" = some (some (.int 999999 t_MOST_LOT)))
    {t_MOST_SLOT : Tok}
    (gc_MOST_SLOT : PySem.W.nsIn K mainGlobals "MOST_SLOT" = some (some (.int 199 t_MOST_SLOT)))
    {t_MOST_HEAD : Tok}
    (gc_MOST_HEAD : PySem.W.nsIn K mainGlobals "MOST_HEAD" = some (some (.int 999999 t_MOST_HEAD)))
    {t_NO_SLOT : Tok}
    (gc_NO_SLOT : PySem.W.nsIn K mainGlobals "NO_SLOT" = some (some (.int (-1) t_NO_SLOT)))
    {oE_Disk_cut : Option Addr} {nE_Disk_cut : Nat} {sE_Disk_cut : Array (Option Value)}
    (lE_Disk_cut : K.lookup aE_Disk_cut = some ⟨.type "tuple", oE_Disk_cut, .seq #[] nE_Disk_cut, sE_Disk_cut⟩)
    (nb_ValueError : PySem.W.nsIn K mainGlobals "ValueError" = some none)
    (nb_abs : PySem.W.nsIn K mainGlobals "abs" = some none)
    (nb_all : PySem.W.nsIn K mainGlobals "all" = some none)
    (nb_any : PySem.W.nsIn K mainGlobals "any" = some none)
    (nb_bool : PySem.W.nsIn K mainGlobals "bool" = some none)
    (nb_enumerate : PySem.W.nsIn K mainGlobals "enumerate" = some none)
    (nb_int : PySem.W.nsIn K mainGlobals "int" = some none)
    (nb_isinstance : PySem.W.nsIn K mainGlobals "isinstance" = some none)
    (nb_len : PySem.W.nsIn K mainGlobals "len" = some none)
    (nb_list : PySem.W.nsIn K mainGlobals "list" = some none)
    (nb_range : PySem.W.nsIn K mainGlobals "range" = some none)
    (nb_reversed : PySem.W.nsIn K mainGlobals "reversed" = some none)
    (nb_str : PySem.W.nsIn K mainGlobals "str" = some none)
    (nb_tuple : PySem.W.nsIn K mainGlobals "tuple" = some none)
    (nb_zip : PySem.W.nsIn K mainGlobals "zip" = some none)
    : Nonempty (Tx K mg) := ⟨{
      f_is_number := a_is_number,
      fd_is_number := PySem.W.fnOf "is_number" "is_number" (defArgs s_is_number) (defBody s_is_number) (defScope s_is_number) .none kV_is_number dc_is_number pm_is_number an_is_number cd_is_number ct_is_number,
      F_is_number := fun_mk (st := s_is_number) l_is_number c_is_number k_is_number,
      mg_is_number := PySem.W.mg_of X G g_is_number,
      f_is_cell := a_is_cell,
      fd_is_cell := PySem.W.fnOf "is_cell" "is_cell" (defArgs s_is_cell) (defBody s_is_cell) (defScope s_is_cell) .none kV_is_cell dc_is_cell pm_is_cell an_is_cell cd_is_cell ct_is_cell,
      F_is_cell := fun_mk (st := s_is_cell) l_is_cell c_is_cell k_is_cell,
      mg_is_cell := PySem.W.mg_of X G g_is_cell,
      f_is_block := a_is_block,
      fd_is_block := PySem.W.fnOf "is_block" "is_block" (defArgs s_is_block) (defBody s_is_block) (defScope s_is_block) .none kV_is_block dc_is_block pm_is_block an_is_block cd_is_block ct_is_block,
      F_is_block := fun_mk (st := s_is_block) l_is_block c_is_block k_is_block,
      mg_is_block := PySem.W.mg_of X G g_is_block,
      f_is_cell_row := a_is_cell_row,
      fd_is_cell_row := PySem.W.fnOf "is_cell_row" "is_cell_row" (defArgs s_is_cell_row) (defBody s_is_cell_row) (defScope s_is_cell_row) .none kV_is_cell_row dc_is_cell_row pm_is_cell_row an_is_cell_row cd_is_cell_row ct_is_cell_row,
      F_is_cell_row := fun_mk (st := s_is_cell_row) l_is_cell_row c_is_cell_row k_is_cell_row,
      mg_is_cell_row := PySem.W.mg_of X G g_is_cell_row,
      cc_is_cell_row := ac_is_cell_row,
      P_is_cell_row := He.tabOf K ac_is_cell_row,
      code_is_cell_row := cc1_is_cell_row,
      ch_is_cell_row := ch1_is_cell_row,
      cn_is_cell_row := cn1_is_cell_row,
      f_is_ascending := a_is_ascending,
      fd_is_ascending := PySem.W.fnOf "is_ascending" "is_ascending" (defArgs s_is_ascending) (defBody s_is_ascending) (defScope s_is_ascending) .none kV_is_ascending dc_is_ascending pm_is_ascending an_is_ascending cd_is_ascending ct_is_ascending,
      F_is_ascending := fun_mk (st := s_is_ascending) l_is_ascending c_is_ascending k_is_ascending,
      mg_is_ascending := PySem.W.mg_of X G g_is_ascending,
      cc_is_ascending := ac_is_ascending,
      P_is_ascending := He.tabOf K ac_is_ascending,
      code_is_ascending := cc1_is_ascending,
      ch_is_ascending := ch1_is_ascending,
      cn_is_ascending := cn1_is_ascending,
      f_is_pair := a_is_pair,
      fd_is_pair := PySem.W.fnOf "_is_pair" "_is_pair" (defArgs s_is_pair) (defBody s_is_pair) (defScope s_is_pair) .none kV_is_pair dc_is_pair pm_is_pair an_is_pair cd_is_pair ct_is_pair,
      F_is_pair := fun_mk (st := s_is_pair) l_is_pair c_is_pair k_is_pair,
      mg_is_pair := PySem.W.mg_of X G g_is_pair,
      f_are_pairs := a_are_pairs,
      fd_are_pairs := PySem.W.fnOf "_are_pairs" "_are_pairs" (defArgs s_are_pairs) (defBody s_are_pairs) (defScope s_are_pairs) .none kV_are_pairs dc_are_pairs pm_are_pairs an_are_pairs cd_are_pairs ct_are_pairs,
      F_are_pairs := fun_mk (st := s_are_pairs) l_are_pairs c_are_pairs k_are_pairs,
      mg_are_pairs := PySem.W.mg_of X G g_are_pairs,
      cc_are_pairs := ac_are_pairs,
      P_are_pairs := He.tabOf K ac_are_pairs,
      code_are_pairs := cc1_are_pairs,
      ch_are_pairs := ch1_are_pairs,
      cn_are_pairs := cn1_are_pairs,
      f_are_revokes := a_are_revokes,
      fd_are_revokes := PySem.W.fnOf "_are_revokes" "_are_revokes" (defArgs s_are_revokes) (defBody s_are_revokes) (defScope s_are_revokes) .none kV_are_revokes dc_are_revokes pm_are_revokes an_are_revokes cd_are_revokes ct_are_revokes,
      F_are_revokes := fun_mk (st := s_are_revokes) l_are_revokes c_are_revokes k_are_revokes,
      mg_are_revokes := PySem.W.mg_of X G g_are_revokes,
      cc_are_revokes := ac_are_revokes,
      P_are_revokes := He.tabOf K ac_are_revokes,
      code_are_revokes := cc1_are_revokes,
      ch_are_revokes := ch1_are_revokes,
      cn_are_revokes := cn1_are_revokes,
      f_is_record := a_is_record,
      fd_is_record := PySem.W.fnOf "is_record" "is_record" (defArgs s_is_record) (defBody s_is_record) (defScope s_is_record) .none kV_is_record dc_is_record pm_is_record an_is_record cd_is_record ct_is_record,
      F_is_record := fun_mk (st := s_is_record) l_is_record c_is_record k_is_record,
      mg_is_record := PySem.W.mg_of X G g_is_record,
      f_fits_plan := a_fits_plan,
      fd_fits_plan := PySem.W.fnOf "fits_plan" "fits_plan" (defArgs s_fits_plan) (defBody s_fits_plan) (defScope s_fits_plan) .none kV_fits_plan dc_fits_plan pm_fits_plan an_fits_plan cd_fits_plan ct_fits_plan,
      F_fits_plan := fun_mk (st := s_fits_plan) l_fits_plan c_fits_plan k_fits_plan,
      mg_fits_plan := PySem.W.mg_of X G g_fits_plan,
      cc_fits_plan := ac_fits_plan,
      P_fits_plan := He.tabOf K ac_fits_plan,
      code_fits_plan := cc1_fits_plan,
      ch_fits_plan := ch1_fits_plan,
      cn_fits_plan := cn1_fits_plan,
      f_is_place := a_is_place,
      fd_is_place := PySem.W.fnOf "_is_place" "_is_place" (defArgs s_is_place) (defBody s_is_place) (defScope s_is_place) .none kV_is_place dc_is_place pm_is_place an_is_place cd_is_place ct_is_place,
      F_is_place := fun_mk (st := s_is_place) l_is_place c_is_place k_is_place,
      mg_is_place := PySem.W.mg_of X G g_is_place,
      f_is_content := a_is_content,
      fd_is_content := PySem.W.fnOf "_is_content" "_is_content" (defArgs s_is_content) (defBody s_is_content) (defScope s_is_content) .none kV_is_content dc_is_content pm_is_content an_is_content cd_is_content ct_is_content,
      F_is_content := fun_mk (st := s_is_content) l_is_content c_is_content k_is_content,
      mg_is_content := PySem.W.mg_of X G g_is_content,
      f_Lfeed := a_Lfeed,
      fd_Lfeed := PySem.W.fnOf "_law_feed" "_law_feed" (defArgs s_Lfeed) (defBody s_Lfeed) (defScope s_Lfeed) .none kV_Lfeed dc_Lfeed pm_Lfeed an_Lfeed cd_Lfeed ct_Lfeed,
      F_Lfeed := fun_mk (st := s_Lfeed) l_Lfeed c_Lfeed k_Lfeed,
      mg_Lfeed := PySem.W.mg_of X G g_Lfeed,
      f_Lpick := a_Lpick,
      fd_Lpick := PySem.W.fnOf "_law_pick" "_law_pick" (defArgs s_Lpick) (defBody s_Lpick) (defScope s_Lpick) .none kV_Lpick dc_Lpick pm_Lpick an_Lpick cd_Lpick ct_Lpick,
      F_Lpick := fun_mk (st := s_Lpick) l_Lpick c_Lpick k_Lpick,
      mg_Lpick := PySem.W.mg_of X G g_Lpick,
      f_Lsame := a_Lsame,
      fd_Lsame := PySem.W.fnOf "_law_same" "_law_same" (defArgs s_Lsame) (defBody s_Lsame) (defScope s_Lsame) .none kV_Lsame dc_Lsame pm_Lsame an_Lsame cd_Lsame ct_Lsame,
      F_Lsame := fun_mk (st := s_Lsame) l_Lsame c_Lsame k_Lsame,
      mg_Lsame := PySem.W.mg_of X G g_Lsame,
      f_Lstart := a_Lstart,
      fd_Lstart := PySem.W.fnOf "_law_start" "_law_start" (defArgs s_Lstart) (defBody s_Lstart) (defScope s_Lstart) .none kV_Lstart dc_Lstart pm_Lstart an_Lstart cd_Lstart ct_Lstart,
      F_Lstart := fun_mk (st := s_Lstart) l_Lstart c_Lstart k_Lstart,
      mg_Lstart := PySem.W.mg_of X G g_Lstart,
      f_Lagrees := a_Lagrees,
      fd_Lagrees := PySem.W.fnOf "_law_agrees" "_law_agrees" (defArgs s_Lagrees) (defBody s_Lagrees) (defScope s_Lagrees) .none kV_Lagrees dc_Lagrees pm_Lagrees an_Lagrees cd_Lagrees ct_Lagrees,
      F_Lagrees := fun_mk (st := s_Lagrees) l_Lagrees c_Lagrees k_Lagrees,
      mg_Lagrees := PySem.W.mg_of X G g_Lagrees,
      f_Lput := a_Lput,
      fd_Lput := PySem.W.fnOf "_law_put" "_law_put" (defArgs s_Lput) (defBody s_Lput) (defScope s_Lput) .none kV_Lput dc_Lput pm_Lput an_Lput cd_Lput ct_Lput,
      F_Lput := fun_mk (st := s_Lput) l_Lput c_Lput k_Lput,
      mg_Lput := PySem.W.mg_of X G g_Lput,
      f_Lplace := a_Lplace,
      fd_Lplace := PySem.W.fnOf "_law_place" "_law_place" (defArgs s_Lplace) (defBody s_Lplace) (defScope s_Lplace) .none kV_Lplace dc_Lplace pm_Lplace an_Lplace cd_Lplace ct_Lplace,
      F_Lplace := fun_mk (st := s_Lplace) l_Lplace c_Lplace k_Lplace,
      mg_Lplace := PySem.W.mg_of X G g_Lplace,
      f_Lcells := a_Lcells,
      fd_Lcells := PySem.W.fnOf "_law_cells" "_law_cells" (defArgs s_Lcells) (defBody s_Lcells) (defScope s_Lcells) .none kV_Lcells dc_Lcells pm_Lcells an_Lcells cd_Lcells ct_Lcells,
      F_Lcells := fun_mk (st := s_Lcells) l_Lcells c_Lcells k_Lcells,
      mg_Lcells := PySem.W.mg_of X G g_Lcells,
      f_Lrecord := a_Lrecord,
      fd_Lrecord := PySem.W.fnOf "_law_record" "_law_record" (defArgs s_Lrecord) (defBody s_Lrecord) (defScope s_Lrecord) .none kV_Lrecord dc_Lrecord pm_Lrecord an_Lrecord cd_Lrecord ct_Lrecord,
      F_Lrecord := fun_mk (st := s_Lrecord) l_Lrecord c_Lrecord k_Lrecord,
      mg_Lrecord := PySem.W.mg_of X G g_Lrecord,
      f_Lbusy := a_Lbusy,
      fd_Lbusy := PySem.W.fnOf "_law_busy" "_law_busy" (defArgs s_Lbusy) (defBody s_Lbusy) (defScope s_Lbusy) .none kV_Lbusy dc_Lbusy pm_Lbusy an_Lbusy cd_Lbusy ct_Lbusy,
      F_Lbusy := fun_mk (st := s_Lbusy) l_Lbusy c_Lbusy k_Lbusy,
      mg_Lbusy := PySem.W.mg_of X G g_Lbusy,
      f_Lbad_issue := a_Lbad_issue,
      fd_Lbad_issue := PySem.W.fnOf "_law_bad_issue" "_law_bad_issue" (defArgs s_Lbad_issue) (defBody s_Lbad_issue) (defScope s_Lbad_issue) .none kV_Lbad_issue dc_Lbad_issue pm_Lbad_issue an_Lbad_issue cd_Lbad_issue ct_Lbad_issue,
      F_Lbad_issue := fun_mk (st := s_Lbad_issue) l_Lbad_issue c_Lbad_issue k_Lbad_issue,
      mg_Lbad_issue := PySem.W.mg_of X G g_Lbad_issue,
      f_Lbad_head := a_Lbad_head,
      fd_Lbad_head := PySem.W.fnOf "_law_bad_head" "_law_bad_head" (defArgs s_Lbad_head) (defBody s_Lbad_head) (defScope s_Lbad_head) .none kV_Lbad_head dc_Lbad_head pm_Lbad_head an_Lbad_head cd_Lbad_head ct_Lbad_head,
      F_Lbad_head := fun_mk (st := s_Lbad_head) l_Lbad_head c_Lbad_head k_Lbad_head,
      mg_Lbad_head := PySem.W.mg_of X G g_Lbad_head,
      f_Lno_write := a_Lno_write,
      fd_Lno_write := PySem.W.fnOf "_law_no_write" "_law_no_write" (defArgs s_Lno_write) (defBody s_Lno_write) (defScope s_Lno_write) .none kV_Lno_write dc_Lno_write pm_Lno_write an_Lno_write cd_Lno_write ct_Lno_write,
      F_Lno_write := fun_mk (st := s_Lno_write) l_Lno_write c_Lno_write k_Lno_write,
      mg_Lno_write := PySem.W.mg_of X G g_Lno_write,
      f_Lno_cut := a_Lno_cut,
      fd_Lno_cut := PySem.W.fnOf "_law_no_cut" "_law_no_cut" (defArgs s_Lno_cut) (defBody s_Lno_cut) (defScope s_Lno_cut) .none kV_Lno_cut dc_Lno_cut pm_Lno_cut an_Lno_cut cd_Lno_cut ct_Lno_cut,
      F_Lno_cut := fun_mk (st := s_Lno_cut) l_Lno_cut c_Lno_cut k_Lno_cut,
      mg_Lno_cut := PySem.W.mg_of X G g_Lno_cut,
      f_Lissue := a_Lissue,
      fd_Lissue := PySem.W.fnOf "_law_issue" "_law_issue" (defArgs s_Lissue) (defBody s_Lissue) (defScope s_Lissue) .none kV_Lissue dc_Lissue pm_Lissue an_Lissue cd_Lissue ct_Lissue,
      F_Lissue := fun_mk (st := s_Lissue) l_Lissue c_Lissue k_Lissue,
      mg_Lissue := PySem.W.mg_of X G g_Lissue,
      f_Lsure := a_Lsure,
      fd_Lsure := PySem.W.fnOf "_law_sure" "_law_sure" (defArgs s_Lsure) (defBody s_Lsure) (defScope s_Lsure) .none kV_Lsure dc_Lsure pm_Lsure an_Lsure cd_Lsure ct_Lsure,
      F_Lsure := fun_mk (st := s_Lsure) l_Lsure c_Lsure k_Lsure,
      mg_Lsure := PySem.W.mg_of X G g_Lsure,
      f_Lbarrier := a_Lbarrier,
      fd_Lbarrier := PySem.W.fnOf "_law_barrier" "_law_barrier" (defArgs s_Lbarrier) (defBody s_Lbarrier) (defScope s_Lbarrier) .none kV_Lbarrier dc_Lbarrier pm_Lbarrier an_Lbarrier cd_Lbarrier ct_Lbarrier,
      F_Lbarrier := fun_mk (st := s_Lbarrier) l_Lbarrier c_Lbarrier k_Lbarrier,
      mg_Lbarrier := PySem.W.mg_of X G g_Lbarrier,
      f_Lhead := a_Lhead,
      fd_Lhead := PySem.W.fnOf "_law_head" "_law_head" (defArgs s_Lhead) (defBody s_Lhead) (defScope s_Lhead) .none kV_Lhead dc_Lhead pm_Lhead an_Lhead cd_Lhead ct_Lhead,
      F_Lhead := fun_mk (st := s_Lhead) l_Lhead c_Lhead k_Lhead,
      mg_Lhead := PySem.W.mg_of X G g_Lhead,
      f_Lbad := a_Lbad,
      fd_Lbad := PySem.W.fnOf "_law_bad" "_law_bad" (defArgs s_Lbad) (defBody s_Lbad) (defScope s_Lbad) .none kV_Lbad dc_Lbad pm_Lbad an_Lbad cd_Lbad ct_Lbad,
      F_Lbad := fun_mk (st := s_Lbad) l_Lbad c_Lbad k_Lbad,
      mg_Lbad := PySem.W.mg_of X G g_Lbad,
      f_Lcut := a_Lcut,
      fd_Lcut := PySem.W.fnOf "_law_cut" "_law_cut" (defArgs s_Lcut) (defBody s_Lcut) (defScope s_Lcut) .none kV_Lcut dc_Lcut pm_Lcut an_Lcut cd_Lcut ct_Lcut,
      F_Lcut := fun_mk (st := s_Lcut) l_Lcut c_Lcut k_Lcut,
      mg_Lcut := PySem.W.mg_of X G g_Lcut,
      f_law := a_law,
      fd_law := PySem.W.fnOf "law" "law" (defArgs s_law) (defBody s_law) (defScope s_law) .none kV_law dc_law pm_law an_law cd_law ct_law,
      F_law := fun_mk (st := s_law) l_law c_law k_law,
      mg_law := PySem.W.mg_of X G g_law,
      f_Plan___init__ := a_Plan___init__,
      fd_Plan___init__ := PySem.W.fnOf "__init__" "Plan.__init__" (defArgs s_Plan___init__) (defBody s_Plan___init__) (defScope s_Plan___init__) .none kV_Plan___init__ dc_Plan___init__ pm_Plan___init__ an_Plan___init__ cd_Plan___init__ ct_Plan___init__,
      F_Plan___init__ := fun_mk (st := s_Plan___init__) l_Plan___init__ c_Plan___init__ k_Plan___init__,
      f_Plan_text := a_Plan_text,
      fd_Plan_text := PySem.W.fnOf "text" "Plan.text" (defArgs s_Plan_text) (defBody s_Plan_text) (defScope s_Plan_text) .none kV_Plan_text dc_Plan_text pm_Plan_text an_Plan_text cd_Plan_text ct_Plan_text,
      F_Plan_text := fun_mk (st := s_Plan_text) l_Plan_text c_Plan_text k_Plan_text,
      f_Disk___init__ := a_Disk___init__,
      fd_Disk___init__ := PySem.W.fnOf "__init__" "Disk.__init__" (defArgs s_Disk___init__) (defBody s_Disk___init__) (defScope s_Disk___init__) .none kV_Disk___init__ dc_Disk___init__ pm_Disk___init__ an_Disk___init__ cd_Disk___init__ ct_Disk___init__,
      F_Disk___init__ := fun_mk (st := s_Disk___init__) l_Disk___init__ c_Disk___init__ k_Disk___init__,
      f_Disk_issue := a_Disk_issue,
      fd_Disk_issue := PySem.W.fnOf "issue" "Disk.issue" (defArgs s_Disk_issue) (defBody s_Disk_issue) (defScope s_Disk_issue) .none kV_Disk_issue dc_Disk_issue pm_Disk_issue an_Disk_issue cd_Disk_issue ct_Disk_issue,
      F_Disk_issue := fun_mk (st := s_Disk_issue) l_Disk_issue c_Disk_issue k_Disk_issue,
      f_Disk_busy := a_Disk_busy,
      fd_Disk_busy := PySem.W.fnOf "busy" "Disk.busy" (defArgs s_Disk_busy) (defBody s_Disk_busy) (defScope s_Disk_busy) .none kV_Disk_busy dc_Disk_busy pm_Disk_busy an_Disk_busy cd_Disk_busy ct_Disk_busy,
      F_Disk_busy := fun_mk (st := s_Disk_busy) l_Disk_busy c_Disk_busy k_Disk_busy,
      cc_Disk_busy := ac_Disk_busy,
      P_Disk_busy := He.tabOf K ac_Disk_busy,
      code_Disk_busy := cc1_Disk_busy,
      ch_Disk_busy := ch1_Disk_busy,
      cn_Disk_busy := cn1_Disk_busy,
      f_Disk_pending := a_Disk_pending,
      fd_Disk_pending := PySem.W.fnOf "pending" "Disk.pending" (defArgs s_Disk_pending) (defBody s_Disk_pending) (defScope s_Disk_pending) .none kV_Disk_pending dc_Disk_pending pm_Disk_pending an_Disk_pending cd_Disk_pending ct_Disk_pending,
      F_Disk_pending := fun_mk (st := s_Disk_pending) l_Disk_pending c_Disk_pending k_Disk_pending,
      f_Disk_sure := a_Disk_sure,
      fd_Disk_sure := PySem.W.fnOf "sure" "Disk.sure" (defArgs s_Disk_sure) (defBody s_Disk_sure) (defScope s_Disk_sure) .none kV_Disk_sure dc_Disk_sure pm_Disk_sure an_Disk_sure cd_Disk_sure ct_Disk_sure,
      F_Disk_sure := fun_mk (st := s_Disk_sure) l_Disk_sure c_Disk_sure k_Disk_sure,
      f_Disk_barrier := a_Disk_barrier,
      fd_Disk_barrier := PySem.W.fnOf "barrier" "Disk.barrier" (defArgs s_Disk_barrier) (defBody s_Disk_barrier) (defScope s_Disk_barrier) .none kV_Disk_barrier dc_Disk_barrier pm_Disk_barrier an_Disk_barrier cd_Disk_barrier ct_Disk_barrier,
      F_Disk_barrier := fun_mk (st := s_Disk_barrier) l_Disk_barrier c_Disk_barrier k_Disk_barrier,
      f_Disk_move_head := a_Disk_move_head,
      fd_Disk_move_head := PySem.W.fnOf "move_head" "Disk.move_head" (defArgs s_Disk_move_head) (defBody s_Disk_move_head) (defScope s_Disk_move_head) .none kV_Disk_move_head dc_Disk_move_head pm_Disk_move_head an_Disk_move_head cd_Disk_move_head ct_Disk_move_head,
      F_Disk_move_head := fun_mk (st := s_Disk_move_head) l_Disk_move_head c_Disk_move_head k_Disk_move_head,
      f_Disk_cut := a_Disk_cut,
      dv_Disk_cut := aE_Disk_cut,
      fd_Disk_cut := PySem.W.fnOf "cut" "Disk.cut" (defArgs s_Disk_cut) (defBody s_Disk_cut) (defScope s_Disk_cut) (.ref aT_Disk_cut) kV_Disk_cut dc_Disk_cut pm_Disk_cut an_Disk_cut cd_Disk_cut ct_Disk_cut,
      F_Disk_cut := ⟨⟨_, _, _, _, _, _, _, _, _, _, rfl, l_Disk_cut, c_Disk_cut, .inr ⟨by simp, _, _, [.ref aE_Disk_cut], _, rfl, ld_Disk_cut, rfl, .cons rfl .nil⟩, .inl rfl⟩, k_Disk_cut⟩,
      f_Disk__settled := a_Disk__settled,
      fd_Disk__settled := PySem.W.fnOf "_settled" "Disk._settled" (defArgs s_Disk__settled) (defBody s_Disk__settled) (defScope s_Disk__settled) .none kV_Disk__settled dc_Disk__settled pm_Disk__settled an_Disk__settled cd_Disk__settled ct_Disk__settled,
      F_Disk__settled := fun_mk (st := s_Disk__settled) l_Disk__settled c_Disk__settled k_Disk__settled,
      f_Disk__put := a_Disk__put,
      fd_Disk__put := PySem.W.fnOf "_put" "Disk._put" (defArgs s_Disk__put) (defBody s_Disk__put) (defScope s_Disk__put) .none kV_Disk__put dc_Disk__put pm_Disk__put an_Disk__put cd_Disk__put ct_Disk__put,
      F_Disk__put := fun_mk (st := s_Disk__put) l_Disk__put c_Disk__put k_Disk__put,
      f_Disk_quiet := a_Disk_quiet,
      fd_Disk_quiet := PySem.W.fnOf "quiet" "Disk.quiet" (defArgs s_Disk_quiet) (defBody s_Disk_quiet) (defScope s_Disk_quiet) .none kV_Disk_quiet dc_Disk_quiet pm_Disk_quiet an_Disk_quiet cd_Disk_quiet ct_Disk_quiet,
      F_Disk_quiet := fun_mk (st := s_Disk_quiet) l_Disk_quiet c_Disk_quiet k_Disk_quiet,
      C_Plan := aC_Plan,
      mg_Plan := PySem.W.mg_of X G g_Plan,
      cl_Plan := ⟨pg_Plan, hd_Plan, po_Plan, sa_Plan⟩,
      na_Plan_blocks := n_Plan_blocks,
      na_Plan_nodes := n_Plan_nodes,
      na_Plan_slots := n_Plan_slots,
      na_Plan_maps := n_Plan_maps,
      na_Plan_first_node := n_Plan_first_node,
      na_Plan_first_data := n_Plan_first_data,
      mk_Plan := ⟨mk1_Plan, mk2_Plan, mk3_Plan, mk4_Plan⟩,
      mc_Plan := mcv_Plan,
      cr_Plan := ⟨rd_Plan, ga_Plan⟩,
      cv_Plan_WIDTH := ⟨_, v_Plan_WIDTH, ⟨_, rfl⟩⟩,
      con_Plan_WIDTH := ⟨_, o_Plan_WIDTH, ⟨_, rfl⟩, og_Plan_WIDTH, by decide +kernel⟩,
      C_Disk := aC_Disk,
      mg_Disk := PySem.W.mg_of X G g_Disk,
      cl_Disk := ⟨pg_Disk, hd_Disk, po_Disk, sa_Disk⟩,
      na_Disk_plan := n_Disk_plan,
      na_Disk_home := n_Disk_home,
      na_Disk_log := n_Disk_log,
      na_Disk_head := n_Disk_head,
      na_Disk_last := n_Disk_last,
      na_Disk__pending := n_Disk__pending,
      mk_Disk := ⟨mk1_Disk, mk2_Disk, mk3_Disk, mk4_Disk⟩,
      m_Plan_text := ⟨m1_Plan_text, m2_Plan_text, k_Plan_text⟩,
      m_Disk_issue := ⟨m1_Disk_issue, m2_Disk_issue, k_Disk_issue⟩,
      m_Disk_busy := ⟨m1_Disk_busy, m2_Disk_busy, k_Disk_busy⟩,
      m_Disk_pending := ⟨m1_Disk_pending, m2_Disk_pending, k_Disk_pending⟩,
      m_Disk_sure := ⟨m1_Disk_sure, m2_Disk_sure, k_Disk_sure⟩,
      m_Disk_barrier := ⟨m1_Disk_barrier, m2_Disk_barrier, k_Disk_barrier⟩,
      m_Disk_move_head := ⟨m1_Disk_move_head, m2_Disk_move_head, k_Disk_move_head⟩,
      m_Disk_cut := ⟨m1_Disk_cut, m2_Disk_cut, k_Disk_cut⟩,
      m_Disk__settled := ⟨m1_Disk__settled, m2_Disk__settled, k_Disk__settled⟩,
      m_Disk__put := ⟨m1_Disk__put, m2_Disk__put, k_Disk__put⟩,
      pr_Disk_quiet := ⟨_, s1_Disk_quiet, sq_Disk_quiet, sv_Disk_quiet, ⟨_, s2_Disk_quiet⟩⟩,
      C_StoreError := aC_StoreError,
      mg_StoreError := PySem.W.mg_of X G g_StoreError,
      be_StoreError := be1_StoreError,
      te_StoreError := te1_StoreError,
      ie_StoreError := ie1_StoreError,
      C_BadValue := aC_BadValue,
      mg_BadValue := PySem.W.mg_of X G g_BadValue,
      be_BadValue := be1_BadValue,
      te_BadValue := te1_BadValue,
      ie_BadValue := ie1_BadValue,
      xe_BadValue := xe1_BadValue,
      ke_BadValue := ke1_BadValue,
      ec_BadValue := ⟨ec1_BadValue, ec2_BadValue, be1_BadValue, ec4_BadValue, ec5_BadValue, ec6_BadValue, ec7_BadValue, ec8_BadValue⟩,
      C_Refused := aC_Refused,
      mg_Refused := PySem.W.mg_of X G g_Refused,
      be_Refused := be1_Refused,
      te_Refused := te1_Refused,
      ie_Refused := ie1_Refused,
      C_NotNow := aC_NotNow,
      mg_NotNow := PySem.W.mg_of X G g_NotNow,
      be_NotNow := be1_NotNow,
      te_NotNow := te1_NotNow,
      ie_NotNow := ie1_NotNow,
      C_PlaceBusy := aC_PlaceBusy,
      mg_PlaceBusy := PySem.W.mg_of X G g_PlaceBusy,
      be_PlaceBusy := be1_PlaceBusy,
      te_PlaceBusy := te1_PlaceBusy,
      ie_PlaceBusy := ie1_PlaceBusy,
      xe_PlaceBusy := xe1_PlaceBusy,
      ke_PlaceBusy := ke1_PlaceBusy,
      ec_PlaceBusy := ⟨ec1_PlaceBusy, ec2_PlaceBusy, be1_PlaceBusy, ec4_PlaceBusy, ec5_PlaceBusy, ec6_PlaceBusy, ec7_PlaceBusy, ec8_PlaceBusy⟩,
      C_NoWrite := aC_NoWrite,
      mg_NoWrite := PySem.W.mg_of X G g_NoWrite,
      be_NoWrite := be1_NoWrite,
      te_NoWrite := te1_NoWrite,
      ie_NoWrite := ie1_NoWrite,
      xe_NoWrite := xe1_NoWrite,
      ke_NoWrite := ke1_NoWrite,
      ec_NoWrite := ⟨ec1_NoWrite, ec2_NoWrite, be1_NoWrite, ec4_NoWrite, ec5_NoWrite, ec6_NoWrite, ec7_NoWrite, ec8_NoWrite⟩,
      sub_BadValue_StoreError := sb_BadValue_StoreError,
      sub_BadValue_BadValue := sb_BadValue_BadValue,
      sub_BadValue_Refused := sb_BadValue_Refused,
      sub_BadValue_NotNow := sb_BadValue_NotNow,
      sub_BadValue_PlaceBusy := sb_BadValue_PlaceBusy,
      sub_BadValue_NoWrite := sb_BadValue_NoWrite,
      sub_PlaceBusy_StoreError := sb_PlaceBusy_StoreError,
      sub_PlaceBusy_BadValue := sb_PlaceBusy_BadValue,
      sub_PlaceBusy_Refused := sb_PlaceBusy_Refused,
      sub_PlaceBusy_NotNow := sb_PlaceBusy_NotNow,
      sub_PlaceBusy_PlaceBusy := sb_PlaceBusy_PlaceBusy,
      sub_PlaceBusy_NoWrite := sb_PlaceBusy_NoWrite,
      sub_NoWrite_StoreError := sb_NoWrite_StoreError,
      sub_NoWrite_BadValue := sb_NoWrite_BadValue,
      sub_NoWrite_Refused := sb_NoWrite_Refused,
      sub_NoWrite_NotNow := sb_NoWrite_NotNow,
      sub_NoWrite_PlaceBusy := sb_NoWrite_PlaceBusy,
      sub_NoWrite_NoWrite := sb_NoWrite_NoWrite,
      bsub_BadValue_ValueError := bs_BadValue_ValueError,
      bsub_PlaceBusy_ValueError := bs_PlaceBusy_ValueError,
      bsub_NoWrite_ValueError := bs_NoWrite_ValueError,
      c_LEAST_BLOCKS := ⟨_, PySem.W.mg_of X G gc_LEAST_BLOCKS⟩,
      c_MOST_BLOCKS := ⟨_, PySem.W.mg_of X G gc_MOST_BLOCKS⟩,
      c_LEAST_NODES := ⟨_, PySem.W.mg_of X G gc_LEAST_NODES⟩,
      c_MOST_NODES := ⟨_, PySem.W.mg_of X G gc_MOST_NODES⟩,
      c_MOST_SLOTS := ⟨_, PySem.W.mg_of X G gc_MOST_SLOTS⟩,
      c_LEAST_DATA := ⟨_, PySem.W.mg_of X G gc_LEAST_DATA⟩,
      c_FIRST_MAP := ⟨_, PySem.W.mg_of X G gc_FIRST_MAP⟩,
      c_CELL_MOST := ⟨_, PySem.W.mg_of X G gc_CELL_MOST⟩,
      c_BLOCK_MOST := ⟨_, PySem.W.mg_of X G gc_BLOCK_MOST⟩,
      c_MOST_LOT := ⟨_, PySem.W.mg_of X G gc_MOST_LOT⟩,
      c_MOST_SLOT := ⟨_, PySem.W.mg_of X G gc_MOST_SLOT⟩,
      c_MOST_HEAD := ⟨_, PySem.W.mg_of X G gc_MOST_HEAD⟩,
      c_NO_SLOT := ⟨_, PySem.W.mg_of X G gc_NO_SLOT⟩,
      ek_Disk_cut := ⟨_, _, _, lE_Disk_cut⟩,
      b_ValueError := PySem.W.mg_none_of X G nb_ValueError,
      b_abs := PySem.W.mg_none_of X G nb_abs,
      b_all := PySem.W.mg_none_of X G nb_all,
      b_any := PySem.W.mg_none_of X G nb_any,
      b_bool := PySem.W.mg_none_of X G nb_bool,
      b_enumerate := PySem.W.mg_none_of X G nb_enumerate,
      b_int := PySem.W.mg_none_of X G nb_int,
      b_isinstance := PySem.W.mg_none_of X G nb_isinstance,
      b_len := PySem.W.mg_none_of X G nb_len,
      b_list := PySem.W.mg_none_of X G nb_list,
      b_range := PySem.W.mg_none_of X G nb_range,
      b_reversed := PySem.W.mg_none_of X G nb_reversed,
      b_str := PySem.W.mg_none_of X G nb_str,
      b_tuple := PySem.W.mg_none_of X G nb_tuple,
      b_zip := PySem.W.mg_none_of X G nb_zip
    }⟩
end K01
open PySem PySem.W PyProof.Rows
set_option maxRecDepth 100000 in
set_option maxHeartbeats 0 in
theorem PySem.Challenge.cw_lotsandties_k01_writes_and_cuts_holds : PySem.Challenge.rw_lotsandties_k01_writes_and_cuts.Holds := by
  w_on; o_law; o_head (PySem.W.kmHook K01.heapK [2, 3, 15, 17, 18, 20, 22, 29, 30, 31, 32, 35, 42, 43, 44, 47, 54, 55, 56, 59, 66, 67, 68, 71, 78, 79, 80, 83, 90, 91, 92, 95, 102, 103, 104, 107, 109, 110, 112, 114, 116, 117, 119, 121, 123, 124, 126, 135, 137, 138, 140, 141, 142, 145, 147, 148, 149, 150, 152, 153, 155, 156, 157, 159, 160, 162, 164, 166, 167, 169, 171, 173, 174, 176, 178, 179, 180, 181, 182, 185, 187, 188, 190, 191, 192, 194, 195, 197, 198, 199, 201, 202, 204, 205, 206, 208, 209, 211, 212, 213, 215, 216, 218, 219, 220, 222, 223, 225, 226, 227, 230, 231, 232, 234, 235, 237, 238, 239, 241, 242, 244, 245, 246, 248, 249, 251, 252, 253, 255, 256, 258, 259, 260, 262, 263, 265, 266, 274, 277, 278, 279, 281, 282, 284, 286, 287, 288, 289, 291, 292, 294, 295, 296, 297, 299, 300, 302, 303, 304, 306, 307, 309, 310, 311, 314, 315, 316, 318, 319, 321, 322, 323, 325, 326, 328, 329, 330, 332, 333, 335, 336, 337, 338, 339, 341, 342, 344, 345, 346, 348, 349, 351, 353, 355, 356, 358, 359, 360, 362, 363, 365, 366, 367, 368, 369, 370, 371, 374, 376, 377, 379, 380, 381, 383, 384, 386, 387, 388, 390, 391, 393, 394, 395, 398, 399, 400, 402, 403, 405, 406, 407, 409, 410, 412, 413, 414, 416, 417, 419, 420, 421, 423, 424, 426, 427, 428, 430, 431, 433, 434, 435, 437, 438, 440, 441, 442, 444, 445, 447, 448, 449, 451, 452, 454, 455, 456, 458, 459, 461, 462, 463, 465, 466, 468, 469, 470, 473, 474, 475, 478, 479, 480, 482, 483, 485, 486, 487, 489, 490, 492, 493, 494, 496, 497, 499, 500, 501, 503, 504, 506, 507, 508, 511, 512] (fun _ => by kernel_rfl) [16, 108, 115, 122, 136, 143, 151, 158, 165, 172, 186, 193, 200, 207, 214, 221, 228, 233, 240, 247, 254, 261, 275, 280, 290, 298, 305, 312, 317, 324, 331, 340, 347, 354, 361, 375, 382, 389, 396, 401, 408, 415, 422, 429, 436, 443, 450, 457, 464, 471, 476, 481, 488, 495, 502, 509]); (case hw => w_witness2)
  k_fill
  refine LamX.walk_ofTs (l := PySem.Challenge.rw_lotsandties_k01_writes_and_cuts) (n := 63) (k := 13) (x := "_law_script") (CX := fun _ => L2.CX0) rfl (by decide) rfl ⟨rfl, by decide, by decide⟩ (fun w h Y => PySem.W.km_in_of Y) ?F (fun _ _ _ _ _ h => h)
  case F =>
    intro w mg fa h Y KX G hmg
    refine K01.fin_G (ts := [16, 108, 115, 122, 136, 143, 151, 158, 165, 172, 186, 193, 200, 207, 214, 221, 228, 233, 240, 247, 254, 261, 275, 280, 290, 298, 305, 312, 317, 324, 331, 340, 347, 354, 361, 375, 382, 389, 396, 401, 408, 415, 422, 429, 436, 443, 450, 457, 464, 471, 476, 481, 488, 495, 502, 509]) ?_ hmg KX (PySem.W.km_tabs_of Y) (K01.tabs_all (by kernel_rfl))
    refine' K01.all_mk (w := w) KX G ?l_is_number ?c_is_number ?k_is_number ?g_is_number ?l_is_cell ?c_is_cell ?k_is_cell ?g_is_cell ?l_is_block ?c_is_block ?k_is_block ?g_is_block ?l_is_cell_row ?c_is_cell_row ?k_is_cell_row ?g_is_cell_row ?cc1_is_cell_row ?ch1_is_cell_row ?cn1_is_cell_row ?l_is_ascending ?c_is_ascending ?k_is_ascending ?g_is_ascending ?cc1_is_ascending ?ch1_is_ascending ?cn1_is_ascending ?l_is_pair ?c_is_pair ?k_is_pair ?g_is_pair ?l_are_pairs ?c_are_pairs ?k_are_pairs ?g_are_pairs ?cc1_are_pairs ?ch1_are_pairs ?cn1_are_pairs ?l_are_revokes ?c_are_revokes ?k_are_revokes ?g_are_revokes ?cc1_are_revokes ?ch1_are_revokes ?cn1_are_revokes ?l_is_record ?c_is_record ?k_is_record ?g_is_record ?l_fits_plan ?c_fits_plan ?k_fits_plan ?g_fits_plan ?cc1_fits_plan ?ch1_fits_plan ?cn1_fits_plan ?l_is_place ?c_is_place ?k_is_place ?g_is_place ?l_is_content ?c_is_content ?k_is_content ?g_is_content ?l_Lfeed ?c_Lfeed ?k_Lfeed ?g_Lfeed ?l_Lpick ?c_Lpick ?k_Lpick ?g_Lpick ?l_Lsame ?c_Lsame ?k_Lsame ?g_Lsame ?l_Lstart ?c_Lstart ?k_Lstart ?g_Lstart ?l_Lagrees ?c_Lagrees ?k_Lagrees ?g_Lagrees ?l_Lput ?c_Lput ?k_Lput ?g_Lput ?l_Lplace ?c_Lplace ?k_Lplace ?g_Lplace ?l_Lcells ?c_Lcells ?k_Lcells ?g_Lcells ?l_Lrecord ?c_Lrecord ?k_Lrecord ?g_Lrecord ?l_Lbusy ?c_Lbusy ?k_Lbusy ?g_Lbusy ?l_Lbad_issue ?c_Lbad_issue ?k_Lbad_issue ?g_Lbad_issue ?l_Lbad_head ?c_Lbad_head ?k_Lbad_head ?g_Lbad_head ?l_Lno_write ?c_Lno_write ?k_Lno_write ?g_Lno_write ?l_Lno_cut ?c_Lno_cut ?k_Lno_cut ?g_Lno_cut ?l_Lissue ?c_Lissue ?k_Lissue ?g_Lissue ?l_Lsure ?c_Lsure ?k_Lsure ?g_Lsure ?l_Lbarrier ?c_Lbarrier ?k_Lbarrier ?g_Lbarrier ?l_Lhead ?c_Lhead ?k_Lhead ?g_Lhead ?l_Lbad ?c_Lbad ?k_Lbad ?g_Lbad ?l_Lcut ?c_Lcut ?k_Lcut ?g_Lcut ?l_law ?c_law ?k_law ?g_law ?l_Plan___init__ ?c_Plan___init__ ?k_Plan___init__ ?l_Plan_text ?c_Plan_text ?k_Plan_text ?l_Disk___init__ ?c_Disk___init__ ?k_Disk___init__ ?l_Disk_issue ?c_Disk_issue ?k_Disk_issue ?l_Disk_busy ?c_Disk_busy ?k_Disk_busy ?cc1_Disk_busy ?ch1_Disk_busy ?cn1_Disk_busy ?l_Disk_pending ?c_Disk_pending ?k_Disk_pending ?l_Disk_sure ?c_Disk_sure ?k_Disk_sure ?l_Disk_barrier ?c_Disk_barrier ?k_Disk_barrier ?l_Disk_move_head ?c_Disk_move_head ?k_Disk_move_head ?l_Disk_cut ?ld_Disk_cut ?c_Disk_cut ?k_Disk_cut ?l_Disk__settled ?c_Disk__settled ?k_Disk__settled ?l_Disk__put ?c_Disk__put ?k_Disk__put ?l_Disk_quiet ?c_Disk_quiet ?k_Disk_quiet ?g_Plan ?pg_Plan ?hd_Plan ?po_Plan ?sa_Plan ?n_Plan_blocks ?n_Plan_nodes ?n_Plan_slots ?n_Plan_maps ?n_Plan_first_node ?n_Plan_first_data ?mk1_Plan ?mk2_Plan ?mk3_Plan ?mk4_Plan ?tp_Plan ?rd_Plan ?ga_Plan ?v_Plan_WIDTH ?o_Plan_WIDTH ?og_Plan_WIDTH ?g_Disk ?pg_Disk ?hd_Disk ?po_Disk ?sa_Disk ?n_Disk_plan ?n_Disk_home ?n_Disk_log ?n_Disk_head ?n_Disk_last ?n_Disk__pending ?mk1_Disk ?mk2_Disk ?mk3_Disk ?mk4_Disk ?m1_Plan_text ?m2_Plan_text ?m1_Disk_issue ?m2_Disk_issue ?m1_Disk_busy ?m2_Disk_busy ?m1_Disk_pending ?m2_Disk_pending ?m1_Disk_sure ?m2_Disk_sure ?m1_Disk_barrier ?m2_Disk_barrier ?m1_Disk_move_head ?m2_Disk_move_head ?m1_Disk_cut ?m2_Disk_cut ?m1_Disk__settled ?m2_Disk__settled ?m1_Disk__put ?m2_Disk__put ?s1_Disk_quiet ?sq_Disk_quiet ?sv_Disk_quiet ?s2_Disk_quiet ?g_StoreError ?be1_StoreError ?te1_StoreError ?ie1_StoreError ?g_BadValue ?be1_BadValue ?te1_BadValue ?ie1_BadValue ?xe1_BadValue ?ke1_BadValue ?ec1_BadValue ?ec2_BadValue ?ec4_BadValue ?ec5_BadValue ?ec6_BadValue ?ec7_BadValue ?ec8_BadValue ?g_Refused ?be1_Refused ?te1_Refused ?ie1_Refused ?g_NotNow ?be1_NotNow ?te1_NotNow ?ie1_NotNow ?g_PlaceBusy ?be1_PlaceBusy ?te1_PlaceBusy ?ie1_PlaceBusy ?xe1_PlaceBusy ?ke1_PlaceBusy ?ec1_PlaceBusy ?ec2_PlaceBusy ?ec4_PlaceBusy ?ec5_PlaceBusy ?ec6_PlaceBusy ?ec7_PlaceBusy ?ec8_PlaceBusy ?g_NoWrite ?be1_NoWrite ?te1_NoWrite ?ie1_NoWrite ?xe1_NoWrite ?ke1_NoWrite ?ec1_NoWrite ?ec2_NoWrite ?ec4_NoWrite ?ec5_NoWrite ?ec6_NoWrite ?ec7_NoWrite ?ec8_NoWrite ?sb_BadValue_StoreError ?sb_BadValue_BadValue ?sb_BadValue_Refused ?sb_BadValue_NotNow ?sb_BadValue_PlaceBusy ?sb_BadValue_NoWrite ?sb_PlaceBusy_StoreError ?sb_PlaceBusy_BadValue ?sb_PlaceBusy_Refused ?sb_PlaceBusy_NotNow ?sb_PlaceBusy_PlaceBusy ?sb_PlaceBusy_NoWrite ?sb_NoWrite_StoreError ?sb_NoWrite_BadValue ?sb_NoWrite_Refused ?sb_NoWrite_NotNow ?sb_NoWrite_PlaceBusy ?sb_NoWrite_NoWrite ?bs_BadValue_ValueError ?bs_PlaceBusy_ValueError ?bs_NoWrite_ValueError ?gc_LEAST_BLOCKS ?gc_MOST_BLOCKS ?gc_LEAST_NODES ?gc_MOST_NODES ?gc_MOST_SLOTS ?gc_LEAST_DATA ?gc_FIRST_MAP ?gc_CELL_MOST ?gc_BLOCK_MOST ?gc_MOST_LOT ?gc_MOST_SLOT ?gc_MOST_HEAD ?gc_NO_SLOT ?lE_Disk_cut ?nb_ValueError ?nb_abs ?nb_all ?nb_any ?nb_bool ?nb_enumerate ?nb_int ?nb_isinstance ?nb_len ?nb_list ?nb_range ?nb_reversed ?nb_str ?nb_tuple ?nb_zip
    (case g_is_number => k_is)
    (case g_is_cell => k_is)
    (case g_is_block => k_is)
    (case g_is_cell_row => k_is)
    (case g_is_ascending => k_is)
    (case g_is_pair => k_is)
    (case g_are_pairs => k_is)
    (case g_are_revokes => k_is)
    (case g_is_record => k_is)
    (case g_fits_plan => k_is)
    (case g_is_place => k_is)
    (case g_is_content => k_is)
    (case g_Lfeed => k_is)
    (case g_Lpick => k_is)
    (case g_Lsame => k_is)
    (case g_Lstart => k_is)
    (case g_Lagrees => k_is)
    (case g_Lput => k_is)
    (case g_Lplace => k_is)
    (case g_Lcells => k_is)
    (case g_Lrecord => k_is)
    (case g_Lbusy => k_is)
    (case g_Lbad_issue => k_is)
    (case g_Lbad_head => k_is)
    (case g_Lno_write => k_is)
    (case g_Lno_cut => k_is)
    (case g_Lissue => k_is)
    (case g_Lsure => k_is)
    (case g_Lbarrier => k_is)
    (case g_Lhead => k_is)
    (case g_Lbad => k_is)
    (case g_Lcut => k_is)
    (case g_law => k_is)
    (case g_Plan => k_is)
    (case g_Disk => k_is)
    (case g_StoreError => k_is)
    (case g_BadValue => k_is)
    (case g_Refused => k_is)
    (case g_NotNow => k_is)
    (case g_PlaceBusy => k_is)
    (case g_NoWrite => k_is)
    (case tp_Plan => k_is)
    (case mk2_Plan => k_is)
    (case mk2_Disk => k_is)
    (case m1_Plan_text => k_is)
    (case m1_Disk_issue => k_is)
    (case m1_Disk_busy => k_is)
    (case m1_Disk_pending => k_is)
    (case m1_Disk_sure => k_is)
    (case m1_Disk_barrier => k_is)
    (case m1_Disk_move_head => k_is)
    (case m1_Disk_cut => k_is)
    (case m1_Disk__settled => k_is)
    (case m1_Disk__put => k_is)
    (case s1_Disk_quiet => k_is)
    (case s2_Disk_quiet => k_is)
    (case l_is_number => k_is)
    (case c_is_number => k_is)
    (case k_is_number => k_is)
    (case l_is_cell => k_is)
    (case c_is_cell => k_is)
    (case k_is_cell => k_is)
    (case l_is_block => k_is)
    (case c_is_block => k_is)
    (case k_is_block => k_is)
    (case l_is_cell_row => k_is)
    (case c_is_cell_row => k_is)
    (case k_is_cell_row => k_is)
    (case l_is_ascending => k_is)
    (case c_is_ascending => k_is)
    (case k_is_ascending => k_is)
    (case l_is_pair => k_is)
    (case c_is_pair => k_is)
    (case k_is_pair => k_is)
    (case l_are_pairs => k_is)
    (case c_are_pairs => k_is)
    (case k_are_pairs => k_is)
    (case l_are_revokes => k_is)
    (case c_are_revokes => k_is)
    (case k_are_revokes => k_is)
    (case l_is_record => k_is)
    (case c_is_record => k_is)
    (case k_is_record => k_is)
    (case l_fits_plan => k_is)
    (case c_fits_plan => k_is)
    (case k_fits_plan => k_is)
    (case l_is_place => k_is)
    (case c_is_place => k_is)
    (case k_is_place => k_is)
    (case l_is_content => k_is)
    (case c_is_content => k_is)
    (case k_is_content => k_is)
    (case l_Lfeed => k_is)
    (case c_Lfeed => k_is)
    (case k_Lfeed => k_is)
    (case l_Lpick => k_is)
    (case c_Lpick => k_is)
    (case k_Lpick => k_is)
    (case l_Lsame => k_is)
    (case c_Lsame => k_is)
    (case k_Lsame => k_is)
    (case l_Lstart => k_is)
    (case c_Lstart => k_is)
    (case k_Lstart => k_is)
    (case l_Lagrees => k_is)
    (case c_Lagrees => k_is)
    (case k_Lagrees => k_is)
    (case l_Lput => k_is)
    (case c_Lput => k_is)
    (case k_Lput => k_is)
    (case l_Lplace => k_is)
    (case c_Lplace => k_is)
    (case k_Lplace => k_is)
    (case l_Lcells => k_is)
    (case c_Lcells => k_is)
    (case k_Lcells => k_is)
    (case l_Lrecord => k_is)
    (case c_Lrecord => k_is)
    (case k_Lrecord => k_is)
    (case l_Lbusy => k_is)
    (case c_Lbusy => k_is)
    (case k_Lbusy => k_is)
    (case l_Lbad_issue => k_is)
    (case c_Lbad_issue => k_is)
    (case k_Lbad_issue => k_is)
    (case l_Lbad_head => k_is)
    (case c_Lbad_head => k_is)
    (case k_Lbad_head => k_is)
    (case l_Lno_write => k_is)
    (case c_Lno_write => k_is)
    (case k_Lno_write => k_is)
    (case l_Lno_cut => k_is)
    (case c_Lno_cut => k_is)
    (case k_Lno_cut => k_is)
    (case l_Lissue => k_is)
    (case c_Lissue => k_is)
    (case k_Lissue => k_is)
    (case l_Lsure => k_is)
    (case c_Lsure => k_is)
    (case k_Lsure => k_is)
    (case l_Lbarrier => k_is)
    (case c_Lbarrier => k_is)
    (case k_Lbarrier => k_is)
    (case l_Lhead => k_is)
    (case c_Lhead => k_is)
    (case k_Lhead => k_is)
    (case l_Lbad => k_is)
    (case c_Lbad => k_is)
    (case k_Lbad => k_is)
    (case l_Lcut => k_is)
    (case c_Lcut => k_is)
    (case k_Lcut => k_is)
    (case l_law => k_is)
    (case c_law => k_is)
    (case k_law => k_is)
    (case l_Plan___init__ => k_is)
    (case c_Plan___init__ => k_is)
    (case k_Plan___init__ => k_is)
    (case l_Plan_text => k_is)
    (case c_Plan_text => k_is)
    (case k_Plan_text => k_is)
    (case l_Disk___init__ => k_is)
    (case c_Disk___init__ => k_is)
    (case k_Disk___init__ => k_is)
    (case l_Disk_issue => k_is)
    (case c_Disk_issue => k_is)
    (case k_Disk_issue => k_is)
    (case l_Disk_busy => k_is)
    (case c_Disk_busy => k_is)
    (case k_Disk_busy => k_is)
    (case l_Disk_pending => k_is)
    (case c_Disk_pending => k_is)
    (case k_Disk_pending => k_is)
    (case l_Disk_sure => k_is)
    (case c_Disk_sure => k_is)
    (case k_Disk_sure => k_is)
    (case l_Disk_barrier => k_is)
    (case c_Disk_barrier => k_is)
    (case k_Disk_barrier => k_is)
    (case l_Disk_move_head => k_is)
    (case c_Disk_move_head => k_is)
    (case k_Disk_move_head => k_is)
    (case l_Disk_cut => k_is)
    (case ld_Disk_cut => k_is)
    (case c_Disk_cut => k_is)
    (case k_Disk_cut => k_is)
    (case l_Disk__settled => k_is)
    (case c_Disk__settled => k_is)
    (case k_Disk__settled => k_is)
    (case l_Disk__put => k_is)
    (case c_Disk__put => k_is)
    (case k_Disk__put => k_is)
    (case l_Disk_quiet => k_is)
    (case c_Disk_quiet => k_is)
    (case k_Disk_quiet => k_is)
    (case pg_Plan => k_is)
    (case hd_Plan => k_is)
    (case po_Plan => k_is)
    (case sa_Plan => k_is)
    (case n_Plan_blocks => k_is)
    (case n_Plan_nodes => k_is)
    (case n_Plan_slots => k_is)
    (case n_Plan_maps => k_is)
    (case n_Plan_first_node => k_is)
    (case n_Plan_first_data => k_is)
    (case mk1_Plan => k_is)
    (case mk3_Plan => k_is)
    (case mk4_Plan => k_is)
    (case rd_Plan => k_is)
    (case ga_Plan => k_is)
    (case v_Plan_WIDTH => k_is)
    (case o_Plan_WIDTH => k_is)
    (case og_Plan_WIDTH => k_is)
    (case pg_Disk => k_is)
    (case hd_Disk => k_is)
    (case po_Disk => k_is)
    (case sa_Disk => k_is)
    (case n_Disk_plan => k_is)
    (case n_Disk_home => k_is)
    (case n_Disk_log => k_is)
    (case n_Disk_head => k_is)
    (case n_Disk_last => k_is)
    (case n_Disk__pending => k_is)
    (case mk1_Disk => k_is)
    (case mk3_Disk => k_is)
    (case mk4_Disk => k_is)
    (case m2_Plan_text => k_is)
    (case m2_Disk_issue => k_is)
    (case m2_Disk_busy => k_is)
    (case m2_Disk_pending => k_is)
    (case m2_Disk_sure => k_is)
    (case m2_Disk_barrier => k_is)
    (case m2_Disk_move_head => k_is)
    (case m2_Disk_cut => k_is)
    (case m2_Disk__settled => k_is)
    (case m2_Disk__put => k_is)
    (case sq_Disk_quiet => k_is)
    (case sv_Disk_quiet => k_is)
    (case be1_StoreError => k_is)
    (case te1_StoreError => k_is)
    (case ie1_StoreError => k_is)
    (case be1_BadValue => k_is)
    (case te1_BadValue => k_is)
    (case ie1_BadValue => k_is)
    (case xe1_BadValue => first | k_exc | k_is)
    (case ke1_BadValue => k_is)
    (case ec1_BadValue => k_is)
    (case ec2_BadValue => k_is)
    (case ec4_BadValue => k_is)
    (case ec5_BadValue => k_is)
    (case ec6_BadValue => k_is)
    (case ec7_BadValue => k_is)
    (case ec8_BadValue => k_is)
    (case be1_Refused => k_is)
    (case te1_Refused => k_is)
    (case ie1_Refused => k_is)
    (case be1_NotNow => k_is)
    (case te1_NotNow => k_is)
    (case ie1_NotNow => k_is)
    (case be1_PlaceBusy => k_is)
    (case te1_PlaceBusy => k_is)
    (case ie1_PlaceBusy => k_is)
    (case xe1_PlaceBusy => first | k_exc | k_is)
    (case ke1_PlaceBusy => k_is)
    (case ec1_PlaceBusy => k_is)
    (case ec2_PlaceBusy => k_is)
    (case ec4_PlaceBusy => k_is)
    (case ec5_PlaceBusy => k_is)
    (case ec6_PlaceBusy => k_is)
    (case ec7_PlaceBusy => k_is)
    (case ec8_PlaceBusy => k_is)
    (case be1_NoWrite => k_is)
    (case te1_NoWrite => k_is)
    (case ie1_NoWrite => k_is)
    (case xe1_NoWrite => first | k_exc | k_is)
    (case ke1_NoWrite => k_is)
    (case ec1_NoWrite => k_is)
    (case ec2_NoWrite => k_is)
    (case ec4_NoWrite => k_is)
    (case ec5_NoWrite => k_is)
    (case ec6_NoWrite => k_is)
    (case ec7_NoWrite => k_is)
    (case ec8_NoWrite => k_is)
    (case sb_BadValue_StoreError => first | rfl | k_is)
    (case sb_BadValue_BadValue => first | rfl | k_is)
    (case sb_BadValue_Refused => first | rfl | k_is)
    (case sb_BadValue_NotNow => first | rfl | k_is)
    (case sb_BadValue_PlaceBusy => first | rfl | k_is)
    (case sb_BadValue_NoWrite => first | rfl | k_is)
    (case sb_PlaceBusy_StoreError => first | rfl | k_is)
    (case sb_PlaceBusy_BadValue => first | rfl | k_is)
    (case sb_PlaceBusy_Refused => first | rfl | k_is)
    (case sb_PlaceBusy_NotNow => first | rfl | k_is)
    (case sb_PlaceBusy_PlaceBusy => first | rfl | k_is)
    (case sb_PlaceBusy_NoWrite => first | rfl | k_is)
    (case sb_NoWrite_StoreError => first | rfl | k_is)
    (case sb_NoWrite_BadValue => first | rfl | k_is)
    (case sb_NoWrite_Refused => first | rfl | k_is)
    (case sb_NoWrite_NotNow => first | rfl | k_is)
    (case sb_NoWrite_PlaceBusy => first | rfl | k_is)
    (case sb_NoWrite_NoWrite => first | rfl | k_is)
    (case bs_BadValue_ValueError => k_is)
    (case bs_PlaceBusy_ValueError => k_is)
    (case bs_NoWrite_ValueError => k_is)
    (case gc_LEAST_BLOCKS => k_is)
    (case gc_MOST_BLOCKS => k_is)
    (case gc_LEAST_NODES => k_is)
    (case gc_MOST_NODES => k_is)
    (case gc_MOST_SLOTS => k_is)
    (case gc_LEAST_DATA => k_is)
    (case gc_FIRST_MAP => k_is)
    (case gc_CELL_MOST => k_is)
    (case gc_BLOCK_MOST => k_is)
    (case gc_MOST_LOT => k_is)
    (case gc_MOST_SLOT => k_is)
    (case gc_MOST_HEAD => k_is)
    (case gc_NO_SLOT => k_is)
    (case lE_Disk_cut => k_is)
    (case nb_ValueError => k_is)
    (case nb_abs => k_is)
    (case nb_all => k_is)
    (case nb_any => k_is)
    (case nb_bool => k_is)
    (case nb_enumerate => k_is)
    (case nb_int => k_is)
    (case nb_isinstance => k_is)
    (case nb_len => k_is)
    (case nb_list => k_is)
    (case nb_range => k_is)
    (case nb_reversed => k_is)
    (case nb_str => k_is)
    (case nb_tuple => k_is)
    (case nb_zip => k_is)
    (case cc1_is_cell_row => first | rfl | kernel_rfl)
    (case cc1_is_ascending => first | rfl | kernel_rfl)
    (case cc1_are_pairs => first | rfl | kernel_rfl)
    (case cc1_are_revokes => first | rfl | kernel_rfl)
    (case cc1_fits_plan => first | rfl | kernel_rfl)
    (case cc1_Disk_busy => first | rfl | kernel_rfl)
    (case ch1_is_cell_row => first | kernel_rfl | rfl | k_is)
    (case ch1_is_ascending => first | kernel_rfl | rfl | k_is)
    (case ch1_are_pairs => first | kernel_rfl | rfl | k_is)
    (case ch1_are_revokes => first | kernel_rfl | rfl | k_is)
    (case ch1_fits_plan => first | kernel_rfl | rfl | k_is)
    (case ch1_Disk_busy => first | kernel_rfl | rfl | k_is)
    (case cn1_is_cell_row => first | kernel_rfl | rfl | k_is)
    (case cn1_is_ascending => first | kernel_rfl | rfl | k_is)
    (case cn1_are_pairs => first | kernel_rfl | rfl | k_is)
    (case cn1_are_revokes => first | kernel_rfl | rfl | k_is)
    (case cn1_fits_plan => first | kernel_rfl | rfl | k_is)
    (case cn1_Disk_busy => first | kernel_rfl | rfl | k_is)
