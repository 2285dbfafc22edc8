import PyProof.Rows.All
import Wide.All
import OpenK.AllK
import Wide.FinOn
import HandS.ForMost
import HandS.IsInst
import HandS.Evl
import HandS.ClsMeth
import HandS.MakeKwOnly
import HandS.TryOnly
import HandS.ExcOwn
import HandS.ExcIs
import HandS.WordsExc
import HandS.Conv
import HandS.FStr
import HandS.RaiseMore
import HandS.Style
import HandS.Small
import HandS.More
import PySem.Challenge.RW_lotsandties_k88_blocks_taken_and_given
set_option Elab.async false
set_option linter.all false
set_option maxRecDepth 100000
set_option maxHeartbeats 4000000
namespace Rg
open PySem PySem.Spec PyProof.Rows L2
/-! ### heaps -/
theorem same_upd {H : Hp} {p : Addr} {o : HO} (h : H p = none) : Same H (upd H p o) := fun b x e => by
  rw [upd_ne (ne_of_none e h)]
  exact e
theorem upd_id {H : Hp} {p : Addr} {o : HO} (h : H p = some o) : upd H p o = H := by
  funext b
  by_cases e : b = p
  · rw [e, upd_same, h]
  · rw [upd_ne e]
theorem yes_ {σ : L2.St} {H : Hp} {A B : Hp → Prop} (h : A H) : tYes σ H fun b H3 => if b = true then A H3 else B H3 := by
  show if true = true then A H else B H
  rw [if_pos rfl]
  exact h
/-- what is free behind a store was free, and is another place -/
theorem un {H : Hp} {a b : Addr} {o : HO} (e : upd H a o b = none) : H b = none := by
  by_cases z : b = a
  · rw [z, upd_same] at e; cases e
  · rw [upd_ne z] at e; exact e
theorem unn {H : Hp} {a b : Addr} {o : HO} (e : upd H a o b = none) : b ≠ a := fun z => by
  rw [z, upd_same] at e; cases e
theorem unn' {H : Hp} {a b : Addr} {o : HO} (e : upd H a o b = none) : a ≠ b := fun z => unn e z.symm
theorem upd_comm {H : Hp} {p q : Addr} {o o' : HO} (h : p ≠ q) : upd (upd H p o) q o' = upd (upd H q o') p o := by
  funext b
  by_cases e : b = p
  · rw [e, upd_same, upd_ne h, upd_same]
  · by_cases e2 : b = q
    · rw [e2, upd_same, upd_ne h.symm, upd_same]
    · rw [upd_ne e2, upd_ne e, upd_ne e, upd_ne e2]
theorem upd_app {H : Hp} {p : Addr} {fs : List Int} {x : Int} : upd (upd H p (.lst (fs.map V.int))) p (.lst (fs.map V.int ++ [V.int x])) = upd H p (.lst ((fs ++ [x]).map V.int)) := by
  rw [upd_upd, List.map_append]
  rfl
/-- kept but for what stands at S -/
def Kp (S : List Addr) (H H' : Hp) : Prop := ∀ x o, H x = some o → x ∉ S → H' x = some o
theorem Kp.refl {S : List Addr} {H : Hp} : Kp S H H := fun _ _ e _ => e
theorem Kp.new {S : List Addr} {H H1 : Hp} {a : Addr} {o : HO} (k : Kp S H H1) (h : H1 a = none) : Kp S H (upd H1 a o) := fun x u e n => by
  rw [upd_ne (ne_of_none (k x u e n) h)]
  exact k x u e n
theorem Kp.own {S : List Addr} {H H1 : Hp} {a : Addr} {o : HO} (k : Kp S H H1) (h : a ∈ S) : Kp S H (upd H1 a o) := fun x u e n => by
  have z : x ≠ a := fun z => by rw [z] at n; exact n h
  rw [upd_ne z]
  exact k x u e n
theorem Kp.own1 {p : Addr} {H H1 : Hp} {o : HO} (k : Kp [p] H H1) : Kp [p] H (upd H1 p o) := k.own (by simp)
theorem Kp.trans {S : List Addr} {H H1 H2 : Hp} (a : Kp S H H1) (b : Kp S H1 H2) : Kp S H H2 := fun x o e n => b x o (a x o e n) n
theorem Kp.same {S : List Addr} {H H1 H2 : Hp} (a : Kp S H H1) (b : Same H1 H2) : Kp S H H2 := fun x o e n => b x o (a x o e n)
theorem Kp.of {S : List Addr} {H H1 : Hp} (b : Same H H1) : Kp S H H1 := fun x o e _ => b x o e
theorem Kp.mono {S S' : List Addr} {H H1 : Hp} (a : Kp S H H1) (h : ∀ x, x ∈ S → x ∈ S') : Kp S' H H1 := fun x o e n => a x o e fun z => n (h x z)
theorem Kp.free {S : List Addr} {H H1 : Hp} {x : Addr} (a : Kp S H H1) (n : x ∉ S) (h : H1 x = none) : H x = none := by
  cases q : H x with
  | none => rfl
  | some o => rw [a x o q n] at h; cases h
theorem Kp.at1 {p x : Addr} {H H' : Hp} {o : HO} (k : Kp [p] H H') (e : H x = some o) (n : x ≠ p) : H' x = some o := k x o e (by simp [n])
theorem Kp.ret {a : Addr} {S : List Addr} {H H' : Hp} {o : HO} (k : Kp (a :: S) H H') (h : H a = none) : Kp S H H' := fun x u e n => k x u e (by
  intro z
  rcases List.mem_cons.mp z with z | z
  · rw [z, h] at e; cases e
  · exact n z)
theorem own_f {H H' : Hp} {p : Addr} {o : HO} (h : upd H p o = H') : H' p = some o ∧ Kp [p] H H' ∧ ∀ x, H' x = none → H x = none ∧ x ≠ p := by
  subst h
  exact ⟨upd_same, Kp.refl.own1, fun x e => ⟨un e, unn e⟩⟩
theorem new_f {H H' : Hp} {a : Addr} {o : HO} (h : upd H a o = H') (n : H a = none) : H' a = some o ∧ Same H H' ∧ ∀ x, H' x = none → H x = none ∧ x ≠ a := by
  subst h
  exact ⟨upd_same, same_upd n, fun x e => ⟨un e, unn e⟩⟩
/-- a whole-number constant of the module -/
theorem pe_gc {X : Cx} {x : Str} {n : Int} {pos : Pos} (hm : ∃ t, X.mg x = some (.int n t)) (hg : Gl X x := by rfl) (hd : (x == ("__debug__" : Str)) = false := by decide) : PE X (.Name x pos) (tC (.int n)) :=
  let ⟨t, h⟩ := hm
  pe_glob hg h ⟨t, rfl⟩ hd
/-- a text constant of the module -/
theorem pe_gs {X : Cx} {x z : Str} {pos : Pos} (hm : ∃ t, X.mg x = some (.str z t)) (hg : Gl X x := by rfl) (hd : (x == ("__debug__" : Str)) = false := by decide) : PE X (.Name x pos) (tC (.str z)) :=
  let ⟨t, h⟩ := hm
  pe_glob hg h ⟨t, rfl⟩ hd
/-- C.f, C a class of the module, f a value of the class -/
theorem pe_cv {X : Cx} {x f : Str} {C : Addr} {mc : Value} {v : V} {p pos : Pos} (hm : X.mg x = some (.ref C)) (r : ClX.CRead X.K C mc) (k : ∃ u, ClX.CVal X.K C mc f v u) (hg : Gl X x := by rfl) (hd : (x == ("__debug__" : Str)) = false := by decide)
    (hb : attributeBase (.Name x p) f X.env (eval (.Name x p) X.env) = eval (.Name x p) X.env := by rfl) : PE X (.Attribute (.Name x p) f pos) (tC v) := by
  obtain ⟨u, k⟩ := k
  have := (ClX.pe_cval (pos := pos) (pe_glob (X := X) (x := x) (v := .ref C) (u := .ref C) (pos := p) hg hm rfl hd) hb)
  exact ⟨fun pins s σ H Q I h => this.run pins s σ H Q I ⟨C, mc, v, u, rfl, r, k, h⟩⟩
/-! ### the same rules with the written part named (inside a comprehension) -/
section
variable {X : Cx} {K : PySem.W.Frag}
def rListOf (K : PySem.W.Frag) : List V → Hp → VK → Prop := fun xs H Q => ∃ p ys, xs = [.ref p] ∧ (SqL K H p ys ∨ SqT K H p ys) ∧ ∀ l, H l = none → Q (.ref l) (upd H l (.lst ys))
theorem pe_listof {e : Expr} {te : TE} {p pos : Pos} (he : PE X e te) (hm : X.mg "list" = none) (hK : X.K = K := by rfl) (hg : Gl X "list" := by rfl) (hs : starEach [e] X.env = (false, eval e X.env) :: starEach [] X.env := by rfl) : PE X (.Call (.Name "list" p) [e] [] pos) (tCB (rListOf K) (tCons te tNil)) := by
  subst hK
  exact pe_callTy call_list_of hg hm (by decide +kernel) (pa_cons he pa_nil hs) (he := hs)
theorem pe_fldK {e : Expr} {f : Str} {pos : Pos} {ta : TE} (he : PE X e ta) (hb : attributeBase e f X.env (eval e X.env) = eval e X.env) (hK : X.K = K := by rfl) : PE X (.Attribute e f pos) (tFld K ta f) := by
  subst hK
  exact pe_fld he hb
theorem pe_ixK {a b : Expr} {pos : Pos} {ta tb : TE} (ha : PE X a ta) (hb : PE X b tb) (hs : PlainIx b) (hK : X.K = K := by rfl) : PE X (.Subscript a b pos) (tOp (rIxL K) ta tb) := by
  subst hK
  exact pe_ix ix_list ha hb hs
theorem pe_lenK {e : Expr} {te : TE} {p pos : Pos} (he : PE X e te) (hm : X.mg "len" = none) (hK : X.K = K := by rfl) (hg : Gl X "len" := by rfl) (hs : starEach [e] X.env = (false, eval e X.env) :: starEach [] X.env := by rfl) : PE X (.Call (.Name "len" p) [e] [] pos) (tCB (fun xs H Q => ∃ p ys, xs = [.ref p] ∧ (SqL K H p ys ∨ SqT K H p ys) ∧ Q (.int ys.length) H) (tCons te tNil)) := by
  subst hK
  exact pe_callB call_len_seq hg hm (by decide +kernel) (pa_cons he pa_nil hs) (he := hs)
end
/-! ### static methods, called off the class -/
structure SMet (K : PySem.W.Frag) (C : Addr) (mc : Value) (m : Str) (g : Addr) : Prop where
  ex : ∃ p, PySem.W.findCls K (.ref C) mc m = some (.get (.builtin "staticmethod.__get__") (.ref p) .none (.ref C)) ∧ (∃ rest, PySem.W.recIn K p "staticmethod" = some (.ref g :: rest)) ∧ PySem.W.keepIn K (.ref g) = true
/-- C.m(e, ..), C the class at C, m a static method -/
def tSMeth (sp : Sp) (dvs : List V) (E : XK) (t : TA) : TE := fun σ H Q => t σ H fun vs H2 => sp (vs ++ dvs) H2 Q E
section
variable {X : Cx} {CX : CXT} {k : Nat} {C g : Addr} {mc : Value} {sp : Sp} {E : XK} {x : Str} {e : Expr} {es : List Expr} {m : Str} {p pos apos : Pos} {t : TA} {pl : Sem Bool} {fd : FuncData} {ps : List Str} {ds : List Value} {dvs : List V}
theorem pe_smeth (hmx : X.mg x = some (.ref C)) (r : ClX.CRead X.K C mc) (c : SMet X.K C mc m g) (F : FnOk X.prog X.w X.K X.mg X.base CX k g fd ps sp) (hr : Room k X.A) (hb : Binds X.K fd ps ds) (hd : Vals dvs ds) (hx : Passes CX X E) (ha : PA X (e :: es) t) (hg : Gl X x := by rfl) (hdb : (x == ("__debug__" : Str)) = false := by decide)
    (hst : starEach (e :: es) X.env = (false, eval e X.env) :: starEach es X.env := by rfl) (hpl : (backTo pos (starEach es X.env)).any (·.1) = false := by rfl)
    (ht : eval (.Call (.Attribute (.Name x p) m apos) (e :: es) [] pos) X.env = (do
      let ov ← eval (.Name x p) X.env
      standAt apos.atName
      let (f, first) ← holding [ov] (getMethod ov m pl)
      callWith pos f first (backTo pos (starEach (e :: es) X.env)) (backToKw pos (keywordEach [] X.env))) := by rfl) :
    PE X (.Call (.Attribute (.Name x p) m apos) (e :: es) [] pos) (tSMeth sp dvs E t) := by
  obtain ⟨q, at_, ⟨rest, hp⟩, hk⟩ := c.ex
  refine ⟨fun pins s σ H Q I h => ?_⟩
  refine PySem.W.methodCall_KW (pl := pl) (ld_glob I hg hmx ?_ hdb) ht
  refine PySem.W.method_cls I.kIn r.ga (PySem.W.cls_bind I.kIn r.rd at_ ?_)
  refine wpAny_call (PySem.W.sm_get (s := { s with toks := s.toks + 1 }) I.kIn hp (PySem.W.handed_on rfl ?_))
  refine PySem.W.callWith_K (f := .ref g) (first := []) (h₀ := X.base) I.ok.mod.kin hk (thn (ha.run pos pins _ σ H _ (I.tok _) h) fun us s1 ⟨vs, H1, I1, r1, q1⟩ => ⟨I1.kIn, ?_⟩) hst hpl
  exact run_fn F hr hb hd hx I1 r1 q1
end
/-! ### errors -/
theorem exm_sub {K : PySem.W.Frag} {D S : Addr} (h1 : PySem.W.subIn K (.ref S) (.type "BaseException") = some true) (h2 : PySem.W.isClsIn K S = true) (h3 : PySem.W.typeIn K (.ref S) = some (.type "type")) (h4 : PySem.W.subIn K (.ref D) (.ref S) = some true) :
    PySem.W.exmOne K (.ref D) (.ref S) = some true := by
  have e1 : (PySem.W.subIn K (.ref S) (.type "BaseException") == some true) = true := by rw [h1] <;> rfl
  have e2 : ((PySem.W.clsIn K S).isSome && PySem.W.typeIn K (.ref S) == some (.type "type")) = true := by
    have h2' : (PySem.W.clsIn K S).isSome = true := h2
    rw [h2', h3] <;> rfl
  show (if (PySem.W.subIn K (.ref S) (.type "BaseException") == some true) = true then (if ((PySem.W.clsIn K S).isSome && PySem.W.typeIn K (.ref S) == some (.type "type")) = true then PySem.W.subIn K (.ref D) (.ref S) else none) else none) = some true
  rw [if_pos e1, if_pos e2]
  exact h4
theorem kit_sub {K : PySem.W.Frag} {D S : Addr} {b : Bool} (hne : D ≠ S) (h2 : PySem.W.isClsIn K S = true) (h3 : PySem.W.typeIn K (.ref S) = some (.type "type")) (h4 : PySem.W.subIn K (.ref D) (.ref S) = some b) :
    PySem.W.kitOne K (.ref D) (.ref S) = some b := by
  have e2 : ((PySem.W.clsIn K S).isSome && PySem.W.typeIn K (.ref S) == some (.type "type")) = true := by
    have h2' : (PySem.W.clsIn K S).isSome = true := h2
    rw [h2', h3] <;> rfl
  unfold PySem.W.kitOne
  rw [if_neg (by intro z; exact hne (Value.ref.inj (beq_iff_eq.mp z)))]
  show (if ((PySem.W.clsIn K S).isSome && PySem.W.typeIn K (.ref S) == some (.type "type")) = true then PySem.W.subIn K (.ref D) (.ref S) else none) = some b
  rw [if_pos e2]
  exact h4
/-- a suite that is come to by an error of the class at D alone (no fields of its own) -/
def tOnly (cls : Value) (d : Option Addr) (D : Addr) (t : TS) : TS := fun E σ H => cls = .ref D ∧ d = none ∧ t E σ H
theorem pss_only {X : Cx} {sts : List Stmt} {t : TS} {cls : Value} {d : Option Addr} {D : Addr} (h : cls = .ref D → d = none → PSs X sts t) : PSs X sts (tOnly cls d D t) :=
  ⟨fun pins s σ H E I hh => (h hh.1 hh.2.1).run pins s σ H E I hh.2.2⟩
theorem kit_self {K : PySem.W.Frag} {D : Addr} : PySem.W.kitOne K (.ref D) (.ref D) = some true := by
  unfold PySem.W.kitOne
  rw [if_pos (beq_self_eq_true _)]
theorem dec_iv (a d : Int) : decide (V.int a = V.int d) = decide (a = d) := by
  by_cases e : a = d
  · subst e; simp
  · rw [decide_eq_false e, decide_eq_false fun q => e (V.int.inj q)]
end Rg
namespace K88
open PySem PySem.Spec PyProof.Rows L2 Rg
def top (i : Nat) : Stmt := PySem.Challenge.pw_lotsandties_k88_blocks_taken_and_given.main.body.getD i (.Pass ⟨0, 0, 0, 0⟩)
abbrev s_Lfeed : Stmt := top 32
abbrev s_Lpick : Stmt := top 33
abbrev s_Lstart : Stmt := top 34
abbrev s_Lagrees : Stmt := top 35
abbrev s_Ldue_block : Stmt := top 36
abbrev s_Lrefuses : Stmt := top 37
abbrev s_Ltake : Stmt := top 38
abbrev s_Lnote : Stmt := top 39
abbrev s_Ltouch : Stmt := top 40
abbrev s_Lgive : Stmt := top 41
abbrev s_Lchange : Stmt := top 42
abbrev s_Llimit : Stmt := top 43
abbrev s_Lsame : Stmt := top 44
abbrev s_law : Stmt := top 45
abbrev s_Plan___init__ : Stmt := inClass (top 28) 6
abbrev s_Plan_map_place : Stmt := inClass (top 28) 9
abbrev s_Plan_node_block : Stmt := inClass (top 28) 10
abbrev s_Plan_data_blocks : Stmt := inClass (top 28) 11
abbrev s_Image___init__ : Stmt := inClass (top 30) 0
abbrev s_Image_twin : Stmt := inClass (top 30) 5
abbrev s_Image_kind : Stmt := inClass (top 30) 10
abbrev s_Image_begin : Stmt := inClass (top 30) 3
abbrev s_Image_settle : Stmt := inClass (top 30) 4
abbrev s_Image_take : Stmt := inClass (top 30) 6
abbrev s_Image_give : Stmt := inClass (top 30) 7
abbrev s_Image__put_block : Stmt := inClass (top 30) 8
abbrev s_Image_free_blocks : Stmt := inClass (top 30) 9
abbrev s_Image_identity : Stmt := inClass (top 30) 11
abbrev s_Image_fresh : Stmt := inClass (top 30) 1
abbrev s_Image_of_cells : Stmt := inClass (top 30) 2
theorem sc_Lfeed : FnScope ["_law_script", "_law_feed_here", "_law_cell", "_law_rest", "_law_k"] ["_law_script"] (defScope s_Lfeed) := ⟨rfl, rfl, rfl, by decide +kernel, rfl, by decide +kernel, by decide +kernel⟩
theorem sc_Lpick : FnScope ["_law_feed_here", "_law_limit_here"] ["_law_feed_here", "_law_limit_here"] (defScope s_Lpick) := ⟨rfl, rfl, rfl, by decide +kernel, rfl, by decide +kernel, by decide +kernel⟩
theorem sc_Lstart : FnScope ["_law_kinds", "_law_x", "_law_holdings", "_law_stamps"] [] (defScope s_Lstart) := ⟨rfl, rfl, rfl, by decide +kernel, rfl, by decide +kernel, by decide +kernel⟩
theorem sc_Lagrees : FnScope ["_law_image", "_law_book", "_law_kinds", "_law_holdings", "_law_stamps", "_law_used", "_law_limits", "_law_owners", "_law_serial", "_law_x", "_law_free"] ["_law_image", "_law_book"] (defScope s_Lagrees) := ⟨rfl, rfl, rfl, by decide +kernel, rfl, by decide +kernel, by decide +kernel⟩
theorem sc_Ldue_block : FnScope ["_law_book", "_law_kind", "_law_wish", "_law_barred", "_law_let", "_law_x", "_law_later"] ["_law_book", "_law_kind", "_law_wish", "_law_barred"] (defScope s_Ldue_block) := ⟨rfl, rfl, rfl, by decide +kernel, rfl, by decide +kernel, by decide +kernel⟩
theorem sc_Lrefuses : FnScope ["_law_image", "_law_kind", "_law_owner", "_law_quota", "e"] ["_law_image", "_law_kind", "_law_owner", "_law_quota"] (defScope s_Lrefuses) := ⟨rfl, rfl, rfl, by decide +kernel, rfl, by decide +kernel, by decide +kernel⟩
theorem sc_Ltake : FnScope ["_law_image", "_law_book", "_law_feed_here", "_law_kind", "_law_owner", "_law_wish", "_law_barred", "_law_k", "_law_before", "_law_due", "_law_quota", "_law_x", "_law_row"] ["_law_image", "_law_book", "_law_feed_here"] (defScope s_Ltake) := ⟨rfl, rfl, rfl, by decide +kernel, rfl, by decide +kernel, by decide +kernel⟩
theorem sc_Lnote : FnScope ["_law_book", "_law_x", "_law_kind", "_law_serial", "_law_owner", "_law_kinds", "_law_holdings", "_law_stamps", "_law_used", "_law_limits", "_law_owners", "_law_last"] ["_law_book", "_law_x", "_law_kind", "_law_serial", "_law_owner"] (defScope s_Lnote) := ⟨rfl, rfl, rfl, by decide +kernel, rfl, by decide +kernel, by decide +kernel⟩
theorem sc_Ltouch : FnScope ["_law_book", "_law_x", "_law_stamps"] ["_law_book", "_law_x"] (defScope s_Ltouch) := ⟨rfl, rfl, rfl, by decide +kernel, rfl, by decide +kernel, by decide +kernel⟩
theorem sc_Lgive : FnScope ["_law_image", "_law_book", "_law_feed_here", "_law_held", "_law_x", "_law_at", "_law_owner", "_law_before"] ["_law_image", "_law_book", "_law_feed_here"] (defScope s_Lgive) := ⟨rfl, rfl, rfl, by decide +kernel, rfl, by decide +kernel, by decide +kernel⟩
theorem sc_Lchange : FnScope ["_law_image", "_law_book", "_law_feed_here", "_law_held", "_law_x", "_law_at", "_law_value", "_law_before", "_law_old", "_law_row"] ["_law_image", "_law_book", "_law_feed_here"] (defScope s_Lchange) := ⟨rfl, rfl, rfl, by decide +kernel, rfl, by decide +kernel, by decide +kernel⟩
theorem sc_Llimit : FnScope ["_law_image", "_law_book", "_law_feed_here", "_law_owner", "_law_limit_here", "_law_row", "_law_limits"] ["_law_image", "_law_book", "_law_feed_here"] (defScope s_Llimit) := ⟨rfl, rfl, rfl, by decide +kernel, rfl, by decide +kernel, by decide +kernel⟩
theorem sc_Lsame : FnScope ["_law_image", "_law_kept"] ["_law_image", "_law_kept"] (defScope s_Lsame) := ⟨rfl, rfl, rfl, by decide +kernel, rfl, by decide +kernel, by decide +kernel⟩
theorem sc_law : FnScope ["_law_script", "_law_feed_here", "_law_image", "_law_book", "_law_k", "_law_kept", "_law_row", "_law_twin", "_law_choice"] ["_law_script"] (defScope s_law) := ⟨rfl, rfl, rfl, by decide +kernel, rfl, by decide +kernel, by decide +kernel⟩
theorem sc_Plan___init__ : FnScope ["self", "blocks", "nodes", "slots"] ["self", "blocks", "nodes", "slots"] (defScope s_Plan___init__) := ⟨rfl, rfl, rfl, by decide +kernel, rfl, by decide +kernel, by decide +kernel⟩
theorem sc_Plan_map_place : FnScope ["self", "x"] ["self", "x"] (defScope s_Plan_map_place) := ⟨rfl, rfl, rfl, by decide +kernel, rfl, by decide +kernel, by decide +kernel⟩
theorem sc_Plan_node_block : FnScope ["self", "n"] ["self", "n"] (defScope s_Plan_node_block) := ⟨rfl, rfl, rfl, by decide +kernel, rfl, by decide +kernel, by decide +kernel⟩
theorem sc_Plan_data_blocks : FnScope ["self"] ["self"] (defScope s_Plan_data_blocks) := ⟨rfl, rfl, rfl, by decide +kernel, rfl, by decide +kernel, by decide +kernel⟩
theorem sc_Image___init__ : FnScope ["self", "plan", "_"] ["self", "plan"] (defScope s_Image___init__) := ⟨rfl, rfl, rfl, by decide +kernel, rfl, by decide +kernel, by decide +kernel⟩
theorem sc_Image_twin : FnScope ["self", "other", "row"] ["self"] (defScope s_Image_twin) := ⟨rfl, rfl, rfl, by decide +kernel, rfl, by decide +kernel, by decide +kernel⟩
theorem sc_Image_kind : FnScope ["self", "x", "block", "cell", "kind"] ["self", "x"] (defScope s_Image_kind) := ⟨rfl, rfl, rfl, by decide +kernel, rfl, by decide +kernel, by decide +kernel⟩
theorem sc_Image_begin : FnScope ["self", "wish", "barred"] ["self", "wish", "barred"] (defScope s_Image_begin) := ⟨rfl, rfl, rfl, by decide +kernel, rfl, by decide +kernel, by decide +kernel⟩
theorem sc_Image_settle : FnScope ["self", "before", "x", "changed"] ["self", "before"] (defScope s_Image_settle) := ⟨rfl, rfl, rfl, by decide +kernel, rfl, by decide +kernel, by decide +kernel⟩
theorem sc_Image_take : FnScope ["self", "kind", "owner", "sums", "limit", "free", "x", "wished"] ["self", "kind", "owner"] (defScope s_Image_take) := ⟨rfl, rfl, rfl, by decide +kernel, rfl, by decide +kernel, by decide +kernel⟩
theorem sc_Image_give : FnScope ["self", "x", "owner"] ["self", "x", "owner"] (defScope s_Image_give) := ⟨rfl, rfl, rfl, by decide +kernel, rfl, by decide +kernel, by decide +kernel⟩
theorem sc_Image__put_block : FnScope ["self", "x", "kind", "serial", "block", "cell"] ["self", "x", "kind", "serial"] (defScope s_Image__put_block) := ⟨rfl, rfl, rfl, by decide +kernel, rfl, by decide +kernel, by decide +kernel⟩
theorem sc_Image_free_blocks : FnScope ["self", "x"] ["self"] (defScope s_Image_free_blocks) := ⟨rfl, rfl, rfl, by decide +kernel, rfl, by decide +kernel, by decide +kernel⟩
theorem sc_Image_identity : FnScope ["self", "x"] ["self", "x"] (defScope s_Image_identity) := ⟨rfl, rfl, rfl, by decide +kernel, rfl, by decide +kernel, by decide +kernel⟩
theorem sc_Image_fresh : FnScope ["plan", "image", "x", "block", "cell", "root"] ["plan"] (defScope s_Image_fresh) := ⟨rfl, rfl, rfl, by decide +kernel, rfl, by decide +kernel, by decide +kernel⟩
theorem sc_Image_of_cells : FnScope ["plan", "rows", "image", "row", "x"] ["plan", "rows"] (defScope s_Image_of_cells) := ⟨rfl, rfl, rfl, by decide +kernel, rfl, by decide +kernel, by decide +kernel⟩

structure Tx (K : PySem.W.Frag) (mg : Str → Option Value) where
  f_Lfeed : Addr
  fd_Lfeed : FuncData
  F_Lfeed : Fun K "_law_feed" "_law_feed" s_Lfeed f_Lfeed fd_Lfeed
  mg_Lfeed : mg "_law_feed" = some (.ref f_Lfeed)
  f_Lpick : Addr
  fd_Lpick : FuncData
  F_Lpick : Fun K "_law_pick" "_law_pick" s_Lpick f_Lpick fd_Lpick
  mg_Lpick : mg "_law_pick" = some (.ref f_Lpick)
  f_Lstart : Addr
  fd_Lstart : FuncData
  F_Lstart : Fun K "_law_start" "_law_start" s_Lstart f_Lstart fd_Lstart
  mg_Lstart : mg "_law_start" = some (.ref f_Lstart)
  f_Lagrees : Addr
  fd_Lagrees : FuncData
  F_Lagrees : Fun K "_law_agrees" "_law_agrees" s_Lagrees f_Lagrees fd_Lagrees
  mg_Lagrees : mg "_law_agrees" = some (.ref f_Lagrees)
  f_Ldue_block : Addr
  fd_Ldue_block : FuncData
  F_Ldue_block : Fun K "_law_due_block" "_law_due_block" s_Ldue_block f_Ldue_block fd_Ldue_block
  mg_Ldue_block : mg "_law_due_block" = some (.ref f_Ldue_block)
  f_Lrefuses : Addr
  fd_Lrefuses : FuncData
  F_Lrefuses : Fun K "_law_refuses" "_law_refuses" s_Lrefuses f_Lrefuses fd_Lrefuses
  mg_Lrefuses : mg "_law_refuses" = some (.ref f_Lrefuses)
  f_Ltake : Addr
  fd_Ltake : FuncData
  F_Ltake : Fun K "_law_take" "_law_take" s_Ltake f_Ltake fd_Ltake
  mg_Ltake : mg "_law_take" = some (.ref f_Ltake)
  f_Lnote : Addr
  fd_Lnote : FuncData
  F_Lnote : Fun K "_law_note" "_law_note" s_Lnote f_Lnote fd_Lnote
  mg_Lnote : mg "_law_note" = some (.ref f_Lnote)
  f_Ltouch : Addr
  fd_Ltouch : FuncData
  F_Ltouch : Fun K "_law_touch" "_law_touch" s_Ltouch f_Ltouch fd_Ltouch
  mg_Ltouch : mg "_law_touch" = some (.ref f_Ltouch)
  f_Lgive : Addr
  fd_Lgive : FuncData
  F_Lgive : Fun K "_law_give" "_law_give" s_Lgive f_Lgive fd_Lgive
  mg_Lgive : mg "_law_give" = some (.ref f_Lgive)
  f_Lchange : Addr
  fd_Lchange : FuncData
  F_Lchange : Fun K "_law_change" "_law_change" s_Lchange f_Lchange fd_Lchange
  mg_Lchange : mg "_law_change" = some (.ref f_Lchange)
  f_Llimit : Addr
  fd_Llimit : FuncData
  F_Llimit : Fun K "_law_limit" "_law_limit" s_Llimit f_Llimit fd_Llimit
  mg_Llimit : mg "_law_limit" = some (.ref f_Llimit)
  f_Lsame : Addr
  fd_Lsame : FuncData
  F_Lsame : Fun K "_law_same" "_law_same" s_Lsame f_Lsame fd_Lsame
  mg_Lsame : mg "_law_same" = some (.ref f_Lsame)
  f_law : Addr
  fd_law : FuncData
  F_law : Fun K "law" "law" s_law f_law fd_law
  mg_law : mg "law" = some (.ref f_law)
  f_Plan___init__ : Addr
  fd_Plan___init__ : FuncData
  F_Plan___init__ : Fun K "__init__" "Plan.__init__" s_Plan___init__ f_Plan___init__ fd_Plan___init__
  f_Plan_map_place : Addr
  fd_Plan_map_place : FuncData
  F_Plan_map_place : Fun K "map_place" "Plan.map_place" s_Plan_map_place f_Plan_map_place fd_Plan_map_place
  f_Plan_node_block : Addr
  fd_Plan_node_block : FuncData
  F_Plan_node_block : Fun K "node_block" "Plan.node_block" s_Plan_node_block f_Plan_node_block fd_Plan_node_block
  f_Plan_data_blocks : Addr
  fd_Plan_data_blocks : FuncData
  F_Plan_data_blocks : Fun K "data_blocks" "Plan.data_blocks" s_Plan_data_blocks f_Plan_data_blocks fd_Plan_data_blocks
  f_Image___init__ : Addr
  fd_Image___init__ : FuncData
  F_Image___init__ : Fun K "__init__" "Image.__init__" s_Image___init__ f_Image___init__ fd_Image___init__
  f_Image_twin : Addr
  fd_Image_twin : FuncData
  F_Image_twin : Fun K "twin" "Image.twin" s_Image_twin f_Image_twin fd_Image_twin
  f_Image_kind : Addr
  fd_Image_kind : FuncData
  F_Image_kind : Fun K "kind" "Image.kind" s_Image_kind f_Image_kind fd_Image_kind
  f_Image_begin : Addr
  fd_Image_begin : FuncData
  F_Image_begin : Fun K "begin" "Image.begin" s_Image_begin f_Image_begin fd_Image_begin
  f_Image_settle : Addr
  fd_Image_settle : FuncData
  F_Image_settle : Fun K "settle" "Image.settle" s_Image_settle f_Image_settle fd_Image_settle
  f_Image_take : Addr
  fd_Image_take : FuncData
  F_Image_take : Fun K "take" "Image.take" s_Image_take f_Image_take fd_Image_take
  f_Image_give : Addr
  fd_Image_give : FuncData
  F_Image_give : Fun K "give" "Image.give" s_Image_give f_Image_give fd_Image_give
  f_Image__put_block : Addr
  fd_Image__put_block : FuncData
  F_Image__put_block : Fun K "_put_block" "Image._put_block" s_Image__put_block f_Image__put_block fd_Image__put_block
  f_Image_free_blocks : Addr
  fd_Image_free_blocks : FuncData
  F_Image_free_blocks : Fun K "free_blocks" "Image.free_blocks" s_Image_free_blocks f_Image_free_blocks fd_Image_free_blocks
  f_Image_identity : Addr
  fd_Image_identity : FuncData
  F_Image_identity : Fun K "identity" "Image.identity" s_Image_identity f_Image_identity fd_Image_identity
  f_Image_fresh : Addr
  fd_Image_fresh : FuncData
  F_Image_fresh : Fun K "fresh" "Image.fresh" s_Image_fresh f_Image_fresh fd_Image_fresh
  f_Image_of_cells : Addr
  fd_Image_of_cells : FuncData
  F_Image_of_cells : Fun K "of_cells" "Image.of_cells" s_Image_of_cells f_Image_of_cells fd_Image_of_cells
  C_Plan : Addr
  mg_Plan : mg "Plan" = some (.ref C_Plan)
  cl_Plan : Cls K C_Plan
  na_Plan_blocks : NoAttr K C_Plan "blocks"
  na_Plan_nodes : NoAttr K C_Plan "nodes"
  na_Plan_slots : NoAttr K C_Plan "slots"
  na_Plan_maps : NoAttr K C_Plan "maps"
  na_Plan_first_node : NoAttr K C_Plan "first_node"
  na_Plan_first_data : NoAttr K C_Plan "first_data"
  mk_Plan : Mk K C_Plan f_Plan___init__
  mc_Plan : Value
  cr_Plan : ClX.CRead K C_Plan mc_Plan
  cv_Plan_WIDTH : ∃ u, ClX.CVal K C_Plan mc_Plan "WIDTH" (.int 8) u
  cv_Plan_FREE : ∃ u, ClX.CVal K C_Plan mc_Plan "FREE" (.int 0) u
  cv_Plan_LOGGED : ∃ u, ClX.CVal K C_Plan mc_Plan "LOGGED" (.int 1) u
  cv_Plan_PLAIN : ∃ u, ClX.CVal K C_Plan mc_Plan "PLAIN" (.int 2) u
  cv_Plan_OWNERS : ∃ u, ClX.CVal K C_Plan mc_Plan "OWNERS" (.int 4) u
  con_Plan_WIDTH : ∃ u, Con K C_Plan "WIDTH" (.int 8) u
  C_Image : Addr
  mg_Image : mg "Image" = some (.ref C_Image)
  cl_Image : Cls K C_Image
  na_Image_plan : NoAttr K C_Image "plan"
  na_Image_cells : NoAttr K C_Image "cells"
  na_Image_holdings : NoAttr K C_Image "holdings"
  na_Image_stamps : NoAttr K C_Image "stamps"
  na_Image_handles : NoAttr K C_Image "handles"
  na_Image_serial : NoAttr K C_Image "serial"
  na_Image_wish : NoAttr K C_Image "wish"
  na_Image_barred : NoAttr K C_Image "barred"
  mk_Image : Mk K C_Image f_Image___init__
  mc_Image : Value
  cr_Image : ClX.CRead K C_Image mc_Image
  m_Plan_map_place : Meth K C_Plan "map_place" f_Plan_map_place
  m_Plan_node_block : Meth K C_Plan "node_block" f_Plan_node_block
  m_Plan_data_blocks : Meth K C_Plan "data_blocks" f_Plan_data_blocks
  m_Image_twin : Meth K C_Image "twin" f_Image_twin
  m_Image_kind : Meth K C_Image "kind" f_Image_kind
  m_Image_begin : Meth K C_Image "begin" f_Image_begin
  m_Image_settle : Meth K C_Image "settle" f_Image_settle
  m_Image_take : Meth K C_Image "take" f_Image_take
  m_Image_give : Meth K C_Image "give" f_Image_give
  m_Image__put_block : Meth K C_Image "_put_block" f_Image__put_block
  m_Image_free_blocks : Meth K C_Image "free_blocks" f_Image_free_blocks
  m_Image_identity : Meth K C_Image "identity" f_Image_identity
  sm_Image_fresh : SMet K C_Image mc_Image "fresh" f_Image_fresh
  sm_Image_of_cells : SMet K C_Image mc_Image "of_cells" f_Image_of_cells
  C_Refused : Addr
  mg_Refused : mg "Refused" = some (.ref C_Refused)
  be_Refused : PySem.W.subIn K (.ref C_Refused) (.type "BaseException") = some true
  te_Refused : PySem.W.typeIn K (.ref C_Refused) = some (.type "type")
  ie_Refused : PySem.W.isClsIn K C_Refused = true
  C_OverQuota : Addr
  mg_OverQuota : mg "OverQuota" = some (.ref C_OverQuota)
  be_OverQuota : PySem.W.subIn K (.ref C_OverQuota) (.type "BaseException") = some true
  te_OverQuota : PySem.W.typeIn K (.ref C_OverQuota) = some (.type "type")
  ie_OverQuota : PySem.W.isClsIn K C_OverQuota = true
  xe_OverQuota : PySem.W.excIn K C_OverQuota [.type "ValueError", .type "Exception", .type "BaseException", .type "object"] "ValueError.__new__" = true
  ke_OverQuota : PySem.W.keepIn K (.ref C_OverQuota) = true
  ec_OverQuota : ExcC K C_OverQuota
  C_BlocksFull : Addr
  mg_BlocksFull : mg "BlocksFull" = some (.ref C_BlocksFull)
  be_BlocksFull : PySem.W.subIn K (.ref C_BlocksFull) (.type "BaseException") = some true
  te_BlocksFull : PySem.W.typeIn K (.ref C_BlocksFull) = some (.type "type")
  ie_BlocksFull : PySem.W.isClsIn K C_BlocksFull = true
  xe_BlocksFull : PySem.W.excIn K C_BlocksFull [.type "ValueError", .type "Exception", .type "BaseException", .type "object"] "ValueError.__new__" = true
  ke_BlocksFull : PySem.W.keepIn K (.ref C_BlocksFull) = true
  ec_BlocksFull : ExcC K C_BlocksFull
  sub_OverQuota_OverQuota : PySem.W.subIn K (.ref C_OverQuota) (.ref C_OverQuota) = some true
  sub_OverQuota_Refused : PySem.W.subIn K (.ref C_OverQuota) (.ref C_Refused) = some true
  sub_BlocksFull_Refused : PySem.W.subIn K (.ref C_BlocksFull) (.ref C_Refused) = some true
  sub_OverQuota_BlocksFull : PySem.W.subIn K (.ref C_OverQuota) (.ref C_BlocksFull) = some false
  sub_BlocksFull_OverQuota : PySem.W.subIn K (.ref C_BlocksFull) (.ref C_OverQuota) = some false
  c_ROOT : ∃ t, mg "ROOT" = some (.int 1 t)
  c_KIND : ∃ t, mg "KIND" = some (.int 0 t)
  c_LINKS : ∃ t, mg "LINKS" = some (.int 1 t)
  c_MAKING : ∃ t, mg "MAKING" = some (.int 7 t)
  c_FOLDER : ∃ t, mg "FOLDER" = some (.int 2 t)
  c_SUMS_BLOCK : ∃ t, mg "SUMS_BLOCK" = some (.int 0 t)
  c_LEAST_BLOCKS : ∃ t, mg "LEAST_BLOCKS" = some (.int 8 t)
  c_MOST_BLOCKS : ∃ t, mg "MOST_BLOCKS" = some (.int 64 t)
  c_LEAST_NODES : ∃ t, mg "LEAST_NODES" = some (.int 2 t)
  c_MOST_NODES : ∃ t, mg "MOST_NODES" = some (.int 16 t)
  c_MOST_SLOTS : ∃ t, mg "MOST_SLOTS" = some (.int 200 t)
  c_LEAST_DATA : ∃ t, mg "LEAST_DATA" = some (.int 2 t)
  c_FIRST_MAP : ∃ t, mg "FIRST_MAP" = some (.int 2 t)
  b_abs : mg "abs" = none
  b_int : mg "int" = none
  b_len : mg "len" = none
  b_range : mg "range" = none
  b_isinstance : mg "isinstance" = none
  b_bool : mg "bool" = none
  b_list : mg "list" = none
  b_dict : mg "dict" = none
  b_tuple : mg "tuple" = none

section
variable {P : Program} {w : World} {K : PySem.W.Frag} {mg : Str → Option Value} {base : Heap}
theorem b_Lfeed (T : Tx K mg) : Binds K T.fd_Lfeed ["_law_script"] [] := T.F_Lfeed.binds (ps := ["_law_script"]) fun _ _ _ _ _ _ us hl => match us, hl with | [_], _ => rfl
theorem b_Lpick (T : Tx K mg) : Binds K T.fd_Lpick ["_law_feed_here", "_law_limit_here"] [] := T.F_Lpick.binds (ps := ["_law_feed_here", "_law_limit_here"]) fun _ _ _ _ _ _ us hl => match us, hl with | [_, _], _ => rfl
theorem b_Lstart (T : Tx K mg) : Binds K T.fd_Lstart [] [] := T.F_Lstart.binds (ps := []) fun _ _ _ _ _ _ us hl => match us, hl with | [], _ => rfl
theorem b_Lagrees (T : Tx K mg) : Binds K T.fd_Lagrees ["_law_image", "_law_book"] [] := T.F_Lagrees.binds (ps := ["_law_image", "_law_book"]) fun _ _ _ _ _ _ us hl => match us, hl with | [_, _], _ => rfl
theorem b_Ldue_block (T : Tx K mg) : Binds K T.fd_Ldue_block ["_law_book", "_law_kind", "_law_wish", "_law_barred"] [] := T.F_Ldue_block.binds (ps := ["_law_book", "_law_kind", "_law_wish", "_law_barred"]) fun _ _ _ _ _ _ us hl => match us, hl with | [_, _, _, _], _ => rfl
theorem b_Lrefuses (T : Tx K mg) : Binds K T.fd_Lrefuses ["_law_image", "_law_kind", "_law_owner", "_law_quota"] [] := T.F_Lrefuses.binds (ps := ["_law_image", "_law_kind", "_law_owner", "_law_quota"]) fun _ _ _ _ _ _ us hl => match us, hl with | [_, _, _, _], _ => rfl
theorem b_Ltake (T : Tx K mg) : Binds K T.fd_Ltake ["_law_image", "_law_book", "_law_feed_here"] [] := T.F_Ltake.binds (ps := ["_law_image", "_law_book", "_law_feed_here"]) fun _ _ _ _ _ _ us hl => match us, hl with | [_, _, _], _ => rfl
theorem b_Lnote (T : Tx K mg) : Binds K T.fd_Lnote ["_law_book", "_law_x", "_law_kind", "_law_serial", "_law_owner"] [] := T.F_Lnote.binds (ps := ["_law_book", "_law_x", "_law_kind", "_law_serial", "_law_owner"]) fun _ _ _ _ _ _ us hl => match us, hl with | [_, _, _, _, _], _ => rfl
theorem b_Ltouch (T : Tx K mg) : Binds K T.fd_Ltouch ["_law_book", "_law_x"] [] := T.F_Ltouch.binds (ps := ["_law_book", "_law_x"]) fun _ _ _ _ _ _ us hl => match us, hl with | [_, _], _ => rfl
theorem b_Lgive (T : Tx K mg) : Binds K T.fd_Lgive ["_law_image", "_law_book", "_law_feed_here"] [] := T.F_Lgive.binds (ps := ["_law_image", "_law_book", "_law_feed_here"]) fun _ _ _ _ _ _ us hl => match us, hl with | [_, _, _], _ => rfl
theorem b_Lchange (T : Tx K mg) : Binds K T.fd_Lchange ["_law_image", "_law_book", "_law_feed_here"] [] := T.F_Lchange.binds (ps := ["_law_image", "_law_book", "_law_feed_here"]) fun _ _ _ _ _ _ us hl => match us, hl with | [_, _, _], _ => rfl
theorem b_Llimit (T : Tx K mg) : Binds K T.fd_Llimit ["_law_image", "_law_book", "_law_feed_here"] [] := T.F_Llimit.binds (ps := ["_law_image", "_law_book", "_law_feed_here"]) fun _ _ _ _ _ _ us hl => match us, hl with | [_, _, _], _ => rfl
theorem b_Lsame (T : Tx K mg) : Binds K T.fd_Lsame ["_law_image", "_law_kept"] [] := T.F_Lsame.binds (ps := ["_law_image", "_law_kept"]) fun _ _ _ _ _ _ us hl => match us, hl with | [_, _], _ => rfl
theorem b_law (T : Tx K mg) : Binds K T.fd_law ["_law_script"] [] := T.F_law.binds (ps := ["_law_script"]) fun _ _ _ _ _ _ us hl => match us, hl with | [_], _ => rfl
theorem b_Plan_map_place (T : Tx K mg) : Binds K T.fd_Plan_map_place ["self", "x"] [] := T.F_Plan_map_place.binds (ps := ["self", "x"]) fun _ _ _ _ _ _ us hl => match us, hl with | [_, _], _ => rfl
theorem b_Plan_node_block (T : Tx K mg) : Binds K T.fd_Plan_node_block ["self", "n"] [] := T.F_Plan_node_block.binds (ps := ["self", "n"]) fun _ _ _ _ _ _ us hl => match us, hl with | [_, _], _ => rfl
theorem b_Plan_data_blocks (T : Tx K mg) : Binds K T.fd_Plan_data_blocks ["self"] [] := T.F_Plan_data_blocks.binds (ps := ["self"]) fun _ _ _ _ _ _ us hl => match us, hl with | [_], _ => rfl
theorem b_Image___init__ (T : Tx K mg) : Binds K T.fd_Image___init__ ["self", "plan"] [] := T.F_Image___init__.binds (ps := ["self", "plan"]) fun _ _ _ _ _ _ us hl => match us, hl with | [_, _], _ => rfl
theorem b_Image_twin (T : Tx K mg) : Binds K T.fd_Image_twin ["self"] [] := T.F_Image_twin.binds (ps := ["self"]) fun _ _ _ _ _ _ us hl => match us, hl with | [_], _ => rfl
theorem b_Image_kind (T : Tx K mg) : Binds K T.fd_Image_kind ["self", "x"] [] := T.F_Image_kind.binds (ps := ["self", "x"]) fun _ _ _ _ _ _ us hl => match us, hl with | [_, _], _ => rfl
theorem b_Image_begin (T : Tx K mg) : Binds K T.fd_Image_begin ["self", "wish", "barred"] [] := T.F_Image_begin.binds (ps := ["self", "wish", "barred"]) fun _ _ _ _ _ _ us hl => match us, hl with | [_, _, _], _ => rfl
theorem b_Image_settle (T : Tx K mg) : Binds K T.fd_Image_settle ["self", "before"] [] := T.F_Image_settle.binds (ps := ["self", "before"]) fun _ _ _ _ _ _ us hl => match us, hl with | [_, _], _ => rfl
theorem b_Image_take (T : Tx K mg) : Binds K T.fd_Image_take ["self", "kind", "owner"] [] := T.F_Image_take.binds (ps := ["self", "kind", "owner"]) fun _ _ _ _ _ _ us hl => match us, hl with | [_, _, _], _ => rfl
theorem b_Image_give (T : Tx K mg) : Binds K T.fd_Image_give ["self", "x", "owner"] [] := T.F_Image_give.binds (ps := ["self", "x", "owner"]) fun _ _ _ _ _ _ us hl => match us, hl with | [_, _, _], _ => rfl
theorem b_Image__put_block (T : Tx K mg) : Binds K T.fd_Image__put_block ["self", "x", "kind", "serial"] [] := T.F_Image__put_block.binds (ps := ["self", "x", "kind", "serial"]) fun _ _ _ _ _ _ us hl => match us, hl with | [_, _, _, _], _ => rfl
theorem b_Image_free_blocks (T : Tx K mg) : Binds K T.fd_Image_free_blocks ["self"] [] := T.F_Image_free_blocks.binds (ps := ["self"]) fun _ _ _ _ _ _ us hl => match us, hl with | [_], _ => rfl
theorem b_Image_identity (T : Tx K mg) : Binds K T.fd_Image_identity ["self", "x"] [] := T.F_Image_identity.binds (ps := ["self", "x"]) fun _ _ _ _ _ _ us hl => match us, hl with | [_, _], _ => rfl
theorem b_Image_fresh (T : Tx K mg) : Binds K T.fd_Image_fresh ["plan"] [] := T.F_Image_fresh.binds (ps := ["plan"]) fun _ _ _ _ _ _ us hl => match us, hl with | [_], _ => rfl
theorem b_Image_of_cells (T : Tx K mg) : Binds K T.fd_Image_of_cells ["plan", "rows"] [] := T.F_Image_of_cells.binds (ps := ["plan", "rows"]) fun _ _ _ _ _ _ us hl => match us, hl with | [_, _], _ => rfl
end
end K88
namespace K88
open PySem PySem.Spec PyProof.Rows L2 Rg
section
variable {P : Program} {w : World} {K : PySem.W.Frag} {mg : Str → Option Value} {base : Heap}
/-! ### _law_pick -/
def sp_Lpick : Sp := fun vs H Q _ => ∃ (p : Addr) (fs : List Int) (lim : Int), vs = [.ref p, .int lim] ∧ H p = some (.lst (fs.map V.int)) ∧ 0 < lim ∧
  ∀ (r : Int) (fs' : List Int), 0 ≤ r → r < lim → fs'.length ≤ fs.length → Q (.int r) (upd H p (.lst (fs'.map V.int)))
theorem ok_Lpick (T : Tx K mg) : FnOk P w K mg base CX0 1 T.f_Lpick T.fd_Lpick ["_law_feed_here", "_law_limit_here"] sp_Lpick := by
  refine T.F_Lpick.ok sc_Lpick (fun vs H Q E h => ?_) (fun cdv A outer s H vs Q E hr h => ?_)
  · obtain ⟨p, fs, lim, rfl, _⟩ := h
    rfl
  · obtain ⟨p, fs, lim, rfl, hp, hl, k⟩ := h
    refine ⟨_, (pss_cons (ps_if (pt_cmpR op_eq (pe_callB call_len_seq rfl T.b_len (by decide +kernel) (pa_cons (pv 0) pa_nil)) pe_int (nomark _))
        (pss_one (ps_ret pe_int))
        pss_nil)
      (pss_one (ps_ret (pe_op op_mod (pe_callTy call_int1 rfl T.b_int (by decide +kernel) (pa_cons (pe_bm PySem.F.plainAttrs_list PySem.F.slot_list_pop PySem.F.type_list_pop mt_popAt (pv 0) (pa_cons pe_int pa_nil)) pa_nil)) (pv 1))))), ?_⟩
    refine ⟨_, rfl, p, fs.map V.int, rfl, .inl (.inl (.inl hp)), rfl, _, rfl, ite2 (fun e => ?_) (fun e => ?_)⟩
    · have := k 0 fs (Int.le_refl _) hl (Nat.le_refl _)
      rw [upd_id hp] at this
      exact this
    · cases fs with
      | nil => exact absurd (decide_eq_true rfl) e
      | cons x r =>
        refine ⟨.ref p, rfl, .inl ⟨rfl, _, .inl (.inl hp)⟩, p, _, 0, 0, .int x, rfl, rfl, hp, by decide, by decide, ?_, rfl, .inl ⟨x, rfl, ?_⟩⟩
        · rw [List.length_map]; simp [seqIndex?]
        · refine ⟨.int lim, rfl, _, _, rfl, rfl, hl, ?_⟩
          exact k _ r (Int.emod_nonneg _ (by omega)) (Int.emod_lt_of_pos _ hl) (by simp)

/-! ### _law_feed -/
def sp_Lfeed (K : PySem.W.Frag) : Sp := fun vs H Q _ => ∃ (a : Addr) (ns : List Int), vs = [.ref a] ∧ SqL K H a (ns.map V.int) ∧ ns.length ≤ 63 ∧
  ∀ (H' : Hp) (p : Addr) (fs : List Int), Same H H' → H p = none → H' p = some (.lst (fs.map V.int)) → fs.length ≤ 5000 → Q (.ref p) H'
theorem ok_Lfeed (T : Tx K mg) : FnOk P w K mg base CX0 1 T.f_Lfeed T.fd_Lfeed ["_law_script"] (sp_Lfeed K) := by
  refine T.F_Lfeed.ok sc_Lfeed (fun vs H Q E h => ?_) (fun cdv A outer s H vs Q E hr h => ?_)
  · obtain ⟨_, _, rfl, _⟩ := h; rfl
  · obtain ⟨a, ns, rfl, hS, hlen, k⟩ := h
    refine ⟨_, (pss_cons (ps_set (i := 1) sc_Lfeed.nd rfl (.inl rfl) (pe_lst pa_nil))
      (pss_cons (ps_for PassesOwn.never rfl (pi_list (pv 0)) (pg_name (i := 2) sc_Lfeed.nd rfl (.inl rfl))
        (pss_cons (ps_set (i := 3) sc_Lfeed.nd rfl (.inl rfl) (pe_callB call_abs rfl T.b_abs (by decide +kernel) (pa_cons (pv 2) pa_nil)))
        (Evl.pss_cut (ps_if (pt_cmpR op_lt (pv 3) (pe_op op_pow pe_int pe_int) (nomark _))
          (pss_cons (ps_set (i := 3) sc_Lfeed.nd rfl (.inl rfl) (pe_op op_mod (pe_callTy call_int1 rfl T.b_int (by decide +kernel) (pa_cons (pe_op op_add (pe_op op_mul (pv 3) pe_int) pe_int) pa_nil)) pe_int))
          (pss_cons (ps_expr (pe_bm PySem.F.plainAttrs_list PySem.F.slot_list_append PySem.F.type_list_append mt_append (pv 1) (pa_cons (pe_op op_mod (pe_callTy call_int1 rfl T.b_int (by decide +kernel) (pa_cons (pe_op op_add (pe_op op_mul (pv 3) pe_int) pe_int) pa_nil)) pe_int) pa_nil)))
          (pss_one (ps_set (i := 3) sc_Lfeed.nd rfl (.inl rfl) pe_int))))
          pss_nil)
        (pss_one (ps_for PassesOwn.never rfl (pi_range1 rfl T.b_range (pa_cons pe_int pa_nil)) (pg_name (i := 4) sc_Lfeed.nd rfl (.inl rfl))
          (pss_one (ps_if (pt_cmpR op_gt (pv 3) pe_int (nomark _))
            (pss_cons (ps_expr (pe_bm PySem.F.plainAttrs_list PySem.F.slot_list_append PySem.F.type_list_append mt_append (pv 1) (pa_cons (pe_op op_mod (pe_callTy call_int1 rfl T.b_int (by decide +kernel) (pa_cons (pv 3) pa_nil)) pe_int) pa_nil)))
            (pss_one (ps_set (i := 3) sc_Lfeed.nd rfl (.inl rfl) (pe_op op_fdiv (pv 3) pe_int))))
            pss_nil)))))))
      (pss_one (ps_ret (pv 1))))), ?_⟩
    refine ⟨Nat.zero_le _, fun p np => ?_⟩
    have s0 : Same H (upd H p (.lst [])) := same_upd np
    have npa : ∀ H2, SqL K H2 a (ns.map V.int) → True := fun _ _ => trivial
    refine ⟨_, rfl, a, rfl, ⟨_, s0.seq hS⟩, for_list (K := K) (a := a) (xs := ns.map V.int) (fun i σ H2 => ∃ (fs : List Int) (v2 v3 v4 : Option V), σ = [some (.ref a), some (.ref p), v2, v3, v4] ∧ H2 = upd H p (.lst (fs.map V.int)) ∧ fs.length ≤ 61 * i)
      ⟨[], none, none, none, rfl, rfl, Nat.zero_le _⟩ (fun i σ H2 _ ⟨_, _, _, _, _, e, _⟩ => by rw [e]; exact (same_upd np).seq hS) ?_ ?_⟩
    · rintro i y σ H2 hi ⟨fs, v2, v3, v4, rfl, rfl, hl⟩
      have hil : i < 63 := by
        have := (List.getElem?_eq_some_iff.mp hi).1
        rw [List.length_map] at this
        omega
      obtain ⟨z, rfl⟩ : ∃ z, y = V.int z := by
        rw [List.getElem?_map] at hi
        cases e : ns[i]? with
        | none => rw [e] at hi; cases hi
        | some z => rw [e] at hi; exact ⟨z, (Option.some.inj hi).symm⟩
      refine ⟨_, rfl, z, rfl, ?_⟩
      refine ⟨fun σ' H' => ∃ (fs : List Int) (R : Int) (v4 : Option V), σ' = [some (.ref a), some (.ref p), some (.int z), some (.int R), v4] ∧ H' = upd H p (.lst (fs.map V.int)) ∧ 0 ≤ R ∧ fs.length ≤ 61 * i + 1, ?_, ?_⟩
      · have hz : 0 ≤ (if z < 0 then -z else z) := by split <;> omega
        refine ⟨_, rfl, _, _, rfl, rfl, ⟨by decide, by decide, by decide⟩, _, _, rfl, rfl, _, rfl, ite2 (fun e => ?_) (fun e => ?_)⟩
        · have e1 : (if z < 0 then -z else z) < 10 ^ 18 := of_decide_eq_true e
          refine ⟨_, rfl, _, _, rfl, rfl, .inl ⟨by omega, by omega⟩, _, _, rfl, rfl, .inl ⟨_, rfl, _, _, rfl, rfl, (by show (0 : Int) < _; decide), ?_⟩⟩
          refine ⟨.ref p, rfl, .inl ⟨rfl, _, .inl (.inl upd_same)⟩, _, rfl, _, _, rfl, rfl, .inr ⟨by decide, by decide⟩, _, _, rfl, rfl, .inl ⟨_, rfl, _, _, rfl, rfl, (by show (0 : Int) < _; decide), p, _, _, rfl, rfl, upd_same, ?_, ?_⟩⟩
          · rw [List.length_map]; exact Nat.lt_of_lt_of_le (Nat.lt_succ_of_le hl) (by unfold sizeLine; omega)
          · exact ⟨fs ++ [_], 0, v4, rfl, upd_app, Int.le_refl _, by rw [List.length_append]; simp; omega⟩
        · exact ⟨fs, _, v4, rfl, rfl, hz, by omega⟩
      · rintro σ' H' ⟨fs, R, v4, rfl, rfl, hR, hl⟩
        refine ⟨60, rfl, by decide, by decide, for_range (lo := 0) (n := 60) (fun j σ' H' => ∃ (fs : List Int) (R : Int) (v4 : Option V), σ' = [some (.ref a), some (.ref p), some (.int z), some (.int R), v4] ∧ H' = upd H p (.lst (fs.map V.int)) ∧ 0 ≤ R ∧ fs.length ≤ 61 * i + 1 + j)
          ⟨fs, R, v4, rfl, rfl, hR, hl⟩ ?_ ?_⟩
        · rintro j σ' H' hj ⟨fs, R, v4, rfl, rfl, hR, hl⟩
          refine ⟨_, rfl, _, _, rfl, rfl, _, rfl, ite2 (fun e => ?_) (fun e => ?_)⟩
          · refine ⟨.ref p, rfl, .inl ⟨rfl, _, .inl (.inl upd_same)⟩, _, rfl, .inl ⟨_, rfl, _, _, rfl, rfl, (by show (0 : Int) < _; decide), p, _, _, rfl, rfl, upd_same, ?_, ?_⟩⟩
            · rw [List.length_map]; exact Nat.lt_of_lt_of_le (Nat.lt_succ_of_le hl) (by unfold sizeLine; omega)
            · refine ⟨_, rfl, _, _, rfl, rfl, ⟨by decide, by decide⟩, fs ++ [_], _, _, rfl, upd_app, Int.ediv_nonneg hR (by decide), by rw [List.length_append]; simp; omega⟩
          · exact ⟨fs, R, _, rfl, rfl, hR, by omega⟩
        · rintro σ' H' ⟨fs, R, v4, rfl, rfl, hR, hl⟩
          exact ⟨fs, _, _, _, rfl, rfl, by omega⟩
    · rintro σ H2 ⟨fs, v2, v3, v4, rfl, rfl, hl⟩
      rw [List.length_map] at hl
      exact ⟨_, rfl, k _ p fs (same_upd np) np upd_same (by omega)⟩
end
end K88
namespace K88
open PySem PySem.Spec PyProof.Rows L2 Rg
section
variable {P : Program} {w : World} {K : PySem.W.Frag} {mg : Str → Option Value} {base : Heap}
/-! ### plans -/
def planF (b n s : Int) : List (Str × V) := [("blocks", .int b), ("nodes", .int n), ("slots", .int s), ("maps", .int ((b + 8 - 1) / 8)), ("first_node", .int (2 + (b + 8 - 1) / 8)), ("first_data", .int (2 + (b + 8 - 1) / 8 + n))]
structure PlanAt (C : Addr) (H : Hp) (p : Addr) (b n s : Int) : Prop where
  ob : ∃ dx, H p = some (.ins C dx (planF b n s))
  b1 : 8 ≤ b
  b2 : b ≤ 64
  n1 : 2 ≤ n
  n2 : n ≤ 16
  s1 : b < s
  s2 : s ≤ 200
  d : 2 ≤ b - (2 + (b + 8 - 1) / 8 + n)
theorem PlanAt.same {C : Addr} {H H' : Hp} {p : Addr} {b n s : Int} (e : Same H H') (h : PlanAt C H p b n s) : PlanAt C H' p b n s :=
  let ⟨dx, z⟩ := h.ob
  ⟨⟨dx, e _ _ z⟩, h.b1, h.b2, h.n1, h.n2, h.s1, h.s2, h.d⟩
theorem PlanAt.of {C : Addr} {H H' : Hp} {p : Addr} {b n s : Int} (h : PlanAt C H p b n s) (e : ∀ o, H p = some o → H' p = some o) : PlanAt C H' p b n s :=
  let ⟨dx, z⟩ := h.ob
  ⟨⟨dx, e _ z⟩, h.b1, h.b2, h.n1, h.n2, h.s1, h.s2, h.d⟩
def sp_Plan_init (C : Addr) : Sp := fun vs H Q _ => ∃ (p dx : Addr) (b n s : Int), vs = [.ref p, .int b, .int n, .int s] ∧ H p = some (.ins C dx []) ∧ 8 ≤ b ∧ b ≤ 64 ∧ 2 ≤ n ∧ n ≤ 16 ∧ b < s ∧ s ≤ 200 ∧ 2 ≤ b - (2 + (b + 8 - 1) / 8 + n) ∧
  Q .non (upd H p (.ins C dx (planF b n s)))
theorem ok_Plan_init (T : Tx K mg) : FnOk P w K mg base CX0 1 T.f_Plan___init__ T.fd_Plan___init__ ["self", "blocks", "nodes", "slots"] (sp_Plan_init T.C_Plan) := by
  refine T.F_Plan___init__.ok sc_Plan___init__ (fun vs H Q E h => ?_) (fun cdv A outer s H vs Q E hr h => ?_)
  · obtain ⟨_, _, _, _, _, rfl, _⟩ := h; rfl
  · obtain ⟨p, dx, b, n, sl, rfl, hp, h1, h2, h3, h4, h5, h6, h7, k⟩ := h
    refine ⟨_, (pss_cons (ps_if (pt_not (pt_chain op_le op_le (pe_gc T.c_LEAST_BLOCKS) (pv 1) (pe_gc T.c_MOST_BLOCKS)))
        (pss_one ps_never)
        pss_nil)
      (pss_cons (ps_if (pt_not (pt_chain op_le op_le (pe_gc T.c_LEAST_NODES) (pv 2) (pe_gc T.c_MOST_NODES)))
        (pss_one ps_never)
        pss_nil)
      (pss_cons (ps_if (pt_not (pt_chain op_lt op_le (pv 1) (pv 3) (pe_gc T.c_MOST_SLOTS)))
        (pss_one ps_never)
        pss_nil)
      (pss_cons (ps_fld (pv 0) (pv 1) rfl)
      (pss_cons (ps_fld (pv 0) (pv 2) rfl)
      (pss_cons (ps_fld (pv 0) (pv 3) rfl)
      (pss_cons (ps_fld (pv 0) (pe_op op_fdiv (pe_op op_sub (pe_op op_add (pv 1) (pe_con (pv 0) rfl)) pe_int) (pe_con (pv 0) rfl)) rfl)
      (pss_cons (ps_fld (pv 0) (pe_op op_add (pe_gc T.c_FIRST_MAP) (pe_fld (pv 0) rfl)) rfl)
      (pss_cons (ps_fld (pv 0) (pe_op op_add (pe_fld (pv 0) rfl) (pv 2)) rfl)
      (pss_one (ps_if (pt_cmpR op_lt (pe_op op_sub (pv 1) (pe_fld (pv 0) rfl)) (pe_gc T.c_LEAST_DATA) (nomark _))
        (pss_one ps_never)
        pss_nil))))))))))), ?_⟩
    obtain ⟨uW, cW⟩ := T.con_Plan_WIDTH
    refine ⟨_, rfl, _, _, rfl, rfl, _, rfl, ?_⟩
    rw [decide_eq_true h1]
    refine iteT ⟨_, _, rfl, rfl, _, rfl, ?_⟩
    rw [decide_eq_true h2]
    refine iteF ⟨_, rfl, _, _, rfl, rfl, _, rfl, ?_⟩
    rw [decide_eq_true h3]
    refine iteT ⟨_, _, rfl, rfl, _, rfl, ?_⟩
    rw [decide_eq_true h4]
    refine iteF ⟨_, rfl, _, rfl, _, _, rfl, rfl, _, rfl, ?_⟩
    rw [decide_eq_true h5]
    refine iteT ⟨_, _, rfl, rfl, _, rfl, ?_⟩
    rw [decide_eq_true h6]
    refine iteF ⟨_, rfl, _, rfl, p, _, dx, _, rfl, hp, T.cl_Plan, T.na_Plan_blocks, (by show 0 < 1000; decide), ?_⟩
    refine ⟨_, rfl, _, rfl, p, _, dx, _, rfl, upd_same, T.cl_Plan, T.na_Plan_nodes, (by show 1 < 1000; decide), ?_⟩
    refine ⟨_, rfl, _, rfl, p, _, dx, _, rfl, upd_same, T.cl_Plan, T.na_Plan_slots, (by show 2 < 1000; decide), ?_⟩
    refine ⟨_, rfl, _, rfl, p, _, dx, _, _, _, rfl, upd_same, T.cl_Plan, cW, rfl, _, _, rfl, rfl, _, _, rfl, rfl, _, rfl, p, _, dx, _, _, _, rfl, upd_same, T.cl_Plan, cW, rfl, _, _, rfl, rfl, ⟨by decide, by decide⟩, ?_⟩
    refine ⟨_, rfl, p, _, dx, _, rfl, upd_same, T.cl_Plan, T.na_Plan_maps, (by show 3 < 1000; decide), ?_⟩
    refine ⟨_, rfl, p, _, dx, _, _, rfl, upd_same, T.cl_Plan, T.na_Plan_maps, rfl, _, _, rfl, rfl, _, rfl, p, _, dx, _, rfl, upd_same, T.cl_Plan, T.na_Plan_first_node, (by show 4 < 1000; decide), ?_⟩
    refine ⟨_, rfl, p, _, dx, _, _, rfl, upd_same, T.cl_Plan, T.na_Plan_first_node, rfl, _, rfl, _, _, rfl, rfl, _, rfl, p, _, dx, _, rfl, upd_same, T.cl_Plan, T.na_Plan_first_data, (by show 5 < 1000; decide), ?_⟩
    refine ⟨_, rfl, _, rfl, p, _, dx, _, _, rfl, upd_same, T.cl_Plan, T.na_Plan_first_data, rfl, _, _, rfl, rfl, _, _, rfl, rfl, _, rfl, ?_⟩
    rw [decide_eq_false (by omega)]
    refine iteF ?_
    rw [upd_upd, upd_upd, upd_upd, upd_upd, upd_upd]
    exact k
/-- the call Plan(b, nodes=n, slots=s) -/
theorem kb_Plan (T : Tx K mg) : KBn K T.fd_Plan___init__ ["self", "blocks", "nodes", "slots"] 2 ["nodes", "slots"] (fun us ws => us ++ ws) (fun us ws => us ++ ws) := by
  obtain ⟨oc, od, kV, doc, pm, an, cdv, ct, osl, e, lk, hcd⟩ := T.F_Plan___init__.ex
  refine ⟨fun s us ws _ l1 l2 => ?_, fun r1 r2 => r1.append r2⟩
  rw [e]
  match us, ws, l1, l2 with
  | [_, _], [_, _], _, _ => exact .of_eq rfl
def sp_map_place (C : Addr) : Sp := fun vs H Q _ => ∃ (p : Addr) (b n s x : Int), vs = [.ref p, .int x] ∧ PlanAt C H p b n s ∧ ∀ t, H t = none → Q (.ref t) (upd H t (.tup [.int (2 + x / 8), .int (x % 8)]))
theorem ok_Plan_map_place (T : Tx K mg) : FnOk P w K mg base CX0 1 T.f_Plan_map_place T.fd_Plan_map_place ["self", "x"] (sp_map_place T.C_Plan) := by
  refine T.F_Plan_map_place.ok sc_Plan_map_place (fun vs H Q E h => ?_) (fun cdv A outer s H vs Q E hr h => ?_)
  · obtain ⟨_, _, _, _, _, rfl, _⟩ := h; rfl
  · obtain ⟨p, b, n, sl, x, rfl, hP, k⟩ := h
    obtain ⟨dx, hp⟩ := hP.ob
    obtain ⟨uW, cW⟩ := T.con_Plan_WIDTH
    refine ⟨_, (pss_one (ps_ret (pe_tup (pa_cons (pe_op op_add (pe_gc T.c_FIRST_MAP) (pe_op op_fdiv (pv 1) (pe_con (pv 0) rfl))) (pa_cons (pe_op op_mod (pv 1) (pe_con (pv 0) rfl)) pa_nil))))), ?_⟩
    refine ⟨_, rfl, _, rfl, p, _, dx, _, _, _, rfl, hp, T.cl_Plan, cW, rfl, _, _, rfl, rfl, ⟨by decide, by decide⟩, _, _, rfl, rfl, _, rfl, _, rfl, p, _, dx, _, _, _, rfl, hp, T.cl_Plan, cW, rfl, _, _, rfl, rfl, (by show (0 : Int) < _; decide), (by show 2 ≤ sizeLine; decide), k⟩
def sp_node_block (C : Addr) : Sp := fun vs H Q _ => ∃ (p : Addr) (b n s x : Int), vs = [.ref p, .int x] ∧ PlanAt C H p b n s ∧ Q (.int (2 + (b + 8 - 1) / 8 + x - 1)) H
theorem ok_Plan_node_block (T : Tx K mg) : FnOk P w K mg base CX0 1 T.f_Plan_node_block T.fd_Plan_node_block ["self", "n"] (sp_node_block T.C_Plan) := by
  refine T.F_Plan_node_block.ok sc_Plan_node_block (fun vs H Q E h => ?_) (fun cdv A outer s H vs Q E hr h => ?_)
  · obtain ⟨_, _, _, _, _, rfl, _⟩ := h; rfl
  · obtain ⟨p, b, n, sl, x, rfl, hP, k⟩ := h
    obtain ⟨dx, hp⟩ := hP.ob
    refine ⟨_, (pss_one (ps_ret (pe_op op_sub (pe_op op_add (pe_fld (pv 0) rfl) (pv 1)) pe_int))), ?_⟩
    exact ⟨_, rfl, p, _, dx, _, _, rfl, hp, T.cl_Plan, T.na_Plan_first_node, rfl, _, rfl, _, _, rfl, rfl, _, _, rfl, rfl, k⟩
end
end K88
namespace K88
open PySem PySem.Spec PyProof.Rows L2 Rg
/-! ### a list of lists of ints -/
structure Grid (H : Hp) (ca : Addr) (rs : List Addr) (M : List (List Int)) : Prop where
  out : H ca = some (.lst (rs.map V.ref))
  len : rs.length = M.length
  row : ∀ (i : Nat) (r : Addr) (m : List Int), rs[i]? = some r → M[i]? = some m → H r = some (.lst (m.map V.int))
  nd : rs.Nodup
  nin : ca ∉ rs
theorem Grid.held {H : Hp} {ca : Addr} {rs : List Addr} {M : List (List Int)} (G : Grid H ca rs M) {r : Addr} (h : r ∈ rs) : ∃ o, H r = some o := by
  obtain ⟨i, hi, e⟩ := List.getElem_of_mem h
  have hm : i < M.length := by rw [← G.len]; exact hi
  exact ⟨_, G.row i r M[i] (by rw [List.getElem?_eq_getElem hi, e]) (List.getElem?_eq_getElem hm)⟩
theorem Grid.same {H H' : Hp} {ca : Addr} {rs : List Addr} {M : List (List Int)} (G : Grid H ca rs M) (s : Same H H') : Grid H' ca rs M :=
  ⟨s _ _ G.out, G.len, fun i r m a b => s _ _ (G.row i r m a b), G.nd, G.nin⟩
/-- kept where it stands -/
theorem Grid.keep {H H' : Hp} {ca : Addr} {rs : List Addr} {M : List (List Int)} (G : Grid H ca rs M) (h : ∀ b o, b = ca ∨ b ∈ rs → H b = some o → H' b = some o) : Grid H' ca rs M :=
  ⟨h _ _ (.inl rfl) G.out, G.len, fun i r m a b => h _ _ (.inr (List.mem_of_getElem? a)) (G.row i r m a b), G.nd, G.nin⟩
theorem Grid.get {H : Hp} {ca : Addr} {rs : List Addr} {M : List (List Int)} (G : Grid H ca rs M) {i : Nat} {m : List Int} (h : M[i]? = some m) : ∃ r, rs[i]? = some r ∧ H r = some (.lst (m.map V.int)) ∧ r ≠ ca := by
  have hi : i < rs.length := by rw [G.len]; exact (List.getElem?_eq_some_iff.mp h).1
  refine ⟨rs[i], List.getElem?_eq_getElem hi, G.row i _ m (List.getElem?_eq_getElem hi) h, fun e => G.nin ?_⟩
  rw [← e]
  exact List.getElem_mem hi
/-- one row stored anew -/
theorem Grid.put {H : Hp} {ca : Addr} {rs : List Addr} {M : List (List Int)} (G : Grid H ca rs M) {i : Nat} {r : Addr} {m : List Int} (hr : rs[i]? = some r) : Grid (upd H r (.lst (m.map V.int))) ca rs (M.set i m) := by
  have hi : i < rs.length := (List.getElem?_eq_some_iff.mp hr).1
  have hir : rs[i] = r := (List.getElem?_eq_some_iff.mp hr).2
  have rin : r ∈ rs := List.mem_of_getElem? hr
  refine ⟨?_, by rw [List.length_set]; exact G.len, fun j q m' hj hm => ?_, G.nd, G.nin⟩
  · rw [upd_ne (fun e => G.nin (by rw [e]; exact rin))]
    exact G.out
  · by_cases e : i = j
    · subst e
      rw [hr] at hj
      cases hj
      rw [List.getElem?_set_self (by rw [← G.len]; exact hi)] at hm
      cases hm
      exact upd_same
    · rw [List.getElem?_set_ne e] at hm
      have hq : q ≠ r := fun z => by
        subst z
        have hjl : j < rs.length := (List.getElem?_eq_some_iff.mp hj).1
        have := (List.getElem?_eq_some_iff.mp hj).2
        exact e ((List.getElem_inj G.nd).mp (hir.trans this.symm))
      rw [upd_ne hq]
      exact G.row j q m' hj hm
theorem map_set {α β : Type} (f : α → β) (l : List α) (i : Nat) (x : α) : (l.map f).set i (f x) = (l.set i x).map f := by
  rw [List.map_set]
/-- a grid that is new -/
structure NewGrid (H0 H : Hp) (D : Addr) (qs : List Addr) (M : List (List Int)) : Prop where
  grid : Grid H D qs M
  fresh : ∀ q ∈ qs, H0 q = none
  freshD : H0 D = none
  same : Same H0 H
theorem NewGrid.start {H0 H : Hp} {D : Addr} (s : Same H0 H) (hD : H0 D = none) (hn : H D = none) : NewGrid H0 (upd H D (.lst [])) D [] [] :=
  ⟨⟨by rw [upd_same]; rfl, rfl, fun i r m a _ => by simp at a, List.nodup_nil, by simp⟩, fun q h => (by cases h), hD, s.trans (same_upd hn)⟩
theorem NewGrid.snoc {H0 H H1 : Hp} {D : Addr} {qs : List Addr} {M : List (List Int)} {p : Addr} {m : List Int} (G : NewGrid H0 H D qs M) (s : Same H H1) (hp : H p = none) (h1 : H1 p = some (.lst (m.map V.int))) :
    NewGrid H0 (upd H1 D (.lst (qs.map V.ref ++ [V.ref p]))) D (qs ++ [p]) (M ++ [m]) := by
  have pD : p ≠ D := fun e => by
    rw [e, G.grid.out] at hp
    cases hp
  have pq : p ∉ qs := fun h => by
    obtain ⟨o, z⟩ := G.grid.held h
    rw [hp] at z
    cases z
  refine ⟨⟨by rw [upd_same, List.map_append]; rfl, by simp [G.grid.len], fun i r m' hi hm => ?_, ?_, ?_⟩, ?_, G.freshD, ?_⟩
  · by_cases e : i < qs.length
    · rw [List.getElem?_append_left e] at hi
      rw [List.getElem?_append_left (by rw [← G.grid.len]; exact e)] at hm
      have hr : r ∈ qs := List.mem_of_getElem? hi
      rw [upd_ne (fun z => G.grid.nin (by rw [← z]; exact hr))]
      exact s _ _ (G.grid.row i r m' hi hm)
    · have hi2 : i = qs.length := by
        have := (List.getElem?_eq_some_iff.mp hi).1
        simp at this
        omega
      subst hi2
      rw [List.getElem?_append_right (Nat.le_refl _)] at hi
      rw [G.grid.len, List.getElem?_append_right (Nat.le_refl _)] at hm
      simp at hi hm
      subst hi hm
      rw [upd_ne pD]
      exact h1
  · exact List.nodup_append.mpr ⟨G.grid.nd, by simp, fun a ha b hb => by simp at hb; subst hb; exact fun e => pq (e ▸ ha)⟩
  · simp
    exact ⟨G.grid.nin, fun e => pD e.symm⟩
  · intro q hq
    rcases List.mem_append.mp hq with h | h
    · exact G.fresh q h
    · simp at h
      subst h
      exact G.same.free hp
  · intro b o e
    rw [upd_ne (ne_of_none e G.freshD)]
    exact s _ _ (G.same _ _ e)
theorem NewGrid.nin0 {H0 H : Hp} {D : Addr} {qs : List Addr} {M : List (List Int)} (G : NewGrid H0 H D qs M) {b : Addr} {o : HO} (h : H0 b = some o) : b ≠ D ∧ b ∉ qs :=
  ⟨ne_of_none h G.freshD, fun z => by rw [G.fresh b z] at h; cases h⟩
end K88
namespace K88
open PySem PySem.Spec PyProof.Rows L2 Rg
/-! ### images -/
structure IA where
  (dx pl ca : Addr) (rs : List Addr) (ho st hd ba : Addr)
structure IV where
  (M : List (List Int)) (ho st : List Int) (hd : List (Int × Int)) (se wi : Int) (ba : List Int)
def imgF (A : IA) (v : IV) : List (Str × V) := [("plan", .ref A.pl), ("cells", .ref A.ca), ("holdings", .ref A.ho), ("stamps", .ref A.st), ("handles", .ref A.hd), ("serial", .int v.se), ("wish", .int v.wi), ("barred", .ref A.ba)]
def hdK (h : List (Int × Int)) : List (Key × V) := h.map fun p => (Sum.inl p.1, V.int p.2)
structure ImgAt (CI CP : Addr) (H : Hp) (im : Addr) (A : IA) (v : IV) (b n s : Int) : Prop where
  ob : H im = some (.ins CI A.dx (imgF A v))
  pl : PlanAt CP H A.pl b n s
  gr : Grid H A.ca A.rs v.M
  ho : H A.ho = some (.lst (v.ho.map V.int))
  st : H A.st = some (.lst (v.st.map V.int))
  hd : H A.hd = some (.dK (hdK v.hd))
  ba : H A.ba = some (.tup (v.ba.map V.int))
  n1 : A.ho ∉ A.rs
  n2 : A.st ∉ A.rs
  n3 : A.ho ≠ A.st
  n4 : A.ca ≠ A.ho
  n5 : A.ca ≠ A.st
  d0 : (v.M.length : Int) = b
  d1 : ∀ m ∈ v.M, m.length = 8
  d2 : (v.ho.length : Int) = b
  d3 : (v.st.length : Int) = b
/-- where an image may be changed -/
def IA.foot (A : IA) (im : Addr) : List Addr := im :: A.ca :: A.ho :: A.st :: A.hd :: A.rs
/-- its parts are new -/
structure IA.New (A : IA) (H0 : Hp) : Prop where
  ca : H0 A.ca = none
  rs : ∀ q ∈ A.rs, H0 q = none
  ho : H0 A.ho = none
  st : H0 A.st = none
  hd : H0 A.hd = none
theorem ImgAt.keep {CI CP : Addr} {H H' : Hp} {im : Addr} {A : IA} {v : IV} {b n s : Int} (I : ImgAt CI CP H im A v b n s) (h : ∀ x o, H x = some o → H' x = some o) : ImgAt CI CP H' im A v b n s :=
  { I with ob := h _ _ I.ob, pl := I.pl.same h, gr := I.gr.same h, ho := h _ _ I.ho, st := h _ _ I.st, hd := h _ _ I.hd, ba := h _ _ I.ba }
theorem rep_flat {α : Type} (n : Nat) (x : α) : (List.replicate n [x]).flatten = List.replicate n x := by
  induction n with
  | zero => rfl
  | succ n ih => rw [List.replicate_succ, List.flatten_cons, ih, List.replicate_succ]; rfl
theorem rep_map (n : Nat) (x : Int) : (List.replicate n (V.int x)) = (List.replicate n x).map V.int := by rw [List.map_replicate]
def zeroV (b : Int) : IV := ⟨List.replicate b.toNat (List.replicate 8 0), List.replicate b.toNat 0, List.replicate b.toNat 0, [], 0, 0, []⟩
section
variable {P : Program} {w : World} {K : PySem.W.Frag} {mg : Str → Option Value} {base : Heap}
def sp_Image_init (CI CP : Addr) : Sp := fun vs H Q _ => ∃ (p dx pl : Addr) (b n s : Int), vs = [.ref p, .ref pl] ∧ H p = some (.ins CI dx []) ∧ PlanAt CP H pl b n s ∧
  ∀ (H' : Hp) (A : IA), (∀ x o, H x = some o → x ≠ p → H' x = some o) → ImgAt CI CP H' p A (zeroV b) b n s → A.New H → A.pl = pl → Q .non H'
theorem ok_Image_init (T : Tx K mg) : FnOk P w K mg base CX0 1 T.f_Image___init__ T.fd_Image___init__ ["self", "plan"] (sp_Image_init T.C_Image T.C_Plan) := by
  refine T.F_Image___init__.ok sc_Image___init__ (fun vs H Q E h => ?_) (fun cdv A outer s H vs Q E hr h => ?_)
  · obtain ⟨_, _, _, _, _, _, rfl, _⟩ := h; rfl
  · obtain ⟨p, dx, pl, b, n, sl, rfl, hp, hP, k⟩ := h
    refine ⟨_, (pss_cons (ps_fld (pv 0) (pv 1) rfl)
      (pss_cons (ps_fld (pv 0) (pe_lc rfl (own := [("_", 2)]) (g := gName 2) (tt := tYes) sc_Image___init__.nd (pi_range1 rfl T.b_range (pa_cons (pe_fld (pv 1) rfl) pa_nil)) (blkOk_by (N := ["self", "plan", "_"]) (sc := defScope s_Image___init__) (by decide +kernel)) (fun _ _ _ _ _ => pg_name (i := 2) sc_Image___init__.nd rfl (Or.inl rfl)) (fun _ _ _ _ _ => pts_nil) (fun _ _ _ _ _ => (pe_op op_rep (pe_lst (pa_cons pe_int pa_nil)) (pe_cv T.mg_Plan T.cr_Plan T.cv_Plan_WIDTH)))) rfl)
      (pss_cons (ps_fld (pv 0) (pe_op op_rep (pe_lst (pa_cons pe_int pa_nil)) (pe_fld (pv 1) rfl)) rfl)
      (pss_cons (ps_fld (pv 0) (pe_op op_rep (pe_lst (pa_cons pe_int pa_nil)) (pe_fld (pv 1) rfl)) rfl)
      (pss_cons (ps_fld (pv 0) pe_dnewK rfl)
      (pss_cons (ps_fld (pv 0) pe_int rfl)
      (pss_cons (ps_fld (pv 0) pe_int rfl)
      (pss_one (ps_fld (pv 0) (pe_tup pa_nil) rfl))))))))), ?_⟩
    obtain ⟨dxp, hpl⟩ := hP.ob
    have hb1 := hP.b1
    have hb2 := hP.b2
    have nppl : pl ≠ p := fun e => by
      rw [e, hp] at hpl
      have := HO.ins.inj (Option.some.inj hpl)
      have := this.2.2
      simp [planF] at this
    -- self.plan = plan
    refine ⟨_, rfl, _, rfl, p, _, dx, _, rfl, hp, T.cl_Image, T.na_Image_plan, (by show 0 < 1000; decide), ?_⟩
    generalize hH1 : upd H p _ = H1
    obtain ⟨e1, k1, n1⟩ := own_f hH1
    have pl1 := k1.at1 hpl nppl
    -- self.cells = [[0] * Plan.WIDTH for _ in range(plan.blocks)]
    refine ⟨_, rfl, pl, _, dxp, _, _, rfl, pl1, T.cl_Plan, T.na_Plan_blocks, rfl, b, rfl, by omega, by omega, fun D hD => ?_⟩
    refine lc_range (lo := 0) (n := b.toNat) (fun i H' => ∃ qs, NewGrid H1 H' D qs (List.replicate i (List.replicate 8 0)))
      ⟨[], NewGrid.start (Same.refl _) hD hD⟩ ?_ ?_
    · rintro i H' hi ⟨qs, G⟩
      refine ⟨rfl, ?_⟩
      refine yes_ ?_
      refine ⟨by show 1 ≤ sizeLine; decide, fun l hl => ?_⟩
      refine ⟨l, 8, _, rfl, rfl, upd_same, by decide, by decide, by show 1 * 8 ≤ sizeLine; decide, fun q hq => ?_⟩
      have hq0 : H' q = none := un hq
      have hlD : H' D = some (.lst (qs.map V.ref)) := G.grid.out
      have hq1 : (upd (upd H' l (.lst [V.int 0])) q (.lst (List.replicate (8 : Int).toNat [V.int 0]).flatten)) q = some (.lst ((List.replicate 8 (0 : Int)).map V.int)) := by rw [upd_same]; rfl
      have sm : Same H' (upd (upd H' l (.lst [V.int 0])) q (.lst (List.replicate (8 : Int).toNat [V.int 0]).flatten)) := (same_upd hl).trans (same_upd hq)
      refine ⟨_, sm _ _ hlD, ?_, qs ++ [q], ?_⟩
      · rw [List.length_map, G.grid.len, List.length_replicate]
        exact small1000 (by omega)
      · rw [List.replicate_succ']
        exact G.snoc sm hq0 hq1
    rintro H2 ⟨qs, G⟩
    have e2 := G.same _ _ e1
    have pl2 := G.same _ _ pl1
    have npD : p ≠ D := ne_of_none e1 G.freshD
    refine ⟨_, rfl, p, _, dx, _, rfl, e2, T.cl_Image, T.na_Image_cells, (by show 1 < 1000; decide), ?_⟩
    generalize hH3 : upd H2 p _ = H3
    obtain ⟨e3, k3, n3⟩ := own_f hH3
    have pl3 := k3.at1 pl2 nppl
    -- self.holdings = [0] * plan.blocks
    refine ⟨by show 1 ≤ sizeLine; decide, fun l hl => ?_⟩
    generalize hH4 : upd H3 l _ = H4
    obtain ⟨e4, s4, n4⟩ := new_f hH4 hl
    have pl4 := s4 _ _ pl3
    refine ⟨_, rfl, pl, _, dxp, _, _, rfl, pl4, T.cl_Plan, T.na_Plan_blocks, rfl, l, b, _, rfl, rfl, e4, by omega, by omega, (by show 1 * b.toNat ≤ sizeLine; exact Nat.le_of_lt (small1000 (by omega))), fun ho hho => ?_⟩
    rw [rep_flat, rep_map]
    generalize hH5 : upd H4 ho _ = H5
    obtain ⟨e5, s5, n5⟩ := new_f hH5 hho
    refine ⟨_, rfl, p, _, dx, _, rfl, s5 _ _ (s4 _ _ e3), T.cl_Image, T.na_Image_holdings, (by show 2 < 1000; decide), ?_⟩
    generalize hH6 : upd H5 p _ = H6
    obtain ⟨e6, k6, n6⟩ := own_f hH6
    have pl6 := k6.at1 (s5 _ _ pl4) nppl
    have nho : ho ≠ p := (ne_of_none (s4 _ _ e3) hho).symm
    have ho6 := k6.at1 e5 nho
    -- self.stamps = [0] * plan.blocks
    refine ⟨by show 1 ≤ sizeLine; decide, fun l2 hl2 => ?_⟩
    generalize hH7 : upd H6 l2 _ = H7
    obtain ⟨e7, s7, n7⟩ := new_f hH7 hl2
    refine ⟨_, rfl, pl, _, dxp, _, _, rfl, s7 _ _ pl6, T.cl_Plan, T.na_Plan_blocks, rfl, l2, b, _, rfl, rfl, e7, by omega, by omega, (by show 1 * b.toNat ≤ sizeLine; exact Nat.le_of_lt (small1000 (by omega))), fun st hst => ?_⟩
    rw [rep_flat, rep_map]
    generalize hH8 : upd H7 st _ = H8
    obtain ⟨e8, s8, n8⟩ := new_f hH8 hst
    refine ⟨_, rfl, p, _, dx, _, rfl, s8 _ _ (s7 _ _ e6), T.cl_Image, T.na_Image_stamps, (by show 3 < 1000; decide), ?_⟩
    generalize hH9 : upd H8 p _ = H9
    obtain ⟨e9, k9, n9⟩ := own_f hH9
    have nst : st ≠ p := (ne_of_none (s7 _ _ e6) hst).symm
    have nsth : st ≠ ho := (ne_of_none (s7 _ _ ho6) hst).symm
    have st9 := k9.at1 e8 nst
    have ho9 := k9.at1 (s8 _ _ (s7 _ _ ho6)) nho
    -- self.handles = {}; serial, wish, barred
    intro hd hhd
    generalize hH10 : upd H9 hd _ = H10
    obtain ⟨e10, s10, n10⟩ := new_f hH10 hhd
    have nhd : hd ≠ p := (ne_of_none e9 hhd).symm
    refine ⟨_, rfl, p, _, dx, _, rfl, s10 _ _ e9, T.cl_Image, T.na_Image_handles, (by show 4 < 1000; decide), ?_⟩
    generalize hH11 : upd H10 p _ = H11
    obtain ⟨e11, k11, n11⟩ := own_f hH11
    refine ⟨_, rfl, p, _, dx, _, rfl, e11, T.cl_Image, T.na_Image_serial, (by show 5 < 1000; decide), ?_⟩
    generalize hH12 : upd H11 p _ = H12
    obtain ⟨e12, k12, n12⟩ := own_f hH12
    refine ⟨_, rfl, p, _, dx, _, rfl, e12, T.cl_Image, T.na_Image_wish, (by show 6 < 1000; decide), ?_⟩
    generalize hH13 : upd H12 p _ = H13
    obtain ⟨e13, k13, n13⟩ := own_f hH13
    refine ⟨by show 0 ≤ sizeLine; decide, fun ba hba => ?_⟩
    generalize hH14 : upd H13 ba _ = H14
    obtain ⟨e14, s14, n14⟩ := new_f hH14 hba
    have nba : ba ≠ p := (ne_of_none e13 hba).symm
    refine ⟨_, rfl, p, _, dx, _, rfl, s14 _ _ e13, T.cl_Image, T.na_Image_barred, (by show 7 < 1000; decide), ?_⟩
    generalize hH15 : upd H14 p _ = H15
    obtain ⟨e15, k15, n15⟩ := own_f hH15
    -- what stands
    have k10 : Kp [p] H10 H15 := (((k11.trans k12).trans k13).same s14).trans k15
    have k2 : Kp [p] H2 H15 := ((((((k3.same s4).same s5).trans k6).same s7).same s8).trans (k9.same s10)).trans k10
    have k0 : Kp [p] H H15 := (k1.same G.same).trans k2
    have f_ho : H2 ho = none := (n3 _ (n4 _ hho).1).1
    have f_st : H2 st = none := (n3 _ (n4 _ (n5 _ (n6 _ (n7 _ hst).1).1).1).1).1
    have f_hd : H2 hd = none := (n3 _ (n4 _ (n5 _ (n6 _ (n7 _ (n8 _ (n9 _ hhd).1).1).1).1).1).1).1
    have fr : ∀ x, H2 x = none → H x = none := fun x e => (n1 _ (G.same.free e)).1
    have qp : ∀ q ∈ qs, q ≠ p := fun q hq e => by
      have := G.fresh q hq
      rw [e, e1] at this
      cases this
    have qn : ∀ x, H2 x = none → x ∉ qs := fun x e hq => by
      obtain ⟨o, z⟩ := G.grid.held hq
      rw [e] at z
      cases z
    refine k _ ⟨dx, pl, D, qs, ho, st, hd, ba⟩ (fun x o e ne => k0.at1 e ne)
      ⟨e15, hP.of fun o e => k0.at1 e nppl, G.grid.keep fun x o hx e => k2.at1 e ?_, k10.at1 (s10 _ _ ho9) nho, k10.at1 (s10 _ _ st9) nst, k10.at1 e10 nhd, k15.at1 e14 nba, qn _ f_ho, qn _ f_st, nsth.symm, ne_of_none G.grid.out f_ho, ne_of_none G.grid.out f_st, ?_, ?_, ?_, ?_⟩
      ⟨(n1 _ G.freshD).1, fun q hq => (n1 _ (G.fresh q hq)).1, fr _ f_ho, fr _ f_st, fr _ f_hd⟩ rfl
    · rcases hx with rfl | hx
      · exact npD.symm
      · exact qp x hx
    · show ((List.replicate b.toNat (List.replicate 8 (0 : Int))).length : Int) = b
      rw [List.length_replicate]
      omega
    · intro m hm
      rw [List.eq_of_mem_replicate hm]
      rfl
    · show ((List.replicate b.toNat (0 : Int)).length : Int) = b
      rw [List.length_replicate]
      omega
    · show ((List.replicate b.toNat (0 : Int)).length : Int) = b
      rw [List.length_replicate]
      omega
end
end K88
namespace K88
open PySem PySem.Spec PyProof.Rows L2 Rg
def cellAt (M : List (List Int)) (i j : Nat) : Int := ((M[i]?.getD [])[j]?).getD 0
theorem cellAt_of {M : List (List Int)} {i j : Nat} {m : List Int} {x : Int} (h : M[i]? = some m) (hj : m[j]? = some x) : cellAt M i j = x := by
  unfold cellAt
  rw [h]
  show (m[j]?).getD 0 = x
  rw [hj]
  rfl
def kindOf (b n : Int) (M : List (List Int)) (x : Int) : Int :=
  if x < 2 + (b + 8 - 1) / 8 + n then 1 else if cellAt M (2 + x / 8).toNat (x % 8).toNat = 1 ∨ cellAt M (2 + x / 8).toNat (x % 8).toNat = 2 then cellAt M (2 + x / 8).toNat (x % 8).toNat else 0
section
variable {P : Program} {w : World} {K : PySem.W.Frag} {mg : Str → Option Value} {base : Heap}
def sp_Image_kind (CI CP : Addr) : Sp := fun vs H Q _ => ∃ (im : Addr) (A : IA) (v : IV) (b n s x : Int), vs = [.ref im, .int x] ∧ ImgAt CI CP H im A v b n s ∧ 0 ≤ x ∧ x < b ∧
  ∀ H', Same H H' → Q (.int (kindOf b n v.M x)) H'
theorem ok_Image_kind (T : Tx K mg) : FnOk P w K mg base CX0 2 T.f_Image_kind T.fd_Image_kind ["self", "x"] (sp_Image_kind T.C_Image T.C_Plan) := by
  refine T.F_Image_kind.ok sc_Image_kind (fun vs H Q E h => ?_) (fun cdv A0 outer s H vs Q E hr h => ?_)
  · obtain ⟨_, _, _, _, _, _, _, rfl, _⟩ := h; rfl
  · obtain ⟨im, A, v, b, n, sl, x, rfl, I, hx0, hxb, k⟩ := h
    refine ⟨_, (pss_cons (ps_if (pt_cmpR op_lt (pv 1) (pe_fld (pe_fld (pv 0) rfl) rfl) (nomark _))
        (pss_one (ps_ret (pe_cv T.mg_Plan T.cr_Plan T.cv_Plan_LOGGED)))
        pss_nil)
      (pss_cons (ps_asg (pe_meth (pe_fld (pv 0) rfl) T.cl_Plan T.m_Plan_map_place (ok_Plan_map_place T) hr (b_Plan_map_place T) .nil pass0 (pa_cons (pv 1) pa_nil)) (pg_tup rfl (pgs_cons (pg_name (i := 2) sc_Image_kind.nd rfl (.inl rfl)) (pgs_cons (pg_name (i := 3) sc_Image_kind.nd rfl (.inl rfl)) pgs_nil))))
      (pss_cons (ps_set (i := 4) sc_Image_kind.nd rfl (.inl rfl) (pe_ix ix_list (pe_ix ix_list (pe_fld (pv 0) rfl) (pv 2) (fun _ _ => rfl)) (pv 3) (fun _ _ => rfl)))
      (pss_one (ps_ret (pe_ifExp (pt_cmpR op_in_seq (pv 4) (pe_tup (pa_cons (pe_cv T.mg_Plan T.cr_Plan T.cv_Plan_LOGGED) (pa_cons (pe_cv T.mg_Plan T.cr_Plan T.cv_Plan_PLAIN) pa_nil))) rfl) (pv 4) (pe_cv T.mg_Plan T.cr_Plan T.cv_Plan_FREE))))))), ?_⟩
    obtain ⟨dxp, hpl⟩ := I.pl.ob
    have b1 := I.pl.b1
    have b2 := I.pl.b2
    have n1 := I.pl.n1
    refine ⟨_, rfl, _, rfl, im, _, _, _, _, rfl, I.ob, T.cl_Image, T.na_Image_plan, rfl, A.pl, _, dxp, _, _, rfl, hpl, T.cl_Plan, T.na_Plan_first_data, rfl, _, _, rfl, rfl, _, rfl, ite2 (fun e => ?_) (fun e => ?_)⟩
    · have e' := of_decide_eq_true e
      have := k H (Same.refl _)
      unfold kindOf at this
      rw [if_pos e'] at this
      exact this
    · have e' : ¬ x < 2 + (b + 8 - 1) / 8 + n := fun z => e (decide_eq_true z)
      -- the cell
      have d0 := I.d0
      have hi : (2 + x / 8).toNat < v.M.length := by omega
      obtain ⟨r, hr1, hr2, _⟩ := I.gr.get (List.getElem?_eq_getElem hi)
      have hj : (x % 8).toNat < (v.M[(2 + x / 8).toNat]).length := by
        rw [I.d1 _ (List.getElem_mem hi)]
        omega
      have hc : cellAt v.M (2 + x / 8).toNat (x % 8).toNat = (v.M[(2 + x / 8).toNat])[(x % 8).toNat] := cellAt_of (List.getElem?_eq_getElem hi) (List.getElem?_eq_getElem hj)
      refine ⟨_, rfl, im, _, _, _, _, rfl, I.ob, T.cl_Image, T.na_Image_plan, rfl, A.pl, dxp, _, rfl, hpl, rfl, _, rfl, A.pl, b, n, sl, x, rfl, I.pl, fun t ht => ?_⟩
      have st := same_upd (o := .tup [.int (2 + x / 8), .int (x % 8)]) ht
      refine ⟨t, _, rfl, .inl (.inl upd_same), rfl, _, _, rfl, _, _, rfl, rfl, ?_⟩
      refine ⟨_, rfl, im, _, _, _, _, rfl, st _ _ I.ob, T.cl_Image, T.na_Image_cells, rfl, _, rfl, A.ca, _, _, .ref r, rfl, rfl, .inl (.inl (st _ _ I.gr.out)), at_of (j := (2 + x / 8).toNat) (by omega) (by rw [List.getElem?_map, hr1]; rfl), _, rfl, r, _, _, _, rfl, rfl, .inl (.inl (st _ _ hr2)), at_of (j := (x % 8).toNat) (by omega) (by rw [List.getElem?_map, List.getElem?_eq_getElem hj]; rfl), ?_⟩
      refine ⟨_, rfl, (by show 2 ≤ sizeLine; decide), fun t2 ht2 => ?_⟩
      have st2 := same_upd (o := .tup [.int 1, .int 2]) ht2
      have kk := k _ (st.trans st2)
      unfold kindOf at kk
      rw [if_neg e', hc] at kk
      generalize (v.M[(2 + x / 8).toNat])[(x % 8).toNat] = c at kk ⊢
      refine ⟨t2, _, rfl, .inr (.inl (.inl upd_same)), rfl, rfl, _, rfl, ite2 (fun q => ?_) (fun q => ?_)⟩
      · have hq : c = 1 ∨ c = 2 := by
          simp [inV, eqV] at q
          omega
        rw [if_pos hq] at kk
        exact ⟨_, rfl, kk⟩
      · have hq : ¬ (c = 1 ∨ c = 2) := fun z => q (by
          simp [inV, eqV]
          omega)
        rw [if_neg hq] at kk
        exact kk
end
end K88
namespace K88
open PySem PySem.Spec PyProof.Rows L2 Rg
theorem mem_set_of {α : Type} {l : List α} {i : Nat} {x y : α} (h : y ∈ l.set i x) : y = x ∨ y ∈ l := by
  rcases List.mem_or_eq_of_mem_set h with h | h
  · exact .inr h
  · exact .inl h
theorem nodup_set {α : Type} : ∀ {l : List α} {i : Nat} {x : α}, l.Nodup → x ∉ l → (l.set i x).Nodup
  | [], _, _, h, _ => by simp
  | y :: l, 0, x, h, n => by
    rw [List.set_cons_zero]
    rw [List.nodup_cons] at h ⊢
    exact ⟨fun z => n (List.mem_cons_of_mem _ z), h.2⟩
  | y :: l, i + 1, x, h, n => by
    rw [List.set_cons_succ]
    rw [List.nodup_cons] at h ⊢
    refine ⟨fun z => ?_, nodup_set h.2 fun z => n (List.mem_cons_of_mem _ z)⟩
    rcases mem_set_of z with e | e
    · exact n (by rw [e]; exact List.mem_cons_self)
    · exact h.1 e
/-- a row replaced by a new one -/
theorem Grid.swap {H H1 : Hp} {ca : Addr} {rs : List Addr} {M : List (List Int)} {i : Nat} {q : Addr} {m : List Int} (G : Grid H ca rs M) (s1 : Same H H1) (hq : H q = none) (h1 : H1 q = some (.lst (m.map V.int))) :
    Grid (upd H1 ca (.lst ((rs.map V.ref).set i (V.ref q)))) ca (rs.set i q) (M.set i m) := by
  have qr : q ∉ rs := fun h => by
    obtain ⟨o, z⟩ := G.held h
    rw [hq] at z
    cases z
  have qc : q ≠ ca := fun e => by
    rw [e, G.out] at hq
    cases hq
  refine ⟨by rw [upd_same, ← List.map_set], by rw [List.length_set, List.length_set]; exact G.len, fun j r m' hj hm => ?_, nodup_set G.nd qr, fun z => ?_⟩
  · by_cases e : i = j
    · subst e
      have hi : i < rs.length := by
        have := (List.getElem?_eq_some_iff.mp hj).1
        rw [List.length_set] at this
        exact this
      rw [List.getElem?_set_self hi] at hj
      rw [List.getElem?_set_self (by rw [← G.len]; exact hi)] at hm
      cases hj
      cases hm
      rw [upd_ne qc]
      exact h1
    · rw [List.getElem?_set_ne e] at hj hm
      rw [upd_ne fun z => G.nin (by rw [← z]; exact List.mem_of_getElem? hj)]
      exact s1 _ _ (G.row j r m' hj hm)
  · rcases mem_set_of z with e | e
    · exact qc e.symm
    · exact G.nin e
section
variable {CI CP : Addr} {H : Hp} {im : Addr} {A : IA} {v : IV} {b n s : Int}
theorem ImgAt.fresh_n (I : ImgAt CI CP H im A v b n s) {q : Addr} (hq : H q = none) : q ≠ im ∧ q ≠ A.ca ∧ q ≠ A.ho ∧ q ≠ A.st ∧ q ≠ A.hd ∧ q ∉ A.rs :=
  ⟨(ne_of_none I.ob hq).symm, (ne_of_none I.gr.out hq).symm, (ne_of_none I.ho hq).symm, (ne_of_none I.st hq).symm, (ne_of_none I.hd hq).symm, fun h => by
    obtain ⟨o, z⟩ := I.gr.held h
    rw [hq] at z
    cases z⟩
/-- image.cells[i] = a new row -/
theorem ImgAt.swap {H1 : Hp} {i : Nat} {q : Addr} {m : List Int} (I : ImgAt CI CP H im A v b n s) (s1 : Same H H1) (hq : H q = none) (h1 : H1 q = some (.lst (m.map V.int))) (hm : m.length = 8) :
    ImgAt CI CP (upd H1 A.ca (.lst ((A.rs.map V.ref).set i (V.ref q)))) im { A with rs := A.rs.set i q } { v with M := v.M.set i m } b n s := by
  obtain ⟨f1, f2, f3, f4, f5, f6⟩ := I.fresh_n hq
  obtain ⟨dxp, hpl⟩ := I.pl.ob
  have oc := I.gr.out
  refine { ob := ?_, pl := I.pl.of fun o e => ?_, gr := I.gr.swap s1 hq h1, ho := ?_, st := ?_, hd := ?_, ba := ?_, n1 := fun z => ?_, n2 := fun z => ?_, n3 := I.n3, n4 := I.n4, n5 := I.n5, d0 := ?_, d1 := fun m' hm' => ?_, d2 := I.d2, d3 := I.d3 }
  · rw [upd_ne (ne_of I.ob oc (by intro z; cases z))]; exact s1 _ _ I.ob
  · rw [upd_ne (ne_of hpl oc (by intro z; cases z))]; exact s1 _ _ e
  · rw [upd_ne I.n4.symm]; exact s1 _ _ I.ho
  · rw [upd_ne I.n5.symm]; exact s1 _ _ I.st
  · rw [upd_ne (ne_of I.hd oc (by intro z; cases z))]; exact s1 _ _ I.hd
  · rw [upd_ne (ne_of I.ba oc (by intro z; cases z))]; exact s1 _ _ I.ba
  · rcases mem_set_of z with e | e
    · exact f3 e.symm
    · exact I.n1 e
  · rcases mem_set_of z with e | e
    · exact f4 e.symm
    · exact I.n2 e
  · show ((v.M.set i m).length : Int) = b
    rw [List.length_set]
    exact I.d0
  · rcases mem_set_of hm' with e | e
    · rw [e]; exact hm
    · exact I.d1 _ e
/-- image.holdings[i] = x -/
theorem ImgAt.putHo {i : Nat} {x : Int} (I : ImgAt CI CP H im A v b n s) : ImgAt CI CP (upd H A.ho (.lst ((v.ho.map V.int).set i (V.int x)))) im A { v with ho := v.ho.set i x } b n s := by
  obtain ⟨dxp, hpl⟩ := I.pl.ob
  have oc := I.ho
  refine { I with ob := ?_, pl := I.pl.of fun o e => ?_, gr := I.gr.keep fun y o hy e => ?_, ho := by rw [upd_same, ← List.map_set], st := ?_, hd := ?_, ba := ?_, d2 := ?_ }
  · rw [upd_ne (ne_of I.ob oc (by intro z; cases z))]; exact I.ob
  · rw [upd_ne (ne_of hpl oc (by intro z; cases z))]; exact e
  · rw [upd_ne]
    · exact e
    · rcases hy with rfl | hy
      · exact I.n4
      · exact fun z => I.n1 (z ▸ hy)
  · rw [upd_ne I.n3.symm]; exact I.st
  · rw [upd_ne (ne_of I.hd oc (by intro z; cases z))]; exact I.hd
  · rw [upd_ne (ne_of I.ba oc (by intro z; cases z))]; exact I.ba
  · show ((v.ho.set i x).length : Int) = b
    rw [List.length_set]
    exact I.d2
/-- image.stamps[i] = x -/
theorem ImgAt.putSt {i : Nat} {x : Int} (I : ImgAt CI CP H im A v b n s) : ImgAt CI CP (upd H A.st (.lst ((v.st.map V.int).set i (V.int x)))) im A { v with st := v.st.set i x } b n s := by
  obtain ⟨dxp, hpl⟩ := I.pl.ob
  have oc := I.st
  refine { I with ob := ?_, pl := I.pl.of fun o e => ?_, gr := I.gr.keep fun y o hy e => ?_, st := by rw [upd_same, ← List.map_set], ho := ?_, hd := ?_, ba := ?_, d3 := ?_ }
  · rw [upd_ne (ne_of I.ob oc (by intro z; cases z))]; exact I.ob
  · rw [upd_ne (ne_of hpl oc (by intro z; cases z))]; exact e
  · rw [upd_ne]
    · exact e
    · rcases hy with rfl | hy
      · exact I.n5
      · exact fun z => I.n2 (z ▸ hy)
  · rw [upd_ne I.n3]; exact I.ho
  · rw [upd_ne (ne_of I.hd oc (by intro z; cases z))]; exact I.hd
  · rw [upd_ne (ne_of I.ba oc (by intro z; cases z))]; exact I.ba
  · show ((v.st.set i x).length : Int) = b
    rw [List.length_set]
    exact I.d3
/-- one row changed: image.cells[i][j] = x and the like -/
theorem ImgAt.putRow {i : Nat} {r : Addr} {m : List Int} (I : ImgAt CI CP H im A v b n s) (hr : A.rs[i]? = some r) (hm : m.length = 8) : ImgAt CI CP (upd H r (.lst (m.map V.int))) im A { v with M := v.M.set i m } b n s := by
  obtain ⟨dxp, hpl⟩ := I.pl.ob
  have rin : r ∈ A.rs := List.mem_of_getElem? hr
  have hi : i < v.M.length := by rw [← I.gr.len]; exact (List.getElem?_eq_some_iff.mp hr).1
  have oc := I.gr.row i r _ hr (List.getElem?_eq_getElem hi)
  refine { I with ob := ?_, pl := I.pl.of fun o e => ?_, gr := I.gr.put hr, st := ?_, ho := ?_, hd := ?_, ba := ?_, d0 := ?_, d1 := fun m' hm' => ?_ }
  · rw [upd_ne (ne_of I.ob oc (by intro z; cases z))]; exact I.ob
  · rw [upd_ne (ne_of hpl oc (by intro z; cases z))]; exact e
  · rw [upd_ne (fun z : A.ho = r => I.n1 (by rw [z]; exact rin))]; exact I.ho
  · rw [upd_ne (fun z : A.st = r => I.n2 (by rw [z]; exact rin))]; exact I.st
  · rw [upd_ne (ne_of I.hd oc (by intro z; cases z))]; exact I.hd
  · rw [upd_ne (ne_of I.ba oc (by intro z; cases z))]; exact I.ba
  · show ((v.M.set i m).length : Int) = b
    rw [List.length_set]
    exact I.d0
  · rcases mem_set_of hm' with e | e
    · rw [e]; exact hm
    · exact I.d1 _ e
end
end K88
namespace K88
open PySem PySem.Spec PyProof.Rows L2 Rg
/-- what of_cells makes of the rows, the blocks before i looked at -/
def ofM (b n : Int) (R : List (List Int)) (i : Nat) : List (List Int) := (List.range b.toNat).map fun x => if x < i ∧ kindOf b n R x = 0 then List.replicate 8 0 else R[x]?.getD []
def ofH (b n : Int) (R : List (List Int)) (i : Nat) : List Int := (List.range b.toNat).map fun x => if x < i ∧ ¬ kindOf b n R x = 0 then 1 else 0
def ofV (b n : Int) (R : List (List Int)) (i : Nat) : IV := ⟨ofM b n R i, ofH b n R i, ofH b n R i, [], 1, 0, []⟩
theorem kindOf_fix {b n : Int} {R : List (List Int)} {x : Int} (h : x < 2 + (b + 8 - 1) / 8 + n) : kindOf b n R x = 1 := by
  unfold kindOf
  rw [if_pos h]
theorem cellAt_congr {M R : List (List Int)} {i j : Nat} (h : M[i]? = R[i]?) : cellAt M i j = cellAt R i j := by
  unfold cellAt
  rw [h]
theorem kindOf_congr {b n : Int} {M R : List (List Int)} {x : Int} (hn : 0 ≤ n) (h0 : 0 ≤ x) (hb : x < b) (h : ∀ y : Nat, (y : Int) < 2 + (b + 8 - 1) / 8 + n → M[y]? = R[y]?) : kindOf b n M x = kindOf b n R x := by
  unfold kindOf
  rw [cellAt_congr (h (2 + x / 8).toNat (by omega))]
theorem ofM_get {b n : Int} {R : List (List Int)} {i x : Nat} (hx : x < b.toNat) : (ofM b n R i)[x]? = some (if x < i ∧ kindOf b n R x = 0 then List.replicate 8 0 else R[x]?.getD []) := by
  unfold ofM
  rw [List.getElem?_map, List.getElem?_range hx]
  rfl
theorem ofM_fix {b n : Int} {R : List (List Int)} {i y : Nat} (hR : (R.length : Int) = b) (hb : 2 + (b + 8 - 1) / 8 + n ≤ b) (hy : (y : Int) < 2 + (b + 8 - 1) / 8 + n) : (ofM b n R i)[y]? = R[y]? := by
  rw [ofM_get (by omega), kindOf_fix hy, if_neg (fun z => by simp at z), List.getElem?_eq_getElem (show y < R.length by omega)]
  rfl
theorem ofM_zero {b n : Int} {R : List (List Int)} (hR : (R.length : Int) = b) : ofM b n R 0 = R := by
  apply List.ext_getElem?
  intro x
  by_cases hx : x < b.toNat
  · rw [ofM_get hx, if_neg (fun z => by simp at z), List.getElem?_eq_getElem (show x < R.length by omega)]
    rfl
  · rw [List.getElem?_eq_none (by unfold ofM; simp; omega), List.getElem?_eq_none (by omega)]
theorem ofM_succ {b n : Int} {R : List (List Int)} {i : Nat} (hi : i < b.toNat) : ofM b n R (i + 1) = if kindOf b n R i = 0 then (ofM b n R i).set i (List.replicate 8 0) else ofM b n R i := by
  apply List.ext_getElem?
  intro x
  by_cases hx : x < b.toNat
  · rw [ofM_get hx]
    by_cases hk : kindOf b n R i = 0
    · rw [if_pos hk]
      by_cases e : i = x
      · subst e
        rw [List.getElem?_set_self (by unfold ofM; simp; omega), if_pos ⟨Nat.lt_succ_self _, hk⟩]
      · rw [List.getElem?_set_ne e, ofM_get hx]
        by_cases h : x < i
        · simp only [show (x < i + 1) ↔ (x < i) by omega]
        · simp only [show (x < i + 1) ↔ (x < i) by omega]
    · rw [if_neg hk, ofM_get hx]
      by_cases e : i = x
      · subst e
        rw [if_neg (fun z => hk z.2), if_neg (fun z => hk z.2)]
      · simp only [show (x < i + 1) ↔ (x < i) by omega]
  · have l1 : (ofM b n R (i + 1)).length = b.toNat := by unfold ofM; simp
    have l2 : (ofM b n R i).length = b.toNat := by unfold ofM; simp
    rw [List.getElem?_eq_none (by omega)]
    split
    · rw [List.getElem?_eq_none (by rw [List.length_set]; omega)]
    · rw [List.getElem?_eq_none (by omega)]
theorem ofH_get {b n : Int} {R : List (List Int)} {i x : Nat} (hx : x < b.toNat) : (ofH b n R i)[x]? = some (if x < i ∧ ¬ kindOf b n R x = 0 then 1 else 0) := by
  unfold ofH
  rw [List.getElem?_map, List.getElem?_range hx]
  rfl
theorem ofH_zero {b n : Int} {R : List (List Int)} : ofH b n R 0 = List.replicate b.toNat 0 := by
  apply List.ext_getElem?
  intro x
  by_cases hx : x < b.toNat
  · rw [ofH_get hx, if_neg (fun z => by simp at z), List.getElem?_replicate, if_pos hx]
  · rw [List.getElem?_eq_none (by unfold ofH; simp; omega), List.getElem?_eq_none (by simp; omega)]
theorem ofH_succ {b n : Int} {R : List (List Int)} {i : Nat} (hi : i < b.toNat) : ofH b n R (i + 1) = if kindOf b n R i = 0 then ofH b n R i else (ofH b n R i).set i 1 := by
  apply List.ext_getElem?
  intro x
  by_cases hx : x < b.toNat
  · rw [ofH_get hx]
    by_cases hk : kindOf b n R i = 0
    · rw [if_pos hk, ofH_get hx]
      by_cases e : i = x
      · subst e
        rw [if_neg (fun z => z.2 hk), if_neg (fun z => z.2 hk)]
      · simp only [show (x < i + 1) ↔ (x < i) by omega]
    · rw [if_neg hk]
      by_cases e : i = x
      · subst e
        rw [List.getElem?_set_self (by unfold ofH; simp; omega), if_pos ⟨Nat.lt_succ_self _, hk⟩]
      · rw [List.getElem?_set_ne e, ofH_get hx]
        simp only [show (x < i + 1) ↔ (x < i) by omega]
  · have l1 : (ofH b n R (i + 1)).length = b.toNat := by unfold ofH; simp
    have l2 : (ofH b n R i).length = b.toNat := by unfold ofH; simp
    rw [List.getElem?_eq_none (by omega)]
    split
    · rw [List.getElem?_eq_none (by omega)]
    · rw [List.getElem?_eq_none (by rw [List.length_set]; omega)]
section
variable {P : Program} {w : World} {K : PySem.W.Frag} {mg : Str → Option Value} {base : Heap}
def sp_of_cells (CI CP : Addr) : Sp := fun vs H Q _ => ∃ (pl ra : Addr) (rr : List Addr) (R : List (List Int)) (b n s : Int), vs = [.ref pl, .ref ra] ∧ PlanAt CP H pl b n s ∧ Grid H ra rr R ∧ (R.length : Int) = b ∧ (∀ m ∈ R, m.length = 8) ∧
  ∀ (H' : Hp) (im : Addr) (A : IA), Same H H' → H im = none → ImgAt CI CP H' im A (ofV b n R b.toNat) b n s → A.New H → A.pl = pl → Q (.ref im) H'
theorem ok_of_cells (T : Tx K mg) : FnOk P w K mg base CX0 3 T.f_Image_of_cells T.fd_Image_of_cells ["plan", "rows"] (sp_of_cells T.C_Image T.C_Plan) := by
  refine T.F_Image_of_cells.ok sc_Image_of_cells (fun vs H Q E h => ?_) (fun cdv A0 outer s H vs Q E hr h => ?_)
  · obtain ⟨_, _, _, _, _, _, _, rfl, _⟩ := h; rfl
  · obtain ⟨pl, ra, rr, R, b, n, sl, rfl, hP, GR, hR, hR8, k⟩ := h
    have hr2 : Room 2 _ := hr.mono (by decide)
    refine ⟨_, (pss_cons (ps_set (i := 2) sc_Image_of_cells.nd rfl (.inl rfl) (pe_make T.mk_Image (ok_Image_init T) hr2 rfl T.mg_Image (b_Image___init__ T) .nil pass0 (pa_cons (pv 0) pa_nil)))
      (pss_cons (ps_fld (pv 2) (pe_lc rfl (own := [("row", 3)]) (g := gName 3) (tt := tYes) sc_Image_of_cells.nd (pi_list (pv 1)) (blkOk_by (N := ["plan", "rows", "image", "row", "x"]) (sc := defScope s_Image_of_cells) (by decide +kernel)) (fun _ _ _ _ _ => pg_name (i := 3) sc_Image_of_cells.nd rfl (Or.inl rfl)) (fun _ _ _ _ _ => pts_nil) (fun _ _ _ _ _ => (pe_listof (K := K) (pv 3) T.b_list))) rfl)
      (pss_cons (ps_fld (pv 2) pe_int rfl)
      (pss_cons (ps_for PassesOwn.never rfl (pi_range1 rfl T.b_range (pa_cons (pe_fld (pv 0) rfl) pa_nil)) (pg_name (i := 4) sc_Image_of_cells.nd rfl (.inl rfl))
        (pss_one (ps_if (pt_cmpR op_eq (pe_meth (pv 2) T.cl_Image T.m_Image_kind (ok_Image_kind T) hr2 (b_Image_kind T) .nil pass0 (pa_cons (pv 4) pa_nil)) (pe_cv T.mg_Plan T.cr_Plan T.cv_Plan_FREE) (nomark _))
          (pss_one (ps_asg (pe_op op_rep (pe_lst (pa_cons pe_int pa_nil)) (pe_cv T.mg_Plan T.cr_Plan T.cv_Plan_WIDTH)) (pg_sub (pe_fld (pv 2) rfl) (pv 4) set_list)))
          (pss_cons (ps_asg pe_int (pg_sub (pe_fld (pv 2) rfl) (pv 4) set_list))
          (pss_one (ps_asg pe_int (pg_sub (pe_fld (pv 2) rfl) (pv 4) set_list)))))))
      (pss_one (ps_ret (pv 2))))))), ?_⟩
    obtain ⟨dxp, hpl⟩ := hP.ob
    have hb1 := hP.b1
    have hb2 := hP.b2
    have hd := hP.d
    have hn1 := hP.n1
    -- image = Image(plan)
    refine ⟨_, rfl, fun x dx nx ndx nex => ?_⟩
    have s1 : Same H (upd (upd H dx (.own x)) x (.ins T.C_Image dx [])) := (same_upd ndx).trans (same_upd (by rw [upd_ne nex.symm]; exact nx))
    refine ⟨x, dx, pl, b, n, sl, rfl, upd_same, hP.same s1, fun H1 A1 k1 I1 N1 eA => ⟨rfl, ?_⟩⟩
    have k1' : ∀ y o, H y = some o → H1 y = some o := fun y o e => k1 y o (s1 _ _ e) (ne_of_none e nx)
    have xs1 : ∀ y, (upd (upd H dx (.own x)) x (.ins T.C_Image dx [])) y = none → H y = none := fun y e => un (un e)
    -- image.cells = [list(row) for row in rows]
    refine ⟨_, rfl, ra, rfl, ⟨_, .of (k1' _ _ GR.out)⟩, fun D hD => ?_⟩
    refine lc_list (K := K) (a := ra) (xs := rr.map V.ref) (fun i H' => ∃ qs, NewGrid H1 H' D qs (R.take i))
      ⟨[], NewGrid.start (Same.refl _) hD hD⟩ (fun i H' _ ⟨qs, G⟩ => .of (G.same _ _ (k1' _ _ GR.out))) ?_ ?_
    · rintro i y H' hi ⟨qs, G⟩
      have hil : i < rr.length := by
        have := (List.getElem?_eq_some_iff.mp hi).1
        rw [List.length_map] at this
        exact this
      rw [List.getElem?_map, List.getElem?_eq_getElem hil] at hi
      have hi : V.ref rr[i] = y := Option.some.inj hi
      subst hi
      have hiR : i < R.length := by rw [← GR.len]; exact hil
      have hrow := G.same _ _ (k1' _ _ (GR.row i rr[i] R[i] (List.getElem?_eq_getElem hil) (List.getElem?_eq_getElem hiR)))
      refine ⟨rfl, ?_⟩
      refine yes_ ?_
      refine ⟨_, rfl, rr[i], _, rfl, .inl (.of hrow), fun q hq => ?_⟩
      refine ⟨_, by rw [upd_ne (ne_of_none G.grid.out hq)]; exact G.grid.out, ?_, qs ++ [q], ?_⟩
      · rw [List.length_map, G.grid.len, List.length_take]
        exact small1000 (by omega)
      · rw [List.take_succ, List.getElem?_eq_getElem hiR]
        exact G.snoc (same_upd hq) hq upd_same
    rintro H2 ⟨qs, G⟩
    rw [List.length_map, GR.len, List.take_length] at G
    have I2 : ImgAt T.C_Image T.C_Plan H2 x A1 (zeroV b) b n sl := I1.keep G.same
    refine ⟨_, rfl, x, _, _, _, rfl, I2.ob, T.cl_Image, T.na_Image_cells, (by show 8 < 1000; decide), ?_⟩
    generalize hH3 : upd H2 x _ = H3
    obtain ⟨e3, k3, n3⟩ := own_f hH3
    refine ⟨_, rfl, x, _, _, _, rfl, e3, T.cl_Image, T.na_Image_serial, (by show 8 < 1000; decide), ?_⟩
    generalize hH4 : upd H3 x _ = H4
    obtain ⟨e4, k4, n4⟩ := own_f hH4
    have k24 : Kp [x] H2 H4 := k3.trans k4
    have kx : ∀ y o, H2 y = some o → y ≠ x → H4 y = some o := fun y o e ne => k24.at1 e ne
    have npl : pl ≠ x := ne_of_none hpl nx
    have pl2 : H2 A1.pl = some (.ins T.C_Plan dxp (planF b n sl)) := by rw [eA]; exact G.same _ _ (k1' _ _ hpl)
    have xD : x ≠ D := ne_of_none I1.ob G.freshD
    have xq : x ∉ qs := (G.nin0 I1.ob).2
    have I4 : ImgAt T.C_Image T.C_Plan H4 x { A1 with ca := D, rs := qs } (ofV b n R 0) b n sl := by
      refine { ob := e4, pl := I2.pl.of fun o e => kx _ _ e (by show A1.pl ≠ x; rw [eA]; exact npl), gr := ?_, ho := ?_, st := ?_, hd := ?_, ba := ?_, n1 := (G.nin0 I1.ho).2, n2 := (G.nin0 I1.st).2, n3 := I1.n3, n4 := (G.nin0 I1.ho).1.symm, n5 := (G.nin0 I1.st).1.symm, d0 := ?_, d1 := ?_, d2 := ?_, d3 := ?_ }
      · show Grid H4 D qs (ofM b n R 0)
        rw [ofM_zero hR]
        refine G.grid.keep fun y o hy e => kx _ _ e ?_
        rcases hy with rfl | hy
        · exact xD.symm
        · exact fun z => xq (by rw [← z]; exact hy)
      · show H4 A1.ho = some (.lst ((ofH b n R 0).map V.int))
        rw [ofH_zero]
        exact kx _ _ I2.ho (ne_of I2.ho I2.ob (by intro z; cases z))
      · show H4 A1.st = some (.lst ((ofH b n R 0).map V.int))
        rw [ofH_zero]
        exact kx _ _ I2.st (ne_of I2.st I2.ob (by intro z; cases z))
      · exact kx _ _ I2.hd (ne_of I2.hd I2.ob (by intro z; cases z))
      · exact kx _ _ I2.ba (ne_of I2.ba I2.ob (by intro z; cases z))
      · show ((ofM b n R 0).length : Int) = b
        rw [ofM_zero hR]
        exact hR
      · show ∀ m ∈ ofM b n R 0, m.length = 8
        rw [ofM_zero hR]
        exact hR8
      · show ((ofH b n R 0).length : Int) = b
        rw [ofH_zero, List.length_replicate]
        omega
      · show ((ofH b n R 0).length : Int) = b
        rw [ofH_zero, List.length_replicate]
        omega
    have N0 : ∀ y, H1 y = none → H y = none := fun y e => by
      cases q : H y with
      | none => rfl
      | some o => rw [k1' y o q] at e; cases e
    have N4 : ({ A1 with ca := D, rs := qs } : IA).New H := ⟨N0 _ G.freshD, fun q hq => N0 _ (G.fresh q hq), xs1 _ N1.ho, xs1 _ N1.st, xs1 _ N1.hd⟩
    have S4 : Same H H4 := fun y o e => kx _ _ (G.same _ _ (k1' _ _ e)) (ne_of_none e nx)
    -- for x in range(plan.blocks)
    have hpl4 : H4 pl = some (.ins T.C_Plan dxp (planF b n sl)) := S4 _ _ hpl
    refine ⟨_, rfl, pl, _, dxp, _, _, rfl, hpl4, T.cl_Plan, T.na_Plan_blocks, rfl, b, rfl, by omega, by omega, for_range (lo := 0) (n := b.toNat) (fun i σ H' => ∃ (A : IA) (u3 u4 : Option V), σ = [some (.ref pl), some (.ref ra), some (.ref x), u3, u4] ∧ ImgAt T.C_Image T.C_Plan H' x A (ofV b n R i) b n sl ∧ Same H H' ∧ A.New H ∧ A.pl = pl)
      ⟨_, _, _, rfl, I4, S4, N4, eA⟩ ?_ ?_⟩
    · rintro i σ H' hi ⟨A, u3, u4, rfl, I, S, N, eA⟩
      have hib : (i : Int) < b := by omega
      refine ⟨_, rfl, x, _, _, rfl, I.ob, rfl, _, rfl, x, A, ofV b n R i, b, n, sl, _, rfl, I, by omega, by omega, fun H5 s5 => ?_⟩
      have ek : kindOf b n (ofV b n R i).M (0 + (i : Int)) = kindOf b n R i := by
        rw [show (0 : Int) + (i : Int) = i by omega]
        exact kindOf_congr (by omega) (by omega) hib fun y hy => ofM_fix hR (by omega) hy
      rw [ek]
      have I5 := I.keep s5
      have S5 := S.trans s5
      refine ⟨rfl, _, rfl, ite2 (fun e => ?_) (fun e => ?_)⟩
      · have hk : kindOf b n R i = 0 := V.int.inj (of_decide_eq_true e)
        refine ⟨by show 1 ≤ sizeLine; decide, fun l hl => ?_⟩
        refine ⟨l, 8, _, rfl, rfl, upd_same, by decide, by decide, by show 1 * 8 ≤ sizeLine; decide, fun q hq => ?_⟩
        have sm : Same H5 (upd (upd H5 l (.lst [V.int 0])) q (.lst (List.replicate (8 : Int).toNat [V.int 0]).flatten)) := (same_upd hl).trans (same_upd hq)
        have hq5 : H5 q = none := un hq
        have hq1 : (upd (upd H5 l (.lst [V.int 0])) q (.lst (List.replicate (8 : Int).toNat [V.int 0]).flatten)) q = some (.lst ((List.replicate 8 (0 : Int)).map V.int)) := by rw [upd_same]; rfl
        generalize hH6 : upd (upd H5 l (.lst [V.int 0])) q (.lst (List.replicate (8 : Int).toNat [V.int 0]).flatten) = H6 at sm hq1 ⊢
        refine ⟨_, rfl, x, _, _, _, _, rfl, sm _ _ I5.ob, T.cl_Image, T.na_Image_cells, rfl, _, rfl, A.ca, _, _, i, rfl, rfl, sm _ _ I5.gr.out, ?_, ?_⟩
        · unfold ixN
          rw [if_pos (by omega), List.length_map, if_pos (by rw [I5.gr.len]; show (0 : Int) + i < (ofM b n R i).length; unfold ofM; simp; omega)]
          congr 1
          omega
        · refine ⟨{ A with rs := A.rs.set i q }, u3, _, rfl, ?_, ?_, ⟨N.ca, fun z hz => ?_, N.ho, N.st, N.hd⟩, eA⟩
          rotate_left
          · exact fun y o e => by
              rw [upd_ne (ne_of_none e N.ca)]
              exact sm _ _ (S5 _ _ e)
          · rcases mem_set_of hz with e | e
            · rw [e]; exact S5.free hq5
            · exact N.rs z e
          · have := I5.swap (i := i) sm hq5 hq1 (by rfl)
            unfold ofV at this ⊢
            dsimp only at this ⊢
            rw [ofM_succ (by omega), if_pos hk, ofH_succ (by omega), if_pos hk]
            exact this
      · have hk : ¬ kindOf b n R i = 0 := fun z => e (by rw [z]; exact decide_eq_true rfl)
        have ix : ∀ (xs : List V), xs.length = b.toNat → ixN xs.length (0 + (i : Int)) = some i := fun xs hx => by
          unfold ixN
          rw [if_pos (by omega), if_pos (by omega)]
          congr 1
          omega
        have lh : ((ofH b n R i).map V.int).length = b.toNat := by unfold ofH; simp
        refine ⟨_, rfl, x, _, _, _, _, rfl, I5.ob, T.cl_Image, T.na_Image_holdings, rfl, _, rfl, A.ho, _, _, i, rfl, rfl, I5.ho, ix _ lh, ?_⟩
        have I6 := I5.putHo (i := i) (x := 1)
        refine ⟨_, rfl, x, _, _, _, _, rfl, I6.ob, T.cl_Image, T.na_Image_stamps, rfl, _, rfl, A.st, _, _, i, rfl, rfl, I6.st, ix _ lh, ?_⟩
        have I7 := I6.putSt (i := i) (x := 1)
        refine ⟨_, u3, _, rfl, ?_, ?_, N, eA⟩
        · unfold ofV at I7 ⊢
          dsimp only at I7 ⊢
          rw [ofM_succ (by omega), if_neg hk, ofH_succ (by omega), if_neg hk]
          exact I7
        · exact fun y o e => by
            rw [upd_ne (ne_of_none e N.st), upd_ne (ne_of_none e N.ho)]
            exact S5 _ _ e
    · rintro σ H' ⟨A, u3, u4, rfl, I, S, N, eA⟩
      exact ⟨_, rfl, k H' x A S nx I N eA⟩
end
end K88
namespace K88
open PySem PySem.Spec PyProof.Rows L2 Rg
def setC (M : List (List Int)) (i j : Nat) (x : Int) : List (List Int) := M.set i ((M[i]?.getD []).set j x)
theorem setC_len {M : List (List Int)} {i j : Nat} {x : Int} : (setC M i j x).length = M.length := by
  unfold setC
  rw [List.length_set]
theorem setC_at {M : List (List Int)} {i j : Nat} {x : Int} {m : List Int} (h : M[i]? = some m) : (setC M i j x)[i]? = some (m.set j x) := by
  have hi := (List.getElem?_eq_some_iff.mp h).1
  unfold setC
  rw [List.getElem?_set_self hi, h]
  rfl
theorem ImgAt.setC {CI CP : Addr} {H : Hp} {im : Addr} {A : IA} {v : IV} {b n s : Int} (I : ImgAt CI CP H im A v b n s) {i j : Nat} {x : Int} {r : Addr} {m : List Int} (hr : A.rs[i]? = some r) (hm : v.M[i]? = some m) :
    ImgAt CI CP (upd H r (.lst ((m.map V.int).set j (V.int x)))) im A { v with M := setC v.M i j x } b n s := by
  have h8 : m.length = 8 := I.d1 m (List.mem_of_getElem? hm)
  have := I.putRow (m := m.set j x) hr (by rw [List.length_set]; exact h8)
  rw [List.map_set] at this
  unfold K88.setC
  rw [hm]
  exact this
/-- the index i of a list of a known length -/
theorem ixN_nat {n : Nat} {z : Int} {i : Nat} (e : z = i) (h : i < n) : ixN n z = some i := by
  subst e
  unfold ixN
  rw [if_pos (by omega), if_pos (by omega)]
  rfl
def zerosM (b : Int) : List (List Int) := List.replicate b.toNat (List.replicate 8 0)
def fmM (b : Int) : Nat → List (List Int)
  | 0 => zerosM b
  | k + 1 => setC (fmM b k) (2 + k / 8) (k % 8) 1
def freshM (b n : Int) : List (List Int) :=
  let r := (2 + (b + 8 - 1) / 8).toNat
  setC (setC (setC (fmM b (r + n.toNat)) r 0 2) r 1 1) r 7 1
section
variable {P : Program} {w : World} {K : PySem.W.Frag} {mg : Str → Option Value} {base : Heap}
def sp_fresh (CI CP : Addr) : Sp := fun vs H Q _ => ∃ (pl : Addr) (b n s : Int), vs = [.ref pl] ∧ PlanAt CP H pl b n s ∧
  ∀ (H' : Hp) (im : Addr) (A : IA), Same H H' → H im = none → ImgAt CI CP H' im A (ofV b n (freshM b n) b.toNat) b n s → A.New H → A.pl = pl → Q (.ref im) H'
theorem ok_fresh (T : Tx K mg) : FnOk P w K mg base CX0 4 T.f_Image_fresh T.fd_Image_fresh ["plan"] (sp_fresh T.C_Image T.C_Plan) := by
  refine T.F_Image_fresh.ok sc_Image_fresh (fun vs H Q E h => ?_) (fun cdv A0 outer s H vs Q E hr h => ?_)
  · obtain ⟨_, _, _, _, rfl, _⟩ := h; rfl
  · obtain ⟨pl, b, n, sl, rfl, hP, k⟩ := h
    have hr1 : Room 1 _ := hr.mono (by decide)
    have hr2 : Room 2 _ := hr.mono (by decide)
    refine ⟨_, (pss_cons (ps_set (i := 1) sc_Image_fresh.nd rfl (.inl rfl) (pe_make T.mk_Image (ok_Image_init T) hr2 rfl T.mg_Image (b_Image___init__ T) .nil pass0 (pa_cons (pv 0) pa_nil)))
      (pss_cons (ps_for PassesOwn.never rfl (pi_range1 rfl T.b_range (pa_cons (pe_fld (pv 0) rfl) pa_nil)) (pg_name (i := 2) sc_Image_fresh.nd rfl (.inl rfl))
        (pss_cons (ps_asg (pe_meth (pv 0) T.cl_Plan T.m_Plan_map_place (ok_Plan_map_place T) hr1 (b_Plan_map_place T) .nil pass0 (pa_cons (pv 2) pa_nil)) (pg_tup rfl (pgs_cons (pg_name (i := 3) sc_Image_fresh.nd rfl (.inl rfl)) (pgs_cons (pg_name (i := 4) sc_Image_fresh.nd rfl (.inl rfl)) pgs_nil))))
        (pss_one (ps_asg (pe_cv T.mg_Plan T.cr_Plan T.cv_Plan_LOGGED) (pg_sub (pe_ix ix_list (pe_fld (pv 1) rfl) (pv 3) (fun _ _ => rfl)) (pv 4) set_list)))))
      (pss_cons (ps_set (i := 5) sc_Image_fresh.nd rfl (.inl rfl) (pe_ix ix_list (pe_fld (pv 1) rfl) (pe_meth (pv 0) T.cl_Plan T.m_Plan_node_block (ok_Plan_node_block T) hr1 (b_Plan_node_block T) .nil pass0 (pa_cons (pe_gc T.c_ROOT) pa_nil)) (fun _ _ => rfl)))
      (pss_cons (ps_asg (pe_gc T.c_FOLDER) (pg_sub (pv 5) (pe_gc T.c_KIND) set_list))
      (pss_cons (ps_asg pe_int (pg_sub (pv 5) (pe_gc T.c_LINKS) set_list))
      (pss_cons (ps_asg pe_int (pg_sub (pv 5) (pe_gc T.c_MAKING) set_list))
      (pss_one (ps_ret (pe_smeth T.mg_Image T.cr_Image T.sm_Image_of_cells (ok_of_cells T) hr (b_Image_of_cells T) .nil pass0 (pa_cons (pv 0) (pa_cons (pe_fld (pv 1) rfl) pa_nil))))))))))), ?_⟩
    obtain ⟨dxp, hpl⟩ := hP.ob
    have hb1 := hP.b1
    have hb2 := hP.b2
    have hd := hP.d
    have hn1 := hP.n1
    -- image = Image(plan)
    refine ⟨_, rfl, fun x dx nx ndx nex => ?_⟩
    have s1 : Same H (upd (upd H dx (.own x)) x (.ins T.C_Image dx [])) := (same_upd ndx).trans (same_upd (by rw [upd_ne nex.symm]; exact nx))
    refine ⟨x, dx, pl, b, n, sl, rfl, upd_same, hP.same s1, fun H1 A k1 I1 N1 eA => ⟨rfl, ?_⟩⟩
    have S1 : Same H H1 := fun y o e => k1 y o (s1 _ _ e) (ne_of_none e nx)
    have Nrs : ∀ q ∈ A.rs, H q = none := fun q hq => un (un (N1.rs q hq))
    have pr : pl ∉ A.rs := fun z => by rw [Nrs _ z] at hpl; cases hpl
    -- the map
    refine ⟨_, rfl, pl, _, dxp, _, _, rfl, S1 _ _ hpl, T.cl_Plan, T.na_Plan_first_data, rfl, _, rfl, by omega, by omega, for_range (lo := 0) (n := (2 + (b + 8 - 1) / 8 + n).toNat) (fun i σ H' => ∃ (u2 u3 u4 : Option V), σ = [some (.ref pl), some (.ref x), u2, u3, u4, none] ∧ ImgAt T.C_Image T.C_Plan H' x A { zeroV b with M := fmM b i } b n sl ∧ Same H H')
      ⟨_, _, _, rfl, I1, S1⟩ ?_ ?_⟩
    · rintro i σ H' hi ⟨u2, u3, u4, rfl, I, S⟩
      refine ⟨_, rfl, pl, dxp, _, rfl, S _ _ hpl, rfl, _, rfl, pl, b, n, sl, _, rfl, hP.same S, fun t ht => ?_⟩
      have st := same_upd (o := .tup [.int (2 + (0 + (i : Int)) / 8), .int ((0 + (i : Int)) % 8)]) ht
      refine ⟨t, _, rfl, .inl (.inl upd_same), rfl, _, _, rfl, _, _, rfl, rfl, ?_⟩
      have It := I.keep st
      have d0 := It.d0
      have hl : 2 + i / 8 < (fmM b i).length := by
        have : ((fmM b i).length : Int) = b := d0
        omega
      obtain ⟨r, hr1, hr2, _⟩ := It.gr.get (List.getElem?_eq_getElem hl)
      have h8 : ((fmM b i)[2 + i / 8]).length = 8 := It.d1 _ (List.getElem_mem hl)
      refine ⟨_, rfl, x, _, _, _, _, rfl, It.ob, T.cl_Image, T.na_Image_cells, rfl, _, rfl, A.ca, _, _, .ref r, rfl, rfl, .of It.gr.out, at_of (j := 2 + i / 8) (by omega) (by rw [List.getElem?_map, hr1]; rfl), _, rfl, r, _, _, i % 8, rfl, rfl, hr2, ixN_nat (by omega) (by rw [List.length_map, h8]; omega), ?_⟩
      refine ⟨_, _, _, rfl, It.setC (j := i % 8) (x := 1) hr1 (List.getElem?_eq_getElem hl), fun y o e => ?_⟩
      rw [upd_ne (ne_of_none e (Nrs r (List.mem_of_getElem? hr1)))]
      exact st _ _ (S _ _ e)
    · rintro σ H' ⟨u2, u3, u4, rfl, I, S⟩
      have d0 := I.d0
      -- root = ..
      have hl : (2 + (b + 8 - 1) / 8).toNat < (fmM b (2 + (b + 8 - 1) / 8 + n).toNat).length := by
        have : ((fmM b (2 + (b + 8 - 1) / 8 + n).toNat).length : Int) = b := d0
        omega
      obtain ⟨r, hr1, hr2, _⟩ := I.gr.get (List.getElem?_eq_getElem hl)
      generalize hm : (fmM b (2 + (b + 8 - 1) / 8 + n).toNat)[(2 + (b + 8 - 1) / 8).toNat] = m at hr2
      have hm' : (fmM b (2 + (b + 8 - 1) / 8 + n).toNat)[(2 + (b + 8 - 1) / 8).toNat]? = some m := by rw [List.getElem?_eq_getElem hl, hm]
      have h8 : m.length = 8 := I.d1 _ (List.mem_of_getElem? hm')
      refine ⟨_, rfl, x, _, _, _, _, rfl, I.ob, T.cl_Image, T.na_Image_cells, rfl, _, rfl, pl, dxp, _, rfl, S _ _ hpl, rfl, pl, b, n, sl, 1, rfl, hP.same S, A.ca, _, _, .ref r, rfl, rfl, .of I.gr.out, at_of (j := (2 + (b + 8 - 1) / 8).toNat) (by omega) (by rw [List.getElem?_map, hr1]; rfl), ?_⟩
      refine ⟨_, rfl, r, _, _, 0, rfl, rfl, hr2, ixN_nat rfl (by rw [List.length_map, h8]; omega), ?_⟩
      have I1 := I.setC (j := 0) (x := 2) hr1 hm'
      refine ⟨_, rfl, r, _, _, 1, rfl, rfl, upd_same, ixN_nat rfl (by simp [h8]), ?_⟩
      have e1 : (m.map V.int).set 0 (V.int 2) = (m.set 0 2).map V.int := List.map_set.symm
      rw [e1] at I1 ⊢
      have I2 := I1.setC (j := 1) (x := 1) hr1 (setC_at hm')
      refine ⟨_, rfl, r, _, _, 7, rfl, rfl, upd_same, ixN_nat rfl (by simp [h8]), ?_⟩
      have e2 : ((m.set 0 2).map V.int).set 1 (V.int 1) = ((m.set 0 2).set 1 1).map V.int := List.map_set.symm
      rw [e2] at I2 ⊢
      have I3 := I2.setC (j := 7) (x := 1) hr1 (setC_at (setC_at hm'))
      rw [upd_upd, upd_upd]
      rw [upd_upd, upd_upd] at I3
      generalize hHf : upd H' r (.lst ((((m.set 0 2).set 1 1).map V.int).set 7 (V.int 1))) = Hf at I3 ⊢
      have Sf : Same H Hf := fun y o e => by
        rw [← hHf, upd_ne (ne_of_none e (Nrs r (List.mem_of_getElem? hr1)))]
        exact S _ _ e
      have eM : freshM b n = setC (setC (setC (fmM b (2 + (b + 8 - 1) / 8 + n).toNat) (2 + (b + 8 - 1) / 8).toNat 0 2) (2 + (b + 8 - 1) / 8).toNat 1 1) (2 + (b + 8 - 1) / 8).toNat 7 1 := by
        unfold freshM
        rw [show (2 + (b + 8 - 1) / 8 + n).toNat = (2 + (b + 8 - 1) / 8).toNat + n.toNat by omega]
      refine ⟨_, rfl, _, rfl, x, _, _, _, _, rfl, I3.ob, T.cl_Image, T.na_Image_cells, rfl, pl, A.ca, A.rs, _, b, n, sl, rfl, hP.same Sf, I3.gr, I3.d0, I3.d1, fun H2 im A2 S2 nim I2 N2 eA2 => ?_⟩
      have fr : ∀ y, Hf y = none → H y = none := fun y e => Sf.free e
      refine k H2 im A2 (Sf.trans S2) (fr _ nim) ?_ ⟨fr _ N2.ca, fun q hq => fr _ (N2.rs q hq), fr _ N2.ho, fr _ N2.st, fr _ N2.hd⟩ eA2
      rw [eM]
      exact I2
end
end K88
namespace K88
open PySem PySem.Spec PyProof.Rows L2 Rg
section
variable {P : Program} {w : World} {K : PySem.W.Frag} {mg : Str → Option Value} {base : Heap}
def sp_twin (CI CP : Addr) : Sp := fun vs H Q _ => ∃ (im : Addr) (A : IA) (v : IV) (b n s : Int), vs = [.ref im] ∧ ImgAt CI CP H im A v b n s ∧
  ∀ (H' : Hp) (im' : Addr) (A' : IA), Same H H' → H im' = none → ImgAt CI CP H' im' A' v b n s → A'.New H → A'.pl = A.pl → A'.ba = A.ba → Q (.ref im') H'
theorem ok_twin (T : Tx K mg) : FnOk P w K mg base CX0 3 T.f_Image_twin T.fd_Image_twin ["self"] (sp_twin T.C_Image T.C_Plan) := by
  refine T.F_Image_twin.ok sc_Image_twin (fun vs H Q E h => ?_) (fun cdv A0 outer s H vs Q E hr h => ?_)
  · obtain ⟨_, _, _, _, _, _, rfl, _⟩ := h; rfl
  · obtain ⟨im, A, v, b, n, sl, rfl, I, k⟩ := h
    refine ⟨_, (pss_cons (ps_set (i := 1) sc_Image_twin.nd rfl (.inl rfl) (pe_make T.mk_Image (ok_Image_init T) hr rfl T.mg_Image (b_Image___init__ T) .nil pass0 (pa_cons (pe_fld (pv 0) rfl) pa_nil)))
      (pss_cons (ps_fld (pv 1) (pe_lc rfl (own := [("row", 2)]) (g := gName 2) (tt := tYes) sc_Image_twin.nd (pi_list (pe_fld (pv 0) rfl)) (blkOk_by (N := ["self", "other", "row"]) (sc := defScope s_Image_twin) (by decide +kernel)) (fun _ _ _ _ _ => pg_name (i := 2) sc_Image_twin.nd rfl (Or.inl rfl)) (fun _ _ _ _ _ => pts_nil) (fun _ _ _ _ _ => (pe_listof (K := K) (pv 2) T.b_list))) rfl)
      (pss_cons (ps_fld (pv 1) (pe_listof (K := K) (pe_fld (pv 0) rfl) T.b_list) rfl)
      (pss_cons (ps_fld (pv 1) (pe_listof (K := K) (pe_fld (pv 0) rfl) T.b_list) rfl)
      (pss_cons (ps_fld (pv 1) (pe_callTy call_dictD rfl T.b_dict (by decide +kernel) (pa_cons (pe_fld (pv 0) rfl) pa_nil)) rfl)
      (pss_cons (ps_fld (pv 1) (pe_fld (pv 0) rfl) rfl)
      (pss_cons (ps_fld (pv 1) (pe_fld (pv 0) rfl) rfl)
      (pss_cons (ps_fld (pv 1) (pe_fld (pv 0) rfl) rfl)
      (pss_one (ps_ret (pv 1))))))))))), ?_⟩
    obtain ⟨dxp, hpl⟩ := I.pl.ob
    have hb1 := I.pl.b1
    have hb2 := I.pl.b2
    -- other = Image(self.plan)
    refine ⟨_, rfl, im, _, _, _, _, rfl, I.ob, T.cl_Image, T.na_Image_plan, rfl, fun x dx nx ndx nex => ?_⟩
    have s1 : Same H (upd (upd H dx (.own x)) x (.ins T.C_Image dx [])) := (same_upd ndx).trans (same_upd (by rw [upd_ne nex.symm]; exact nx))
    refine ⟨x, dx, A.pl, b, n, sl, rfl, upd_same, I.pl.same s1, fun H1 A1 k1 I1 N1 eA => ⟨rfl, ?_⟩⟩
    have S1 : Same H H1 := fun y o e => k1 y o (s1 _ _ e) (ne_of_none e nx)
    have J1 := I.keep S1
    -- other.cells
    refine ⟨_, rfl, im, _, _, _, _, rfl, J1.ob, T.cl_Image, T.na_Image_cells, rfl, A.ca, rfl, ⟨_, .of J1.gr.out⟩, fun D hD => ?_⟩
    refine lc_list (K := K) (a := A.ca) (xs := A.rs.map V.ref) (fun i H' => ∃ qs, NewGrid H1 H' D qs (v.M.take i))
      ⟨[], NewGrid.start (Same.refl _) hD hD⟩ (fun i H' _ ⟨qs, G⟩ => .of (G.same _ _ J1.gr.out)) ?_ ?_
    · rintro i y H' hi ⟨qs, G⟩
      have hil : i < A.rs.length := by
        have := (List.getElem?_eq_some_iff.mp hi).1
        rw [List.length_map] at this
        exact this
      rw [List.getElem?_map, List.getElem?_eq_getElem hil] at hi
      have hi : V.ref A.rs[i] = y := Option.some.inj hi
      subst hi
      have hiR : i < v.M.length := by rw [← J1.gr.len]; exact hil
      have hrow := G.same _ _ (J1.gr.row i A.rs[i] v.M[i] (List.getElem?_eq_getElem hil) (List.getElem?_eq_getElem hiR))
      have d0 := I.d0
      refine ⟨rfl, ?_⟩
      refine yes_ ?_
      refine ⟨_, rfl, A.rs[i], _, rfl, .inl (.of hrow), fun q hq => ?_⟩
      refine ⟨_, by rw [upd_ne (ne_of_none G.grid.out hq)]; exact G.grid.out, ?_, qs ++ [q], ?_⟩
      · rw [List.length_map, G.grid.len, List.length_take]
        exact small1000 (by omega)
      · rw [List.take_succ, List.getElem?_eq_getElem hiR]
        exact G.snoc (same_upd hq) hq upd_same
    rintro H2 ⟨qs, G⟩
    rw [List.length_map, J1.gr.len, List.take_length] at G
    have I2 : ImgAt T.C_Image T.C_Plan H2 x A1 (zeroV b) b n sl := I1.keep G.same
    have J2 := J1.keep G.same
    have nix : im ≠ x := ne_of_none I.ob nx
    refine ⟨_, rfl, x, _, _, _, rfl, I2.ob, T.cl_Image, T.na_Image_cells, (by show 8 < 1000; decide), ?_⟩
    generalize hH3 : upd H2 x _ = H3
    obtain ⟨e3, k3, n3⟩ := own_f hH3
    have o3 := k3.at1 J2.ob nix
    have nxho : A.ho ≠ x := ne_of_none I.ho nx
    have nxst : A.st ≠ x := ne_of_none I.st nx
    have nxhd : A.hd ≠ x := ne_of_none I.hd nx
    -- other.holdings
    refine ⟨_, rfl, im, _, _, _, _, rfl, o3, T.cl_Image, T.na_Image_holdings, rfl, A.ho, _, rfl, .inl (.of (k3.at1 J2.ho nxho)), fun ho hho => ?_⟩
    generalize hH4 : upd H3 ho _ = H4
    obtain ⟨e4, s4, n4⟩ := new_f hH4 hho
    refine ⟨_, rfl, x, _, _, _, rfl, s4 _ _ e3, T.cl_Image, T.na_Image_holdings, (by show 8 < 1000; decide), ?_⟩
    generalize hH5 : upd H4 x _ = H5
    obtain ⟨e5, k5, n5⟩ := own_f hH5
    have o5 := k5.at1 (s4 _ _ o3) nix
    have nhox : ho ≠ x := (ne_of_none e3 hho).symm
    have ho5 := k5.at1 e4 nhox
    -- other.stamps
    refine ⟨_, rfl, im, _, _, _, _, rfl, o5, T.cl_Image, T.na_Image_stamps, rfl, A.st, _, rfl, .inl (.of (k5.at1 (s4 _ _ (k3.at1 J2.st nxst)) nxst)), fun st hst => ?_⟩
    generalize hH6 : upd H5 st _ = H6
    obtain ⟨e6, s6, n6⟩ := new_f hH6 hst
    refine ⟨_, rfl, x, _, _, _, rfl, s6 _ _ e5, T.cl_Image, T.na_Image_stamps, (by show 8 < 1000; decide), ?_⟩
    generalize hH7 : upd H6 x _ = H7
    obtain ⟨e7, k7, n7⟩ := own_f hH7
    have o7 := k7.at1 (s6 _ _ o5) nix
    have nstx : st ≠ x := (ne_of_none e5 hst).symm
    have nstho : st ≠ ho := (ne_of_none ho5 hst).symm
    have st7 := k7.at1 e6 nstx
    have ho7 := k7.at1 (s6 _ _ ho5) nhox
    -- other.handles
    have hd7 := k7.at1 (s6 _ _ (k5.at1 (s4 _ _ (k3.at1 J2.hd nxhd)) nxhd)) nxhd
    refine ⟨_, rfl, im, _, _, _, _, rfl, o7, T.cl_Image, T.na_Image_handles, rfl, A.hd, _, rfl, .inl hd7, fun hd hhd => ?_⟩
    generalize hH8 : upd H7 hd _ = H8
    obtain ⟨e8, s8, n8⟩ := new_f hH8 hhd
    refine ⟨_, rfl, x, _, _, _, rfl, s8 _ _ e7, T.cl_Image, T.na_Image_handles, (by show 8 < 1000; decide), ?_⟩
    generalize hH9 : upd H8 x _ = H9
    obtain ⟨e9, k9, n9⟩ := own_f hH9
    have nhdx : hd ≠ x := (ne_of_none e7 hhd).symm
    have o9 := k9.at1 (s8 _ _ o7) nix
    -- serial, wish, barred
    refine ⟨_, rfl, im, _, _, _, _, rfl, o9, T.cl_Image, T.na_Image_serial, rfl, _, rfl, x, _, _, _, rfl, e9, T.cl_Image, T.na_Image_serial, (by show 8 < 1000; decide), ?_⟩
    generalize hH10 : upd H9 x _ = H10
    obtain ⟨e10, k10, n10⟩ := own_f hH10
    refine ⟨_, rfl, im, _, _, _, _, rfl, k10.at1 o9 nix, T.cl_Image, T.na_Image_wish, rfl, _, rfl, x, _, _, _, rfl, e10, T.cl_Image, T.na_Image_wish, (by show 8 < 1000; decide), ?_⟩
    generalize hH11 : upd H10 x _ = H11
    obtain ⟨e11, k11, n11⟩ := own_f hH11
    refine ⟨_, rfl, im, _, _, _, _, rfl, k11.at1 (k10.at1 o9 nix) nix, T.cl_Image, T.na_Image_barred, rfl, _, rfl, x, _, _, _, rfl, e11, T.cl_Image, T.na_Image_barred, (by show 8 < 1000; decide), ?_⟩
    generalize hH12 : upd H11 x _ = H12
    obtain ⟨e12, k12, n12⟩ := own_f hH12
    have k9' : Kp [x] H9 H12 := (k10.trans k11).trans k12
    have k2' : Kp [x] H2 H12 := (((((k3.same s4).trans k5).same s6).trans k7).same s8).trans (k9.trans k9')
    have S12 : Same H H12 := fun y o e => k2'.at1 (G.same _ _ (S1 _ _ e)) (ne_of_none e nx)
    have N1' : ∀ y, H1 y = none → H y = none := fun y e => S1.free e
    have f_ho : H2 ho = none := (n3 _ hho).1
    have f_st : H2 st = none := (n3 _ (n4 _ (n5 _ hst).1).1).1
    have f_hd : H2 hd = none := (n3 _ (n4 _ (n5 _ (n6 _ (n7 _ hhd).1).1).1).1).1
    have fr : ∀ y, H2 y = none → H y = none := fun y e => N1' _ (G.same.free e)
    have xD : x ≠ D := ne_of_none I1.ob G.freshD
    have xq : x ∉ qs := (G.nin0 I1.ob).2
    have qn : ∀ y, H2 y = none → y ∉ qs := fun y e hq => by
      obtain ⟨o, z⟩ := G.grid.held hq
      rw [e] at z
      cases z
    refine ⟨_, rfl, k H12 x ⟨A1.dx, A1.pl, D, qs, ho, st, hd, A.ba⟩ S12 nx
      { ob := e12, pl := ?_, gr := G.grid.keep fun y o hy e => k2'.at1 e ?_, ho := k9'.at1 (k9.at1 (s8 _ _ ho7) nhox) nhox, st := k9'.at1 (k9.at1 (s8 _ _ st7) nstx) nstx, hd := k9'.at1 (k9.at1 e8 nhdx) nhdx, ba := S12 _ _ I.ba, n1 := qn _ f_ho, n2 := qn _ f_st, n3 := nstho.symm, n4 := ne_of_none G.grid.out f_ho, n5 := ne_of_none G.grid.out f_st, d0 := I.d0, d1 := I.d1, d2 := I.d2, d3 := I.d3 }
      ⟨N1' _ G.freshD, fun q hq => N1' _ (G.fresh q hq), fr _ f_ho, fr _ f_st, fr _ f_hd⟩ eA rfl⟩
    · show PlanAt T.C_Plan H12 A1.pl b n sl
      rw [eA]
      exact I.pl.same S12
    · rcases hy with rfl | hy
      · exact xD.symm
      · exact fun z => xq (by rw [← z]; exact hy)
end
end K88
namespace K88
open PySem PySem.Spec PyProof.Rows L2 Rg
/-- what an image is read from -/
def IA.reads (A : IA) (im : Addr) : List Addr := im :: A.pl :: A.ca :: A.ho :: A.st :: A.hd :: A.ba :: A.rs
section
variable {CI CP : Addr} {H : Hp} {im : Addr} {A : IA} {v : IV} {b n s : Int}
theorem ImgAt.keepF {H' : Hp} (I : ImgAt CI CP H im A v b n s) (h : ∀ x o, x ∈ A.reads im → H x = some o → H' x = some o) : ImgAt CI CP H' im A v b n s :=
  { I with ob := h _ _ (by simp [IA.reads]) I.ob, pl := I.pl.of fun o e => h _ _ (by simp [IA.reads]) e, gr := I.gr.keep fun x o hx e => h _ _ (by rcases hx with rfl | hx <;> simp [IA.reads, *]) e, ho := h _ _ (by simp [IA.reads]) I.ho, st := h _ _ (by simp [IA.reads]) I.st, hd := h _ _ (by simp [IA.reads]) I.hd, ba := h _ _ (by simp [IA.reads]) I.ba }
theorem ImgAt.held (I : ImgAt CI CP H im A v b n s) {x : Addr} (h : x ∈ A.reads im) : ∃ o, H x = some o := by
  obtain ⟨dxp, hpl⟩ := I.pl.ob
  simp only [IA.reads, List.mem_cons] at h
  rcases h with rfl | rfl | rfl | rfl | rfl | rfl | rfl | h
  · exact ⟨_, I.ob⟩
  · exact ⟨_, hpl⟩
  · exact ⟨_, I.gr.out⟩
  · exact ⟨_, I.ho⟩
  · exact ⟨_, I.st⟩
  · exact ⟨_, I.hd⟩
  · exact ⟨_, I.ba⟩
  · exact I.gr.held h
/-- the fields of begin -/
theorem ImgAt.beg {t : Addr} {se wi : Int} {bs : List Int} (I : ImgAt CI CP H im A v b n s) (ht : H t = some (.tup (bs.map V.int))) :
    ImgAt CI CP (upd H im (.ins CI A.dx (imgF { A with ba := t } { v with se := se, wi := wi, ba := bs }))) im { A with ba := t } { v with se := se, wi := wi, ba := bs } b n s := by
  obtain ⟨dxp, hpl⟩ := I.pl.ob
  have oc := I.ob
  refine { I with ob := upd_same, pl := I.pl.of fun o e => ?_, gr := I.gr.keep fun y o hy e => ?_, ho := ?_, st := ?_, hd := ?_, ba := ?_ }
  · rw [upd_ne (fun z : A.pl = im => ?_)]
    · exact e
    · rw [z, oc] at hpl
      have := HO.ins.inj (Option.some.inj hpl)
      have := this.2.2
      simp [planF, imgF] at this
  · rw [upd_ne]
    · exact e
    · rcases hy with rfl | hy
      · exact ne_of I.gr.out oc (by intro z; cases z)
      · rintro rfl
        obtain ⟨i, hi, e2⟩ := List.getElem_of_mem hy
        have hm : i < v.M.length := by rw [← I.gr.len]; exact hi
        have := I.gr.row i y v.M[i] (by rw [List.getElem?_eq_getElem hi, e2]) (List.getElem?_eq_getElem hm)
        rw [oc] at this
        cases this
  · rw [upd_ne (ne_of I.ho oc (by intro z; cases z))]; exact I.ho
  · rw [upd_ne (ne_of I.st oc (by intro z; cases z))]; exact I.st
  · rw [upd_ne (ne_of I.hd oc (by intro z; cases z))]; exact I.hd
  · rw [upd_ne (ne_of ht oc (by intro z; cases z))]; exact ht
end
/-- places that stand apart, each with what it holds -/
structure Fr (L : List (Addr × HO)) (H : Hp) : Prop where
  at_ : ∀ p ∈ L, H p.1 = some p.2
  nd : (L.map (·.1)).Nodup
theorem Fr.get {L : List (Addr × HO)} {H : Hp} (F : Fr L H) (i : Nat) {a : Addr} {o : HO} (h : L[i]? = some (a, o)) : H a = some o := F.at_ _ (List.mem_of_getElem? h)
theorem Fr.keep {L : List (Addr × HO)} {H H' : Hp} (F : Fr L H) (h : ∀ p ∈ L, ∀ o, H p.1 = some o → H' p.1 = some o) : Fr L H' := ⟨fun p hp => h p hp _ (F.at_ p hp), F.nd⟩
theorem Fr.same {L : List (Addr × HO)} {H H' : Hp} (F : Fr L H) (h : Same H H') : Fr L H' := F.keep fun _ _ _ e => h _ _ e
theorem Fr.put {L : List (Addr × HO)} {H : Hp} (F : Fr L H) (i : Nat) {a : Addr} {o o' : HO} (h : L[i]? = some (a, o)) : Fr (L.set i (a, o')) (upd H a o') := by
  have hi : i < L.length := (List.getElem?_eq_some_iff.mp h).1
  have e : (L.set i (a, o')).map (·.1) = L.map (·.1) := by
    apply List.ext_getElem?
    intro j
    rw [List.getElem?_map, List.getElem?_map]
    by_cases q : i = j
    · subst q
      rw [List.getElem?_set_self hi, h]
      rfl
    · rw [List.getElem?_set_ne q]
  refine ⟨fun p hp => ?_, by rw [e]; exact F.nd⟩
  obtain ⟨j, hj, ej⟩ := List.getElem_of_mem hp
  by_cases q : i = j
  · subst q
    rw [List.getElem_set_self] at ej
    rw [← ej]
    exact upd_same
  · rw [List.getElem_set_ne q] at ej
    have hjl : j < L.length := by rw [List.length_set] at hj; exact hj
    have hpL : p ∈ L := by rw [← ej]; exact List.getElem_mem hjl
    rw [upd_ne]
    · exact F.at_ p hpL
    · intro z
      have n1 : (L.map (·.1))[i]? = some a := by rw [List.getElem?_map, h]; rfl
      have n2 : (L.map (·.1))[j]? = some a := by rw [List.getElem?_map, List.getElem?_eq_getElem hjl, ej, ← z]; rfl
      have il : i < (L.map (·.1)).length := by rw [List.length_map]; exact hi
      have jl : j < (L.map (·.1)).length := by rw [List.length_map]; exact hjl
      rw [List.getElem?_eq_getElem il] at n1
      rw [List.getElem?_eq_getElem jl] at n2
      exact q ((List.getElem_inj F.nd).mp ((Option.some.inj n1).trans (Option.some.inj n2).symm))
theorem Fr.held {L : List (Addr × HO)} {H : Hp} (F : Fr L H) {a : Addr} (h : H a = none) : ∀ p ∈ L, p.1 ≠ a := fun p hp z => by
  have := F.at_ p hp
  rw [z, h] at this
  cases this
/-- one more, at a new place -/
theorem Fr.cons {L : List (Addr × HO)} {H : Hp} (F : Fr L H) {a : Addr} {o : HO} (h : H a = none) : Fr ((a, o) :: L) (upd H a o) := by
  refine ⟨fun p hp => ?_, ?_⟩
  · rcases List.mem_cons.mp hp with rfl | hp
    · exact upd_same
    · rw [upd_ne (F.held h p hp)]
      exact F.at_ p hp
  · rw [List.map_cons, List.nodup_cons]
    refine ⟨fun z => ?_, F.nd⟩
    obtain ⟨p, hp, e⟩ := List.mem_map.mp z
    exact F.held h p hp e
theorem Fr.nil {H : Hp} : Fr [] H := ⟨fun _ h => absurd h List.not_mem_nil, List.nodup_nil⟩
/-- an image, and places apart from it -/
structure SI (CI CP : Addr) (H : Hp) (im : Addr) (A : IA) (v : IV) (b n s : Int) (L : List (Addr × HO)) : Prop where
  I : ImgAt CI CP H im A v b n s
  F : Fr L H
  ap : ∀ p ∈ L, p.1 ∉ A.reads im
section
variable {CI CP : Addr} {H : Hp} {im : Addr} {A : IA} {v : IV} {b n s : Int} {L : List (Addr × HO)}
theorem SI.same {H' : Hp} (S : SI CI CP H im A v b n s L) (h : Same H H') : SI CI CP H' im A v b n s L := ⟨S.I.keep h, S.F.same h, S.ap⟩
theorem SI.put (S : SI CI CP H im A v b n s L) (i : Nat) {a : Addr} {o o' : HO} (h : L[i]? = some (a, o)) : SI CI CP (upd H a o') im A v b n s (L.set i (a, o')) := by
  have ha := S.ap _ (List.mem_of_getElem? h)
  refine ⟨S.I.keepF fun x q hx e => ?_, S.F.put i h, fun p hp => ?_⟩
  · rw [upd_ne fun z => ha (by rw [← z]; exact hx)]
    exact e
  · rcases mem_set_of hp with e | e
    · rw [e]; exact ha
    · exact S.ap p e
/-- the image changed, at its own places -/
theorem SI.img {H' : Hp} {A' : IA} {v' : IV} (S : SI CI CP H im A v b n s L) (I' : ImgAt CI CP H' im A' v' b n s) (k : Kp (A.reads im) H H') (hr : ∀ x ∈ A'.reads im, x ∈ A.reads im ∨ H x = none) : SI CI CP H' im A' v' b n s L :=
  ⟨I', S.F.keep fun p hp o e => k _ _ e (S.ap p hp), fun p hp z => by
    rcases hr _ z with e | e
    · exact S.ap p hp e
    · exact S.F.held e p hp rfl⟩
end
section
variable {X : Cx}
def rGetL (K : PySem.W.Frag) : V → V → Hp → VK → Prop := fun x y H Q => ∃ p xs j v, x = .ref p ∧ y = .int ((j : Nat) : Int) ∧ SqL K H p xs ∧ xs[j]? = some v ∧ Q v H
theorem get_list : PGet X (rGetL X.K) := by
  intro pins s σ H o i ov iv Q I ro ri h
  obtain ⟨p, xs, j, v, rfl, rfl, hq, he, q⟩ := h
  cases ro
  obtain ⟨t, rfl⟩ := ri
  obtain ⟨its, r, pl, hz⟩ := I.list hq
  obtain ⟨w, ew, rw'⟩ := r.get he
  have hn := line63
  have hl := r.length
  have hj := (List.getElem?_eq_some_iff.mp he).1
  exact wpAny_getItem_list pl.isList (by omega) (by omega) (by simpa using ew) ⟨v, H, I, rw', q⟩
end
section
variable {P : Program} {w : World} {K : PySem.W.Frag} {mg : Str → Option Value} {base : Heap}
/-! ### begin -/
def sp_begin (CI CP : Addr) : Sp := fun vs H Q _ => ∃ (im : Addr) (A : IA) (v : IV) (b n s wi : Int) (q : Addr) (bs : List Int), vs = [.ref im, .int wi, .ref q] ∧ ImgAt CI CP H im A v b n s ∧ (H q = some (.lst (bs.map V.int)) ∨ H q = some (.tup (bs.map V.int))) ∧
  ∀ (H' : Hp) (t : Addr), ImgAt CI CP H' im { A with ba := t } { v with se := v.se + 1, wi := wi, ba := bs } b n s → Kp [im] H H' → (H t = none ∨ t = q) → Q .non H'
theorem ok_begin (T : Tx K mg) : FnOk P w K mg base CX0 1 T.f_Image_begin T.fd_Image_begin ["self", "wish", "barred"] (sp_begin T.C_Image T.C_Plan) := by
  refine T.F_Image_begin.ok sc_Image_begin (fun vs H Q E h => ?_) (fun cdv A0 outer s H vs Q E hr h => ?_)
  · obtain ⟨_, _, _, _, _, _, _, _, _, rfl, _⟩ := h; rfl
  · obtain ⟨im, A, v, b, n, sl, wi, q, bs, rfl, I, hq, k⟩ := h
    refine ⟨_, (pss_cons (ps_fldaug (pv 0) pe_int in_add)
      (pss_cons (ps_fld (pv 0) (pv 1) rfl)
      (pss_one (ps_fld (pv 0) (pe_callTy call_tuple_of rfl T.b_tuple (by decide +kernel) (pa_cons (pv 2) pa_nil)) rfl)))), ?_⟩
    refine ⟨_, rfl, im, _, _, _, _, rfl, I.ob, T.cl_Image, T.na_Image_serial, rfl, _, _, rfl, rfl, _, _, I.ob, (by show 8 < 1000; decide), ?_⟩
    refine ⟨_, rfl, _, rfl, im, _, _, _, rfl, upd_same, T.cl_Image, T.na_Image_wish, (by show 8 < 1000; decide), ?_⟩
    rw [upd_upd]
    have k0 : ∀ o, Kp [im] H (upd H im o) := fun o => Kp.refl.own1
    have qn : q ≠ im := fun z => by
      rw [z, I.ob] at hq
      rcases hq with e | e <;> cases e
    refine ⟨_, rfl, q, bs.map V.int, rfl, ?_⟩
    rcases hq with hq | hq
    · refine .inl ⟨.of ((k0 _).at1 hq qn), fun t ht => ?_⟩
      refine ⟨_, rfl, im, _, A.dx, _, rfl, (by rw [upd_ne (unn' ht), upd_same]), T.cl_Image, T.na_Image_barred, (by show 8 < 1000; decide), ?_⟩
      have ti := unn' ht
      have t0 := un ht
      have e1 : ∀ o1 o2 o3, upd (upd (upd H im o1) t o2) im o3 = upd (upd H t o2) im o3 := fun o1 o2 o3 => by
        rw [upd_comm ti, upd_upd]
      rw [e1]
      exact k _ t ((I.keep (same_upd t0)).beg upd_same) ((Kp.of (same_upd t0)).own1) (.inl t0)
    · refine .inr ⟨.of ((k0 _).at1 hq qn), ?_⟩
      refine ⟨_, rfl, im, _, A.dx, _, rfl, upd_same, T.cl_Image, T.na_Image_barred, (by show 8 < 1000; decide), ?_⟩
      rw [upd_upd]
      exact k _ q (I.beg hq) (k0 _) (.inr rfl)
/-! ### data_blocks, free_blocks, identity -/
def rng (lo : Int) (n : Nat) : List Int := (List.range n).map fun i => lo + (i : Nat)
theorem rng_succ {lo : Int} {n : Nat} : rng lo (n + 1) = rng lo n ++ [lo + n] := by
  unfold rng
  rw [List.range_succ, List.map_append]
  rfl
theorem rng_len {lo : Int} {n : Nat} : (rng lo n).length = n := by unfold rng; simp
theorem rng_get {lo : Int} {n i : Nat} (h : i < n) : (rng lo n)[i]? = some (lo + i) := by
  unfold rng
  rw [List.getElem?_map, List.getElem?_range h]
  rfl
theorem rng_mem {lo x : Int} {n : Nat} (h : x ∈ rng lo n) : lo ≤ x ∧ x < lo + n := by
  unfold rng at h
  obtain ⟨i, hi, e⟩ := List.mem_map.mp h
  rw [List.mem_range] at hi
  omega
theorem rgV_rng (a b : Int) : rgV a b = (rng a (b - a).toNat).map V.int := by
  unfold rgV rng
  rw [List.map_map]
  rfl
def sp_data_blocks (CP : Addr) : Sp := fun vs H Q _ => ∃ (p : Addr) (b n s : Int), vs = [.ref p] ∧ PlanAt CP H p b n s ∧ ∀ q, H q = none → Q (.ref q) (upd H q (.lst ((rng (2 + (b + 8 - 1) / 8 + n) (b - (2 + (b + 8 - 1) / 8 + n)).toNat).map V.int)))
theorem ok_data_blocks (T : Tx K mg) : FnOk P w K mg base CX0 1 T.f_Plan_data_blocks T.fd_Plan_data_blocks ["self"] (sp_data_blocks T.C_Plan) := by
  refine T.F_Plan_data_blocks.ok sc_Plan_data_blocks (fun vs H Q E h => ?_) (fun cdv A0 outer s H vs Q E hr h => ?_)
  · obtain ⟨_, _, _, _, rfl, _⟩ := h; rfl
  · obtain ⟨p, b, n, sl, rfl, hP, k⟩ := h
    refine ⟨_, (pss_one (ps_ret (pe_listRg rfl rfl T.b_list (prg_2 rfl T.b_range (pe_fld (pv 0) rfl) (pe_fld (pv 0) rfl))))), ?_⟩
    obtain ⟨dxp, hpl⟩ := hP.ob
    have b1 := hP.b1
    have b2 := hP.b2
    have n1 := hP.n1
    have n2 := hP.n2
    refine ⟨_, rfl, p, _, dxp, _, _, rfl, hpl, T.cl_Plan, T.na_Plan_first_data, rfl, _, rfl, p, _, dxp, _, _, rfl, hpl, T.cl_Plan, T.na_Plan_blocks, rfl, _, _, rfl, rfl, ⟨by omega, by omega, by omega, by omega, by omega⟩, fun q hq => ?_⟩
    rw [rgV_rng]
    exact k q hq
def fdOf (b n : Int) : Int := 2 + (b + 8 - 1) / 8 + n
/-- the free data blocks -/
def freeL (b n : Int) (M : List (List Int)) : List Int := (rng (fdOf b n) (b - fdOf b n).toNat).filter fun x => decide (kindOf b n M x = 0)
def sp_free_blocks (CI CP : Addr) : Sp := fun vs H Q _ => ∃ (im : Addr) (A : IA) (v : IV) (b n s : Int), vs = [.ref im] ∧ ImgAt CI CP H im A v b n s ∧ ∀ H' p, Same H H' → H p = none → H' p = some (.lst ((freeL b n v.M).map V.int)) → Q (.ref p) H'
theorem filt_len {l : List Int} {p : Int → Bool} {m : Nat} (h : l.length ≤ m) : (l.filter p).length ≤ m := Nat.le_trans (List.length_filter_le _ _) h
theorem take_get {l : List Int} {i : Nat} {x : Int} (h : l[i]? = some x) : l.take (i + 1) = l.take i ++ [x] := by
  rw [List.take_succ, h]
  rfl
theorem ok_free_blocks (T : Tx K mg) : FnOk P w K mg base CX0 3 T.f_Image_free_blocks T.fd_Image_free_blocks ["self"] (sp_free_blocks T.C_Image T.C_Plan) := by
  refine T.F_Image_free_blocks.ok sc_Image_free_blocks (fun vs H Q E h => ?_) (fun cdv A0 outer s H vs Q E hr h => ?_)
  · obtain ⟨_, _, _, _, _, _, rfl, _⟩ := h; rfl
  · obtain ⟨im, A, v, b, n, sl, rfl, I, k⟩ := h
    have hr1 : Room 1 _ := hr.mono (by decide)
    refine ⟨_, (pss_one (ps_ret (pe_lc rfl (own := [("x", 1)]) (g := gName 1) (tt := _) sc_Image_free_blocks.nd (pi_list (pe_meth0 (pe_fld (pv 0) rfl) T.cl_Plan T.m_Plan_data_blocks (ok_data_blocks T) hr1 (b_Plan_data_blocks T) .nil pass0)) (blkOk_by (N := ["self", "x"]) (sc := defScope s_Image_free_blocks) (by decide +kernel)) (fun _ _ _ _ _ => pg_name (i := 1) sc_Image_free_blocks.nd rfl (Or.inl rfl)) (fun _ _ _ _ _ => pts_one (pt_cmpR op_eq (pe_meth (pv 0) T.cl_Image T.m_Image_kind (ok_Image_kind T) hr (b_Image_kind T) .nil pass0 (pa_cons (pv 1) pa_nil)) (pe_cv T.mg_Plan T.cr_Plan T.cv_Plan_FREE) (nomark _))) (fun _ _ _ _ _ => (pv 1))))), ?_⟩
    obtain ⟨dxp, hpl⟩ := I.pl.ob
    have b1 := I.pl.b1
    have b2 := I.pl.b2
    have n1 := I.pl.n1
    refine ⟨_, rfl, im, _, _, _, _, rfl, I.ob, T.cl_Image, T.na_Image_plan, rfl, A.pl, dxp, _, rfl, hpl, rfl, A.pl, b, n, sl, rfl, I.pl, fun q hq => ?_⟩
    have sq := same_upd (o := .lst ((rng (2 + (b + 8 - 1) / 8 + n) (b - (2 + (b + 8 - 1) / 8 + n)).toNat).map V.int)) hq
    refine ⟨q, rfl, ⟨_, .of upd_same⟩, fun D hD => ?_⟩
    have hD0 := un hD
    have nqD : q ≠ D := unn' hD
    refine lc_list (K := K) (a := q) (xs := (rng (2 + (b + 8 - 1) / 8 + n) (b - (2 + (b + 8 - 1) / 8 + n)).toNat).map V.int) (fun i H' => Same H H' ∧ H' q = some (.lst ((rng (2 + (b + 8 - 1) / 8 + n) (b - (2 + (b + 8 - 1) / 8 + n)).toNat).map V.int)) ∧ H' D = some (.lst ((((rng (2 + (b + 8 - 1) / 8 + n) (b - (2 + (b + 8 - 1) / 8 + n)).toNat).take i).filter fun x => decide (kindOf b n v.M x = 0)).map V.int)))
      ⟨sq.trans (same_upd hD), by rw [upd_ne nqD, upd_same], upd_same⟩ (fun i H' _ ⟨_, e, _⟩ => .of e) ?_ ?_
    · rintro i y H' hi ⟨S, e1, e2⟩
      rw [List.getElem?_map] at hi
      obtain ⟨x, hx, rfl⟩ := Option.map_eq_some_iff.mp hi
      have hm := rng_mem (List.mem_of_getElem? hx)
      refine ⟨rfl, ?_⟩
      refine ⟨_, rfl, im, _, _, rfl, S _ _ I.ob, rfl, _, rfl, im, A, v, b, n, sl, x, rfl, I.keep S, by omega, by omega, fun H2 S2 => ?_⟩
      refine ⟨rfl, _, rfl, ?_⟩
      rw [dec_iv]
      by_cases hk : kindOf b n v.M x = 0
      · rw [decide_eq_true hk]
        refine iteT ⟨_, rfl, _, S2 _ _ e2, ?_, fun a o z => ?_, ?_, ?_⟩
        · rw [List.length_map]
          have := filt_len (p := fun x => decide (kindOf b n v.M x = 0)) (List.length_take_le i (rng (2 + (b + 8 - 1) / 8 + n) (b - (2 + (b + 8 - 1) / 8 + n)).toNat))
          have hl := (List.getElem?_eq_some_iff.mp hx).1
          rw [rng_len] at hl
          exact small1000 (by omega)
        · rw [upd_ne (ne_of_none z hD0)]
          exact S2 _ _ (S _ _ z)
        · rw [upd_ne nqD]
          exact S2 _ _ e1
        · rw [upd_same, take_get hx, List.filter_append, List.map_append]
          rw [List.filter_cons, if_pos (by exact decide_eq_true hk)]
          rfl
      · rw [decide_eq_false hk]
        refine iteF ⟨S.trans S2, S2 _ _ e1, ?_⟩
        rw [take_get hx, List.filter_append, List.filter_cons, if_neg (by simpa using hk)]
        rw [List.filter_nil, List.append_nil]
        exact S2 _ _ e2
    · rintro H' ⟨S, e1, e2⟩
      rw [List.length_map, List.take_length] at e2
      exact k H' D S hD0 e2
def sp_identity (CI CP : Addr) : Sp := fun vs H Q _ => ∃ (im : Addr) (A : IA) (v : IV) (b n s : Int) (x : Nat) (h t : Int), vs = [.ref im, .int x] ∧ ImgAt CI CP H im A v b n s ∧ v.ho[x]? = some h ∧ v.st[x]? = some t ∧ ∀ q, H q = none → Q (.ref q) (upd H q (.tup [.int h, .int t]))
theorem ok_identity (T : Tx K mg) : FnOk P w K mg base CX0 1 T.f_Image_identity T.fd_Image_identity ["self", "x"] (sp_identity T.C_Image T.C_Plan) := by
  refine T.F_Image_identity.ok sc_Image_identity (fun vs H Q E h => ?_) (fun cdv A0 outer s H vs Q E hr h => ?_)
  · obtain ⟨_, _, _, _, _, _, _, _, _, rfl, _⟩ := h; rfl
  · obtain ⟨im, A, v, b, n, sl, x, h, t, rfl, I, hh, ht, k⟩ := h
    refine ⟨_, (pss_one (ps_ret (pe_tup (pa_cons (pe_ix ix_list (pe_fld (pv 0) rfl) (pv 1) (fun _ _ => rfl)) (pa_cons (pe_ix ix_list (pe_fld (pv 0) rfl) (pv 1) (fun _ _ => rfl)) pa_nil))))), ?_⟩
    refine ⟨_, rfl, im, _, _, _, _, rfl, I.ob, T.cl_Image, T.na_Image_holdings, rfl, _, rfl, A.ho, _, _, _, rfl, rfl, .of I.ho, atI_nat (by rw [List.getElem?_map, hh]; rfl), ?_⟩
    refine ⟨_, rfl, im, _, _, _, _, rfl, I.ob, T.cl_Image, T.na_Image_stamps, rfl, _, rfl, A.st, _, _, _, rfl, rfl, .of I.st, atI_nat (by rw [List.getElem?_map, ht]; rfl), ?_⟩
    exact ⟨(by show 2 ≤ sizeLine; decide), k⟩
end
end K88
namespace K88
open PySem PySem.Spec PyProof.Rows L2 Rg
/-! ### lists of ints and lists of such lists, compared -/
def dI (ns : List Int) : PyData := .list (ns.map PyData.int)
def dG (M : List (List Int)) : PyData := .list (M.map dI)
theorem dpAllI {K : PySem.W.Frag} {H : Hp} : ∀ ns : List Int, DpAll K H (ns.map V.int) (ns.map PyData.int)
  | [] => .nil
  | n :: ns => .cons (.int n) (dpAllI ns)
theorem dpI {K : PySem.W.Frag} {H : Hp} {a : Addr} {ns : List Int} (h : H a = some (.lst (ns.map V.int))) : Dp K H (.ref a) (dI ns) := .lst (.of h) (dpAllI ns)
theorem dpAllG {K : PySem.W.Frag} {H : Hp} : ∀ (rs : List Addr) (M : List (List Int)), rs.length = M.length → (∀ (i : Nat) (r : Addr) (m : List Int), rs[i]? = some r → M[i]? = some m → H r = some (.lst (m.map V.int))) → DpAll K H (rs.map V.ref) (M.map dI)
  | [], [], _, _ => .nil
  | r :: rs, m :: M, hl, h => .cons (dpI (h 0 r m rfl rfl)) (dpAllG rs M (by simpa using hl) fun i q n a b => h (i + 1) q n (by simpa using a) (by simpa using b))
  | [], _ :: _, hl, _ => by simp at hl
  | _ :: _, [], hl, _ => by simp at hl
theorem dpG {K : PySem.W.Frag} {H : Hp} {ca : Addr} {rs : List Addr} {M : List (List Int)} (G : Grid H ca rs M) : Dp K H (.ref ca) (dG M) := .lst (.of G.out) (dpAllG rs M G.len G.row)
theorem canI : ∀ ns : List Int, PyData.canLayAll0 (ns.map PyData.int) = true
  | [] => rfl
  | n :: ns => by
    show (PyData.canLay0 (.int n) && PyData.canLayAll0 (ns.map PyData.int)) = true
    rw [canI ns]
    rfl
theorem canG : ∀ M : List (List Int), PyData.canLayAll0 (M.map dI) = true
  | [] => rfl
  | m :: M => by
    show (PyData.canLayAll0 (m.map PyData.int) && PyData.canLayAll0 (M.map dI)) = true
    rw [canI, canG M]
    rfl
theorem depI : ∀ ns : List Int, PyData.depthAll (ns.map PyData.int) = 0
  | [] => rfl
  | n :: ns => by
    show max (PyData.depth (.int n)) (PyData.depthAll (ns.map PyData.int)) = 0
    rw [depI ns]
    rfl
theorem depG : ∀ M : List (List Int), PyData.depthAll (M.map dI) ≤ 1
  | [] => Nat.zero_le _
  | m :: M => by
    show max (PyData.depthAll (m.map PyData.int) + 1) (PyData.depthAll (M.map dI)) ≤ 1
    rw [depI m]
    have := depG M
    omega
theorem shI (ns : List Int) : SeqAt.shaped (dI ns) = true := by
  unfold SeqAt.shaped dI
  rw [Bool.and_eq_true]
  refine ⟨canI ns, decide_eq_true ?_⟩
  show PyData.depthAll (ns.map PyData.int) + 1 ≤ 64
  rw [depI ns]
  decide
theorem shG (M : List (List Int)) : SeqAt.shaped (dG M) = true := by
  unfold SeqAt.shaped dG
  rw [Bool.and_eq_true]
  refine ⟨canG M, decide_eq_true ?_⟩
  show PyData.depthAll (M.map dI) + 1 ≤ 64
  have := depG M
  omega
theorem eqI (ns : List Int) : PyData.eqv (dI ns) (dI ns) = true := SeqAt.eqv_refl _ (canI ns)
theorem eqvAllI : ∀ a b : List Int, PyData.eqvAll (a.map PyData.int) (b.map PyData.int) = decide (a = b)
  | [], [] => by simp [PyData.eqvAll]
  | [], _ :: _ => by simp [PyData.eqvAll]
  | _ :: _, [] => by simp [PyData.eqvAll]
  | x :: a, y :: b => by
    rw [List.map_cons, List.map_cons, PyData.eqvAll, eqvAllI a b]
    by_cases e : x = y
    · subst e
      by_cases f : a = b
      · subst f; simp [PyData.eqv]
      · simp [PyData.eqv, f]
    · simp [PyData.eqv, e]
theorem eqvI (a b : List Int) : PyData.eqv (dI a) (dI b) = decide (a = b) := by
  unfold dI
  rw [PyData.eqv]
  exact eqvAllI a b
end K88
namespace K88
open PySem PySem.Spec PyProof.Rows L2 Rg
/-! ### settle -/
/-- block x gets a new stamp -/
def Chg (b n : Int) (M M0 : List (List Int)) (ho : List Int) (se : Int) (x : Nat) : Prop := (kindOf b n M x ≠ 0 ∧ M[x]? ≠ M0[x]?) ∨ ho[x]? = some se
instance {b n : Int} {M M0 : List (List Int)} {ho : List Int} {se : Int} {x : Nat} : Decidable (Chg b n M M0 ho se x) := by unfold Chg; infer_instance
def setl (b n : Int) (M M0 : List (List Int)) (ho : List Int) (se : Int) (st : List Int) : Nat → List Int
  | 0 => st
  | i + 1 => if Chg b n M M0 ho se i then (setl b n M M0 ho se st i).set i se else setl b n M M0 ho se st i
theorem setl_len {b n : Int} {M M0 : List (List Int)} {ho : List Int} {se : Int} {st : List Int} : ∀ i, (setl b n M M0 ho se st i).length = st.length
  | 0 => rfl
  | i + 1 => by
    unfold setl
    split
    · rw [List.length_set]; exact setl_len i
    · exact setl_len i
theorem setl_succ {b n : Int} {M M0 : List (List Int)} {ho : List Int} {se : Int} {st : List Int} {i : Nat} : setl b n M M0 ho se st (i + 1) = if Chg b n M M0 ho se i then (setl b n M M0 ho se st i).set i se else setl b n M M0 ho se st i := rfl
theorem setl_get {b n : Int} {M M0 : List (List Int)} {ho : List Int} {se : Int} {st : List Int} {x : Nat} (hx : x < st.length) : ∀ i, (setl b n M M0 ho se st i)[x]? = if x < i ∧ Chg b n M M0 ho se x then some se else st[x]?
  | 0 => by rw [if_neg (by omega)]; rfl
  | i + 1 => by
    have ih := setl_get (b := b) (n := n) (M := M) (M0 := M0) (ho := ho) (se := se) hx i
    unfold setl
    by_cases c : Chg b n M M0 ho se i
    · rw [if_pos c]
      by_cases e : i = x
      · subst e
        rw [List.getElem?_set_self (by rw [setl_len]; exact hx), if_pos ⟨Nat.lt_succ_self _, c⟩]
      · rw [List.getElem?_set_ne e, ih]
        simp only [show (x < i + 1) ↔ (x < i) by omega]
    · rw [if_neg c, ih]
      by_cases e : i = x
      · subst e
        rw [if_neg (fun z => c z.2), if_neg (fun z => c z.2)]
      · simp only [show (x < i + 1) ↔ (x < i) by omega]
section
variable {P : Program} {w : World} {K : PySem.W.Frag} {mg : Str → Option Value} {base : Heap}
def sp_settle (CI CP : Addr) : Sp := fun vs H Q _ => ∃ (im : Addr) (A : IA) (v : IV) (b n s : Int) (im0 : Addr) (A0 : IA) (v0 : IV), vs = [.ref im, .ref im0] ∧ ImgAt CI CP H im A v b n s ∧ ImgAt CI CP H im0 A0 v0 b n s ∧ A.st ∉ A0.reads im0 ∧
  ∀ H', ImgAt CI CP H' im A { v with st := setl b n v.M v0.M v.ho v.se v.st b.toNat } b n s → Kp [A.st] H H' → Q .non H'
theorem ok_settle (T : Tx K mg) : FnOk P w K mg base CX0 3 T.f_Image_settle T.fd_Image_settle ["self", "before"] (sp_settle T.C_Image T.C_Plan) := by
  refine T.F_Image_settle.ok sc_Image_settle (fun vs H Q E h => ?_) (fun cdv A1 outer s H vs Q E hr h => ?_)
  · obtain ⟨_, _, _, _, _, _, _, _, _, rfl, _⟩ := h; rfl
  · obtain ⟨im, A, v, b, n, sl, im0, A0, v0, rfl, I, I0, hap, k⟩ := h
    refine ⟨_, (pss_one (ps_for PassesOwn.never rfl (pi_range1 rfl T.b_range (pa_cons (pe_fld (pe_fld (pv 0) rfl) rfl) pa_nil)) (pg_name (i := 2) sc_Image_settle.nd rfl (.inl rfl))
        (Evl.pss_cut (ps_set (i := 3) sc_Image_settle.nd rfl (.inl rfl) (pe_and (pe_cmpR op_ne (pe_meth (pv 0) T.cl_Image T.m_Image_kind (ok_Image_kind T) hr (b_Image_kind T) .nil pass0 (pa_cons (pv 2) pa_nil)) (pe_cv T.mg_Plan T.cr_Plan T.cv_Plan_FREE) (nomark _)) (pe_one (pe_cmpR (op_neD hr.units) (pe_ix ix_list (pe_fld (pv 0) rfl) (pv 2) (fun _ _ => rfl)) (pe_ix ix_list (pe_fld (pv 1) rfl) (pv 2) (fun _ _ => rfl)) (nomark _)))))
        (pss_one (ps_if (PW.pt (pw_or (pt_val (pv 3)) (pw_or1 (pt_cmpR op_eq (pe_ix ix_list (pe_fld (pv 0) rfl) (pv 2) (fun _ _ => rfl)) (pe_fld (pv 0) rfl) (nomark _)))))
          (pss_one (ps_asg (pe_fld (pv 0) rfl) (pg_sub (pe_fld (pv 0) rfl) (pv 2) set_list)))
          pss_nil))))), ?_⟩
    obtain ⟨dxp, hpl⟩ := I.pl.ob
    have b1 := I.pl.b1
    have b2 := I.pl.b2
    have d0 := I.d0
    have d00 := I0.d0
    have d2 := I.d2
    have d3 := I.d3
    refine ⟨_, rfl, im, _, _, _, _, rfl, I.ob, T.cl_Image, T.na_Image_plan, rfl, A.pl, _, dxp, _, _, rfl, hpl, T.cl_Plan, T.na_Plan_blocks, rfl, b, rfl, by omega, by omega, for_range (lo := 0) (n := b.toNat) (fun i σ H' => ∃ u2 u3 : Option V, σ = [some (.ref im), some (.ref im0), u2, u3] ∧ ImgAt T.C_Image T.C_Plan H' im A { v with st := setl b n v.M v0.M v.ho v.se v.st i } b n sl ∧ Kp [A.st] H H') ⟨_, _, rfl, I, Kp.refl⟩ ?_ ?_⟩
    · rintro i σ H' hi ⟨u2, u3, rfl, I', k'⟩
      have J0 : ImgAt T.C_Image T.C_Plan H' im0 A0 v0 b n sl := I0.keepF fun x o hx e => k'.at1 e fun z => hap (by rw [← z]; exact hx)
      have hiM : i < v.M.length := by omega
      have hiM0 : i < v0.M.length := by omega
      obtain ⟨r, r1, r2, _⟩ := I'.gr.get (List.getElem?_eq_getElem hiM)
      obtain ⟨r0, r01, r02, _⟩ := J0.gr.get (List.getElem?_eq_getElem hiM0)
      have hiH : i < v.ho.length := by omega
      have hiS : i < (setl b n v.M v0.M v.ho v.se v.st i).length := by rw [setl_len]; omega
      have ez : (0 : Int) + (i : Int) = (i : Int) := by omega
      refine ⟨fun σ H2 => Same H' H2 ∧ ∃ c : Bool, σ = [some (.ref im), some (.ref im0), some (.int (i : Int)), some (.bl c)] ∧ (c = true ↔ kindOf b n v.M i ≠ 0 ∧ v.M[i]? ≠ v0.M[i]?), ?_, ?_⟩
      · refine ⟨_, rfl, im, _, _, rfl, I'.ob, rfl, _, rfl, im, A, _, b, n, sl, _, rfl, I', by omega, by omega, fun H2 S2 => ?_⟩
        have I2 := I'.keep S2
        have J2 := J0.keep S2
        rw [ez]
        refine ⟨rfl, _, rfl, ?_⟩
        rw [dec_iv]
        by_cases hk : kindOf b n v.M i = 0
        · rw [decide_eq_true hk]
          refine iteF ⟨S2, _, rfl, ?_⟩
          constructor
          · intro z; cases z
          · intro z; exact absurd hk z.1
        · rw [decide_eq_false hk]
          refine iteT ⟨_, rfl, im, _, _, _, _, rfl, I2.ob, T.cl_Image, T.na_Image_cells, rfl, _, rfl, A.ca, _, _, .ref r, rfl, rfl, .of I2.gr.out, atI_nat (by rw [List.getElem?_map, r1]; rfl), ?_⟩
          refine ⟨_, rfl, im0, _, _, _, _, rfl, J2.ob, T.cl_Image, T.na_Image_cells, rfl, _, rfl, A0.ca, _, _, .ref r0, rfl, rfl, .of J2.gr.out, atI_nat (by rw [List.getElem?_map, r01]; rfl), dI _, dI _, dpI (S2 _ _ r2), dpI (S2 _ _ r02), shI _, shI _, S2, _, rfl, ?_⟩
          rw [eqvI, List.getElem?_eq_getElem hiM, List.getElem?_eq_getElem hiM0]
          simp [hk]
      · rintro σ H2 ⟨S2, c, rfl, hc⟩
        have I2 := I'.keep S2
        have kk := k'.same S2
        have yes : Chg b n v.M v0.M v.ho v.se i → ∃ u2 u3 : Option V, [some (V.ref im), some (V.ref im0), some (V.int (i : Int)), some (V.bl c)] = [some (.ref im), some (.ref im0), u2, u3] ∧ ImgAt T.C_Image T.C_Plan (upd H2 A.st (.lst (((setl b n v.M v0.M v.ho v.se v.st i).map V.int).set i (V.int v.se)))) im A { v with st := setl b n v.M v0.M v.ho v.se v.st (i + 1) } b n sl ∧ Kp [A.st] H (upd H2 A.st (.lst (((setl b n v.M v0.M v.ho v.se v.st i).map V.int).set i (V.int v.se)))) := fun q => by
          refine ⟨_, _, rfl, ?_, kk.own1⟩
          rw [setl_succ, if_pos q]
          exact I2.putSt
        have no : ¬ Chg b n v.M v0.M v.ho v.se i → ∃ u2 u3 : Option V, [some (V.ref im), some (V.ref im0), some (V.int (i : Int)), some (V.bl c)] = [some (.ref im), some (.ref im0), u2, u3] ∧ ImgAt T.C_Image T.C_Plan H2 im A { v with st := setl b n v.M v0.M v.ho v.se v.st (i + 1) } b n sl ∧ Kp [A.st] H H2 := fun q => by
          refine ⟨_, _, rfl, ?_, kk⟩
          rw [setl_succ, if_neg q]
          exact I2
        have ixS : ixN ((setl b n v.M v0.M v.ho v.se v.st i).map V.int).length (i : Int) = some i := ixN_nat rfl (by rw [List.length_map]; exact hiS)
        refine ⟨_, rfl, _, rfl, ?_⟩
        cases c with
        | true =>
          refine iteT ⟨_, rfl, im, _, _, _, _, rfl, I2.ob, T.cl_Image, T.na_Image_serial, rfl, _, rfl, im, _, _, _, _, rfl, I2.ob, T.cl_Image, T.na_Image_stamps, rfl, _, rfl, A.st, _, _, i, rfl, rfl, I2.st, ixS, ?_⟩
          exact yes (.inl (hc.mp rfl))
        | false =>
          refine iteF ⟨_, rfl, im, _, _, _, _, rfl, I2.ob, T.cl_Image, T.na_Image_holdings, rfl, _, rfl, A.ho, _, _, _, rfl, rfl, .of I2.ho, atI_nat (by rw [List.getElem?_map, List.getElem?_eq_getElem hiH]; rfl), ?_⟩
          refine ⟨_, rfl, im, _, _, _, _, rfl, I2.ob, T.cl_Image, T.na_Image_serial, rfl, rfl, _, rfl, ?_⟩
          rw [dec_iv]
          by_cases hs : v.ho[i] = v.se
          · rw [decide_eq_true hs]
            refine iteT ⟨_, rfl, im, _, _, _, _, rfl, I2.ob, T.cl_Image, T.na_Image_serial, rfl, _, rfl, im, _, _, _, _, rfl, I2.ob, T.cl_Image, T.na_Image_stamps, rfl, _, rfl, A.st, _, _, i, rfl, rfl, I2.st, ixS, ?_⟩
            exact yes (.inr (by rw [List.getElem?_eq_getElem hiH, hs]))
          · rw [decide_eq_false hs]
            refine iteF (no ?_)
            rintro (q | q)
            · have := hc.mpr q
              cases this
            · rw [List.getElem?_eq_getElem hiH] at q
              exact hs (Option.some.inj q)
    · rintro σ H' ⟨u2, u3, rfl, I', k'⟩
      exact k H' I' k'
end
end K88
namespace K88
open PySem PySem.Spec PyProof.Rows L2 Rg
/-! ### _put_block, give, take -/
def putB (v : IV) (x : Nat) (kind serial : Int) : IV := { v with M := (setC v.M (2 + x / 8) (x % 8) kind).set x (List.replicate 8 0), ho := v.ho.set x serial, st := v.st.set x serial }
def giveV (v : IV) (x o : Nat) : IV := { putB v x 0 0 with M := setC (putB v x 0 0).M 0 o (cellAt v.M 0 o - 1) }
def takeV (v : IV) (x : Nat) (kind : Int) (o : Nat) : IV := { putB v x kind v.se with M := setC (putB v x kind v.se).M 0 o (cellAt v.M 0 o + 1) }
def quota (v : IV) (o : Nat) : Prop := cellAt v.M 0 (4 + o) ≠ 0 ∧ cellAt v.M 0 (4 + o) ≤ cellAt v.M 0 o
instance {v : IV} {o : Nat} : Decidable (quota v o) := by unfold quota; infer_instance
def letL (b n : Int) (M : List (List Int)) (kind : Int) (ba : List Int) : List Int := if kind = 2 then (freeL b n M).filter fun x => decide (x ∉ ba) else freeL b n M
def pickL (l : List Int) (wi : Int) : Option Int := (l.filter fun x => decide (wi ≤ x)).head?.or l.head?
theorem setC_row {M : List (List Int)} {i j k : Nat} {x : Int} (h : i ≠ k) : (setC M i j x)[k]? = M[k]? := by
  unfold setC
  rw [List.getElem?_set_ne h]
theorem inV_int (x : Int) (l : List Int) : inV (.int x) (l.map V.int) = decide (x ∈ l) := by
  induction l with
  | nil => simp [inV]
  | cons y l ih =>
    have : inV (.int x) ((y :: l).map V.int) = (eqV (.int y) (.int x) || inV (.int x) (l.map V.int)) := rfl
    rw [this, ih]
    simp only [eqV]
    by_cases e : y = x
    · subst e; simp
    · have e' : x ≠ y := fun z => e z.symm
      simp [e, e']
theorem flat_ints (l : List Int) : (l.map V.int).all flatV = true := by
  rw [List.all_eq_true]
  intro y hy
  obtain ⟨i, _, rfl⟩ := List.mem_map.mp hy
  rfl
theorem foot_mem {A : IA} {im x : Addr} (h : x ∈ A.ca :: A.ho :: A.st :: A.rs) : x ∈ A.reads im := by
  simp only [IA.reads, List.mem_cons] at h ⊢
  rcases h with h | h | h | h <;> simp [h]
section
variable {P : Program} {w : World} {K : PySem.W.Frag} {mg : Str → Option Value} {base : Heap}
def sp_put_block (CI CP : Addr) : Sp := fun vs H Q _ => ∃ (im : Addr) (A : IA) (v : IV) (b n s : Int) (x : Nat) (kind serial : Int), vs = [.ref im, .int x, .int kind, .int serial] ∧ ImgAt CI CP H im A v b n s ∧ fdOf b n ≤ x ∧ (x : Int) < b ∧
  ∀ H' q, H q = none → ImgAt CI CP H' im { A with rs := A.rs.set x q } (putB v x kind serial) b n s → Kp (A.ca :: A.ho :: A.st :: A.rs) H H' → Q .non H'
theorem ok_put_block (T : Tx K mg) : FnOk P w K mg base CX0 2 T.f_Image__put_block T.fd_Image__put_block ["self", "x", "kind", "serial"] (sp_put_block T.C_Image T.C_Plan) := by
  refine T.F_Image__put_block.ok sc_Image__put_block (fun vs H Q E h => ?_) (fun cdv A0 outer s H vs Q E hr h => ?_)
  · obtain ⟨_, _, _, _, _, _, _, _, _, rfl, _⟩ := h; rfl
  · obtain ⟨im, A, v, b, n, sl, x, kind, serial, rfl, I, hx0, hxb, k⟩ := h
    refine ⟨_, (pss_cons (ps_asg (pe_meth (pe_fld (pv 0) rfl) T.cl_Plan T.m_Plan_map_place (ok_Plan_map_place T) hr (b_Plan_map_place T) .nil pass0 (pa_cons (pv 1) pa_nil)) (pg_tup rfl (pgs_cons (pg_name (i := 4) sc_Image__put_block.nd rfl (.inl rfl)) (pgs_cons (pg_name (i := 5) sc_Image__put_block.nd rfl (.inl rfl)) pgs_nil))))
      (pss_cons (ps_asg (pv 2) (pg_sub (pe_ix ix_list (pe_fld (pv 0) rfl) (pv 4) (fun _ _ => rfl)) (pv 5) set_list))
      (pss_cons (ps_asg (pe_op op_rep (pe_lst (pa_cons pe_int pa_nil)) (pe_cv T.mg_Plan T.cr_Plan T.cv_Plan_WIDTH)) (pg_sub (pe_fld (pv 0) rfl) (pv 1) set_list))
      (pss_cons (ps_asg (pv 3) (pg_sub (pe_fld (pv 0) rfl) (pv 1) set_list))
      (pss_one (ps_asg (pv 3) (pg_sub (pe_fld (pv 0) rfl) (pv 1) set_list))))))), ?_⟩
    obtain ⟨dxp, hpl⟩ := I.pl.ob
    have b1 := I.pl.b1
    have n1 := I.pl.n1
    have d0 := I.d0
    have d2 := I.d2
    have d3 := I.d3
    have hx0' : 2 + (b + 8 - 1) / 8 + n ≤ x := hx0
    have hi : 2 + x / 8 < v.M.length := by omega
    have hx : x < v.M.length := by omega
    refine ⟨_, rfl, im, _, _, _, _, rfl, I.ob, T.cl_Image, T.na_Image_plan, rfl, A.pl, dxp, _, rfl, hpl, rfl, _, rfl, A.pl, b, n, sl, x, rfl, I.pl, fun t ht => ?_⟩
    have st := same_upd (o := .tup [.int (2 + (x : Int) / 8), .int ((x : Int) % 8)]) ht
    have I1 := I.keep st
    have k1 : Kp (A.ca :: A.ho :: A.st :: A.rs) H (upd H t (.tup [.int (2 + (x : Int) / 8), .int ((x : Int) % 8)])) := .of st
    have n1' : ∀ y, upd H t (.tup [.int (2 + (x : Int) / 8), .int ((x : Int) % 8)]) y = none → H y = none := fun y e => un e
    refine ⟨t, _, rfl, .inl (.inl upd_same), rfl, _, _, rfl, _, _, rfl, rfl, ?_⟩
    generalize upd H t (.tup [.int (2 + (x : Int) / 8), .int ((x : Int) % 8)]) = H1 at I1 k1 n1' ⊢
    obtain ⟨r, r1, r2, _⟩ := I1.gr.get (List.getElem?_eq_getElem hi)
    have h8 := I1.d1 _ (List.getElem_mem hi)
    refine ⟨_, rfl, _, rfl, im, _, _, _, _, rfl, I1.ob, T.cl_Image, T.na_Image_cells, rfl, _, rfl, A.ca, _, _, .ref r, rfl, rfl, .of I1.gr.out, at_of (j := 2 + x / 8) (by omega) (by rw [List.getElem?_map, r1]; rfl), _, rfl, r, _, _, x % 8, rfl, rfl, r2, ixN_nat (by omega) (by rw [List.length_map]; omega), ?_⟩
    have I2 := I1.setC (j := x % 8) (x := kind) r1 (List.getElem?_eq_getElem hi)
    have k2 : Kp (A.ca :: A.ho :: A.st :: A.rs) H (upd H1 r (.lst ((v.M[2 + x / 8].map V.int).set (x % 8) (V.int kind)))) := k1.own (by simp [List.mem_of_getElem? r1])
    have n2' : ∀ y, upd H1 r (.lst ((v.M[2 + x / 8].map V.int).set (x % 8) (V.int kind))) y = none → H y = none := fun y e => n1' _ (un e)
    generalize upd H1 r (.lst ((v.M[2 + x / 8].map V.int).set (x % 8) (V.int kind))) = H2 at I2 k2 n2' ⊢
    -- self.cells[x] = ..
    refine ⟨by show 1 ≤ sizeLine; decide, fun l hl => ?_⟩
    refine ⟨l, 8, _, rfl, rfl, upd_same, by decide, by decide, by show 1 * 8 ≤ sizeLine; decide, fun q hq => ?_⟩
    have hq0 : H2 q = none := un hq
    have sm : Same H2 (upd (upd H2 l (.lst [V.int 0])) q (.lst (List.replicate (8 : Int).toNat [V.int 0]).flatten)) := (same_upd hl).trans (same_upd hq)
    have eq3 : upd (upd H2 l (.lst [V.int 0])) q (.lst (List.replicate (8 : Int).toNat [V.int 0]).flatten) q = some (.lst ((List.replicate 8 (0 : Int)).map V.int)) := by rw [upd_same]; rfl
    have I3 := I2.swap (i := x) sm hq0 eq3 (by simp)
    have k3 : Kp (A.ca :: A.ho :: A.st :: A.rs) H (upd (upd (upd H2 l (.lst [V.int 0])) q (.lst (List.replicate (8 : Int).toNat [V.int 0]).flatten)) A.ca (.lst ((A.rs.map V.ref).set x (V.ref q)))) := (k2.same sm).own (by simp)
    have o3 := sm _ _ I2.gr.out
    have ob3 := sm _ _ I2.ob
    refine ⟨_, rfl, im, _, _, _, _, rfl, ob3, T.cl_Image, T.na_Image_cells, rfl, _, rfl, A.ca, _, _, x, rfl, rfl, o3, ixN_nat rfl (by rw [List.length_map, I.gr.len]; exact hx), ?_⟩
    change ImgAt T.C_Image T.C_Plan (upd (upd (upd H2 l (.lst [V.int 0])) q (.lst (List.replicate (8 : Int).toNat [V.int 0]).flatten)) A.ca (.lst ((A.rs.map V.ref).set x (V.ref q)))) _ _ _ _ _ _ at I3
    have hqH : H q = none := n2' _ hq0
    generalize upd (upd (upd H2 l (.lst [V.int 0])) q (.lst (List.replicate (8 : Int).toNat [V.int 0]).flatten)) A.ca (.lst ((A.rs.map V.ref).set x (V.ref q))) = H3 at I3 k3 ⊢
    refine ⟨_, rfl, _, rfl, im, _, _, _, _, rfl, I3.ob, T.cl_Image, T.na_Image_holdings, rfl, _, rfl, A.ho, _, _, x, rfl, rfl, I3.ho, ixN_nat rfl (by rw [List.length_map]; show x < v.ho.length; omega), ?_⟩
    have I4 := I3.putHo (i := x) (x := serial)
    have k4 := k3.own (a := A.ho) (o := .lst ((v.ho.map V.int).set x (V.int serial))) (by simp)
    dsimp only at I4 ⊢
    generalize upd H3 A.ho (.lst ((v.ho.map V.int).set x (V.int serial))) = H4 at I4 k4 ⊢
    refine ⟨_, rfl, _, rfl, im, _, _, _, _, rfl, I4.ob, T.cl_Image, T.na_Image_stamps, rfl, _, rfl, A.st, _, _, x, rfl, rfl, I4.st, ixN_nat rfl (by rw [List.length_map]; show x < v.st.length; omega), ?_⟩
    exact k _ q hqH (I4.putSt (i := x) (x := serial)) (k4.own (by simp))
end
end K88
namespace K88
open PySem PySem.Spec PyProof.Rows L2 Rg
section
variable {P : Program} {w : World} {K : PySem.W.Frag} {mg : Str → Option Value} {base : Heap}
/-- the row of the sums behind a put -/
theorem putB_row0 {v : IV} {x : Nat} {kind serial : Int} (hx : x ≠ 0) : (putB v x kind serial).M[0]? = v.M[0]? := by
  show ((setC v.M (2 + x / 8) (x % 8) kind).set x (List.replicate 8 0))[0]? = v.M[0]?
  rw [List.getElem?_set_ne hx, setC_row (by omega)]
theorem ImgAt.row0 {CI CP : Addr} {H : Hp} {im : Addr} {A : IA} {v : IV} {b n s : Int} (I : ImgAt CI CP H im A v b n s) : ∃ r m, A.rs[0]? = some r ∧ v.M[0]? = some m ∧ m.length = 8 ∧ H r = some (.lst (m.map V.int)) := by
  have d0 := I.d0
  have b1 := I.pl.b1
  have hl : 0 < v.M.length := by omega
  obtain ⟨r, r1, r2, _⟩ := I.gr.get (List.getElem?_eq_getElem hl)
  exact ⟨r, _, r1, List.getElem?_eq_getElem hl, I.d1 _ (List.getElem_mem hl), r2⟩
def sp_give (CI CP : Addr) : Sp := fun vs H Q _ => ∃ (im : Addr) (A : IA) (v : IV) (b n s : Int) (x o : Nat), vs = [.ref im, .int x, .int o] ∧ ImgAt CI CP H im A v b n s ∧ fdOf b n ≤ x ∧ (x : Int) < b ∧ o < 4 ∧
  ∀ H' q, H q = none → ImgAt CI CP H' im { A with rs := A.rs.set x q } (giveV v x o) b n s → Kp (A.ca :: A.ho :: A.st :: A.rs) H H' → Q .non H'
theorem ok_give (T : Tx K mg) : FnOk P w K mg base CX0 3 T.f_Image_give T.fd_Image_give ["self", "x", "owner"] (sp_give T.C_Image T.C_Plan) := by
  refine T.F_Image_give.ok sc_Image_give (fun vs H Q E h => ?_) (fun cdv A0 outer s H vs Q E hr h => ?_)
  · obtain ⟨_, _, _, _, _, _, _, _, rfl, _⟩ := h; rfl
  · obtain ⟨im, A, v, b, n, sl, x, o, rfl, I, hx0, hxb, ho, k⟩ := h
    refine ⟨_, (pss_cons (ps_expr (pe_meth (pv 0) T.cl_Image T.m_Image__put_block (ok_put_block T) hr (b_Image__put_block T) .nil pass0 (pa_cons (pv 1) (pa_cons (pe_cv T.mg_Plan T.cr_Plan T.cv_Plan_FREE) (pa_cons pe_int pa_nil)))))
      (pss_one (ps_augS (pe_ix ix_list (pe_fld (pv 0) rfl) (pe_gc T.c_SUMS_BLOCK) (fun _ _ => rfl)) (pv 2) get_list pe_int ip_sub set_list))), ?_⟩
    have b1 := I.pl.b1
    have n1 := I.pl.n1
    have hx0' : 2 + (b + 8 - 1) / 8 + n ≤ x := hx0
    refine ⟨_, rfl, im, _, _, rfl, I.ob, rfl, _, rfl, im, A, v, b, n, sl, x, 0, 0, rfl, I, hx0, hxb, fun H1 q hq I1 k1 => ?_⟩
    obtain ⟨r, m, r1, r2, r3, r4⟩ := I1.row0
    have r2' := r2
    rw [putB_row0 (by omega)] at r2'
    have rA : A.rs[0]? = some r := by
      have : (A.rs.set x q)[0]? = some r := r1
      rw [List.getElem?_set_ne (by omega)] at this
      exact this
    have hol : o < m.length := by omega
    have e0 : cellAt v.M 0 o = m[o] := cellAt_of r2' (List.getElem?_eq_getElem hol)
    refine ⟨_, rfl, im, _, _, _, _, rfl, I1.ob, T.cl_Image, T.na_Image_cells, rfl, A.ca, _, _, .ref r, rfl, rfl, .of I1.gr.out, at_of (j := 0) rfl (by rw [List.getElem?_map, r1]; rfl), _, rfl, r, _, o, _, rfl, rfl, .of r4, by rw [List.getElem?_map, List.getElem?_eq_getElem hol]; rfl, _, _, rfl, rfl, r, _, _, o, rfl, rfl, r4, ixN_nat rfl (by rw [List.length_map]; exact hol), ?_⟩
    have I2 := I1.setC (j := o) (x := m[o] - 1) r1 r2
    refine k _ q hq ?_ (k1.own (by simp [List.mem_of_getElem? rA]))
    unfold giveV
    rw [e0]
    exact I2
def sp_take (CI CP CO CB : Addr) : Sp := fun vs H Q E => ∃ (im : Addr) (A : IA) (v : IV) (b n s kind : Int) (o : Nat), vs = [.ref im, .int kind, .int o] ∧ ImgAt CI CP H im A v b n s ∧ o < 4 ∧ (cellAt v.M 0 o).natAbs.log2 < 1920 ∧
  (quota v o → ∀ H', Same H H' → E (.ref CO) none H') ∧
  (¬ quota v o → letL b n v.M kind v.ba = [] → ∀ H', Same H H' → E (.ref CB) none H') ∧
  (¬ quota v o → ∀ x : Nat, pickL (letL b n v.M kind v.ba) v.wi = some (x : Int) → ∀ H' q, H q = none → ImgAt CI CP H' im { A with rs := A.rs.set x q } (takeV v x kind o) b n s → Kp (A.ca :: A.ho :: A.st :: A.rs) H H' → Q (.int x) H')
theorem freeL_mem {b n x : Int} {M : List (List Int)} (h : x ∈ freeL b n M) : fdOf b n ≤ x ∧ x < fdOf b n + (b - fdOf b n).toNat ∧ kindOf b n M x = 0 := by
  unfold freeL at h
  have h1 := List.mem_filter.mp h
  have h2 := rng_mem h1.1
  exact ⟨h2.1, h2.2, of_decide_eq_true h1.2⟩
theorem letL_mem {b n x kind : Int} {M : List (List Int)} {ba : List Int} (h : x ∈ letL b n M kind ba) : x ∈ freeL b n M := by
  unfold letL at h
  split at h
  · exact (List.mem_filter.mp h).1
  · exact h
theorem pickL_mem {l : List Int} {wi x : Int} (h : pickL l wi = some x) : x ∈ l := by
  unfold pickL at h
  cases e : (l.filter fun x => decide (wi ≤ x)).head? with
  | none =>
    rw [e] at h
    exact List.mem_of_head? h
  | some y =>
    rw [e] at h
    cases h
    exact (List.mem_filter.mp (List.mem_of_head? e)).1
theorem freeL_len {b n : Int} {M : List (List Int)} : (freeL b n M).length ≤ (b - fdOf b n).toNat := by
  unfold freeL
  refine filt_len ?_
  rw [rng_len]
  exact Nat.le_refl _
/-- [x for x in l if ..], l a list that stands at a -/
theorem fstr_len {a c : Int} (ha : a.natAbs.log2 < 1920) (hc : c.natAbs.log2 < 1920) : (((((Str.empty ++ ("owner " : Str)) ++ (toString a : Str)) ++ (" uses " : Str)) ++ (toString c : Str)) ++ (" blocks" : Str)).length ≤ sizeLine := by
  have e1 := PySem.int_text_length_le (k := 1920) (by decide) ha
  have e2 := PySem.int_text_length_le (k := 1920) (by decide) hc
  have l1 : (("owner " : Str)).length = 6 := by decide
  have l2 : ((" uses " : Str)).length = 6 := by decide
  have l3 : ((" blocks" : Str)).length = 7 := by decide
  have l0 : (Str.empty).length = 0 := by decide
  rw [strLen_append, strLen_append, strLen_append, strLen_append, strLen_append, l0, l1, l2, l3, sizeLine_eq]
  have f1 : ((toString a : Str)).length = (toString a).length := PySem.ofString_length _
  have f2 : ((toString c : Str)).length = (toString c).length := PySem.ofString_length _
  rw [f1, f2]
  omega
end
end K88
namespace K88
open PySem PySem.Spec PyProof.Rows L2 Rg
/-- a comprehension that keeps some of l, i looked at -/
def PvF (H0 : Hp) (D : Addr) (l : List Int) (p : Int → Bool) (i : Nat) (H' : Hp) : Prop := Same H0 H' ∧ H' D = some (.lst (((l.take i).filter p).map V.int))
theorem PvF.start {H0 : Hp} {D : Addr} {l : List Int} {p : Int → Bool} (h : H0 D = none) : PvF H0 D l p 0 (upd H0 D (.lst [])) := ⟨same_upd h, upd_same⟩
theorem PvF.yes {H0 H' H2 : Hp} {D : Addr} {l : List Int} {p : Int → Bool} {i : Nat} {x : Int} (h : PvF H0 D l p i H') (hD : H0 D = none) (S : Same H' H2) (hx : l[i]? = some x) (hl : l.length < 1000) (hp : p x = true) :
    ∃ acc, H2 D = some (.lst acc) ∧ acc.length < sizeLine ∧ PvF H0 D l p (i + 1) (upd H2 D (.lst (acc ++ [V.int x]))) := by
  refine ⟨_, S _ _ h.2, ?_, fun a o z => ?_, ?_⟩
  · rw [List.length_map]
    have := filt_len (p := p) (List.length_take_le i l)
    have hi := (List.getElem?_eq_some_iff.mp hx).1
    exact small1000 (by omega)
  · rw [upd_ne (ne_of_none z hD)]
    exact S _ _ (h.1 _ _ z)
  · rw [upd_same, take_get hx, List.filter_append, List.map_append, List.filter_cons, if_pos hp]
    rfl
theorem PvF.no {H0 H' H2 : Hp} {D : Addr} {l : List Int} {p : Int → Bool} {i : Nat} {x : Int} (h : PvF H0 D l p i H') (S : Same H' H2) (hx : l[i]? = some x) (hp : p x = false) : PvF H0 D l p (i + 1) H2 := by
  refine ⟨h.1.trans S, ?_⟩
  rw [take_get hx, List.filter_append, List.filter_cons, if_neg (by rw [hp]; decide), List.filter_nil, List.append_nil]
  exact S _ _ h.2
theorem PvF.all {H0 H' : Hp} {D : Addr} {l : List Int} {p : Int → Bool} {n : Nat} (h : PvF H0 D l p n H') (e : n = l.length) : Same H0 H' ∧ H' D = some (.lst ((l.filter p).map V.int)) := by
  subst e
  have := h.2
  rw [List.take_length] at this
  exact ⟨h.1, this⟩
theorem op_notInK {X : Cx} {K : PySem.W.Frag} (hK : X.K = K := by rfl) : OpR X (compareOp .NotIn) (rIn K true) := by
  subst hK
  exact op_notIn_seq
theorem cell0 {v : IV} {m : List Int} {j : Nat} (h : v.M[0]? = some m) (hj : j < m.length) : cellAt v.M 0 j = m[j] := cellAt_of h (List.getElem?_eq_getElem hj)
section
variable {P : Program} {w : World} {K : PySem.W.Frag} {mg : Str → Option Value} {base : Heap}
theorem ok_take (T : Tx K mg) : FnOk P w K mg base (L2.CX P w) 4 T.f_Image_take T.fd_Image_take ["self", "kind", "owner"] (sp_take T.C_Image T.C_Plan T.C_OverQuota T.C_BlocksFull) := by
  refine T.F_Image_take.okX sc_Image_take (fun vs H Q E h => ?_) (fun cdv A0 outer s H vs Q E hr h => ?_)
  · obtain ⟨_, _, _, _, _, _, _, _, rfl, _⟩ := h; rfl
  · obtain ⟨im, A, v, b, n, sl, kind, o, rfl, I, ho, hlg, kQ, kB, k⟩ := h
    have hr2 : Room 2 _ := hr.mono (by decide)
    refine ⟨_, (pss_cons (ps_set (i := 3) sc_Image_take.nd rfl (.inl rfl) (pe_ix ix_list (pe_fld (pv 0) rfl) (pe_gc T.c_SUMS_BLOCK) (fun _ _ => rfl)))
      (pss_cons (ps_set (i := 4) sc_Image_take.nd rfl (.inl rfl) (pe_ix ix_list (pv 3) (pe_op op_add (pe_cv T.mg_Plan T.cr_Plan T.cv_Plan_OWNERS) (pv 2)) (fun _ _ => rfl)))
      (Evl.pss_cut (ps_if (PW.pt (pw_and (pt_cmpR op_ne (pv 4) pe_int (nomark _)) (pw_and1 (pt_cmpR op_ge (pe_ix ix_list (pv 3) (pv 2) (fun _ _ => rfl)) (pv 4) (nomark _)))))
        (pss_one (ps_raise rfl (takes_of rfl rfl rfl rfl) (SkE.pmk_own1 PySem.F.excBase_ValueError T.xe_OverQuota T.mg_OverQuota T.ke_OverQuota (raises_own T.be_OverQuota T.te_OverQuota) rfl (pe_joined (.cons pe_str (.cons (pe_fmt (pv 2)) (.cons pe_str (.cons (pe_fmt (pe_ix ix_list (pv 3) (pv 2) (fun _ _ => rfl))) (.cons pe_str .nil)))))))))
        pss_nil)
      (pss_cons (ps_set (i := 5) sc_Image_take.nd rfl (.inl rfl) (pe_meth0 (pv 0) T.cl_Image T.m_Image_free_blocks (ok_free_blocks T) hr (b_Image_free_blocks T) .nil pass0))
      (Evl.pss_cut (ps_if (pt_cmpR op_eq (pv 1) (pe_cv T.mg_Plan T.cr_Plan T.cv_Plan_PLAIN) (nomark _))
        (pss_one (ps_setLc (i := 5) (own := [("x", 6)]) (g := gName 6) (tt := _) rfl sc_Image_take.nd rfl rfl (sw_true rfl rfl rfl (by decide +kernel)) (pi_list (pv 5)) (blkOk_by (N := ["self", "kind", "owner", "sums", "limit", "free", "x", "wished"]) (sc := defScope s_Image_take) (by decide +kernel)) (fun _ _ _ _ _ => pg_name (i := 6) sc_Image_take.nd rfl (Or.inl rfl)) (fun _ _ _ _ _ => pts_one (pt_cmpR (op_notInK (K := K)) (pv 6) (pe_fldK (K := K) (pv 0) rfl) rfl)) (fun _ _ _ _ _ => (pv 6))))
        pss_nil)
      (pss_cons (ps_if (pt_cmpR op_eq (pe_callB call_len_seq rfl T.b_len (by decide +kernel) (pa_cons (pv 5) pa_nil)) pe_int (nomark _))
        (pss_one (ps_raise rfl (takes_of rfl rfl rfl rfl) (pmk_own PySem.F.excBase_ValueError T.xe_BlocksFull T.mg_BlocksFull T.ke_BlocksFull (raises_own T.be_BlocksFull T.te_BlocksFull) rfl)))
        pss_nil)
      (PSs.nox (pss_cons (ps_setLc (i := 7) (own := [("x", 6)]) (g := gName 6) (tt := _) rfl sc_Image_take.nd rfl rfl (sw_true rfl rfl rfl (by decide +kernel)) (pi_list (pv 5)) (blkOk_by (N := ["self", "kind", "owner", "sums", "limit", "free", "x", "wished"]) (sc := defScope s_Image_take) (by decide +kernel)) (fun _ _ _ _ _ => pg_name (i := 6) sc_Image_take.nd rfl (Or.inl rfl)) (fun _ _ _ _ _ => pts_one (pt_cmpR op_ge (pv 6) (pe_fldK (K := K) (pv 0) rfl) (nomark _))) (fun _ _ _ _ _ => (pv 6)))
      (Evl.pss_cut (ps_set (i := 6) sc_Image_take.nd rfl (.inl rfl) (pe_ifExp (pt_truth (pv 7) (fun _ => rfl)) (pe_ix ix_list (pv 7) pe_int (fun _ _ => rfl)) (pe_ix ix_list (pv 5) pe_int (fun _ _ => rfl))))
      (pss_cons (ps_expr (pe_meth (pv 0) T.cl_Image T.m_Image__put_block (ok_put_block T) hr2 (b_Image__put_block T) .nil pass0 (pa_cons (pv 6) (pa_cons (pv 1) (pa_cons (pe_fld (pv 0) rfl) pa_nil)))))
      (pss_cons (ps_augS (pv 3) (pv 2) get_list pe_int ip_add set_list)
      (pss_one (ps_ret (pv 6)))))))))))))), ?_⟩
    obtain ⟨dxp, hpl⟩ := I.pl.ob
    have b1 := I.pl.b1
    have b2 := I.pl.b2
    have n1 := I.pl.n1
    obtain ⟨r, m, r1, r2, r3, r4⟩ := I.row0
    have h4o : 4 + o < m.length := by omega
    have hol : o < m.length := by omega
    have el := cell0 r2 h4o
    have eo := cell0 r2 hol
    refine ⟨_, rfl, im, _, _, _, _, rfl, I.ob, T.cl_Image, T.na_Image_cells, rfl, A.ca, _, _, .ref r, rfl, rfl, .of I.gr.out, at_of (j := 0) rfl (by rw [List.getElem?_map, r1]; rfl), ?_⟩
    refine ⟨_, rfl, _, rfl, _, _, rfl, rfl, r, _, _, _, rfl, rfl, .of r4, at_of (j := 4 + o) (by omega) (by rw [List.getElem?_map, List.getElem?_eq_getElem h4o]; rfl), ?_⟩
    have hlen : (letL b n v.M kind v.ba).length < 1000 := by
      have h1 := freeL_len (b := b) (n := n) (M := v.M)
      have h2 : (letL b n v.M kind v.ba).length ≤ (freeL b n v.M).length := by
        unfold letL
        split
        · exact List.length_filter_le _ _
        · exact Nat.le_refl _
      have h3 : 0 ≤ fdOf b n := by unfold fdOf; omega
      omega
    have hlenF : (freeL b n v.M).length < 1000 := by
      have h1 := freeL_len (b := b) (n := n) (M := v.M)
      have h3 : 0 ≤ fdOf b n := by unfold fdOf; omega
      omega
    refine ⟨fun σ H' => σ = [some (.ref im), some (.int kind), some (.int o), some (.ref r), some (.int m[4 + o]), none, none, none] ∧ H' = H ∧ ¬ quota v o, ?_, ?_⟩
    · refine ⟨_, rfl, rfl, _, rfl, ?_⟩
      rw [dec_iv]
      by_cases e1 : m[4 + o] = 0
      · rw [decide_eq_true e1]
        exact iteF ⟨rfl, rfl, fun z => z.1 (by rw [el]; exact e1)⟩
      · rw [decide_eq_false e1]
        refine iteT ⟨_, rfl, _, rfl, r, _, _, _, rfl, rfl, .of r4, atI_nat (by rw [List.getElem?_map, List.getElem?_eq_getElem hol]; rfl), _, rfl, _, _, rfl, rfl, _, rfl, ?_⟩
        by_cases e2 : m[o] ≥ m[4 + o]
        · rw [decide_eq_true e2]
          have la : (o : Int).natAbs.log2 < 1920 := by
            have : o = 0 ∨ o = 1 ∨ o = 2 ∨ o = 3 := by omega
            rcases this with rfl | rfl | rfl | rfl <;> decide
          have lc : m[o].natAbs.log2 < 1920 := by rw [← eo]; exact hlg
          have f5 := fstr_len la lc
          have mono : ∀ (x y : Str), (x ++ y).length ≤ sizeLine → x.length ≤ sizeLine := fun x y h => by rw [strLen_append] at h; omega
          have f4 := mono _ _ f5
          have f3 := mono _ _ f4
          have f2 := mono _ _ f3
          have f1 := mono _ _ f2
          refine iteT ⟨_, rfl, f1, _, rfl, .inr ⟨_, rfl, la, _, rfl, f2, _, rfl, f3, _, rfl, _, rfl, r, _, _, _, rfl, rfl, .of r4, atI_nat (by rw [List.getElem?_map, List.getElem?_eq_getElem hol]; rfl), .inr ⟨_, rfl, lc, _, rfl, f4, _, rfl, f5, ?_⟩⟩⟩
          exact kQ ⟨by rw [el]; exact e1, by rw [el, eo]; exact e2⟩ H (Same.refl _)
        · rw [decide_eq_false e2]
          exact iteF ⟨rfl, rfl, fun z => e2 (by have := z.2; rw [el, eo] at this; exact this)⟩
    rintro σ H' ⟨rfl, rfl, nq⟩
    -- the free blocks
    refine ⟨_, rfl, im, _, _, rfl, I.ob, rfl, im, A, v, b, n, sl, rfl, I, fun H1 fa S1 nfa efa => ?_⟩
    refine ⟨fun σ H2 => ∃ fb, σ = [some (.ref im), some (.int kind), some (.int o), some (.ref r), some (.int m[4 + o]), some (.ref fb), none, none] ∧ Same H' H2 ∧ H2 fb = some (.lst ((letL b n v.M kind v.ba).map V.int)), ?_, ?_⟩
    · refine ⟨_, rfl, rfl, _, rfl, ?_⟩
      rw [dec_iv]
      by_cases hk : kind = 2
      · rw [decide_eq_true hk]
        refine iteT ⟨_, rfl, fa, rfl, ⟨_, .of efa⟩, fun D hD => ?_⟩
        refine lc_list (K := K) (a := fa) (xs := (freeL b n v.M).map V.int) (PvF H1 D (freeL b n v.M) (fun x => decide (x ∉ v.ba))) (PvF.start hD) (fun i H2 _ Pv => .of (Pv.1 _ _ efa)) ?_ ?_
        · rintro i y H2 hi Pv
          rw [List.getElem?_map] at hi
          obtain ⟨x, hx, rfl⟩ := Option.map_eq_some_iff.mp hi
          refine ⟨rfl, ?_⟩
          have I2 := I.keep (S1.trans Pv.1)
          refine ⟨_, rfl, _, rfl, im, _, _, _, _, rfl, I2.ob, T.cl_Image, T.na_Image_barred, rfl, A.ba, _, rfl, .inr (.of I2.ba), rfl, flat_ints _, _, rfl, ?_⟩
          rw [inV_int]
          by_cases hb : x ∈ v.ba
          · rw [decide_eq_true hb]
            exact iteF (Pv.no (Same.refl _) hx (by simp [hb]))
          · rw [decide_eq_false hb]
            exact iteT ⟨_, rfl, Pv.yes hD (Same.refl _) hx hlenF (by simp [hb])⟩
        · intro H2 Pv
          obtain ⟨S2, e2⟩ := Pv.all (by rw [List.length_map])
          refine ⟨D, rfl, S1.trans S2, ?_⟩
          unfold letL
          rw [if_pos hk]
          exact e2
      · rw [decide_eq_false hk]
        refine iteF ⟨fa, rfl, S1, ?_⟩
        unfold letL
        rw [if_neg hk]
        exact efa
    rintro σ H2 ⟨fb, rfl, S2, e2⟩
    refine ⟨_, rfl, fb, _, rfl, .inl (.of e2), rfl, _, rfl, ite2 (fun z => ?_) (fun z => ?_)⟩
    · have z' := V.int.inj (of_decide_eq_true z)
      rw [List.length_map] at z'
      exact kB nq (List.length_eq_zero_iff.mp (by omega)) _ S2
    · have hne : letL b n v.M kind v.ba ≠ [] := fun q => z (decide_eq_true (by rw [q]; rfl))
      have I2 := I.keep S2
      refine ⟨_, rfl, fb, rfl, ⟨_, .of e2⟩, fun D hD => ?_⟩
      refine lc_list (K := K) (a := fb) (xs := (letL b n v.M kind v.ba).map V.int) (PvF H2 D (letL b n v.M kind v.ba) (fun x => decide (v.wi ≤ x))) (PvF.start hD) (fun i H3 _ Pv => .of (Pv.1 _ _ e2)) ?_ ?_
      · rintro i y H3 hi Pv
        rw [List.getElem?_map] at hi
        obtain ⟨x, hx, rfl⟩ := Option.map_eq_some_iff.mp hi
        refine ⟨rfl, ?_⟩
        have I3 := I2.keep Pv.1
        refine ⟨_, rfl, _, rfl, im, _, _, _, _, rfl, I3.ob, T.cl_Image, T.na_Image_wish, rfl, _, _, rfl, rfl, _, rfl, ?_⟩
        by_cases hb : x ≥ v.wi
        · rw [decide_eq_true hb]
          exact iteT ⟨_, rfl, Pv.yes hD (Same.refl _) hx hlen (decide_eq_true hb)⟩
        · rw [decide_eq_false hb]
          exact iteF (Pv.no (Same.refl _) hx (decide_eq_false hb))
      · intro H3 Pv
        obtain ⟨S3, e3⟩ := Pv.all (by rw [List.length_map])
        have I3 := I2.keep S3
        have S03 := S2.trans S3
        have e2' := S3 _ _ e2
        refine ⟨fun σ H4 => ∃ x : Nat, σ = [some (.ref im), some (.int kind), some (.int o), some (.ref r), some (.int m[4 + o]), some (.ref fb), some (.int (x : Int)), some (.ref D)] ∧ H4 = H3 ∧ pickL (letL b n v.M kind v.ba) v.wi = some (x : Int), ?_, ?_⟩
        · have nat : ∀ y : Int, pickL (letL b n v.M kind v.ba) v.wi = some y → ∃ x : Nat, y = x := fun y h => by
            have h1 := freeL_mem (letL_mem (pickL_mem h))
            have h3 : 0 ≤ fdOf b n := by unfold fdOf; omega
            exact ⟨y.toNat, by omega⟩
          refine ⟨_, rfl, _, .inl ⟨_, .of e3, rfl⟩, ?_⟩
          cases q : (letL b n v.M kind v.ba).filter (fun x => decide (v.wi ≤ x)) with
          | nil =>
            cases q2 : letL b n v.M kind v.ba with
            | nil => exact absurd q2 hne
            | cons y rest =>
              have hp : pickL (letL b n v.M kind v.ba) v.wi = some y := by unfold pickL; rw [q, q2]; rfl
              obtain ⟨x, rfl⟩ := nat y hp
              rw [q2] at e2' hp
              exact iteF ⟨_, rfl, fb, _, 0, .int (x : Int), rfl, rfl, .of e2', atI_nat (j := 0) rfl, x, rfl, rfl, hp⟩
          | cons y rest =>
            have hp : pickL (letL b n v.M kind v.ba) v.wi = some y := by unfold pickL; rw [q]; rfl
            obtain ⟨x, rfl⟩ := nat y hp
            rw [q] at e3
            exact iteT ⟨_, rfl, D, _, 0, .int (x : Int), rfl, rfl, .of e3, atI_nat (j := 0) rfl, x, rfl, rfl, hp⟩
        rintro σ H4 ⟨x, rfl, rfl, hp⟩
        have hm := freeL_mem (letL_mem (pickL_mem hp))
        have hf : fdOf b n = 2 + (b + 8 - 1) / 8 + n := rfl
        have hxb : (x : Int) < b := by omega
        have hx2 : x ≠ 0 := by omega
        refine ⟨_, rfl, im, _, _, rfl, I3.ob, rfl, _, rfl, _, rfl, _, rfl, im, _, _, _, _, rfl, I3.ob, T.cl_Image, T.na_Image_serial, rfl, im, A, v, b, n, sl, x, kind, v.se, rfl, I3, hm.1, hxb, fun H5 q hq I5 k5 => ?_⟩
        obtain ⟨r', m', r1', r2', r3', r4'⟩ := I5.row0
        have rA : A.rs[0]? = some r' := by
          have : (A.rs.set x q)[0]? = some r' := r1'
          rw [List.getElem?_set_ne hx2] at this
          exact this
        obtain rfl : r = r' := Option.some.inj (r1.symm.trans rA)
        have r2'' := r2'
        rw [putB_row0 hx2, r2] at r2''
        obtain rfl : m = m' := Option.some.inj r2''
        refine ⟨_, rfl, _, rfl, r, _, o, _, rfl, rfl, .of r4', by rw [List.getElem?_map, List.getElem?_eq_getElem hol]; rfl, _, _, rfl, rfl, r, _, _, o, rfl, rfl, r4', ixN_nat rfl (by rw [List.length_map]; exact hol), ?_⟩
        have I6 := I5.setC (j := o) (x := m[o] + 1) r1' r2'
        refine ⟨_, rfl, k nq x hp _ q (S03.free hq) ?_ ((Kp.of S03).trans (k5.own (by simp [List.mem_of_getElem? rA])))⟩
        unfold takeV
        rw [eo]
        exact I6
end
end K88
namespace K88
open PySem PySem.Spec PyProof.Rows L2 Rg
/-! ### what a deed leaves of the stamps -/
theorem setl_none {M : List (List Int)} {ho st : List Int} {se1 : Int} (hs : ∀ y ∈ ho, y < se1) : ∀ i, setl 24 5 M M ho se1 st i = st
  | 0 => rfl
  | i + 1 => by
    rw [setl_succ, if_neg, setl_none hs i]
    rintro (q | q)
    · exact q.2 rfl
    · have := hs _ (List.mem_of_getElem? q)
      omega
theorem set_get {l : List Int} {i j : Nat} {x : Int} (h : j < l.length) : (l.set i x)[j]? = if i = j then some x else l[j]? := by
  by_cases e : i = j
  · subst e
    rw [if_pos rfl, List.getElem?_set_self h]
  · rw [if_neg e, List.getElem?_set_ne e]
theorem st_one {M M3 : List (List Int)} {ho st : List Int} {se1 : Int} {x : Nat} (hst : st.length = 24) (hs : ∀ y ∈ ho, y < se1) (hx : x < 24) (hk : kindOf 24 5 M3 x ≠ 0) (ho_ : ∀ y, y ≠ x → M3[y]? = M[y]?) :
    setl 24 5 M3 M ho se1 st 24 = if M3[x]? = M[x]? then st else st.set x se1 := by
  have nh : ∀ y, ho[y]? ≠ some se1 := fun y q => by
    have := hs _ (List.mem_of_getElem? q)
    omega
  apply List.ext_getElem?
  intro y
  by_cases hy : y < 24
  · rw [setl_get (by omega)]
    by_cases e : x = y
    · subst e
      by_cases q : M3[x]? = M[x]?
      · rw [if_pos q, if_neg]
        rintro ⟨_, z | z⟩
        · exact z.2 q
        · exact nh _ z
      · rw [if_neg q, if_pos ⟨hx, .inl ⟨hk, q⟩⟩, List.getElem?_set_self (by omega)]
    · have h1 := ho_ y (fun z => e z.symm)
      rw [if_neg]
      · split
        · rfl
        · rw [List.getElem?_set_ne e]
      · rintro ⟨_, z | z⟩
        · exact z.2 h1
        · exact nh _ z
  · rw [List.getElem?_eq_none (by rw [setl_len]; omega)]
    split
    · rw [List.getElem?_eq_none (by omega)]
    · rw [List.getElem?_eq_none (by rw [List.length_set]; omega)]
theorem st_step {M M3 : List (List Int)} {ho st : List Int} {se1 sr : Int} {x mr : Nat} (hst : st.length = 24) (hho : ho.length = 24) (h0 : kindOf 24 5 M3 0 ≠ 0 ∧ M3[0]? ≠ M[0]?) (hm : kindOf 24 5 M3 mr ≠ 0 ∧ M3[mr]? ≠ M[mr]?)
    (hx : sr = se1 ∨ (kindOf 24 5 M3 x = 0 ∧ sr ≠ se1)) (ho_ : ∀ y, y ≠ 0 → y ≠ mr → y ≠ x → M3[y]? = M[y]?) (hs : ∀ y ∈ ho, y < se1) (x0 : x ≠ 0) (xm : x ≠ mr) (x24 : x < 24) (m24 : mr < 24) :
    setl 24 5 M3 M (ho.set x sr) se1 (st.set x sr) 24 = ((st.set x sr).set 0 se1).set mr se1 := by
  have nh : ∀ y, ho[y]? ≠ some se1 := fun y q => by
    have := hs _ (List.mem_of_getElem? q)
    omega
  apply List.ext_getElem?
  intro y
  by_cases hy : y < 24
  · rw [setl_get (by rw [List.length_set]; omega), set_get (l := (st.set x sr).set 0 se1) (by rw [List.length_set, List.length_set]; omega), set_get (l := st.set x sr) (by rw [List.length_set]; omega), set_get (l := st) (by omega)]
    by_cases e1 : mr = y
    · subst e1
      rw [if_pos rfl, if_pos ⟨m24, .inl hm⟩]
    · rw [if_neg e1]
      by_cases e2 : 0 = y
      · subst e2
        rw [if_pos rfl, if_pos ⟨by omega, .inl h0⟩]
      · rw [if_neg e2]
        by_cases e3 : x = y
        · subst e3
          rw [if_pos rfl]
          rcases hx with q | q
          · rw [q]
            split <;> rfl
          · rw [if_neg]
            rintro ⟨_, z | z⟩
            · exact z.1 q.1
            · rw [List.getElem?_set_self (by omega)] at z
              exact q.2 (Option.some.inj z)
        · rw [if_neg e3, if_neg]
          rintro ⟨_, z | z⟩
          · exact z.2 (ho_ y (fun q => e2 q.symm) (fun q => e1 q.symm) (fun q => e3 q.symm))
          · rw [List.getElem?_set_ne e3] at z
            exact nh _ z
  · rw [List.getElem?_eq_none (by rw [setl_len, List.length_set]; omega), List.getElem?_eq_none (by rw [List.length_set, List.length_set, List.length_set]; omega)]
/-! ### the cells behind a take or a give -/
def tkM (M : List (List Int)) (x : Nat) (k : Int) (o : Nat) (d : Int) : List (List Int) := setC ((setC M (2 + x / 8) (x % 8) k).set x (List.replicate 8 0)) 0 o (cellAt M 0 o + d)
section
variable {M : List (List Int)} {x o : Nat} {k d : Int} {m : List Int}
theorem tk0 (h : M[0]? = some m) (hx : 10 ≤ x) : (tkM M x k o d)[0]? = some (m.set o (cellAt M 0 o + d)) := by
  unfold tkM
  refine setC_at ?_
  rw [List.getElem?_set_ne (by omega), setC_row (by omega)]
  exact h
theorem tkm (h : M[2 + x / 8]? = some m) (hx : 10 ≤ x) (hx2 : x < 24) : (tkM M x k o d)[2 + x / 8]? = some (m.set (x % 8) k) := by
  unfold tkM
  rw [setC_row (by omega), List.getElem?_set_ne (by omega)]
  exact setC_at h
theorem tkx (hx : 10 ≤ x) (hl : x < M.length) : (tkM M x k o d)[x]? = some (List.replicate 8 0) := by
  unfold tkM
  rw [setC_row (by omega), List.getElem?_set_self (by rw [setC_len]; exact hl)]
theorem tko {y : Nat} (h0 : y ≠ 0) (h1 : y ≠ 2 + x / 8) (h2 : y ≠ x) : (tkM M x k o d)[y]? = M[y]? := by
  unfold tkM
  rw [setC_row (fun z => h0 z.symm), List.getElem?_set_ne (fun z => h2 z.symm), setC_row (fun z => h1 z.symm)]
end
/-! ### the law's book and the image -/
structure BV where
  (kd ho st us li : List Int) (ow : List (Key × V)) (se : Int)
structure Agr (i : Nat) (v : IV) (w : BV) : Prop where
  se : w.se = v.se
  ho : w.ho = v.ho
  st : w.st = v.st
  us4 : w.us.length = 4
  li4 : w.li.length = 4
  r0 : v.M[0]? = some (w.us ++ w.li)
  kl : w.kd.length = 24
  kf : ∀ x : Nat, x < 10 → w.kd[x]? = some 1
  k3 : ∀ (x : Nat) (k : Int), w.kd[x]? = some k → k = 0 ∨ k = 1 ∨ k = 2
  mp : ∀ x : Nat, x < 24 → cellAt v.M (2 + x / 8) (x % 8) = (w.kd[x]?).getD 0
  z : ∀ x : Nat, 10 ≤ x → w.kd[x]? = some 0 → v.M[x]? = some (List.replicate 8 0)
  ow : ∀ (x : Nat) (k : Int), 10 ≤ x → w.kd[x]? = some k → k ≠ 0 → ∃ o : Nat, o < 4 ∧ valV w.ow (Sum.inl (x : Int)) = some (.int (o : Int))
  hs : ∀ y ∈ v.ho, y ≤ v.se
  s1 : 1 ≤ v.se
  ul : ∀ u ∈ w.us, u.natAbs ≤ i
  ol : w.ow.length ≤ i
  hd : v.hd = []
theorem kind_mp {M : List (List Int)} {kd : List Int} (kl : kd.length = 24) (kf : ∀ x : Nat, x < 10 → kd[x]? = some 1) (k3 : ∀ (x : Nat) (k : Int), kd[x]? = some k → k = 0 ∨ k = 1 ∨ k = 2) (mp : ∀ x : Nat, x < 24 → cellAt M (2 + x / 8) (x % 8) = (kd[x]?).getD 0) {x : Nat} (hx : x < 24) :
    kindOf 24 5 M x = (kd[x]?).getD 0 := by
  unfold kindOf
  have e10 : (2 + (24 + 8 - 1) / 8 + 5 : Int) = 10 := by decide
  rw [e10]
  by_cases h : (x : Int) < 10
  · rw [if_pos h, kf x (by omega)]
    rfl
  · rw [if_neg h, show ((2 : Int) + (x : Int) / 8).toNat = 2 + x / 8 by omega, show ((x : Int) % 8).toNat = x % 8 by omega, mp x hx]
    have hl : x < kd.length := by omega
    have := k3 x _ (List.getElem?_eq_getElem hl)
    rw [List.getElem?_eq_getElem hl]
    show (if kd[x] = 1 ∨ kd[x] = 2 then kd[x] else 0) = kd[x]
    rcases this with q | q | q <;> rw [q] <;> decide
theorem Agr.kind {i : Nat} {v : IV} {w : BV} (A : Agr i v w) {x : Nat} (hx : x < 24) : kindOf 24 5 v.M x = (w.kd[x]?).getD 0 := kind_mp A.kl A.kf A.k3 A.mp hx
theorem filt_congr {l : List Int} {p q : Int → Bool} (h : ∀ x ∈ l, p x = q x) : l.filter p = l.filter q := List.filter_congr h
theorem Agr.free {i : Nat} {v : IV} {w : BV} (A : Agr i v w) : freeL 24 5 v.M = (rng 10 14).filter fun x => decide ((w.kd[x.toNat]?).getD 0 = 0) := by
  unfold freeL
  rw [show fdOf 24 5 = 10 by decide, show ((24 : Int) - 10).toNat = 14 by decide]
  refine filt_congr fun x hx => ?_
  have := rng_mem hx
  have e : x = ((x.toNat : Nat) : Int) := by omega
  have h := A.kind (x := x.toNat) (by omega)
  rw [← e] at h
  rw [h]
end K88
namespace K88
open PySem PySem.Spec PyProof.Rows L2 Rg
def begV (v : IV) (wi : Int) (ba : List Int) : IV := { v with se := v.se + 1, wi := wi, ba := ba }
def setV (v v0 : IV) : IV := { v with st := setl 24 5 v.M v0.M v.ho v.se v.st 24 }
def cellV (v : IV) (x j : Nat) (c : Int) : IV := { v with M := setC v.M x j c }
theorem Agr.lst {i : Nat} {v : IV} {w : BV} (A : Agr i v w) {b n s : Int} {CI CP : Addr} {H : Hp} {im : Addr} {B : IA} (I : ImgAt CI CP H im B v 24 n s) : v.M.length = 24 ∧ v.ho.length = 24 ∧ v.st.length = 24 := by
  have d0 := I.d0
  have d2 := I.d2
  have d3 := I.d3
  exact ⟨by omega, by omega, by omega⟩
structure Len24 (v : IV) : Prop where
  m : v.M.length = 24
  h : v.ho.length = 24
  s : v.st.length = 24
  r : ∀ m ∈ v.M, m.length = 8
theorem ImgAt.l24 {n s : Int} {CI CP : Addr} {H : Hp} {im : Addr} {B : IA} {v : IV} (I : ImgAt CI CP H im B v 24 n s) : Len24 v := by
  have d0 := I.d0
  have d2 := I.d2
  have d3 := I.d3
  exact ⟨by omega, by omega, by omega, I.d1⟩
/-- a refused take: nothing but the begun deed -/
theorem Agr.refused {i : Nat} {v : IV} {w : BV} (A : Agr i v w) (wi : Int) (ba : List Int) : Agr (i + 1) (setV (begV v wi ba) v) { w with se := w.se + 1 } := by
  have e : setl 24 5 v.M v.M v.ho (v.se + 1) v.st 24 = v.st := setl_none (fun y hy => by have := A.hs y hy; omega) 24
  exact { A with
    se := by show w.se + 1 = v.se + 1; rw [A.se]
    st := by show w.st = setl 24 5 v.M v.M v.ho (v.se + 1) v.st 24; rw [e]; exact A.st
    hs := fun y hy => by have := A.hs y hy; show y ≤ v.se + 1; omega
    s1 := by have := A.s1; show 1 ≤ v.se + 1; omega
    ul := fun u hu => by have := A.ul u hu; omega
    ol := by have := A.ol; show w.ow.length ≤ i + 1; omega }
theorem mem_set_of' {l : List Int} {i : Nat} {x y : Int} (h : y ∈ l.set i x) : y = x ∨ y ∈ l := mem_set_of h
/-- the book behind a take or a give -/
def bookT (w : BV) (x : Nat) (k sr : Int) (o : Nat) (d : Int) : BV :=
  { w with kd := w.kd.set x k, ho := w.ho.set x sr, st := (((w.st.set x sr).set 0 (w.se + 1)).set (2 + x / 8) (w.se + 1)), ow := putK w.ow (Sum.inl (x : Int)) (.int (o : Int)), us := w.us.set o ((w.us[o]?).getD 0 + d), se := w.se + 1 }
theorem Agr.took {i : Nat} {v v3 : IV} {w : BV} (A : Agr i v w) (L : Len24 v) {x o : Nat} {k sr d : Int} (hx : 10 ≤ x) (hx2 : x < 24) (ho : o < 4) (hd : d = 1 ∨ d = -1) (hk : k = 0 ∨ k = 1 ∨ k = 2) (hkx : (w.kd[x]?).getD 0 ≠ k)
    (hsr : (k = 0 ∧ sr = 0) ∨ sr = v.se + 1)
    (eM : ∀ y, y ≠ x → v3.M[y]? = (tkM v.M x k o d)[y]?) (eMx : k = 0 → v3.M[x]? = some (List.replicate 8 0)) (eho : v3.ho = v.ho.set x sr) (est : v3.st = v.st.set x sr) (ese : v3.se = v.se + 1) (ehd : v3.hd = v.hd) :
    Agr (i + 1) (setV v3 v) (bookT w x k sr o d) := by
  have hM := L.m
  have hr : ∀ y : Nat, y < 24 → ∃ m, v.M[y]? = some m ∧ m.length = 8 := fun y hy => ⟨_, List.getElem?_eq_getElem (by omega), L.r _ (List.getElem_mem (by omega))⟩
  obtain ⟨mm, em, lm⟩ := hr (2 + x / 8) (by omega)
  have hou : o < w.us.length := by rw [A.us4]; exact ho
  have e0 : v3.M[0]? = some (w.us.set o ((w.us[o]?).getD 0 + d) ++ w.li) := by
    rw [eM 0 (by omega), tk0 A.r0 hx]
    have : cellAt v.M 0 o = (w.us[o]?).getD 0 := by
      rw [cellAt_of A.r0 (x := w.us[o]) (by rw [List.getElem?_append_left hou]; exact List.getElem?_eq_getElem hou), List.getElem?_eq_getElem hou]
      rfl
    rw [this, List.set_append_left _ _ hou]
  have e2 : v3.M[2 + x / 8]? = some (mm.set (x % 8) k) := by
    rw [eM _ (by omega), tkm em hx hx2]
  have eo : ∀ y, y ≠ 0 → y ≠ 2 + x / 8 → y ≠ x → v3.M[y]? = v.M[y]? := fun y h0 h1 h2 => by rw [eM y h2, tko h0 h1 h2]
  have mx : mm[x % 8]? = some ((w.kd[x]?).getD 0) := by
    have h1 := A.mp x hx2
    have hl : x % 8 < mm.length := by omega
    rw [cellAt_of em (List.getElem?_eq_getElem hl)] at h1
    rw [List.getElem?_eq_getElem hl, h1]
  have mp' : ∀ y : Nat, y < 24 → cellAt v3.M (2 + y / 8) (y % 8) = ((w.kd.set x k)[y]?).getD 0 := fun y hy => by
    have hkl := A.kl
    by_cases e : y / 8 = x / 8
    · rw [e]
      have hl : y % 8 < (mm.set (x % 8) k).length := by rw [List.length_set]; omega
      rw [cellAt_of e2 (List.getElem?_eq_getElem hl)]
      by_cases q : x = y
      · subst q
        rw [List.getElem?_set_self (by omega), List.getElem_set_self]
        rfl
      · rw [List.getElem?_set_ne q, List.getElem_set_ne (by omega), ← A.mp y hy, e]
        exact (cellAt_of em (List.getElem?_eq_getElem (by rw [List.length_set] at hl; exact hl))).symm
    · rw [cellAt_congr (eo (2 + y / 8) (by omega) (by omega) (by omega)), A.mp y hy, List.getElem?_set_ne (by intro z; subst z; exact e rfl)]
  have kl' : (w.kd.set x k).length = 24 := by rw [List.length_set]; exact A.kl
  have kf' : ∀ y : Nat, y < 10 → (w.kd.set x k)[y]? = some 1 := fun y hy => by
    rw [List.getElem?_set_ne (by omega)]
    exact A.kf y hy
  have k3' : ∀ (y : Nat) (k' : Int), (w.kd.set x k)[y]? = some k' → k' = 0 ∨ k' = 1 ∨ k' = 2 := fun y k' h => by
    rcases mem_set_of (List.mem_of_getElem? h) with e | e
    · rw [e]; exact hk
    · obtain ⟨j, hj, ej⟩ := List.getElem_of_mem e
      exact A.k3 j k' (by rw [List.getElem?_eq_getElem hj, ej])
  have kk : ∀ y : Nat, y < 24 → kindOf 24 5 v3.M y = ((w.kd.set x k)[y]?).getD 0 := fun y hy => kind_mp kl' kf' k3' mp' hy
  have k0 : kindOf 24 5 v3.M 0 ≠ 0 := by
    have := kk 0 (by omega)
    rw [kf' 0 (by omega)] at this
    intro z
    have h2 : kindOf 24 5 v3.M ((0 : Nat) : Int) = 0 := z
    rw [this] at h2
    cases h2
  have km : kindOf 24 5 v3.M ((2 + x / 8 : Nat) : Int) ≠ 0 := by
    rw [kk _ (by omega), kf' _ (by omega)]
    decide
  have kx : kindOf 24 5 v3.M (x : Int) = k := by
    rw [kk x hx2, List.getElem?_set_self (by rw [A.kl]; exact hx2)]
    rfl
  have stE : setl 24 5 v3.M v.M v3.ho v3.se v3.st 24 = ((v.st.set x sr).set 0 (v.se + 1)).set (2 + x / 8) (v.se + 1) := by
    rw [eho, ese, est]
    refine st_step L.s L.h ⟨k0, ?_⟩ ⟨km, ?_⟩ ?_ eo (fun y hy => by have := A.hs y hy; omega) (by omega) (by omega) hx2 (by omega)
    · rw [e0, A.r0]
      intro z
      have h1 := congrArg (fun l => l[o]?) (Option.some.inj z)
      rw [List.getElem?_append_left (by rw [List.length_set]; exact hou), List.getElem?_append_left hou, List.getElem?_set_self hou, List.getElem?_eq_getElem hou] at h1
      have h2 := Option.some.inj h1
      have h3 : w.us[o] + d = w.us[o] := h2
      rcases hd with q | q <;> omega
    · rw [e2, em]
      intro z
      have h1 := congrArg (fun l => l[x % 8]?) (Option.some.inj z)
      rw [List.getElem?_set_self (by omega), mx] at h1
      exact hkx (Option.some.inj h1).symm
    · rcases hsr with q | q
      · refine .inr ⟨by rw [kx]; exact q.1, ?_⟩
        have := A.s1
        omega
      · exact .inl q
  refine { se := ?_, ho := ?_, st := ?_, us4 := ?_, li4 := A.li4, r0 := e0, kl := kl', kf := kf', k3 := k3', mp := mp', z := fun y hy h => ?_, ow := fun y k' hy h hne => ?_, hs := fun y hy => ?_, s1 := ?_, ul := fun u hu => ?_, ol := ?_, hd := ?_ }
  · show w.se + 1 = v3.se
    rw [A.se, ese]
  · show w.ho.set x sr = v3.ho
    rw [A.ho, eho]
  · show (((w.st.set x sr).set 0 (w.se + 1)).set (2 + x / 8) (w.se + 1)) = setl 24 5 v3.M v.M v3.ho v3.se v3.st 24
    rw [stE, A.st, A.se]
  · show (w.us.set o _).length = 4
    rw [List.length_set]; exact A.us4
  · show v3.M[y]? = _
    by_cases e : x = y
    · subst e
      have h' : (w.kd.set x k)[x]? = some 0 := h
      rw [List.getElem?_set_self (by rw [A.kl]; exact hx2)] at h'
      exact eMx (Option.some.inj h')
    · have h' : (w.kd.set x k)[y]? = some 0 := h
      rw [List.getElem?_set_ne e] at h'
      rw [eo y (by omega) (by omega) (fun z => e z.symm)]
      exact A.z y hy h'
  · show ∃ o' : Nat, o' < 4 ∧ valV (putK w.ow (Sum.inl (x : Int)) (.int (o : Int))) (Sum.inl (y : Int)) = some (.int (o' : Int))
    rw [valV_put]
    by_cases e : x = y
    · subst e
      exact ⟨o, ho, by rw [if_pos rfl]⟩
    · have h' : (w.kd.set x k)[y]? = some k' := h
      rw [List.getElem?_set_ne e] at h'
      rw [if_neg (by intro z; exact e (by have := Sum.inl.inj z; omega))]
      exact A.ow y k' hy h' hne
  · have hy' : y ∈ v3.ho := hy
    show y ≤ v3.se
    rw [ese]
    rw [eho] at hy'
    have := A.s1
    rcases mem_set_of hy' with e | e
    · rcases hsr with q | q <;> omega
    · have := A.hs y e
      omega
  · show 1 ≤ v3.se
    have := A.s1
    omega
  · have hu' : u ∈ w.us.set o ((w.us[o]?).getD 0 + d) := hu
    rcases mem_set_of hu' with e | e
    · have h1 := A.ul _ (List.getElem_mem hou)
      rw [List.getElem?_eq_getElem hou] at e
      have e' : u = w.us[o] + d := e
      rcases hd with q | q <;> omega
    · have := A.ul u e
      omega
  · show (putK w.ow (Sum.inl (x : Int)) (.int (o : Int))).length ≤ i + 1
    have h1 := length_putK w.ow (Sum.inl (x : Int) : Key) (.int (o : Int))
    have h2 := A.ol
    omega
  · show v3.hd = []
    rw [ehd]; exact A.hd
/-- one cell of a held or fixed block -/
theorem Agr.changed {i : Nat} {v : IV} {w : BV} (A : Agr i v w) (L : Len24 v) {x j : Nat} {c : Int} (hx : 5 ≤ x) (hx2 : x < 24) (hj : j < 8) (hk : (w.kd[x]?).getD 0 ≠ 0) (wi : Int) (ba : List Int) :
    Agr (i + 1) (setV (cellV (begV v wi ba) x j c) v) (if c = cellAt v.M x j then { w with se := w.se + 1 } else { w with se := w.se + 1, st := w.st.set x (w.se + 1) }) := by
  have hM := L.m
  have hxl : x < v.M.length := by omega
  have em := List.getElem?_eq_getElem hxl
  have lm := L.r _ (List.getElem_mem hxl)
  have eo : ∀ y, y ≠ x → (setC v.M x j c)[y]? = v.M[y]? := fun y h => setC_row fun z => h z.symm
  have ex : (setC v.M x j c)[x]? = some (v.M[x].set j c) := setC_at em
  have ec : cellAt v.M x j = v.M[x][j] := cellAt_of em (List.getElem?_eq_getElem (by omega))
  have mp' : ∀ y : Nat, y < 24 → cellAt (setC v.M x j c) (2 + y / 8) (y % 8) = (w.kd[y]?).getD 0 := fun y hy => by
    rw [cellAt_congr (eo (2 + y / 8) (by omega))]
    exact A.mp y hy
  have kx : kindOf 24 5 (setC v.M x j c) (x : Int) ≠ 0 := by
    rw [kind_mp A.kl A.kf A.k3 mp' hx2]
    exact hk
  have hs' : ∀ y ∈ v.ho, y < v.se + 1 := fun y hy => by have := A.hs y hy; omega
  have stE := st_one (M := v.M) (M3 := setC v.M x j c) (ho := v.ho) (st := v.st) (se1 := v.se + 1) L.s hs' hx2 kx eo
  have same : (setC v.M x j c)[x]? = v.M[x]? ↔ c = v.M[x][j] := by
    rw [ex, em]
    constructor
    · intro z
      have h1 := congrArg (fun l => l[j]?) (Option.some.inj z)
      rw [List.getElem?_set_self (by omega), List.getElem?_eq_getElem (by omega)] at h1
      exact Option.some.inj h1
    · intro z
      rw [z, List.set_getElem_self]
  have base : ∀ st, st = setl 24 5 (setC v.M x j c) v.M v.ho (v.se + 1) v.st 24 → Agr (i + 1) (setV (cellV (begV v wi ba) x j c) v) { w with se := w.se + 1, st := st } := fun st hst =>
    { A with
      se := by show w.se + 1 = v.se + 1; rw [A.se]
      st := hst
      r0 := by show (setC v.M x j c)[0]? = _; rw [eo 0 (by omega)]; exact A.r0
      mp := mp'
      z := fun y hy h => by
        show (setC v.M x j c)[y]? = _
        have h' : w.kd[y]? = some 0 := h
        have e : y ≠ x := by
          rintro rfl
          rw [h'] at hk
          exact hk rfl
        rw [eo y e]
        exact A.z y hy h'
      hs := fun y hy => by have := A.hs y hy; show y ≤ v.se + 1; omega
      s1 := by have := A.s1; show 1 ≤ v.se + 1; omega
      ul := fun u hu => by have := A.ul u hu; omega
      ol := by have := A.ol; show w.ow.length ≤ i + 1; omega }
  rw [ec]
  by_cases q : c = v.M[x][j]
  · rw [if_pos q]
    exact base w.st (by rw [stE, if_pos (same.mpr q)]; exact A.st)
  · rw [if_neg q]
    exact base _ (by rw [stE, if_neg (fun z => q (same.mp z)), A.st, A.se])
/-- a limit -/
theorem Agr.limited {i : Nat} {v : IV} {w : BV} (A : Agr i v w) {o : Nat} {l : Int} (ho : o < 4) : Agr (i + 1) (cellV v 0 (4 + o) l) { w with li := w.li.set o l } := by
  exact { A with
    li4 := by show (w.li.set o l).length = 4; rw [List.length_set]; exact A.li4
    r0 := by
      show (setC v.M 0 (4 + o) l)[0]? = some (w.us ++ w.li.set o l)
      rw [setC_at A.r0, List.set_append_right _ _ (by rw [A.us4]; omega), A.us4]
      rw [show 4 + o - 4 = o by omega]
    mp := fun y hy => by
      show cellAt (setC v.M 0 (4 + o) l) (2 + y / 8) (y % 8) = _
      rw [cellAt_congr (setC_row (by omega))]
      exact A.mp y hy
    z := fun y hy h => by
      show (setC v.M 0 (4 + o) l)[y]? = _
      rw [setC_row (by omega)]
      exact A.z y hy h
    ul := fun u hu => by have := A.ul u hu; omega
    ol := by have := A.ol; show w.ow.length ≤ i + 1; omega }
end K88
namespace K88
open PySem PySem.Spec PyProof.Rows L2 Rg
structure Bk where
  (bk kd ho st us li ow se : Addr)
def bkR (B : Bk) : List V := [.ref B.kd, .ref B.ho, .ref B.st, .ref B.us, .ref B.li, .ref B.ow, .ref B.se]
def bkL0 (B : Bk) (w : BV) : List (Addr × HO) := [(B.bk, .lst (bkR B)), (B.kd, .lst (w.kd.map V.int)), (B.ho, .lst (w.ho.map V.int)), (B.st, .lst (w.st.map V.int)), (B.us, .lst (w.us.map V.int)), (B.li, .lst (w.li.map V.int)), (B.ow, .dK w.ow), (B.se, .lst ([w.se].map V.int))]
def bkL (B : Bk) (w : BV) (fa : Addr) (fs : List Int) : List (Addr × HO) := (fa, .lst (fs.map V.int)) :: bkL0 B w
def bkA (B : Bk) (fa : Addr) : List Addr := [fa, B.bk, B.kd, B.ho, B.st, B.us, B.li, B.ow, B.se]
section
variable {P : Program} {w : World} {K : PySem.W.Frag} {mg : Str → Option Value} {base : Heap}
def k0L : List Int := [1, 1, 1, 1, 1, 1, 1, 1, 1, 1, 0, 0, 0, 0, 0, 0, 0, 0, 0, 0, 0, 0, 0, 0]
def w0 : BV := ⟨k0L, k0L, k0L, [0, 0, 0, 0], [0, 0, 0, 0], [], 1⟩
theorem k0_len : k0L.length = 24 := rfl
def sp_Lstart : Sp := fun vs H Q _ => vs = [] ∧ ∀ H' B, Same H H' → Fr (bkL0 B w0) H' → (∀ p ∈ bkL0 B w0, H p.1 = none) → Q (.ref B.bk) H'
theorem k0_get {i : Nat} (hi : i < 24) : k0L[i]? = some (if decide ((i : Int) < 10) = true then (1 : Int) else 0) := by
  have h : ∀ i ∈ List.range 24, k0L[i]? = some (if decide ((i : Int) < 10) = true then (1 : Int) else 0) := by decide +kernel
  exact h i (by rw [List.mem_range]; exact hi)
theorem ok_Lstart (T : Tx K mg) : FnOk P w K mg base CX0 1 T.f_Lstart T.fd_Lstart [] sp_Lstart := by
  refine T.F_Lstart.ok sc_Lstart (fun vs H Q E h => ?_) (fun cdv A0 outer s H vs Q E hr h => ?_)
  · obtain ⟨rfl, _⟩ := h; rfl
  · obtain ⟨rfl, k⟩ := h
    refine ⟨_, (pss_cons (ps_set (i := 0) sc_Lstart.nd rfl (.inl rfl) (pe_lst pa_nil))
      (pss_cons (ps_for PassesOwn.never rfl (pi_range1 rfl T.b_range (pa_cons pe_int pa_nil)) (pg_name (i := 1) sc_Lstart.nd rfl (.inl rfl))
        (pss_one (ps_expr (pe_bm PySem.F.plainAttrs_list PySem.F.slot_list_append PySem.F.type_list_append mt_append (pv 0) (pa_cons (pe_callTy call_int1 rfl T.b_int (by decide +kernel) (pa_cons (pe_cmpR op_lt (pv 1) pe_int (nomark _)) pa_nil)) pa_nil)))))
      (pss_cons (ps_set (i := 2) sc_Lstart.nd rfl (.inl rfl) (pe_listof (K := K) (pv 0) T.b_list))
      (pss_cons (ps_set (i := 3) sc_Lstart.nd rfl (.inl rfl) (pe_listof (K := K) (pv 0) T.b_list))
      (pss_one (ps_ret (pe_lst (pa_cons (pv 0) (pa_cons (pv 2) (pa_cons (pv 3) (pa_cons (pe_lst (pa_cons pe_int (pa_cons pe_int (pa_cons pe_int (pa_cons pe_int pa_nil))))) (pa_cons (pe_lst (pa_cons pe_int (pa_cons pe_int (pa_cons pe_int (pa_cons pe_int pa_nil))))) (pa_cons pe_dnewK (pa_cons (pe_lst (pa_cons pe_int pa_nil)) pa_nil)))))))))))))), ?_⟩
    refine ⟨Nat.zero_le _, fun a na => ?_⟩
    refine ⟨24, rfl, by decide, by decide, for_range (lo := 0) (n := (24 : Int).toNat) (fun i σ H' => ∃ u1 : Option V, σ = [some (.ref a), u1, none, none] ∧ H' = upd H a (.lst ((k0L.take i).map V.int))) ⟨_, rfl, rfl⟩ ?_ ?_⟩
    · rintro i σ H' hi ⟨u1, rfl, rfl⟩
      have hi : i < 24 := hi
      refine ⟨.ref a, rfl, .inl ⟨rfl, _, .inl (.inl upd_same)⟩, _, rfl, _, _, rfl, rfl, .inr ⟨_, rfl, ?_⟩⟩
      refine ⟨a, _, _, rfl, rfl, upd_same, ?_, _, rfl, ?_⟩
      · rw [List.length_map]
        exact small1000 (by have := List.length_take_le i k0L; omega)
      · rw [upd_upd, show (0 : Int) + (i : Int) = i by omega, take_get (k0_get hi), List.map_append]
        rfl
    rintro σ H' ⟨u1, rfl, rfl⟩
    have e0 : k0L.take (24 : Int).toNat = k0L := rfl
    rw [e0]
    have F1 := (Fr.nil (H := H)).cons (o := .lst (k0L.map V.int)) na
    have S1 := same_upd (o := .lst (k0L.map V.int)) na
    generalize upd H a (.lst (k0L.map V.int)) = H1 at F1 S1 ⊢
    refine ⟨_, rfl, a, _, rfl, .inl (.of (F1.get 0 rfl)), fun b nb => ?_⟩
    have F2 := F1.cons (o := .lst (k0L.map V.int)) nb
    have S2 := S1.trans (same_upd (o := .lst (k0L.map V.int)) nb)
    have nb0 := S1.free nb
    generalize upd H1 b (.lst (k0L.map V.int)) = H2 at F2 S2 ⊢
    refine ⟨_, rfl, a, _, rfl, .inl (.of (F2.get 1 rfl)), fun c nc => ?_⟩
    have F3 := F2.cons (o := .lst (k0L.map V.int)) nc
    have S3 := S2.trans (same_upd (o := .lst (k0L.map V.int)) nc)
    have nc0 := S2.free nc
    generalize upd H2 c (.lst (k0L.map V.int)) = H3 at F3 S3 ⊢
    refine ⟨_, rfl, _, rfl, _, rfl, (by show 4 ≤ sizeLine; decide), fun d nd => ?_⟩
    have F4 := F3.cons (o := .lst (([0, 0, 0, 0] : List Int).map V.int)) nd
    have S4 := S3.trans (same_upd (o := .lst (([0, 0, 0, 0] : List Int).map V.int)) nd)
    have nd0 := S3.free nd
    change Fr _ (upd H3 d (.lst [V.int 0, V.int 0, V.int 0, V.int 0])) at F4
    change Same H (upd H3 d (.lst [V.int 0, V.int 0, V.int 0, V.int 0])) at S4
    generalize upd H3 d (.lst [V.int 0, V.int 0, V.int 0, V.int 0]) = H4 at F4 S4 ⊢
    refine ⟨(by show 4 ≤ sizeLine; decide), fun e ne => ?_⟩
    have F5 := F4.cons (o := .lst (([0, 0, 0, 0] : List Int).map V.int)) ne
    have S5 := S4.trans (same_upd (o := .lst (([0, 0, 0, 0] : List Int).map V.int)) ne)
    have ne0 := S4.free ne
    change Fr _ (upd H4 e (.lst [V.int 0, V.int 0, V.int 0, V.int 0])) at F5
    change Same H (upd H4 e (.lst [V.int 0, V.int 0, V.int 0, V.int 0])) at S5
    generalize upd H4 e (.lst [V.int 0, V.int 0, V.int 0, V.int 0]) = H5 at F5 S5 ⊢
    intro f nf
    have F6 := F5.cons (o := .dK []) nf
    have S6 := S5.trans (same_upd (o := .dK []) nf)
    have nf0 := S5.free nf
    generalize upd H5 f (.dK []) = H6 at F6 S6 ⊢
    refine ⟨(by show 1 ≤ sizeLine; decide), fun g ng => ?_⟩
    have F7 := F6.cons (o := .lst (([1] : List Int).map V.int)) ng
    have S7 := S6.trans (same_upd (o := .lst (([1] : List Int).map V.int)) ng)
    have ng0 := S6.free ng
    change Fr _ (upd H6 g (.lst [V.int 1])) at F7
    change Same H (upd H6 g (.lst [V.int 1])) at S7
    generalize upd H6 g (.lst [V.int 1]) = H7 at F7 S7 ⊢
    refine ⟨(by show 7 ≤ sizeLine; decide), fun l nl => ?_⟩
    have B : Bk := ⟨l, a, b, c, d, e, f, g⟩
    have F8 := F7.cons (o := .lst (bkR ⟨l, a, b, c, d, e, f, g⟩)) nl
    have S8 := S7.trans (same_upd (o := .lst (bkR ⟨l, a, b, c, d, e, f, g⟩)) nl)
    have nl0 := S7.free nl
    refine k _ ⟨l, a, b, c, d, e, f, g⟩ S8 ⟨fun p hp => ?_, ?_⟩ ?_
    · refine F8.at_ p ?_
      simp only [bkL0, w0, List.mem_cons, List.not_mem_nil, or_false] at hp ⊢
      rcases hp with h | h | h | h | h | h | h | h <;> simp [h]
    · have := F8.nd
      simp only [bkL0, List.map_cons, List.map_nil, List.nodup_cons, List.mem_cons, List.not_mem_nil, or_false, not_or] at this ⊢
      obtain ⟨⟨a1, a2, a3, a4, a5, a6, a7⟩, ⟨b1, b2, b3, b4, b5, b6⟩, ⟨c1, c2, c3, c4, c5⟩, ⟨d1, d2, d3, d4⟩, ⟨e1, e2, e3⟩, ⟨f1, f2⟩, g1, _⟩ := this
      exact ⟨⟨a7, a6, a5, a4, a3, a2, a1⟩, ⟨fun z => g1 z.symm, fun z => f2 z.symm, fun z => e3 z.symm, fun z => d4 z.symm, fun z => c5 z.symm, fun z => b6 z.symm⟩, ⟨fun z => f1 z.symm, fun z => e2 z.symm, fun z => d3 z.symm, fun z => c4 z.symm, fun z => b5 z.symm⟩, ⟨fun z => e1 z.symm, fun z => d2 z.symm, fun z => c3 z.symm, fun z => b4 z.symm⟩, ⟨fun z => d1 z.symm, fun z => c2 z.symm, fun z => b3 z.symm⟩, ⟨fun z => c1 z.symm, fun z => b2 z.symm⟩, fun z => b1 z.symm, by simp⟩
    · intro p hp
      simp only [bkL0, List.mem_cons, List.not_mem_nil, or_false] at hp
      rcases hp with h | h | h | h | h | h | h | h <;> simp [h, *]
end
end K88
namespace K88
open PySem PySem.Spec PyProof.Rows L2 Rg
theorem eqG (M : List (List Int)) : PyData.eqv (dG M) (dG M) = true := SeqAt.eqv_refl _ (canG M)
theorem bkA_eq {B : Bk} {w : BV} {fa : Addr} {fs : List Int} : (bkL B w fa fs).map (·.1) = bkA B fa := rfl
theorem bk_in {B : Bk} {w : BV} {fa : Addr} {fs : List Int} {i : Nat} {a : Addr} {o : HO} (h : (bkL B w fa fs)[i]? = some (a, o)) : a ∈ bkA B fa := by
  rw [← bkA_eq (w := w) (fs := fs)]
  exact List.mem_map.mpr ⟨_, List.mem_of_getElem? h, rfl⟩
/-- the book with other values -/
theorem bk_same {B : Bk} {w w' : BV} {fa : Addr} {fs fs' : List Int} {p : Addr × HO} (h : p ∈ bkL B w' fa fs') : ∃ o, (p.1, o) ∈ bkL B w fa fs := by
  have : p.1 ∈ (bkL B w' fa fs').map (·.1) := List.mem_map.mpr ⟨p, h, rfl⟩
  rw [bkA_eq, ← bkA_eq (w := w) (fs := fs)] at this
  obtain ⟨q, hq, e⟩ := List.mem_map.mp this
  exact ⟨q.2, by rw [← e]; exact hq⟩
section
variable {P : Program} {w0_ : World} {K : PySem.W.Frag} {mg : Str → Option Value} {base : Heap}
/-! ### _law_touch, _law_note -/
def sp_Ltouch (CI CP : Addr) : Sp := fun vs H Q _ => ∃ (im : Addr) (A : IA) (v : IV) (b n s : Int) (B : Bk) (w : BV) (fa : Addr) (fs : List Int) (x : Nat), vs = [.ref B.bk, .int x] ∧ SI CI CP H im A v b n s (bkL B w fa fs) ∧ x < w.st.length ∧
  ∀ H', SI CI CP H' im A v b n s (bkL B { w with st := w.st.set x w.se } fa fs) → Kp (bkA B fa) H H' → Q .non H'
theorem ok_Ltouch (T : Tx K mg) : FnOk P w0_ K mg base CX0 1 T.f_Ltouch T.fd_Ltouch ["_law_book", "_law_x"] (sp_Ltouch T.C_Image T.C_Plan) := by
  refine T.F_Ltouch.ok sc_Ltouch (fun vs H Q E h => ?_) (fun cdv A0 outer s H vs Q E hr h => ?_)
  · obtain ⟨_, _, _, _, _, _, _, _, _, _, _, rfl, _⟩ := h; rfl
  · obtain ⟨im, A, v, b, n, sl, B, w, fa, fs, x, rfl, S, hx, k⟩ := h
    refine ⟨_, (pss_cons (ps_set (i := 2) sc_Ltouch.nd rfl (.inl rfl) (pe_ix ix_list (pv 0) pe_int (fun _ _ => rfl)))
      (pss_one (ps_asg (pe_ix ix_list (pe_ix ix_list (pv 0) pe_int (fun _ _ => rfl)) pe_int (fun _ _ => rfl)) (pg_sub (pv 2) (pv 1) set_list)))), ?_⟩
    refine ⟨_, rfl, B.bk, _, 2, .ref B.st, rfl, rfl, .of (S.F.get 1 rfl), atI_nat (j := 2) rfl, ?_⟩
    refine ⟨_, rfl, B.bk, _, 6, .ref B.se, rfl, rfl, .of (S.F.get 1 rfl), atI_nat (j := 6) rfl, B.se, _, 0, .int w.se, rfl, rfl, .of (S.F.get 8 rfl), atI_nat (j := 0) rfl, ?_⟩
    refine ⟨_, rfl, _, rfl, B.st, _, _, x, rfl, rfl, S.F.get 4 rfl, ixN_nat rfl (by rw [List.length_map]; exact hx), ?_⟩
    have S' := S.put 4 (o' := .lst ((w.st.map V.int).set x (V.int w.se))) rfl
    rw [← List.map_set] at S' ⊢
    exact k _ S' (Kp.refl.own (bk_in (w := w) (fs := fs) (i := 4) rfl))
def sp_Lnote (CI CP : Addr) : Sp := fun vs H Q _ => ∃ (im : Addr) (A : IA) (v : IV) (b n s : Int) (B : Bk) (w : BV) (fa : Addr) (fs : List Int) (x : Nat) (kind sr o : Int), vs = [.ref B.bk, .int x, .int kind, .int sr, .int o] ∧ SI CI CP H im A v b n s (bkL B w fa fs) ∧ x < w.kd.length ∧ x < w.ho.length ∧ x < w.st.length ∧ w.ow.length < 1000 ∧
  ∀ H', SI CI CP H' im A v b n s (bkL B { w with kd := w.kd.set x kind, ho := w.ho.set x sr, st := w.st.set x sr, ow := putK w.ow (Sum.inl (x : Int)) (.int o) } fa fs) → Kp (bkA B fa) H H' → Q .non H'
theorem ok_Lnote (T : Tx K mg) : FnOk P w0_ K mg base CX0 1 T.f_Lnote T.fd_Lnote ["_law_book", "_law_x", "_law_kind", "_law_serial", "_law_owner"] (sp_Lnote T.C_Image T.C_Plan) := by
  refine T.F_Lnote.ok sc_Lnote (fun vs H Q E h => ?_) (fun cdv A0 outer s H vs Q E hr h => ?_)
  · obtain ⟨_, _, _, _, _, _, _, _, _, _, _, _, _, _, rfl, _⟩ := h; rfl
  · obtain ⟨im, A, v, b, n, sl, B, w, fa, fs, x, kind, sr, o, rfl, S, hx1, hx2, hx3, hol, k⟩ := h
    refine ⟨_, (pss_cons (ps_asg (pv 0) (pg_lst rfl (pgs_cons (pg_name (i := 5) sc_Lnote.nd rfl (.inl rfl)) (pgs_cons (pg_name (i := 6) sc_Lnote.nd rfl (.inl rfl)) (pgs_cons (pg_name (i := 7) sc_Lnote.nd rfl (.inl rfl)) (pgs_cons (pg_name (i := 8) sc_Lnote.nd rfl (.inl rfl)) (pgs_cons (pg_name (i := 9) sc_Lnote.nd rfl (.inl rfl)) (pgs_cons (pg_name (i := 10) sc_Lnote.nd rfl (.inl rfl)) (pgs_cons (pg_name (i := 11) sc_Lnote.nd rfl (.inl rfl)) pgs_nil)))))))))
      (pss_cons (ps_asg (pv 2) (pg_sub (pv 5) (pv 1) set_list))
      (pss_cons (ps_asg (pv 3) (pg_sub (pv 6) (pv 1) set_list))
      (pss_cons (ps_asg (pv 3) (pg_sub (pv 7) (pv 1) set_list))
      (pss_one (ps_asg (pv 4) (pg_sub (pv 10) (pv 1) (set_dict (Nat.lt_of_le_of_lt (Nat.add_le_add_left (by decide : 1 ≤ 64) _) hr.units))))))))), ?_⟩
    refine ⟨_, rfl, B.bk, _, rfl, .of (S.F.get 1 rfl), rfl, _, _, rfl, _, _, rfl, _, _, rfl, _, _, rfl, _, _, rfl, _, _, rfl, _, _, rfl, rfl, ?_⟩
    refine ⟨_, rfl, _, rfl, _, rfl, B.kd, _, _, x, rfl, rfl, S.F.get 2 rfl, ixN_nat rfl (by rw [List.length_map]; exact hx1), ?_⟩
    have S1 := S.put 2 (o' := .lst ((w.kd.map V.int).set x (V.int kind))) rfl
    have k1 : Kp (bkA B fa) H (upd H B.kd (.lst ((w.kd.map V.int).set x (V.int kind)))) := Kp.refl.own (bk_in (w := w) (fs := fs) (i := 2) rfl)
    rw [← List.map_set] at S1 k1 ⊢
    generalize upd H B.kd (.lst ((w.kd.set x kind).map V.int)) = H1 at S1 k1 ⊢
    refine ⟨_, rfl, _, rfl, _, rfl, B.ho, _, _, x, rfl, rfl, S1.F.get 3 rfl, ixN_nat rfl (by rw [List.length_map]; exact hx2), ?_⟩
    have S2 := S1.put 3 (o' := .lst ((w.ho.map V.int).set x (V.int sr))) rfl
    have k2 := k1.own (o := .lst ((w.ho.map V.int).set x (V.int sr))) (bk_in (w := w) (fs := fs) (i := 3) rfl)
    rw [← List.map_set] at S2 k2 ⊢
    generalize upd H1 B.ho (.lst ((w.ho.set x sr).map V.int)) = H2 at S2 k2 ⊢
    refine ⟨_, rfl, _, rfl, _, rfl, B.st, _, _, x, rfl, rfl, S2.F.get 4 rfl, ixN_nat rfl (by rw [List.length_map]; exact hx3), ?_⟩
    have S3 := S2.put 4 (o' := .lst ((w.st.map V.int).set x (V.int sr))) rfl
    have k3 := k2.own (o := .lst ((w.st.map V.int).set x (V.int sr))) (bk_in (w := w) (fs := fs) (i := 4) rfl)
    rw [← List.map_set] at S3 k3 ⊢
    generalize upd H2 B.st (.lst ((w.st.set x sr).map V.int)) = H3 at S3 k3 ⊢
    refine ⟨_, rfl, _, rfl, _, rfl, B.ow, _, rfl, DPut.k (k := Sum.inl (x : Int)) (S3.F.get 7 rfl) (small1000 (by omega)), ?_⟩
    exact k _ (S3.put 7 (o' := .dK (putK w.ow (Sum.inl (x : Int)) (.int o))) rfl) (k3.own (bk_in (w := w) (fs := fs) (i := 7) rfl))
/-! ### _law_due_block -/
def letP (kd : List Int) (kind : Int) (bs : List Int) (x : Int) : Bool := decide ((kd[x.toNat]?).getD 0 = 0) && (decide (kind = 1) || decide (x ∉ bs))
def letB (kd : List Int) (kind : Int) (bs : List Int) : List Int := (rng 10 14).filter (letP kd kind bs)
theorem letB_eq {i : Nat} {v : IV} {w : BV} (A : Agr i v w) {kind : Int} {bs : List Int} (hk : kind = 1 ∨ kind = 2) : letL 24 5 v.M kind bs = letB w.kd kind bs := by
  unfold letL letB
  rw [A.free]
  rcases hk with rfl | rfl
  · rw [if_neg (by decide)]
    refine filt_congr fun x _ => ?_
    simp [letP]
  · rw [if_pos rfl, List.filter_filter]
    refine filt_congr fun x _ => ?_
    simp [letP, Bool.and_comm]
def dueV (kd : List Int) (kind wi : Int) (bs : List Int) : Int := (pickL (letB kd kind bs) wi).getD (-1)
def sp_Ldue : Sp := fun vs H Q _ => ∃ (B : Bk) (w : BV) (fa : Addr) (fs : List Int) (kind wi : Int) (q : Addr) (bs : List Int), vs = [.ref B.bk, .int kind, .int wi, .ref q] ∧ Fr (bkL B w fa fs) H ∧ H q = some (.lst (bs.map V.int)) ∧ w.kd.length = 24 ∧
  ∀ H', Same H H' → Q (.int (dueV w.kd kind wi bs)) H'
theorem ok_Ldue (T : Tx K mg) : FnOk P w0_ K mg base CX0 1 T.f_Ldue_block T.fd_Ldue_block ["_law_book", "_law_kind", "_law_wish", "_law_barred"] sp_Ldue := by
  refine T.F_Ldue_block.ok sc_Ldue_block (fun vs H Q E h => ?_) (fun cdv A0 outer s H vs Q E hr h => ?_)
  · obtain ⟨_, _, _, _, _, _, _, _, rfl, _⟩ := h; rfl
  · obtain ⟨B, w, fa, fs, kind, wi, q, bs, rfl, F, hq, hkl, k⟩ := h
    refine ⟨_, (pss_cons (ps_setLc (i := 4) (own := [("_law_x", 5)]) (g := gName 5) (tt := _) rfl sc_Ldue_block.nd rfl rfl (sw_true rfl rfl rfl (by decide +kernel)) (pi_range2 rfl T.b_range (pa_cons pe_int (pa_cons pe_int pa_nil))) (blkOk_by (N := ["_law_book", "_law_kind", "_law_wish", "_law_barred", "_law_let", "_law_x", "_law_later"]) (sc := defScope s_Ldue_block) (by decide +kernel)) (fun _ _ _ _ _ => pg_name (i := 5) sc_Ldue_block.nd rfl (Or.inl rfl)) (fun _ _ _ _ _ => pts_one (PW.pt (pw_and (pt_cmpR op_eq (pe_ixK (K := K) (pe_ixK (K := K) (pv 0) pe_int (fun _ _ => rfl)) (pv 5) (fun _ _ => rfl)) pe_int (nomark _)) (pw_and1 (PW.pt (pw_or (pt_cmpR op_eq (pv 1) pe_int (nomark _)) (pw_or1 (pt_cmpR (op_notInK (K := K)) (pv 5) (pv 3) rfl)))))))) (fun _ _ _ _ _ => (pv 5)))
      (pss_cons (ps_if (pt_cmpR op_eq (pe_callB call_len_seq rfl T.b_len (by decide +kernel) (pa_cons (pv 4) pa_nil)) pe_int (nomark _))
        (pss_one (ps_ret (pe_un un_neg pe_int)))
        pss_nil)
      (pss_cons (ps_setLc (i := 6) (own := [("_law_x", 5)]) (g := gName 5) (tt := _) rfl sc_Ldue_block.nd rfl rfl (sw_true rfl rfl rfl (by decide +kernel)) (pi_list (pv 4)) (blkOk_by (N := ["_law_book", "_law_kind", "_law_wish", "_law_barred", "_law_let", "_law_x", "_law_later"]) (sc := defScope s_Ldue_block) (by decide +kernel)) (fun _ _ _ _ _ => pg_name (i := 5) sc_Ldue_block.nd rfl (Or.inl rfl)) (fun _ _ _ _ _ => pts_one (pt_cmpR op_ge (pv 5) (pv 2) (nomark _))) (fun _ _ _ _ _ => (pv 5)))
      (pss_cons (ps_if (pt_cmpR op_gt (pe_callB call_len_seq rfl T.b_len (by decide +kernel) (pa_cons (pv 6) pa_nil)) pe_int (nomark _))
        (pss_one (ps_ret (pe_ix ix_list (pv 6) pe_int (fun _ _ => rfl))))
        pss_nil)
      (pss_one (ps_ret (pe_ix ix_list (pv 4) pe_int (fun _ _ => rfl)))))))), ?_⟩
    have hll : (letB w.kd kind bs).length < 1000 := by
      have : (letB w.kd kind bs).length ≤ 14 := filt_len (Nat.le_of_eq rng_len)
      omega
    have h14 : (rng 10 14).length < 1000 := by rw [rng_len]; decide
    refine ⟨10, 24, rfl, ⟨by decide, by decide, by decide, by decide⟩, fun D hD => ?_⟩
    refine lc_range (lo := 10) (n := ((24 : Int) - 10).toNat) (PvF H D (rng 10 14) (letP w.kd kind bs)) (PvF.start hD) ?_ ?_
    · rintro i H' hi Pv
      have hi : i < 14 := hi
      have hx := rng_get (lo := 10) hi
      have hil : 10 + i < w.kd.length := by omega
      have ek : (w.kd[(10 + (i : Int)).toNat]?).getD 0 = w.kd[10 + i] := by
        rw [show (10 + (i : Int)).toNat = 10 + i by omega, List.getElem?_eq_getElem hil]
        rfl
      have F' := F.same Pv.1
      refine ⟨rfl, ?_⟩
      refine ⟨_, rfl, B.bk, _, 0, .ref B.kd, rfl, rfl, .of (F'.get 1 rfl), atI_nat (j := 0) rfl, _, rfl, B.kd, _, _, _, rfl, rfl, .of (F'.get 2 rfl), at_of (j := 10 + i) (by omega) (by rw [List.getElem?_map, List.getElem?_eq_getElem hil]; rfl), rfl, _, rfl, ?_⟩
      rw [dec_iv]
      by_cases e1 : w.kd[10 + i] = 0
      · rw [decide_eq_true e1]
        refine iteT ⟨_, rfl, rfl, _, rfl, ?_⟩
        rw [dec_iv]
        by_cases e2 : kind = 1
        · rw [decide_eq_true e2]
          exact iteT (iteT ⟨_, rfl, Pv.yes hD (Same.refl _) hx h14 (by unfold letP; rw [ek, e1, decide_eq_true e2]; rfl)⟩)
        · rw [decide_eq_false e2]
          refine iteF ⟨_, rfl, _, rfl, q, _, rfl, .inl (.of (Pv.1 _ _ hq)), rfl, flat_ints _, _, rfl, ?_⟩
          rw [inV_int]
          by_cases hb : (10 + (i : Int)) ∈ bs
          · rw [decide_eq_true hb]
            exact iteF (Pv.no (Same.refl _) hx (by unfold letP; rw [ek, e1, decide_eq_false e2]; simp [hb]))
          · rw [decide_eq_false hb]
            exact iteT ⟨_, rfl, Pv.yes hD (Same.refl _) hx h14 (by unfold letP; rw [ek, e1, decide_eq_false e2]; simp [hb])⟩
      · rw [decide_eq_false e1]
        exact iteF (Pv.no (Same.refl _) hx (by unfold letP; rw [ek, decide_eq_false e1]; rfl))
    intro H1 Pv
    obtain ⟨S1, e1⟩ := Pv.all (by rw [rng_len]; rfl)
    change H1 D = some (.lst ((letB w.kd kind bs).map V.int)) at e1
    refine ⟨_, rfl, D, _, rfl, .inl (.of e1), rfl, _, rfl, ite2 (fun z => ?_) (fun z => ?_)⟩
    · have z' := V.int.inj (of_decide_eq_true z)
      rw [List.length_map] at z'
      have hn : letB w.kd kind bs = [] := List.length_eq_zero_iff.mp (by omega)
      have := k H1 S1
      unfold dueV pickL at this
      rw [hn] at this
      exact ⟨_, rfl, this⟩
    · have hne : letB w.kd kind bs ≠ [] := fun q => z (decide_eq_true (by rw [q]; rfl))
      refine ⟨_, rfl, D, rfl, ⟨_, .of e1⟩, fun G hG => ?_⟩
      refine lc_list (K := K) (a := D) (xs := (letB w.kd kind bs).map V.int) (PvF H1 G (letB w.kd kind bs) (fun x => decide (wi ≤ x))) (PvF.start hG) (fun i H3 _ Pv => .of (Pv.1 _ _ e1)) ?_ ?_
      · rintro i y H3 hi Pv
        rw [List.getElem?_map] at hi
        obtain ⟨x, hx, rfl⟩ := Option.map_eq_some_iff.mp hi
        refine ⟨rfl, ?_⟩
        refine ⟨_, rfl, _, rfl, _, _, rfl, rfl, _, rfl, ?_⟩
        by_cases hb : x ≥ wi
        · rw [decide_eq_true hb]
          exact iteT ⟨_, rfl, Pv.yes hG (Same.refl _) hx hll (decide_eq_true hb)⟩
        · rw [decide_eq_false hb]
          exact iteF (Pv.no (Same.refl _) hx (decide_eq_false hb))
      · intro H3 Pv
        obtain ⟨S3, e3⟩ := Pv.all (by rw [List.length_map])
        have e1' := S3 _ _ e1
        have kk := k H3 (S1.trans S3)
        unfold dueV pickL at kk
        refine ⟨_, rfl, G, _, rfl, .inl (.of e3), _, _, rfl, rfl, _, rfl, ite2 (fun z => ?_) (fun z => ?_)⟩
        · have z' := of_decide_eq_true z
          rw [List.length_map] at z'
          cases qf : (letB w.kd kind bs).filter (fun x => decide (wi ≤ x)) with
          | nil =>
            rw [qf] at z'
            exact absurd z' (by decide)
          | cons y rest =>
            rw [qf] at kk
            rw [qf] at e3
            exact ⟨_, rfl, G, _, 0, .int y, rfl, rfl, .of e3, atI_nat (j := 0) rfl, kk⟩
        · cases qf : (letB w.kd kind bs).filter (fun x => decide (wi ≤ x)) with
          | nil =>
            cases q2 : letB w.kd kind bs with
            | nil => exact absurd q2 hne
            | cons y rest =>
              rw [qf, q2] at kk
              rw [q2] at e1'
              exact ⟨_, rfl, D, _, 0, .int y, rfl, rfl, .of e1', atI_nat (j := 0) rfl, kk⟩
          | cons y rest =>
            refine absurd (decide_eq_true ?_) z
            rw [qf]
            show (((rest.map V.int).length + 1 : Nat) : Int) > 0
            omega
/-! ### _law_same -/
def sp_Lsame (CI CP : Addr) : Sp := fun vs H Q _ => ∃ (im : Addr) (A : IA) (v : IV) (b n s : Int) (ka kc kh ks : Addr) (kr : List Addr), vs = [.ref im, .ref ka] ∧ ImgAt CI CP H im A v b n s ∧ H ka = some (.lst [.ref kc, .ref kh, .ref ks]) ∧ Grid H kc kr v.M ∧ H kh = some (.lst (v.ho.map V.int)) ∧ H ks = some (.lst (v.st.map V.int)) ∧
  ∀ H', Same H H' → Q (.bl true) H'
theorem ok_Lsame (T : Tx K mg) : FnOk P w0_ K mg base CX0 1 T.f_Lsame T.fd_Lsame ["_law_image", "_law_kept"] (sp_Lsame T.C_Image T.C_Plan) := by
  refine T.F_Lsame.ok sc_Lsame (fun vs H Q E h => ?_) (fun cdv A0 outer s H vs Q E hr h => ?_)
  · obtain ⟨_, _, _, _, _, _, _, _, _, _, _, rfl, _⟩ := h; rfl
  · obtain ⟨im, A, v, b, n, sl, ka, kc, kh, ks, kr, rfl, I, e1, G, e2, e3, k⟩ := h
    refine ⟨_, (pss_one (ps_ret (pe_and (pe_cmpR (op_eqD hr.units) (pe_fld (pv 0) rfl) (pe_ix ix_list (pv 1) pe_int (fun _ _ => rfl)) (nomark _)) (pe_and (pe_cmpR (op_eqD hr.units) (pe_listof (K := K) (pe_fld (pv 0) rfl) T.b_list) (pe_ix ix_list (pv 1) pe_int (fun _ _ => rfl)) (nomark _)) (pe_one (pe_cmpR (op_eqD hr.units) (pe_listof (K := K) (pe_fld (pv 0) rfl) T.b_list) (pe_ix ix_list (pv 1) pe_int (fun _ _ => rfl)) (nomark _))))))), ?_⟩
    refine ⟨_, rfl, im, _, _, _, _, rfl, I.ob, T.cl_Image, T.na_Image_cells, rfl, _, rfl, ka, _, 0, .ref kc, rfl, rfl, .of e1, atI_nat (j := 0) rfl, dG v.M, dG v.M, dpG I.gr, dpG G, shG _, shG _, _, rfl, ?_⟩
    rw [eqG]
    refine iteT ⟨_, rfl, im, _, _, _, _, rfl, I.ob, T.cl_Image, T.na_Image_holdings, rfl, A.ho, _, rfl, .inl (.of I.ho), fun l nl => ?_⟩
    have s1 := same_upd (o := .lst (v.ho.map V.int)) nl
    refine ⟨_, rfl, ka, _, 1, .ref kh, rfl, rfl, .of (s1 _ _ e1), atI_nat (j := 1) rfl, dI v.ho, dI v.ho, dpI upd_same, dpI (s1 _ _ e2), shI _, shI _, _, rfl, ?_⟩
    rw [eqI]
    have I1 := I.keep s1
    have e1' := s1 _ _ e1
    have e3' := s1 _ _ e3
    generalize upd H l (.lst (v.ho.map V.int)) = H1 at I1 s1 e1' e3' ⊢
    refine iteT ⟨_, rfl, im, _, _, _, _, rfl, I1.ob, T.cl_Image, T.na_Image_stamps, rfl, A.st, _, rfl, .inl (.of I1.st), fun l2 nl2 => ?_⟩
    have s2 := same_upd (o := .lst (v.st.map V.int)) nl2
    refine ⟨_, rfl, ka, _, 2, .ref ks, rfl, rfl, .of (s2 _ _ e1'), atI_nat (j := 2) rfl, dI v.st, dI v.st, dpI upd_same, dpI (s2 _ _ e3'), shI _, shI _, ?_⟩
    rw [eqI]
    exact k _ (s1.trans s2)
end
end K88
namespace K88
open PySem PySem.Spec PyProof.Rows L2 Rg
def dP (h t : Int) : PyData := .tuple [.int h, .int t]
theorem dpP {K : PySem.W.Frag} {H : Hp} {a : Addr} {h t : Int} (e : H a = some (.tup [.int h, .int t])) : Dp K H (.ref a) (dP h t) := .tup (.of e) (.cons (.int h) (.cons (.int t) .nil))
theorem shP (h t : Int) : SeqAt.shaped (dP h t) = true := rfl
theorem eqP (h t : Int) : PyData.eqv (dP h t) (dP h t) = true := SeqAt.eqv_refl _ rfl
section
variable {P : Program} {w0_ : World} {K : PySem.W.Frag} {mg : Str → Option Value} {base : Heap}
def sp_Lagrees (CI CP : Addr) : Sp := fun vs H Q _ => ∃ (i : Nat) (im : Addr) (A : IA) (v : IV) (s : Int) (B : Bk) (w : BV) (fa : Addr) (fs : List Int), vs = [.ref im, .ref B.bk] ∧ SI CI CP H im A v 24 5 s (bkL B w fa fs) ∧ Agr i v w ∧ ∀ H', Same H H' → Q (.bl true) H'
theorem ok_Lagrees (T : Tx K mg) : FnOk P w0_ K mg base CX0 4 T.f_Lagrees T.fd_Lagrees ["_law_image", "_law_book"] (sp_Lagrees T.C_Image T.C_Plan) := by
  refine T.F_Lagrees.ok sc_Lagrees (fun vs H Q E h => ?_) (fun cdv A0 outer s H vs Q E hr h => ?_)
  · obtain ⟨_, _, _, _, _, _, _, _, _, rfl, _⟩ := h; rfl
  · obtain ⟨stp, im, A, v, sl, B, w, fa, fs, rfl, S, G, k⟩ := h
    have hr1 : Room 1 _ := hr.mono (by decide)
    have hr2 : Room 2 _ := hr.mono (by decide)
    refine ⟨_, (pss_cons (ps_asg (pv 1) (pg_lst rfl (pgs_cons (pg_name (i := 2) sc_Lagrees.nd rfl (.inr rfl)) (pgs_cons (pg_name (i := 3) sc_Lagrees.nd rfl (.inl rfl)) (pgs_cons (pg_name (i := 4) sc_Lagrees.nd rfl (.inl rfl)) (pgs_cons (pg_name (i := 5) sc_Lagrees.nd rfl (.inl rfl)) (pgs_cons (pg_name (i := 6) sc_Lagrees.nd rfl (.inl rfl)) (pgs_cons (pg_name (i := 7) sc_Lagrees.nd rfl (.inl rfl)) (pgs_cons (pg_name (i := 8) sc_Lagrees.nd rfl (.inl rfl)) pgs_nil)))))))))
      (pss_cons (ps_if (PW.pt (pw_or (pt_cmpR op_ne (pe_fld (pv 0) rfl) (pe_ix ix_list (pv 8) pe_int (fun _ _ => rfl)) (nomark _)) (pw_or (pt_cmpR (op_neD hr.units) (pe_listof (K := K) (pe_fld (pv 0) rfl) T.b_list) (pv 3) (nomark _)) (pw_or1 (pt_cmpR (op_neD hr.units) (pe_listof (K := K) (pe_fld (pv 0) rfl) T.b_list) (pv 4) (nomark _))))))
        (pss_one (ps_ret pe_bl))
        pss_nil)
      (pss_cons (ps_if (pt_cmpR (op_neD hr.units) (pe_listof (K := K) (pe_ix ix_list (pe_fld (pv 0) rfl) pe_int (fun _ _ => rfl)) T.b_list) (pe_op op_cat (pv 5) (pv 6)) (nomark _))
        (pss_one (ps_ret pe_bl))
        pss_nil)
      (pss_cons (ps_for PassesOwn.never rfl (pi_range1 rfl T.b_range (pa_cons pe_int pa_nil)) (pg_name (i := 9) sc_Lagrees.nd rfl (.inl rfl))
        (pss_cons (ps_if (PW.pt (pw_or (pt_cmpR op_ne (pe_meth (pv 0) T.cl_Image T.m_Image_kind (ok_Image_kind T) hr2 (b_Image_kind T) .nil pass0 (pa_cons (pv 9) pa_nil)) (pe_ix ix_list (pv 2) (pv 9) (fun _ _ => rfl)) (nomark _)) (pw_or1 (pt_cmpR (op_neD hr.units) (pe_meth (pv 0) T.cl_Image T.m_Image_identity (ok_identity T) hr1 (b_Image_identity T) .nil pass0 (pa_cons (pv 9) pa_nil)) (pe_tup (pa_cons (pe_ix ix_list (pv 3) (pv 9) (fun _ _ => rfl)) (pa_cons (pe_ix ix_list (pv 4) (pv 9) (fun _ _ => rfl)) pa_nil))) (nomark _)))))
          (pss_one (ps_ret pe_bl))
          pss_nil)
        (pss_cons (ps_if (pt_cmpR op_ne (pe_ix ix_list (pe_ix ix_list (pe_fld (pv 0) rfl) (pe_op op_add pe_int (pe_op op_fdiv (pv 9) pe_int)) (fun _ _ => rfl)) (pe_op op_sub (pv 9) (pe_op op_mul pe_int (pe_op op_fdiv (pv 9) pe_int))) (fun _ _ => rfl)) (pe_ix ix_list (pv 2) (pv 9) (fun _ _ => rfl)) (nomark _))
          (pss_one (ps_ret pe_bl))
          pss_nil)
        (pss_one (ps_if (PW.pt (pw_and (pt_cmpR op_ge (pv 9) pe_int (nomark _)) (pw_and (pt_cmpR op_eq (pe_ix ix_list (pv 2) (pv 9) (fun _ _ => rfl)) pe_int (nomark _)) (pw_and1 (pt_cmpR (op_neD hr.units) (pe_listof (K := K) (pe_ix ix_list (pe_fld (pv 0) rfl) (pv 9) (fun _ _ => rfl)) T.b_list) (pe_lst (pa_cons pe_int (pa_cons pe_int (pa_cons pe_int (pa_cons pe_int (pa_cons pe_int (pa_cons pe_int (pa_cons pe_int (pa_cons pe_int pa_nil))))))))) (nomark _))))))
          (pss_one (ps_ret pe_bl))
          pss_nil)))))
      (pss_cons (ps_set (i := 10) sc_Lagrees.nd rfl (.inl rfl) (pe_meth0 (pv 0) T.cl_Image T.m_Image_free_blocks (ok_free_blocks T) hr (b_Image_free_blocks T) .nil pass0))
      (pss_one (ps_ret (pe_and (pe_callB call_isi rfl T.b_isinstance (by decide +kernel) (pa_cons (pv 10) (pa_cons (pe_bltn (v := .ty "list") rfl T.b_list (by decide +kernel) rfl) pa_nil))) (pe_one (pe_cmpR (op_eqD hr.units) (pv 10) (pe_lc rfl (own := [("_law_x", 9)]) (g := gName 9) (tt := _) sc_Lagrees.nd (pi_range2 rfl T.b_range (pa_cons pe_int (pa_cons pe_int pa_nil))) (blkOk_by (N := ["_law_image", "_law_book", "_law_kinds", "_law_holdings", "_law_stamps", "_law_used", "_law_limits", "_law_owners", "_law_serial", "_law_x", "_law_free"]) (sc := defScope s_Lagrees) (by decide +kernel)) (fun _ _ _ _ _ => pg_name (i := 9) sc_Lagrees.nd rfl (Or.inl rfl)) (fun _ _ _ _ _ => pts_one (pt_cmpR op_eq (pe_ixK (K := K) (pv 2) (pv 9) (fun _ _ => rfl)) pe_int (nomark _))) (fun _ _ _ _ _ => (pv 9))) (nomark _))))))))))), ?_⟩
    have L := S.I.l24
    refine ⟨_, rfl, B.bk, _, rfl, .of (S.F.get 1 rfl), rfl, _, _, rfl, _, _, rfl, _, _, rfl, _, _, rfl, _, _, rfl, _, _, rfl, _, _, rfl, rfl, ?_⟩
    -- serial, holdings, stamps
    refine ⟨_, rfl, im, _, _, _, _, rfl, S.I.ob, T.cl_Image, T.na_Image_serial, rfl, _, rfl, B.se, _, 0, .int w.se, rfl, rfl, .of (S.F.get 8 rfl), atI_nat (j := 0) rfl, rfl, _, rfl, ?_⟩
    rw [dec_iv, G.se, decide_eq_true rfl]
    refine iteF ⟨_, rfl, im, _, _, _, _, rfl, S.I.ob, T.cl_Image, T.na_Image_holdings, rfl, A.ho, _, rfl, .inl (.of S.I.ho), fun l1 n1 => ?_⟩
    have s1 := same_upd (o := .lst (v.ho.map V.int)) n1
    have S1 := S.same s1
    have fh1 := S1.F.get 3 (a := B.ho) rfl
    rw [G.ho] at fh1
    refine ⟨_, rfl, dI v.ho, dI v.ho, dpI upd_same, dpI fh1, shI _, shI _, _, rfl, ?_⟩
    rw [eqI]
    generalize upd H l1 (.lst (v.ho.map V.int)) = H1 at s1 S1 ⊢
    refine iteF ⟨_, rfl, im, _, _, _, _, rfl, S1.I.ob, T.cl_Image, T.na_Image_stamps, rfl, A.st, _, rfl, .inl (.of S1.I.st), fun l2 n2 => ?_⟩
    have s2 := s1.trans (same_upd (o := .lst (v.st.map V.int)) n2)
    have S2 := S.same s2
    have fs2 := S2.F.get 4 (a := B.st) rfl
    rw [G.st] at fs2
    refine ⟨_, rfl, dI v.st, dI v.st, dpI upd_same, dpI fs2, shI _, shI _, _, rfl, ?_⟩
    rw [eqI]
    generalize upd H1 l2 (.lst (v.st.map V.int)) = H2 at s2 S2 ⊢
    -- the sums
    obtain ⟨r, m, r1, r2, r3, r4⟩ := S2.I.row0
    obtain rfl : w.us ++ w.li = m := Option.some.inj (G.r0.symm.trans r2)
    refine iteF ⟨_, rfl, im, _, _, _, _, rfl, S2.I.ob, T.cl_Image, T.na_Image_cells, rfl, A.ca, _, _, .ref r, rfl, rfl, .of S2.I.gr.out, at_of (j := 0) rfl (by rw [List.getElem?_map, r1]; rfl), r, _, rfl, .inl (.of r4), fun l3 n3 => ?_⟩
    have s3' := same_upd (o := .lst ((w.us ++ w.li).map V.int)) n3
    have s3 := s2.trans s3'
    have S3 := S.same s3
    have e3 : upd H2 l3 (.lst ((w.us ++ w.li).map V.int)) l3 = some (.lst ((w.us ++ w.li).map V.int)) := upd_same
    generalize upd H2 l3 (.lst ((w.us ++ w.li).map V.int)) = H3 at s3 S3 e3 ⊢
    refine ⟨_, rfl, _, rfl, B.us, B.li, _, _, rfl, rfl, S3.F.get 5 rfl, S3.F.get 6 rfl, ?_, fun l4 n4 => ?_⟩
    · rw [List.length_map, List.length_map, G.us4, G.li4]
      show 8 ≤ sizeLine
      decide
    rw [← List.map_append]
    have s4' := same_upd (o := .lst ((w.us ++ w.li).map V.int)) n4
    have s4 := s3.trans s4'
    have S4 := S.same s4
    refine ⟨dI _, dI _, dpI (s4' _ _ e3), dpI upd_same, shI _, shI _, _, rfl, ?_⟩
    rw [eqI]
    generalize upd H3 l4 (.lst ((w.us ++ w.li).map V.int)) = H4 at s4 S4 ⊢
    refine iteF ⟨24, rfl, by decide, by decide, for_range (lo := 0) (n := (24 : Int).toNat) (fun i σ H' => ∃ u9 : Option V, σ = [some (.ref im), some (.ref B.bk), some (.ref B.kd), some (.ref B.ho), some (.ref B.st), some (.ref B.us), some (.ref B.li), some (.ref B.ow), some (.ref B.se), u9, none] ∧ Same H H') ⟨_, rfl, s4⟩ ?_ ?_⟩
    · rintro i σ H' hi ⟨u9, rfl, s5⟩
      have hi : i < 24 := hi
      have ez : (0 : Int) + (i : Int) = (i : Int) := by omega
      rw [ez]
      have S5 := S.same s5
      have hik : i < w.kd.length := by rw [G.kl]; exact hi
      have hih : i < v.ho.length := by rw [L.h]; exact hi
      have his : i < v.st.length := by rw [L.s]; exact hi
      have atk : atI (w.kd.map V.int) (i : Int) = some (.int w.kd[i]) := atI_nat (by rw [List.getElem?_map, List.getElem?_eq_getElem hik]; rfl)
      have ek : kindOf 24 5 v.M (i : Int) = w.kd[i] := by
        rw [G.kind hi, List.getElem?_eq_getElem hik]
        rfl
      refine ⟨_, rfl, im, _, _, rfl, S5.I.ob, rfl, _, rfl, im, A, v, 24, 5, sl, _, rfl, S5.I, by omega, by omega, fun H6 s6' => ?_⟩
      have s6 := s5.trans s6'
      have S6 := S.same s6
      refine ⟨_, rfl, _, rfl, B.kd, _, _, _, rfl, rfl, .of (S6.F.get 2 rfl), atk, rfl, _, rfl, ?_⟩
      rw [dec_iv, ek, decide_eq_true rfl]
      refine iteF ⟨_, rfl, im, _, _, rfl, S6.I.ob, rfl, _, rfl, im, A, v, 24, 5, sl, i, _, _, rfl, S6.I, List.getElem?_eq_getElem hih, List.getElem?_eq_getElem his, fun q nq => ?_⟩
      have s7' := same_upd (o := .tup [.int v.ho[i], .int v.st[i]]) nq
      have s7 := s6.trans s7'
      have S7 := S.same s7
      have e7 : upd H6 q (.tup [.int v.ho[i], .int v.st[i]]) q = some (.tup [.int v.ho[i], .int v.st[i]]) := upd_same
      generalize upd H6 q (.tup [.int v.ho[i], .int v.st[i]]) = H7 at s7 S7 e7 ⊢
      have fh := S7.F.get 3 (a := B.ho) rfl
      have fst_ := S7.F.get 4 (a := B.st) rfl
      rw [G.ho] at fh
      rw [G.st] at fst_
      refine ⟨_, rfl, _, rfl, B.ho, _, _, _, rfl, rfl, .of fh, atI_nat (by rw [List.getElem?_map, List.getElem?_eq_getElem hih]; rfl), ?_⟩
      refine ⟨_, rfl, _, rfl, B.st, _, _, _, rfl, rfl, .of fst_, atI_nat (by rw [List.getElem?_map, List.getElem?_eq_getElem his]; rfl), (by show 2 ≤ sizeLine; decide), fun q2 nq2 => ?_⟩
      have s8' := same_upd (o := .tup [.int v.ho[i], .int v.st[i]]) nq2
      have s8 := s7.trans s8'
      have S8 := S.same s8
      refine ⟨dP _ _, dP _ _, dpP (s8' _ _ e7), dpP upd_same, shP _ _, shP _ _, _, rfl, ?_⟩
      rw [eqP]
      generalize upd H7 q2 (.tup [.int v.ho[i], .int v.st[i]]) = H8 at s8 S8 ⊢
      -- the map
      have hM := L.m
      have hml : 2 + i / 8 < v.M.length := by omega
      obtain ⟨rm, rm1, rm2, _⟩ := S8.I.gr.get (List.getElem?_eq_getElem hml)
      have l8 := L.r _ (List.getElem_mem hml)
      have hmc : i % 8 < (v.M[2 + i / 8]).length := by omega
      have ec : (v.M[2 + i / 8])[i % 8] = w.kd[i] := by
        have := G.mp i hi
        rw [cellAt_of (List.getElem?_eq_getElem hml) (List.getElem?_eq_getElem hmc), List.getElem?_eq_getElem hik] at this
        exact this
      refine iteF ⟨_, rfl, im, _, _, _, _, rfl, S8.I.ob, T.cl_Image, T.na_Image_cells, rfl, _, rfl, _, _, rfl, rfl, ⟨by decide, by decide⟩, _, _, rfl, rfl, A.ca, _, _, .ref rm, rfl, rfl, .of S8.I.gr.out, at_of (j := 2 + i / 8) (by omega) (by rw [List.getElem?_map, rm1]; rfl), ?_⟩
      refine ⟨_, rfl, _, rfl, _, _, rfl, rfl, ⟨by decide, by decide⟩, _, _, rfl, rfl, .inl ⟨by decide, by decide⟩, _, _, rfl, rfl, rm, _, _, _, rfl, rfl, .of rm2, at_of (j := i % 8) (by omega) (by rw [List.getElem?_map, List.getElem?_eq_getElem hmc]; rfl), ?_⟩
      refine ⟨_, rfl, _, rfl, B.kd, _, _, _, rfl, rfl, .of (S8.F.get 2 rfl), atk, rfl, _, rfl, ?_⟩
      rw [dec_iv, ec, decide_eq_true rfl]
      -- zeros
      refine iteF ⟨_, rfl, _, _, rfl, rfl, _, rfl, ?_⟩
      by_cases q1 : (i : Int) ≥ 10
      · rw [decide_eq_true q1]
        refine iteT ⟨_, rfl, _, rfl, B.kd, _, _, _, rfl, rfl, .of (S8.F.get 2 rfl), atk, rfl, _, rfl, ?_⟩
        rw [dec_iv]
        by_cases q2 : w.kd[i] = 0
        · rw [decide_eq_true q2]
          have hz := G.z i (by omega) (by rw [List.getElem?_eq_getElem hik, q2])
          obtain ⟨rz, rz1, rz2, _⟩ := S8.I.gr.get hz
          refine iteT ⟨_, rfl, im, _, _, _, _, rfl, S8.I.ob, T.cl_Image, T.na_Image_cells, rfl, _, rfl, A.ca, _, _, .ref rz, rfl, rfl, .of S8.I.gr.out, atI_nat (by rw [List.getElem?_map, rz1]; rfl), rz, _, rfl, .inl (.of rz2), fun l5 n5 => ?_⟩
          have s9' := same_upd (o := .lst ((List.replicate 8 (0 : Int)).map V.int)) n5
          refine ⟨(by show 8 ≤ sizeLine; decide), fun l6 n6 => ?_⟩
          have s10' := same_upd (o := .lst [V.int 0, V.int 0, V.int 0, V.int 0, V.int 0, V.int 0, V.int 0, V.int 0]) n6
          refine ⟨dI (List.replicate 8 0), dI (List.replicate 8 0), dpI (s10' _ _ upd_same), dpI upd_same, shI _, shI _, _, rfl, ?_⟩
          rw [eqI]
          exact iteF ⟨_, rfl, (s8.trans s9').trans s10'⟩
        · rw [decide_eq_false q2]
          exact iteF ⟨_, rfl, s8⟩
      · rw [decide_eq_false q1]
        exact iteF ⟨_, rfl, s8⟩
    rintro σ H5 ⟨u9, rfl, s5⟩
    have S5 := S.same s5
    refine ⟨_, rfl, im, _, _, rfl, S5.I.ob, rfl, im, A, v, 24, 5, sl, rfl, S5.I, fun H6 p s6' np ep => ?_⟩
    have s6 := s5.trans s6'
    have S6 := S.same s6
    refine ⟨_, rfl, _, _, _, _, true, rfl, .ty _, .base (.lst ep), kit_ty (by decide +kernel), _, rfl, iteT ⟨_, rfl, 10, 24, rfl, ⟨by decide, by decide, by decide, by decide⟩, fun D hD => ?_⟩⟩
    have h14 : (rng 10 14).length < 1000 := by rw [rng_len]; decide
    refine lc_range (lo := 10) (n := ((24 : Int) - 10).toNat) (PvF H6 D (rng 10 14) (fun x => decide ((w.kd[x.toNat]?).getD 0 = 0))) (PvF.start hD) ?_ ?_
    · rintro i H' hi Pv
      have hi : i < 14 := hi
      have hx := rng_get (lo := 10) hi
      have hkl := G.kl
      have hil : 10 + i < w.kd.length := by omega
      have ek : (w.kd[(10 + (i : Int)).toNat]?).getD 0 = w.kd[10 + i] := by
        rw [show (10 + (i : Int)).toNat = 10 + i by omega, List.getElem?_eq_getElem hil]
        rfl
      have F' := S6.F.same Pv.1
      refine ⟨rfl, ?_⟩
      refine ⟨_, rfl, _, rfl, B.kd, _, _, _, rfl, rfl, .of (F'.get 2 rfl), at_of (j := 10 + i) (by omega) (by rw [List.getElem?_map, List.getElem?_eq_getElem hil]; rfl), rfl, _, rfl, ?_⟩
      rw [dec_iv]
      by_cases e1 : w.kd[10 + i] = 0
      · rw [decide_eq_true e1]
        exact iteT ⟨_, rfl, Pv.yes hD (Same.refl _) hx h14 (by rw [ek, e1]; rfl)⟩
      · rw [decide_eq_false e1]
        exact iteF (Pv.no (Same.refl _) hx (by rw [ek, decide_eq_false e1]))
    intro H7 Pv
    obtain ⟨s7, e7⟩ := Pv.all (by rw [rng_len]; rfl)
    rw [← G.free] at e7
    refine ⟨dI _, dI _, dpI (s7 _ _ ep), dpI e7, shI _, shI _, ?_⟩
    rw [eqI]
    exact k _ (s6.trans s7)
end
end K88
namespace K88
open PySem PySem.Spec PyProof.Rows L2 Rg
section
variable {X : Cx} {CX : CXT} {k : Nat} {f C : Addr} {fd : FuncData} {ps : List Str} {sp : Sp} {E : L2.St → XK} {m : Str} {p pos apos : Pos} {e o : Expr} {es : List Expr} {ta : TE} {t : TA}
/-- o.m(e, ..), what the body raises told slot by slot -/
def tMethS (C : Addr) (m : Str) (sp : Sp) (E : L2.St → XK) (ta : TE) (t : TA) : TE := fun σ H Q => ta σ H fun x H1 => ∃ a dx fs, x = .ref a ∧ H1 a = some (.ins C dx fs) ∧ fs.lookup m = none ∧ t σ H1 fun vs H2 => sp (.ref a :: vs) H2 Q (E σ)
theorem pe_methT {pl : Sem Bool} (he : PE X o ta) (c : Cls X.K C) (hm : Meth X.K C m f) (F : FnOk X.prog X.w X.K X.mg X.base CX k f fd ps sp) (hr : Room k X.A) (hb : Binds X.K fd ps []) (hx : ∀ σ, PassesAt CX X σ (E σ)) (ha : PA X (e :: es) t)
    (hst : starEach (e :: es) X.env = (false, eval e X.env) :: starEach es X.env := by rfl) (hpl : (backTo pos (starEach es X.env)).any (·.1) = false := by rfl)
    (ht : eval (.Call (.Attribute o m apos) (e :: es) [] pos) X.env = (do
      let ov ← eval o X.env
      standAt apos.atName
      let (f, first) ← holding [ov] (getMethod ov m pl)
      callWith pos f first (backTo pos (starEach (e :: es) X.env)) (backToKw pos (keywordEach [] X.env))) := by rfl) :
    PE X (.Call (.Attribute o m apos) (e :: es) [] pos) (tMethS C m sp E ta t) := by
  refine ⟨fun pins s σ H Q I h => ?_⟩
  refine PySem.W.methodCall_KW (pl := pl) (thn (he.run pins s σ H _ I h) fun u s1 ⟨x, H1, I1, rx, a, dx, fs, ex, ea, l, q⟩ => ?_) ht
  subst ex
  obtain rfl : u = Value.ref a := rx
  refine getmeth_ok I1 ea c hm l ?_
  refine PySem.W.callWith_K (first := [.ref a]) (h₀ := X.base) I.ok.mod.kin hm.kp (thn (ha.run pos pins s1 σ H1 _ I1 q) fun us s2 ⟨vs, H2, I2, r, q2⟩ => ⟨I2.kIn, ?_⟩) hst hpl
  exact run_fnS (us := .ref a :: us) (vs := .ref a :: vs) F hr hb (hx σ) I2 (.cons rfl r) q2
def tEither (t u : TS) : TS := fun E σ H => t E σ H ∨ u E σ H
theorem pss_either {sts : List Stmt} {t u : TS} (h1 : PSs X sts t) (h2 : PSs X sts u) : PSs X sts (tEither t u) := ⟨fun pins s σ H E I hh => hh.elim (h1.run pins s σ H E I) (h2.run pins s σ H E I)⟩
end
section
variable {P : Program} {w0_ : World} {K : PySem.W.Frag} {mg : Str → Option Value} {base : Heap}
theorem ne_cls (T : Tx K mg) : T.C_OverQuota ≠ T.C_BlocksFull := fun e => by
  have h1 := T.sub_OverQuota_OverQuota
  have h2 := T.sub_OverQuota_BlocksFull
  rw [← e, h1] at h2
  cases h2
def sp_Lrefuses (CI CP : Addr) : Sp := fun vs H Q _ => ∃ (im : Addr) (A : IA) (v : IV) (s kind : Int) (o : Nat) (qb : Bool), vs = [.ref im, .int kind, .int o, .bl qb] ∧ ImgAt CI CP H im A v 24 5 s ∧ o < 4 ∧ (cellAt v.M 0 o).natAbs.log2 < 1920 ∧ (qb = true ↔ quota v o) ∧ (quota v o ∨ letL 24 5 v.M kind v.ba = []) ∧ ∀ H', Same H H' → Q (.bl true) H'
theorem ok_Lrefuses (T : Tx K mg) : FnOk P w0_ K mg base CX0 5 T.f_Lrefuses T.fd_Lrefuses ["_law_image", "_law_kind", "_law_owner", "_law_quota"] (sp_Lrefuses T.C_Image T.C_Plan) := by
  refine T.F_Lrefuses.ok sc_Lrefuses (fun vs H Q E h => ?_) (fun cdv A0 outer s H vs Q E hr h => ?_)
  · obtain ⟨_, _, _, _, _, _, _, rfl, _⟩ := h; rfl
  · obtain ⟨im, A, v, sl, kind, o, qb, rfl, I, ho, hlg, hqb, hor, k⟩ := h
    refine ⟨_, (pss_cons (ps_try_as (i := 4) rfl rfl sc_Lrefuses.nd rfl rfl ⟨rfl, by decide, .inl T.mg_Refused⟩ takes0
        (fun W pn xe tk _ => pss_one (ps_expr (by exact (pe_methT (pv 0) T.cl_Image T.m_Image_take (ok_take T) hr (b_Image_take T) (fun σ => passAt tk σ) (by exact (pa_cons (pv 1) (pa_cons (pv 2) pa_nil)))))))
        (fun a oe cls d pn hz hf => pss_either
          (pss_only (cls := cls) (d := d) (D := T.C_OverQuota) fun e1 e2 => by
            subst e1
            subst e2
            exact pss_cons (ps_if (pt_val (pv 3))
              (pss_one (ps_ret (pe_and (pe_callB (call_isE T.ec_OverQuota hz hf) rfl T.b_isinstance (by decide +kernel) (pa_cons (pv 4) (pa_cons (pe_glob (v := .ref T.C_OverQuota) rfl T.mg_OverQuota rfl) pa_nil))) (pe_one (pe_not (pe_callB (call_isE T.ec_OverQuota hz hf) rfl T.b_isinstance (by decide +kernel) (pa_cons (pv 4) (pa_cons (pe_glob (v := .ref T.C_BlocksFull) rfl T.mg_BlocksFull rfl) pa_nil))))))))
              pss_nil)
              (pss_one (ps_ret (pe_and (pe_callB (call_isE T.ec_OverQuota hz hf) rfl T.b_isinstance (by decide +kernel) (pa_cons (pv 4) (pa_cons (pe_glob (v := .ref T.C_BlocksFull) rfl T.mg_BlocksFull rfl) pa_nil))) (pe_one (pe_not (pe_callB (call_isE T.ec_OverQuota hz hf) rfl T.b_isinstance (by decide +kernel) (pa_cons (pv 4) (pa_cons (pe_glob (v := .ref T.C_OverQuota) rfl T.mg_OverQuota rfl) pa_nil)))))))))
          (pss_only (cls := cls) (d := d) (D := T.C_BlocksFull) fun e1 e2 => by
            subst e1
            subst e2
            exact pss_cons (ps_if (pt_val (pv 3))
              (pss_one (ps_ret (pe_and (pe_callB (call_isE T.ec_BlocksFull hz hf) rfl T.b_isinstance (by decide +kernel) (pa_cons (pv 4) (pa_cons (pe_glob (v := .ref T.C_OverQuota) rfl T.mg_OverQuota rfl) pa_nil))) (pe_one (pe_not (pe_callB (call_isE T.ec_BlocksFull hz hf) rfl T.b_isinstance (by decide +kernel) (pa_cons (pv 4) (pa_cons (pe_glob (v := .ref T.C_BlocksFull) rfl T.mg_BlocksFull rfl) pa_nil))))))))
              pss_nil)
              (pss_one (ps_ret (pe_and (pe_callB (call_isE T.ec_BlocksFull hz hf) rfl T.b_isinstance (by decide +kernel) (pa_cons (pv 4) (pa_cons (pe_glob (v := .ref T.C_BlocksFull) rfl T.mg_BlocksFull rfl) pa_nil))) (pe_one (pe_not (pe_callB (call_isE T.ec_BlocksFull hz hf) rfl T.b_isinstance (by decide +kernel) (pa_cons (pv 4) (pa_cons (pe_glob (v := .ref T.C_OverQuota) rfl T.mg_OverQuota rfl) pa_nil)))))))))))
      (pss_one (ps_ret pe_bl))), ?_⟩
    refine ⟨_, rfl, im, _, _, rfl, I.ob, rfl, _, rfl, _, rfl, im, A, v, 24, 5, sl, kind, o, rfl, I, ho, hlg, fun hq H' S => ?_, fun hq hn H' S => ?_, fun hq x hp => ?_⟩
    · refine ⟨true, exm_sub T.be_Refused T.ie_Refused T.te_Refused T.sub_OverQuota_Refused, fun _ a ha => .inl ?_, fun q => nomatch q⟩
      refine ⟨rfl, rfl, _, rfl, qb, rfl, ?_⟩
      rw [hqb.mpr hq]
      refine iteT ⟨_, rfl, _, _, true, rfl, fun u hu => hu, kit_self, _, rfl, iteT ⟨_, rfl, _, _, false, rfl, fun u hu => hu, kit_sub (ne_cls T) T.ie_BlocksFull T.te_BlocksFull T.sub_OverQuota_BlocksFull, _, rfl, k H' S⟩⟩
    · refine ⟨true, exm_sub T.be_Refused T.ie_Refused T.te_Refused T.sub_BlocksFull_Refused, fun _ a ha => .inr ?_, fun q => nomatch q⟩
      have hqf : qb = false := by
        cases qb with
        | false => rfl
        | true => exact absurd (hqb.mp rfl) hq
      refine ⟨rfl, rfl, _, rfl, qb, rfl, ?_⟩
      rw [hqf]
      refine iteF ⟨_, rfl, _, _, true, rfl, fun u hu => hu, kit_self, _, rfl, iteT ⟨_, rfl, _, _, false, rfl, fun u hu => hu, kit_sub (ne_cls T).symm T.ie_OverQuota T.te_OverQuota T.sub_BlocksFull_OverQuota, _, rfl, k H' S⟩⟩
    · rcases hor with h | h
      · exact absurd h hq
      · rw [h] at hp
        cases hp
end
end K88
namespace K88
open PySem PySem.Spec PyProof.Rows L2 Rg
/-- where a deed changes an image -/
def IA.ft (A : IA) (im : Addr) : List Addr := im :: A.ca :: A.ho :: A.st :: A.rs
theorem ft_mem {A : IA} {im x : Addr} (h : x ∈ A.ca :: A.ho :: A.st :: A.rs) : x ∈ A.ft im := List.mem_cons_of_mem _ h
/-! ### a twin stays as it is -/
theorem twin_out {H : Hp} {A A0 : IA} {im0 a : Addr} (N : A0.New H) (n0 : H im0 = none) (epl : A0.pl = A.pl) (eba : A0.ba = A.ba) (ha : ∃ o, H a = some o) (h1 : a ≠ A.pl) (h2 : a ≠ A.ba) : a ∉ A0.reads im0 := fun z => by
  obtain ⟨o, e⟩ := ha
  have nn : ∀ x, H x = none → a ≠ x := fun x h q => by rw [q, h] at e; cases e
  simp only [IA.reads, List.mem_cons] at z
  rcases z with z | z | z | z | z | z | z | z
  · exact nn _ n0 z
  · exact h1 (z.trans epl)
  · exact nn _ N.ca z
  · exact nn _ N.ho z
  · exact nn _ N.st z
  · exact nn _ N.hd z
  · exact h2 (z.trans eba)
  · exact nn _ (N.rs a z) rfl
theorem ImgAt.foot_ne {CI CP : Addr} {H : Hp} {im : Addr} {A : IA} {v : IV} {b n s : Int} (I : ImgAt CI CP H im A v b n s) {x : Addr} (hx : x ∈ im :: A.ca :: A.ho :: A.st :: A.rs) : (∃ o, H x = some o) ∧ x ≠ A.pl ∧ x ≠ A.ba := by
  obtain ⟨dxp, hpl⟩ := I.pl.ob
  have hba := I.ba
  simp only [List.mem_cons] at hx
  have lst : ∀ {y : Addr} {ys : List V}, H y = some (.lst ys) → (∃ o, H y = some o) ∧ y ≠ A.pl ∧ y ≠ A.ba := fun e => ⟨⟨_, e⟩, fun z => (by rw [z, hpl] at e; cases e), fun z => (by rw [z, hba] at e; cases e)⟩
  rcases hx with rfl | rfl | rfl | rfl | hx
  · refine ⟨⟨_, I.ob⟩, fun z => ?_, fun z => ?_⟩
    · have e := I.ob
      rw [z, hpl] at e
      have := HO.ins.inj (Option.some.inj e)
      have := this.2.2
      simp [planF, imgF] at this
    · have e := I.ob
      rw [z, hba] at e
      cases e
  · exact lst I.gr.out
  · exact lst I.ho
  · exact lst I.st
  · obtain ⟨i, hi, e2⟩ := List.getElem_of_mem hx
    have hm : i < v.M.length := by rw [← I.gr.len]; exact hi
    exact lst (I.gr.row i x v.M[i] (by rw [List.getElem?_eq_getElem hi, e2]) (List.getElem?_eq_getElem hm))
/-- the image changed at its own places, its new parts apart from the others -/
theorem SI.imgN {CI CP : Addr} {H H' : Hp} {im : Addr} {A A' : IA} {v v' : IV} {b n s : Int} {L : List (Addr × HO)} (S : SI CI CP H im A v b n s L) (I' : ImgAt CI CP H' im A' v' b n s) {F : List Addr} (k : Kp F H H') (hF : ∀ x ∈ F, x ∈ A.reads im) (hr : ∀ x ∈ A'.reads im, x ∈ A.reads im ∨ ∀ p ∈ L, p.1 ≠ x) : SI CI CP H' im A' v' b n s L :=
  ⟨I', S.F.keep fun p hp o e => k _ _ e fun z => S.ap p hp (hF _ z), fun p hp z => by
    rcases hr _ z with e | e
    · exact S.ap p hp e
    · exact e p hp rfl⟩
theorem SI.feed {CI CP : Addr} {H : Hp} {im : Addr} {A : IA} {v : IV} {b n s : Int} {B : Bk} {w : BV} {fa : Addr} {fs : List Int} (S : SI CI CP H im A v b n s (bkL B w fa fs)) (fs' : List Int) : SI CI CP (upd H fa (.lst (fs'.map V.int))) im A v b n s (bkL B w fa fs') := S.put 0 rfl
/-- what a step of the law leaves -/
def Stp (CI CP : Addr) (H : Hp) (im : Addr) (A : IA) (s : Int) (B : Bk) (fa : Addr) (i : Nat) (H' : Hp) : Prop :=
  ∃ (A' : IA) (v' : IV) (w' : BV) (fs' : List Int), SI CI CP H' im A' v' 24 5 s (bkL B w' fa fs') ∧ Agr (i + 1) v' w' ∧ Kp (A.ft im ++ bkA B fa) H H' ∧ ∀ x ∈ A'.reads im, x ∈ A.reads im ∨ H x = none
theorem Agr.us_at {i : Nat} {v : IV} {w : BV} (G : Agr i v w) {o : Nat} (ho : o < 4) : ∃ u l, w.us[o]? = some u ∧ w.li[o]? = some l ∧ cellAt v.M 0 o = u ∧ cellAt v.M 0 (4 + o) = l ∧ u.natAbs ≤ i := by
  have hu : o < w.us.length := by rw [G.us4]; exact ho
  have hl : o < w.li.length := by rw [G.li4]; exact ho
  refine ⟨w.us[o], w.li[o], List.getElem?_eq_getElem hu, List.getElem?_eq_getElem hl, cellAt_of G.r0 ?_, cellAt_of G.r0 ?_, G.ul _ (List.getElem_mem hu)⟩
  · rw [List.getElem?_append_left hu]
    exact List.getElem?_eq_getElem hu
  · rw [List.getElem?_append_right (by rw [G.us4]; omega), G.us4, show 4 + o - 4 = o by omega]
    exact List.getElem?_eq_getElem hl
theorem log_small {x : Int} (h : x.natAbs ≤ 1000) : x.natAbs.log2 < 1920 := by
  have : x.natAbs.log2 < 10 := by
    by_cases e : x.natAbs = 0
    · rw [e]; decide
    · rw [Nat.log2_lt e]
      omega
  omega
section
variable {P : Program} {w0_ : World} {K : PySem.W.Frag} {mg : Str → Option Value} {base : Heap}
def sp_Ltake (CI CP : Addr) : Sp := fun vs H Q _ => ∃ (i : Nat) (im : Addr) (A : IA) (v : IV) (s : Int) (B : Bk) (w : BV) (fa : Addr) (fs : List Int), vs = [.ref im, .ref B.bk, .ref fa] ∧ SI CI CP H im A v 24 5 s (bkL B w fa fs) ∧ Agr i v w ∧ i ≤ 100 ∧
  ∀ H', Stp CI CP H im A s B fa i H' → Q (.bl true) H'
theorem ok_Ltake (T : Tx K mg) : FnOk P w0_ K mg base CX0 6 T.f_Ltake T.fd_Ltake ["_law_image", "_law_book", "_law_feed_here"] (sp_Ltake T.C_Image T.C_Plan) := by
  refine T.F_Ltake.ok sc_Ltake (fun vs H Q E h => ?_) (fun cdv A1_ outer s H vs Q E hr h => ?_)
  · obtain ⟨_, _, _, _, _, _, _, _, _, rfl, _⟩ := h; rfl
  · obtain ⟨i, im, A, v, sl, B, w, fa, fs, rfl, S, G, hi, k⟩ := h
    have hr1 : Room 1 _ := hr.mono (by decide)
    have hr3 : Room 3 _ := hr.mono (by decide)
    have hr4 : Room 4 _ := hr.mono (by decide)
    refine ⟨_, (pss_cons (ps_set (i := 3) sc_Ltake.nd rfl (.inl rfl) (pe_op op_add pe_int (pe_call (ok_Lpick T) hr1 rfl T.mg_Lpick T.F_Lpick.kp (b_Lpick T) .nil pass0 (pa_cons (pv 2) (pa_cons pe_int pa_nil)))))
      (pss_cons (ps_set (i := 4) sc_Ltake.nd rfl (.inl rfl) (pe_call (ok_Lpick T) hr1 rfl T.mg_Lpick T.F_Lpick.kp (b_Lpick T) .nil pass0 (pa_cons (pv 2) (pa_cons pe_int pa_nil))))
      (pss_cons (ps_set (i := 5) sc_Ltake.nd rfl (.inl rfl) (pe_call (ok_Lpick T) hr1 rfl T.mg_Lpick T.F_Lpick.kp (b_Lpick T) .nil pass0 (pa_cons (pv 2) (pa_cons pe_int pa_nil))))
      (pss_cons (ps_setLc (i := 6) (own := [("_law_k", 7)]) (g := gName 7) (tt := tYes) rfl sc_Ltake.nd rfl rfl (sw_true rfl rfl rfl (by decide +kernel)) (pi_range1 rfl T.b_range (pa_cons (pe_call (ok_Lpick T) hr1 rfl T.mg_Lpick T.F_Lpick.kp (b_Lpick T) .nil pass0 (pa_cons (pv 2) (pa_cons pe_int pa_nil))) pa_nil)) (blkOk_by (N := ["_law_image", "_law_book", "_law_feed_here", "_law_kind", "_law_owner", "_law_wish", "_law_barred", "_law_k", "_law_before", "_law_due", "_law_quota", "_law_x", "_law_row"]) (sc := defScope s_Ltake) (by decide +kernel)) (fun _ _ _ _ _ => pg_name (i := 7) sc_Ltake.nd rfl (Or.inl rfl)) (fun _ _ _ _ _ => pts_nil) (fun _ _ _ _ _ => (pe_op op_add pe_int (pe_call (ok_Lpick T) hr1 rfl T.mg_Lpick T.F_Lpick.kp (b_Lpick T) .nil pass0 (pa_cons (pv 2) (pa_cons pe_int pa_nil))))))
      (pss_cons (ps_set (i := 8) sc_Ltake.nd rfl (.inl rfl) (pe_meth0 (pv 0) T.cl_Image T.m_Image_twin (ok_twin T) hr3 (b_Image_twin T) .nil pass0))
      (pss_cons (ps_expr (pe_meth (pv 0) T.cl_Image T.m_Image_begin (ok_begin T) hr1 (b_Image_begin T) .nil pass0 (pa_cons (pv 5) (pa_cons (pv 6) pa_nil))))
      (pss_cons (ps_asg (pe_op op_add (pe_ix ix_list (pe_ix ix_list (pv 1) pe_int (fun _ _ => rfl)) pe_int (fun _ _ => rfl)) pe_int) (pg_sub (pe_ix ix_list (pv 1) pe_int (fun _ _ => rfl)) pe_int set_list))
      (pss_cons (ps_set (i := 9) sc_Ltake.nd rfl (.inl rfl) (pe_call (ok_Ldue T) hr1 rfl T.mg_Ldue_block T.F_Ldue_block.kp (b_Ldue_block T) .nil pass0 (pa_cons (pv 1) (pa_cons (pv 3) (pa_cons (pv 5) (pa_cons (pv 6) pa_nil))))))
      (Evl.pss_cut (ps_set (i := 10) sc_Ltake.nd rfl (.inl rfl) (pe_and (pe_cmpR op_ne (pe_ix ix_list (pe_ix ix_list (pv 1) pe_int (fun _ _ => rfl)) (pv 4) (fun _ _ => rfl)) pe_int (nomark _)) (pe_one (pe_cmpR op_ge (pe_ix ix_list (pe_ix ix_list (pv 1) pe_int (fun _ _ => rfl)) (pv 4) (fun _ _ => rfl)) (pe_ix ix_list (pe_ix ix_list (pv 1) pe_int (fun _ _ => rfl)) (pv 4) (fun _ _ => rfl)) (nomark _)))))
      (pss_cons (ps_if (PW.pt (pw_or (pt_val (pv 10)) (pw_or1 (pt_cmpR op_eq (pv 9) (pe_un un_neg pe_int) (nomark _)))))
        (pss_cons (ps_if (pt_not (pt_val (pe_call (ok_Lrefuses T) hr rfl T.mg_Lrefuses T.F_Lrefuses.kp (b_Lrefuses T) .nil pass0 (pa_cons (pv 0) (pa_cons (pv 3) (pa_cons (pv 4) (pa_cons (pv 10) pa_nil)))))))
          (pss_one (ps_ret pe_bl))
          pss_nil)
        (pss_cons (ps_expr (pe_meth (pv 0) T.cl_Image T.m_Image_settle (ok_settle T) hr3 (b_Image_settle T) .nil pass0 (pa_cons (pv 8) pa_nil)))
        (pss_one (ps_ret pe_bl))))
        pss_nil)
      (pss_cons (ps_set (i := 11) sc_Ltake.nd rfl (.inl rfl) (pe_meth (pv 0) T.cl_Image T.m_Image_take (ok_take T) hr4 (b_Image_take T) .nil passL (pa_cons (pv 3) (pa_cons (pv 4) pa_nil))))
      (pss_cons (ps_if (PW.pt (pw_or (pt_not (pt_val (pe_callB call_isi rfl T.b_isinstance (by decide +kernel) (pa_cons (pv 11) (pa_cons (pe_bltn (v := .ty "int") rfl T.b_int (by decide +kernel) rfl) pa_nil))))) (pw_or (pt_val (pe_callB call_isi rfl T.b_isinstance (by decide +kernel) (pa_cons (pv 11) (pa_cons (pe_bltn (v := .ty "bool") rfl T.b_bool (by decide +kernel) rfl) pa_nil)))) (pw_or1 (pt_cmpR op_ne (pv 11) (pv 9) (nomark _))))))
        (pss_one (ps_ret pe_bl))
        pss_nil)
      (pss_cons (ps_if (pt_cmpR (op_neD hr.units) (pe_listof (K := K) (pe_ix ix_list (pe_fld (pv 0) rfl) (pv 11) (fun _ _ => rfl)) T.b_list) (pe_lst (pa_cons pe_int (pa_cons pe_int (pa_cons pe_int (pa_cons pe_int (pa_cons pe_int (pa_cons pe_int (pa_cons pe_int (pa_cons pe_int pa_nil))))))))) (nomark _))
        (pss_one (ps_ret pe_bl))
        pss_nil)
      (pss_cons (ps_set (i := 12) sc_Ltake.nd rfl (.inl rfl) (pe_ix ix_list (pe_fld (pv 0) rfl) (pv 11) (fun _ _ => rfl)))
      (pss_cons (ps_asg (pe_op op_add pe_int (pe_call (ok_Lpick T) hr1 rfl T.mg_Lpick T.F_Lpick.kp (b_Lpick T) .nil pass0 (pa_cons (pv 2) (pa_cons pe_int pa_nil)))) (pg_sub (pv 12) (pe_call (ok_Lpick T) hr1 rfl T.mg_Lpick T.F_Lpick.kp (b_Lpick T) .nil pass0 (pa_cons (pv 2) (pa_cons pe_int pa_nil))) set_list))
      (pss_cons (ps_expr (pe_meth (pv 0) T.cl_Image T.m_Image_settle (ok_settle T) hr3 (b_Image_settle T) .nil pass0 (pa_cons (pv 8) pa_nil)))
      (pss_cons (ps_expr (pe_call (ok_Lnote T) hr1 rfl T.mg_Lnote T.F_Lnote.kp (b_Lnote T) .nil pass0 (pa_cons (pv 1) (pa_cons (pv 11) (pa_cons (pv 3) (pa_cons (pe_ix ix_list (pe_ix ix_list (pv 1) pe_int (fun _ _ => rfl)) pe_int (fun _ _ => rfl)) (pa_cons (pv 4) pa_nil)))))))
      (pss_cons (ps_asg (pe_op op_add (pe_ix ix_list (pe_ix ix_list (pv 1) pe_int (fun _ _ => rfl)) (pv 4) (fun _ _ => rfl)) pe_int) (pg_sub (pe_ix ix_list (pv 1) pe_int (fun _ _ => rfl)) (pv 4) set_list))
      (pss_cons (ps_expr (pe_call (ok_Ltouch T) hr1 rfl T.mg_Ltouch T.F_Ltouch.kp (b_Ltouch T) .nil pass0 (pa_cons (pv 1) (pa_cons pe_int pa_nil))))
      (pss_cons (ps_expr (pe_call (ok_Ltouch T) hr1 rfl T.mg_Ltouch T.F_Ltouch.kp (b_Ltouch T) .nil pass0 (pa_cons (pv 1) (pa_cons (pe_op op_add pe_int (pe_op op_fdiv (pv 11) pe_int)) pa_nil))))
      (pss_one (ps_ret pe_bl)))))))))))))))))))))), ?_⟩
    -- the picks
    refine ⟨_, rfl, fa, fs, 2, rfl, S.F.get 0 rfl, by decide, fun r1 f1 r10 r11 fl1 => ?_⟩
    refine ⟨_, _, rfl, rfl, ?_⟩
    have S1 := S.feed f1
    refine ⟨_, rfl, fa, f1, 4, rfl, S1.F.get 0 rfl, by decide, fun r2 f2 r20 r21 fl2 => ?_⟩
    rw [upd_upd]
    have S2 := S.feed f2
    refine ⟨_, rfl, fa, f2, 64, rfl, S2.F.get 0 rfl, by decide, fun wi f3 r30 r31 fl3 => ?_⟩
    rw [upd_upd]
    have S3 := S.feed f3
    refine ⟨_, rfl, fa, f3, 4, rfl, S3.F.get 0 rfl, by decide, fun nb f4 nb0 nb4 fl4 => ?_⟩
    rw [upd_upd]
    have S4 := S.feed f4
    have hfa : fa ∈ bkA B fa := by simp [bkA]
    have k4 : Kp (bkA B fa) H (upd H fa (.lst (f4.map V.int))) := Kp.refl.own hfa
    have fr4 : ∀ x, upd H fa (.lst (f4.map V.int)) x = none → H x = none := fun x e => un e
    generalize upd H fa (.lst (f4.map V.int)) = H4 at S4 k4 fr4 ⊢
    obtain ⟨o, rfl⟩ : ∃ o : Nat, r2 = o := ⟨r2.toNat, by omega⟩
    have ho : o < 4 := by omega
    have hkd : 1 + r1 = 1 ∨ 1 + r1 = 2 := by omega
    -- the barred blocks
    refine ⟨nb, rfl, by omega, by omega, fun D hD => ?_⟩
    have hD0 : H4 D = none := hD
    refine lc_range (lo := 0) (n := nb.toNat) (fun i H' => ∃ (bs f5 : List Int), SI T.C_Image T.C_Plan H' im A v 24 5 sl (bkL B w fa f5) ∧ H' D = some (.lst (bs.map V.int)) ∧ bs.length = i ∧ Kp (bkA B fa) H4 H' ∧ ∀ x, H' x = none → H4 x = none) ⟨[], f4, S4.same (same_upd hD), upd_same, rfl, .of (same_upd hD), fun x e => un e⟩ ?_ ?_
    · rintro j H' hj ⟨bs, f5, S5, e5, l5, k5, fr5⟩
      refine ⟨rfl, ?_⟩
      refine yes_ ?_
      refine ⟨_, rfl, fa, f5, 14, rfl, S5.F.get 0 rfl, by decide, fun rb f6 rb0 rb1 fl6 => ?_⟩
      have S6 := S5.feed f6
      have nDf : D ≠ fa := fun z => by
        have := S4.F.get 0 (a := fa) rfl
        rw [← z, hD0] at this
        cases this
      have e6 : upd H' fa (.lst (f6.map V.int)) D = some (.lst (bs.map V.int)) := by rw [upd_ne nDf]; exact e5
      have k6 : Kp (bkA B fa) H4 (upd H' fa (.lst (f6.map V.int))) := k5.own hfa
      have fr6 : ∀ x, upd H' fa (.lst (f6.map V.int)) x = none → H4 x = none := fun x e => fr5 _ (un e)
      refine ⟨_, _, rfl, rfl, _, e6, ?_, bs ++ [10 + rb], f6, ?_, ?_, ?_, ?_, ?_⟩
      · rw [List.length_map]
        exact small1000 (by omega)
      · have nD : ∀ p ∈ bkL B w fa f6, p.1 ≠ D := fun p hp z => by
          obtain ⟨o', q⟩ := bk_same (w := w) (fs := f4) hp
          exact S4.F.held hD0 _ q z
        have nI : ∀ x ∈ A.reads im, x ≠ D := fun x hx z => by
          obtain ⟨o', q⟩ := S4.I.held hx
          rw [z, hD0] at q
          cases q
        refine ⟨S6.I.keepF fun x o' hx e => by rw [upd_ne (nI x hx)]; exact e, S6.F.keep fun p hp o' e => by rw [upd_ne (nD p hp)]; exact e, S6.ap⟩
      · rw [upd_same, List.map_append]
        rfl
      · rw [List.length_append, l5]
        rfl
      · intro x o' e n
        rw [upd_ne (ne_of_none e hD0)]
        exact k6 x o' e n
      · intro x e
        exact fr6 x (un e)
    rintro H5 ⟨bs, f5, S5, e5, l5, k5, fr5⟩
    have k05 := k4.trans k5
    have fr05 : ∀ x, H5 x = none → H x = none := fun x e => fr4 _ (fr5 _ e)
    have nDk : ∀ w' f', ∀ p ∈ bkL B w' fa f', p.1 ≠ D := fun w' f' p hp z => by
      obtain ⟨o', q⟩ := bk_same (w := w) (fs := f4) hp
      exact S4.F.held hD0 _ q z
    -- the twin
    refine ⟨_, rfl, im, _, _, rfl, S5.I.ob, rfl, im, A, v, 24, 5, sl, rfl, S5.I, fun H6 im0 A0 s6 n60 I60 N60 epl eba => ?_⟩
    have S6 := S5.same s6
    have e6 := s6 _ _ e5
    have out0 : ∀ a ∈ im :: A.ca :: A.ho :: A.st :: A.rs, a ∉ A0.reads im0 := fun a ha => by
      have f := S5.I.foot_ne ha
      exact twin_out N60 n60 epl eba f.1 f.2.1 f.2.2
    have outk : ∀ a ∈ bkA B fa, a ∉ A0.reads im0 := fun a ha => by
      rw [← bkA_eq (w := w) (fs := f5)] at ha
      obtain ⟨p, hp, rfl⟩ := List.mem_map.mp ha
      exact twin_out N60 n60 epl eba ⟨_, S5.F.at_ p hp⟩ (fun z => S5.ap p hp (by rw [z]; simp [IA.reads])) (fun z => S5.ap p hp (by rw [z]; simp [IA.reads]))
    -- begin
    refine ⟨_, rfl, im, _, _, rfl, S6.I.ob, rfl, _, rfl, _, rfl, im, A, v, 24, 5, sl, wi, D, bs, rfl, S6.I, .inl e6, fun H7 t I7 k7 nt => ?_⟩
    have S7 : SI T.C_Image T.C_Plan H7 im { A with ba := t } (begV v wi bs) 24 5 sl (bkL B w fa f5) := S6.imgN I7 k7 (by simp [IA.reads]) fun x hx => by
      simp only [IA.reads, List.mem_cons] at hx ⊢
      rcases hx with z | z | z | z | z | z | z | z
      · exact .inl (by simp [z])
      · exact .inl (by simp [z])
      · exact .inl (by simp [z])
      · exact .inl (by simp [z])
      · exact .inl (by simp [z])
      · exact .inl (by simp [z])
      · right
        rw [z]
        rcases nt with q | q
        · exact S6.F.held q
        · show ∀ p ∈ bkL B w fa f5, p.1 ≠ t
          rw [q]
          exact nDk w f5
      · exact .inl (by simp [z])
    have nDi : D ≠ im := fun z => by
      have := S6.I.ob
      rw [← z, e6] at this
      cases this
    have e7 := k7.at1 e6 nDi
    have I70 : ImgAt T.C_Image T.C_Plan H7 im0 A0 v 24 5 sl := I60.keepF fun x o' hx e => k7.at1 e fun z => out0 im (by simp) (by rw [← z]; exact hx)
    have ht0 : H t = none := by
      rcases nt with q | q
      · exact fr05 _ (s6.free q)
      · rw [q]; exact fr4 _ hD0
    have k07 : Kp (A.ft im ++ bkA B fa) H H7 := ((k05.mono fun x hx => by simp [hx]).same s6).trans (k7.mono fun x hx => by simp [IA.ft] at hx ⊢; simp [hx])
    have fr07 : ∀ x, H7 x = none → H x = none := fun x e => fr05 _ (s6.free (k7.free (fun z => by
      have := S7.I.ob
      rw [← List.mem_singleton.mp z, e] at this
      cases this) e))
    -- the serial
    refine ⟨_, rfl, B.bk, _, 6, .ref B.se, rfl, rfl, .of (S7.F.get 1 rfl), atI_nat (j := 6) rfl, B.se, _, 0, .int w.se, rfl, rfl, .of (S7.F.get 8 rfl), atI_nat (j := 0) rfl, _, _, rfl, rfl, ?_⟩
    refine ⟨_, rfl, B.bk, _, 6, .ref B.se, rfl, rfl, .of (S7.F.get 1 rfl), atI_nat (j := 6) rfl, B.se, _, _, 0, rfl, rfl, S7.F.get 8 rfl, ixN_nat rfl (by show 0 < 1; decide), ?_⟩
    have S8 : SI T.C_Image T.C_Plan (upd H7 B.se (.lst (([w.se].map V.int).set 0 (V.int (w.se + 1))))) im { A with ba := t } (begV v wi bs) 24 5 sl (bkL B { w with se := w.se + 1 } fa f5) := S7.put 8 rfl
    have hse : B.se ∈ bkA B fa := by simp [bkA]
    have I80 : ImgAt T.C_Image T.C_Plan (upd H7 B.se (.lst (([w.se].map V.int).set 0 (V.int (w.se + 1))))) im0 A0 v 24 5 sl := I70.keepF fun x o' hx e => by
      rw [upd_ne fun z => outk _ hse (by rw [← z]; exact hx)]
      exact e
    have e8 : upd H7 B.se (.lst (([w.se].map V.int).set 0 (V.int (w.se + 1)))) D = some (.lst (bs.map V.int)) := by
      rw [upd_ne fun z => nDk w f5 (B.se, .lst ([w.se].map V.int)) (by simp [bkL, bkL0]) z.symm]
      exact e7
    have k08 := k07.own (o := .lst (([w.se].map V.int).set 0 (V.int (w.se + 1)))) (by simp [hse] : B.se ∈ A.ft im ++ bkA B fa)
    have fr08 : ∀ x, upd H7 B.se (.lst (([w.se].map V.int).set 0 (V.int (w.se + 1)))) x = none → H x = none := fun x e => fr07 _ (un e)
    generalize upd H7 B.se (.lst (([w.se].map V.int).set 0 (V.int (w.se + 1)))) = H8 at S8 I80 e8 k08 fr08 ⊢
    -- the due block
    refine ⟨_, rfl, _, rfl, _, rfl, _, rfl, B, { w with se := w.se + 1 }, fa, f5, (1 + r1), wi, D, bs, rfl, S8.F, e8, G.kl, fun H9 s9 => ?_⟩
    have S9 := S8.same s9
    have I90 := I80.keep s9
    have k09 := k08.same s9
    have fr09 : ∀ x, H9 x = none → H x = none := fun x e => fr08 _ (s9.free e)
    obtain ⟨u, l, hu, hl, cu, cl, nu⟩ := G.us_at ho
    have eqL : letL 24 5 v.M (1 + r1) bs = letB w.kd (1 + r1) bs := letB_eq G hkd
    have hlg : (cellAt v.M 0 o).natAbs.log2 < 1920 := log_small (by rw [cu]; omega)
    have hq : quota (begV v wi bs) o ↔ l ≠ 0 ∧ l ≤ u := by
      unfold quota
      show cellAt v.M 0 (4 + o) ≠ 0 ∧ cellAt v.M 0 (4 + o) ≤ cellAt v.M 0 o ↔ _
      rw [cu, cl]
    refine ⟨fun σ H' => H9 = H' ∧ ∃ qb : Bool, σ = [some (.ref im), some (.ref B.bk), some (.ref fa), some (.int (1 + r1)), some (.int (o : Int)), some (.int wi), some (.ref D), none, some (.ref im0), some (.int (dueV w.kd (1 + r1) wi bs)), some (.bl qb), none, none] ∧ (qb = true ↔ quota (begV v wi bs) o), ?_, ?_⟩
    · have gli : H9 B.li = some (.lst (w.li.map V.int)) := S9.F.get 6 rfl
      have gus : H9 B.us = some (.lst (w.us.map V.int)) := S9.F.get 5 rfl
      have gbk : H9 B.bk = some (.lst (bkR B)) := S9.F.get 1 rfl
      have al : atI (w.li.map V.int) (o : Int) = some (.int l) := atI_nat (by rw [List.getElem?_map, hl]; rfl)
      have au : atI (w.us.map V.int) (o : Int) = some (.int u) := atI_nat (by rw [List.getElem?_map, hu]; rfl)
      refine ⟨_, rfl, B.bk, _, 4, .ref B.li, rfl, rfl, .of gbk, atI_nat (j := 4) rfl, _, rfl, B.li, _, _, _, rfl, rfl, .of gli, al, rfl, _, rfl, ?_⟩
      rw [dec_iv]
      by_cases q1 : l = 0
      · rw [decide_eq_true q1]
        refine iteF ⟨rfl, _, rfl, ?_⟩
        rw [hq]
        simp [q1]
      · rw [decide_eq_false q1]
        refine iteT ⟨_, rfl, B.bk, _, 3, .ref B.us, rfl, rfl, .of gbk, atI_nat (j := 3) rfl, _, rfl, B.us, _, _, _, rfl, rfl, .of gus, au, ?_⟩
        refine ⟨_, rfl, B.bk, _, 4, .ref B.li, rfl, rfl, .of gbk, atI_nat (j := 4) rfl, _, rfl, B.li, _, _, _, rfl, rfl, .of gli, al, _, _, rfl, rfl, rfl, _, rfl, ?_⟩
        rw [hq]
        simp [q1]
    rintro σ H' ⟨rfl, qb, rfl, hqb⟩
    by_cases hor : quota (begV v wi bs) o ∨ letL 24 5 v.M (1 + r1) bs = []
    · -- refused
      have hb : qb = true ∨ (qb = false ∧ dueV w.kd (1 + r1) wi bs = -1) := by
        cases qb with
        | true => exact .inl rfl
        | false =>
          refine .inr ⟨rfl, ?_⟩
          rcases hor with z | z
          · exact absurd (hqb.mpr z) (by decide)
          · unfold dueV
            rw [← eqL, z]
            rfl
      rcases hb with rfl | ⟨rfl, ed⟩
      rotate_left
      refine ⟨_, rfl, false, rfl, iteF ⟨_, rfl, _, rfl, rfl, _, rfl, ?_⟩⟩
      rw [dec_iv, decide_eq_true ed]
      refine iteT ?_
      rotate_left
      refine ⟨_, rfl, true, rfl, iteT ?_⟩
      all_goals
        refine ⟨_, rfl, _, rfl, _, rfl, _, rfl, im, { A with ba := t }, begV v wi bs, sl, 1 + r1, o, _, rfl, S9.I, ho, hlg, hqb, hor, fun H10 s10 => ⟨_, rfl, iteF ?_⟩⟩
        have S10 := S9.same s10
        refine ⟨_, rfl, im, _, _, rfl, S10.I.ob, rfl, _, rfl, im, _, begV v wi bs, 24, 5, sl, im0, A0, v, rfl, S10.I, I90.keep s10, out0 A.st (by simp), fun H11 I11 k11 => ?_⟩
        have S11 : SI T.C_Image T.C_Plan H11 im { A with ba := t } (setV (begV v wi bs) v) 24 5 sl (bkL B { w with se := w.se + 1 } fa f5) := S10.imgN I11 k11 (by simp [IA.reads]) fun x hx => .inl hx
        refine k H11 ⟨_, _, _, f5, S11, G.refused wi bs, (k09.same s10).trans (k11.mono fun x hx => by simp [IA.ft] at hx ⊢; simp [hx]), fun x hx => ?_⟩
        simp only [IA.reads, List.mem_cons] at hx ⊢
        rcases hx with z | z | z | z | z | z | z | z
        · exact .inl (by simp [z])
        · exact .inl (by simp [z])
        · exact .inl (by simp [z])
        · exact .inl (by simp [z])
        · exact .inl (by simp [z])
        · exact .inl (by simp [z])
        · right
          rw [z]
          exact ht0
        · exact .inl (by simp [z])
    · have nq : ¬ quota (begV v wi bs) o := fun z => hor (.inl z)
      have hne : letL 24 5 v.M (1 + r1) bs ≠ [] := fun z => hor (.inr z)
      have hqf : qb = false := by
        cases qb with
        | false => rfl
        | true => exact absurd (hqb.mp rfl) nq
      subst hqf
      have hdue : ∀ x : Nat, pickL (letL 24 5 v.M (1 + r1) bs) wi = some (x : Int) → dueV w.kd (1 + r1) wi bs = x := fun x hp => by
        unfold dueV
        rw [← eqL, hp]
        rfl
      have hsome : dueV w.kd (1 + r1) wi bs ≠ -1 := fun z => by
        unfold dueV at z
        rw [← eqL] at z
        cases q : pickL (letL 24 5 v.M (1 + r1) bs) wi with
        | none =>
          unfold pickL at q
          cases q2 : letL 24 5 v.M (1 + r1) bs with
          | nil => exact hne q2
          | cons y rest =>
            rw [q2] at q
            cases q3 : ((y :: rest).filter fun x => decide (wi ≤ x)).head? with
            | none => rw [q3] at q; cases q
            | some y' => rw [q3] at q; cases q
        | some y =>
          have := freeL_mem (letL_mem (pickL_mem q))
          have h0 : fdOf 24 5 = 10 := by decide
          rw [q] at z
          have z' : y = -1 := z
          omega
      refine ⟨_, rfl, false, rfl, iteF ⟨_, rfl, _, rfl, rfl, _, rfl, ?_⟩⟩
      rw [dec_iv, decide_eq_false hsome]
      refine iteF ⟨_, rfl, im, _, _, rfl, S9.I.ob, rfl, _, rfl, _, rfl, im, { A with ba := t }, begV v wi bs, 24, 5, sl, 1 + r1, o, rfl, S9.I, ho, hlg, fun z => absurd z nq, fun _ z => absurd z hne, fun _ x hp H10 q hq I10 k10 => ?_⟩
      have hxm := freeL_mem (letL_mem (pickL_mem hp))
      have h10 : fdOf 24 5 = 10 := by decide
      have hx1 : 10 ≤ x := by omega
      have hx2 : x < 24 := by omega
      have L := S.I.l24
      have hxM : x < v.M.length := by rw [L.m]; exact hx2
      have hkx : (w.kd[x]?).getD 0 = 0 := by rw [← G.kind hx2]; exact hxm.2.2
      have S10 : SI T.C_Image T.C_Plan H10 im { A with ba := t, rs := A.rs.set x q } (takeV (begV v wi bs) x (1 + r1) o) 24 5 sl (bkL B { w with se := w.se + 1 } fa f5) := S9.imgN I10 k10 (fun y hy => foot_mem hy) fun y hy => by
        simp only [IA.reads, List.mem_cons] at hy ⊢
        rcases hy with z | z | z | z | z | z | z | z
        · exact .inl (by simp [z])
        · exact .inl (by simp [z])
        · exact .inl (by simp [z])
        · exact .inl (by simp [z])
        · exact .inl (by simp [z])
        · exact .inl (by simp [z])
        · exact .inl (by simp [z])
        · rcases mem_set_of z with e | e
          · right
            rw [e]
            exact S9.F.held hq
          · exact .inl (by simp [e])
      have I100 : ImgAt T.C_Image T.C_Plan H10 im0 A0 v 24 5 sl := I90.keepF fun y o' hy e => k10 _ _ e fun z => out0 y (by simp only [List.mem_cons] at z ⊢; exact .inr z) hy
      have k010 : Kp (A.ft im ++ bkA B fa) H H10 := k09.trans (k10.mono fun y hy => List.mem_append.mpr (.inl (ft_mem hy)))
      have hq0 : H q = none := fr09 _ hq
      -- the number is the due one
      refine ⟨_, rfl, _, _, _, _, true, rfl, .ty _, .base (.int _), kit_ty (by decide +kernel), _, rfl, iteF ⟨_, rfl, _, _, _, _, false, rfl, .ty _, .base (.int _), kit_ty (by decide +kernel), _, rfl, iteF ⟨_, rfl, _, rfl, rfl, _, rfl, ?_⟩⟩⟩
      rw [dec_iv, hdue x hp, decide_eq_true rfl]
      -- its cells are 0
      have eMx : (takeV (begV v wi bs) x (1 + r1) o).M[x]? = some (List.replicate 8 0) := tkx hx1 hxM
      obtain ⟨rx, rx1, rx2, _⟩ := S10.I.gr.get eMx
      refine iteF ⟨_, rfl, im, _, _, _, _, rfl, S10.I.ob, T.cl_Image, T.na_Image_cells, rfl, _, rfl, A.ca, _, _, .ref rx, rfl, rfl, .of S10.I.gr.out, atI_nat (by rw [List.getElem?_map, rx1]; rfl), rx, _, rfl, .inl (.of rx2), fun l1 nl1 => ?_⟩
      have s11' := same_upd (o := .lst ((List.replicate 8 (0 : Int)).map V.int)) nl1
      refine ⟨(by show 8 ≤ sizeLine; decide), fun l2 nl2 => ?_⟩
      have s12' := same_upd (o := .lst [V.int 0, V.int 0, V.int 0, V.int 0, V.int 0, V.int 0, V.int 0, V.int 0]) nl2
      refine ⟨dI (List.replicate 8 0), dI (List.replicate 8 0), dpI (s12' _ _ upd_same), dpI upd_same, shI _, shI _, _, rfl, ?_⟩
      rw [eqI]
      have s11 := s11'.trans s12'
      generalize upd (upd H10 l1 (.lst ((List.replicate 8 (0 : Int)).map V.int))) l2 (.lst [V.int 0, V.int 0, V.int 0, V.int 0, V.int 0, V.int 0, V.int 0, V.int 0]) = H11 at s11 ⊢
      have S11 := S10.same s11
      have I110 := I100.keep s11
      have k011 := k010.same s11
      refine iteF ⟨_, rfl, im, _, _, _, _, rfl, S11.I.ob, T.cl_Image, T.na_Image_cells, rfl, _, rfl, A.ca, _, _, .ref rx, rfl, rfl, .of S11.I.gr.out, atI_nat (by rw [List.getElem?_map, rx1]; rfl), ?_⟩
      -- a cell of it
      refine ⟨_, rfl, fa, f5, 90, rfl, S11.F.get 0 rfl, by decide, fun c f6 c0 c1 fl6 => ?_⟩
      have S12 := S11.feed f6
      refine ⟨_, _, rfl, rfl, _, rfl, _, rfl, fa, f6, 8, rfl, S12.F.get 0 rfl, by decide, fun j f7 j0 j1 fl7 => ?_⟩
      rw [upd_upd]
      have S13 := S11.feed f7
      have k013 := k011.own (o := .lst (f7.map V.int)) (by simp [hfa] : fa ∈ A.ft im ++ bkA B fa)
      have I130 : ImgAt T.C_Image T.C_Plan (upd H11 fa (.lst (f7.map V.int))) im0 A0 v 24 5 sl := I110.keepF fun y o' hy e => by
        rw [upd_ne fun z => outk _ hfa (by rw [← z]; exact hy)]
        exact e
      generalize upd H11 fa (.lst (f7.map V.int)) = H13 at S13 k013 I130 ⊢
      obtain ⟨jn, rfl⟩ : ∃ jn : Nat, j = jn := ⟨j.toNat, by omega⟩
      have hjn : jn < 8 := by omega
      have erx := S13.I.gr.row x rx _ rx1 eMx
      refine ⟨rx, _, _, jn, rfl, rfl, erx, ixN_nat rfl (by simp; exact hjn), ?_⟩
      have I14 := S13.I.setC (j := jn) (x := 5 + c) rx1 eMx
      have hrx : rx ∈ A.rs.set x q := List.mem_of_getElem? rx1
      have erxq : rx = q := by
        have : (A.rs.set x q)[x]? = some rx := rx1
        have hxl : x < A.rs.length := by
          have := S.I.gr.len
          omega
        rw [List.getElem?_set_self hxl] at this
        exact (Option.some.inj this).symm
      have S14 : SI T.C_Image T.C_Plan (upd H13 rx (.lst (((List.replicate 8 (0 : Int)).map V.int).set jn (V.int (5 + c))))) im { A with ba := t, rs := A.rs.set x q } (cellV (takeV (begV v wi bs) x (1 + r1) o) x jn (5 + c)) 24 5 sl (bkL B { w with se := w.se + 1 } fa f7) := S13.imgN (F := [rx]) I14 Kp.refl.own1 (by
        intro y hy
        rw [List.mem_singleton.mp hy]
        simp [IA.reads, hrx]) fun y hy => .inl hy
      have k014 : Kp (A.ft im ++ bkA B fa) H (upd H13 rx (.lst (((List.replicate 8 (0 : Int)).map V.int).set jn (V.int (5 + c))))) := fun y o' e n => by
        rw [upd_ne (fun z => by rw [z, erxq, hq0] at e; cases e)]
        exact k013 y o' e n
      have I140 : ImgAt T.C_Image T.C_Plan (upd H13 rx (.lst (((List.replicate 8 (0 : Int)).map V.int).set jn (V.int (5 + c))))) im0 A0 v 24 5 sl := I130.keepF fun y o' hy e => by
        rw [upd_ne]
        · exact e
        · intro z
          obtain ⟨o2, e2⟩ := I90.held hy
          rw [z, erxq, hq] at e2
          cases e2
      generalize upd H13 rx (.lst (((List.replicate 8 (0 : Int)).map V.int).set jn (V.int (5 + c)))) = H14 at S14 k014 I140 ⊢
      -- settle
      refine ⟨_, rfl, im, _, _, rfl, S14.I.ob, rfl, _, rfl, im, _, _, 24, 5, sl, im0, A0, v, rfl, S14.I, I140, out0 A.st (by simp), fun H15 I15 k15 => ?_⟩
      have S15 : SI T.C_Image T.C_Plan H15 im { A with ba := t, rs := A.rs.set x q } (setV (cellV (takeV (begV v wi bs) x (1 + r1) o) x jn (5 + c)) v) 24 5 sl (bkL B { w with se := w.se + 1 } fa f7) := S14.imgN I15 k15 (by simp [IA.reads]) fun y hy => .inl hy
      have k015 : Kp (A.ft im ++ bkA B fa) H H15 := k014.trans (k15.mono fun y hy => by simp [IA.ft] at hy ⊢; simp [hy])
      -- the book
      have wst : w.st.length = 24 := by rw [G.st]; exact L.s
      have who : w.ho.length = 24 := by rw [G.ho]; exact L.h
      have wol := G.ol
      refine ⟨_, rfl, _, rfl, _, rfl, _, rfl, B.bk, _, 6, .ref B.se, rfl, rfl, .of (S15.F.get 1 rfl), atI_nat (j := 6) rfl, B.se, _, 0, .int (w.se + 1), rfl, rfl, .of (S15.F.get 8 rfl), atI_nat (j := 0) rfl, _, rfl, im, _, _, 24, 5, sl, B, _, fa, f7, x, 1 + r1, w.se + 1, o, rfl, S15, by rw [G.kl]; exact hx2, by rw [who]; exact hx2, by rw [wst]; exact hx2, by show w.ow.length < 1000; omega, fun H16 S16 k16 => ?_⟩
      have k016 := k015.trans (k16.mono fun y hy => List.mem_append.mpr (.inr hy))
      have hol : o < w.us.length := by rw [G.us4]; exact ho
      refine ⟨_, rfl, B.bk, _, 3, .ref B.us, rfl, rfl, .of (S16.F.get 1 rfl), atI_nat (j := 3) rfl, _, rfl, B.us, _, _, _, rfl, rfl, .of (S16.F.get 5 rfl), atI_nat (by rw [List.getElem?_map, hu]; rfl), _, _, rfl, rfl, ?_⟩
      refine ⟨_, rfl, B.bk, _, 3, .ref B.us, rfl, rfl, .of (S16.F.get 1 rfl), atI_nat (j := 3) rfl, _, rfl, B.us, _, _, o, rfl, rfl, S16.F.get 5 rfl, ixN_nat rfl (by rw [List.length_map]; exact hol), ?_⟩
      have S17 := S16.put 5 (o' := .lst ((w.us.map V.int).set o (V.int (u + 1)))) rfl
      have k017 := k016.own (o := .lst ((w.us.map V.int).set o (V.int (u + 1)))) (by simp [bkA] : B.us ∈ A.ft im ++ bkA B fa)
      rw [← List.map_set] at S17 k017 ⊢
      generalize upd H16 B.us (.lst ((w.us.set o (u + 1)).map V.int)) = H17 at S17 k017 ⊢
      refine ⟨_, rfl, im, _, _, 24, 5, sl, B, { w with se := w.se + 1, kd := w.kd.set x (1 + r1), ho := w.ho.set x (w.se + 1), st := w.st.set x (w.se + 1), ow := putK w.ow (Sum.inl (x : Int)) (.int (o : Int)), us := w.us.set o (u + 1) }, fa, f7, 0, rfl, S17, by show 0 < (w.st.set x (w.se + 1)).length; rw [List.length_set]; omega, fun H18 S18 k18 => ?_⟩
      have k018 := k017.trans (k18.mono fun y hy => List.mem_append.mpr (.inr hy))
      refine ⟨_, rfl, _, rfl, _, _, rfl, rfl, ⟨by decide, by decide⟩, _, _, rfl, rfl, im, _, _, 24, 5, sl, B, _, fa, f7, 2 + x / 8, ?_, S18, by show 2 + x / 8 < ((w.st.set x (w.se + 1)).set 0 (w.se + 1)).length; rw [List.length_set, List.length_set]; omega, fun H19 S19 k19 => ?_⟩
      · show [V.ref B.bk, V.int (2 + (x : Int) / 8)] ++ [] = [V.ref B.bk, V.int ((2 + x / 8 : Nat) : Int)]
        rw [show ((2 + x / 8 : Nat) : Int) = 2 + (x : Int) / 8 by omega]
        rfl
      have k019 := k018.trans (k19.mono fun y hy => List.mem_append.mpr (.inr hy))
      have fin := G.took (v3 := cellV (takeV (begV v wi bs) x (1 + r1) o) x jn (5 + c)) L hx1 hx2 ho (.inl rfl) (by omega) (by rw [hkx]; omega) (sr := v.se + 1) (.inr rfl)
        (fun y hy => setC_row fun z => hy z.symm) (fun z => by omega) rfl rfl rfl rfl (k := 1 + r1)
      unfold bookT at fin
      rw [hu] at fin
      have hse' := G.se
      rw [← hse'] at fin
      refine k H19 ⟨_, _, _, f7, S19, fin, k019, fun y hy => ?_⟩
      simp only [IA.reads, List.mem_cons] at hy ⊢
      rcases hy with z | z | z | z | z | z | z | z
      · exact .inl (by simp [z])
      · exact .inl (by simp [z])
      · exact .inl (by simp [z])
      · exact .inl (by simp [z])
      · exact .inl (by simp [z])
      · exact .inl (by simp [z])
      · right
        rw [z]
        exact ht0
      · rcases mem_set_of z with e | e
        · right
          rw [e]
          exact hq0
        · exact .inl (by simp [e])
end
end K88
namespace K88
open PySem PySem.Spec PyProof.Rows L2 Rg
theorem Agr.mono {i : Nat} {v : IV} {w : BV} (A : Agr i v w) : Agr (i + 1) v w := { A with ul := fun u hu => by have := A.ul u hu; omega, ol := by have := A.ol; omega }
theorem mod_idx {l : List Int} {a : Int} (h0 : 0 ≤ a) (hne : l ≠ []) : ∃ (j : Nat) (x : Int), a % (l.length : Int) = j ∧ l[j]? = some x := by
  have hl : 0 < l.length := List.length_pos_iff.mpr hne
  have h1 := Int.emod_nonneg a (b := (l.length : Int)) (by omega)
  have h2 := Int.emod_lt_of_pos a (b := (l.length : Int)) (by omega)
  exact ⟨(a % (l.length : Int)).toNat, l[(a % (l.length : Int)).toNat]'(by omega), by omega, List.getElem?_eq_getElem _⟩
/-- the books of a begun deed -/
structure Beg (CI CP : Addr) (H0 H : Hp) (im : Addr) (A : IA) (v : IV) (s : Int) (B : Bk) (w : BV) (fa : Addr) (fs : List Int) (im0 : Addr) (A0 : IA) (t : Addr) : Prop where
  S : SI CI CP H im { A with ba := t } (begV v 0 []) 24 5 s (bkL B { w with se := w.se + 1 } fa fs)
  I0 : ImgAt CI CP H im0 A0 v 24 5 s
  k : Kp (A.ft im ++ bkA B fa) H0 H
  fr : ∀ x, H x = none → H0 x = none
  t0 : H0 t = none
  out : ∀ a ∈ im :: A.ca :: A.ho :: A.st :: A.rs, a ∉ A0.reads im0
  outk : ∀ a ∈ bkA B fa, a ∉ A0.reads im0
theorem reads_ba {A : IA} {im t x : Addr} (h : x ∈ ({ A with ba := t } : IA).reads im) : x ∈ A.reads im ∨ x = t := by
  simp only [IA.reads, List.mem_cons] at h ⊢
  rcases h with z | z | z | z | z | z | z | z
  · exact .inl (by simp [z])
  · exact .inl (by simp [z])
  · exact .inl (by simp [z])
  · exact .inl (by simp [z])
  · exact .inl (by simp [z])
  · exact .inl (by simp [z])
  · exact .inr z
  · exact .inl (by simp [z])
theorem reads_rs {A : IA} {im q x : Addr} {i : Nat} (h : x ∈ ({ A with rs := A.rs.set i q } : IA).reads im) : x ∈ A.reads im ∨ x = q := by
  simp only [IA.reads, List.mem_cons] at h ⊢
  rcases h with z | z | z | z | z | z | z | z
  · exact .inl (by simp [z])
  · exact .inl (by simp [z])
  · exact .inl (by simp [z])
  · exact .inl (by simp [z])
  · exact .inl (by simp [z])
  · exact .inl (by simp [z])
  · exact .inl (by simp [z])
  · rcases mem_set_of z with e | e
    · exact .inr e
    · exact .inl (by simp [e])
theorem beg_of {CI CP : Addr} {H0 H5 H6 H7 : Hp} {im im0 tq t : Addr} {A A0 : IA} {v : IV} {s : Int} {B : Bk} {w : BV} {fa : Addr} {fs : List Int} (S5 : SI CI CP H5 im A v 24 5 s (bkL B w fa fs)) (k5 : Kp (A.ft im ++ bkA B fa) H0 H5) (fr5 : ∀ x, H5 x = none → H0 x = none) (s6 : Same H5 H6) (n60 : H5 im0 = none) (I60 : ImgAt CI CP H6 im0 A0 v 24 5 s) (N60 : A0.New H5) (epl : A0.pl = A.pl) (eba : A0.ba = A.ba)
    (ntq : H6 tq = none) (I7 : ImgAt CI CP H7 im { A with ba := t } (begV v 0 []) 24 5 s) (k7 : Kp [im] (upd H6 tq (.tup [])) H7) (nt : upd H6 tq (.tup []) t = none ∨ t = tq) : Beg CI CP H0 (upd H7 B.se (.lst (([w.se].map V.int).set 0 (V.int (w.se + 1))))) im A v s B w fa fs im0 A0 t ∧ SI CI CP H7 im { A with ba := t } (begV v 0 []) 24 5 s (bkL B w fa fs) := by
  have S6 := (S5.same s6).same (same_upd (o := .tup []) ntq)
  have fr6 : ∀ x, upd H6 tq (.tup []) x = none → H5 x = none := fun x e => s6.free (un e)
  have out0 : ∀ a ∈ im :: A.ca :: A.ho :: A.st :: A.rs, a ∉ A0.reads im0 := fun a ha => by
    have f := S5.I.foot_ne ha
    exact twin_out N60 n60 epl eba f.1 f.2.1 f.2.2
  have outk : ∀ a ∈ bkA B fa, a ∉ A0.reads im0 := fun a ha => by
    rw [← bkA_eq (w := w) (fs := fs)] at ha
    obtain ⟨p, hp, rfl⟩ := List.mem_map.mp ha
    exact twin_out N60 n60 epl eba ⟨_, S5.F.at_ p hp⟩ (fun z => S5.ap p hp (by rw [z]; simp [IA.reads])) (fun z => S5.ap p hp (by rw [z]; simp [IA.reads]))
  have ht5 : H5 t = none := by
    rcases nt with q | q
    · exact fr6 _ q
    · rw [q]; exact s6.free ntq
  have S7 : SI CI CP H7 im { A with ba := t } (begV v 0 []) 24 5 s (bkL B w fa fs) := S6.imgN I7 k7 (by simp [IA.reads]) fun x hx => by
    rcases reads_ba hx with z | z
    · exact .inl z
    · right
      rw [z]
      exact S5.F.held ht5
  have hse : B.se ∈ bkA B fa := by simp [bkA]
  have I70 : ImgAt CI CP H7 im0 A0 v 24 5 s := (I60.keep (same_upd (o := .tup []) ntq)).keepF fun x o' hx e => k7.at1 e fun z => out0 im (by simp) (by rw [← z]; exact hx)
  have k07 : Kp (A.ft im ++ bkA B fa) H0 H7 := ((k5.same s6).same (same_upd (o := .tup []) ntq)).trans (k7.mono fun x hx => by simp [IA.ft] at hx ⊢; simp [hx])
  have fr07 : ∀ x, H7 x = none → H0 x = none := fun x e => fr5 _ (fr6 _ (k7.free (fun z => by
    have := S7.I.ob
    rw [← List.mem_singleton.mp z, e] at this
    cases this) e))
  refine ⟨⟨S7.put 8 rfl, I70.keepF fun x o' hx e => ?_, k07.own (by simp [hse]), fun x e => fr07 _ (un e), fr5 _ ht5, out0, outk⟩, S7⟩
  rw [upd_ne fun z => outk _ hse (by rw [← z]; exact hx)]
  exact e
section
variable {P : Program} {w0_ : World} {K : PySem.W.Frag} {mg : Str → Option Value} {base : Heap}
def heldP (kd : List Int) (x : Int) : Bool := !decide ((kd[x.toNat]?).getD 0 = 0)
def sp_Lgive (CI CP : Addr) : Sp := fun vs H Q _ => ∃ (i : Nat) (im : Addr) (A : IA) (v : IV) (s : Int) (B : Bk) (w : BV) (fa : Addr) (fs : List Int), vs = [.ref im, .ref B.bk, .ref fa] ∧ SI CI CP H im A v 24 5 s (bkL B w fa fs) ∧ Agr i v w ∧ i ≤ 100 ∧
  ∀ H', Stp CI CP H im A s B fa i H' → Q .non H'
theorem ok_Lgive (T : Tx K mg) : FnOk P w0_ K mg base CX0 4 T.f_Lgive T.fd_Lgive ["_law_image", "_law_book", "_law_feed_here"] (sp_Lgive T.C_Image T.C_Plan) := by
  refine T.F_Lgive.ok sc_Lgive (fun vs H Q E h => ?_) (fun cdv A1_ outer s H vs Q E hr h => ?_)
  · obtain ⟨_, _, _, _, _, _, _, _, _, rfl, _⟩ := h; rfl
  · obtain ⟨i, im, A, v, sl, B, w, fa, fs, rfl, S, G, hi, k⟩ := h
    have hr1 : Room 1 _ := hr.mono (by decide)
    refine ⟨_, (pss_cons (ps_setLc (i := 3) (own := [("_law_x", 4)]) (g := gName 4) (tt := _) rfl sc_Lgive.nd rfl rfl (sw_true rfl rfl rfl (by decide +kernel)) (pi_range2 rfl T.b_range (pa_cons pe_int (pa_cons pe_int pa_nil))) (blkOk_by (N := ["_law_image", "_law_book", "_law_feed_here", "_law_held", "_law_x", "_law_at", "_law_owner", "_law_before"]) (sc := defScope s_Lgive) (by decide +kernel)) (fun _ _ _ _ _ => pg_name (i := 4) sc_Lgive.nd rfl (Or.inl rfl)) (fun _ _ _ _ _ => pts_one (pt_cmpR op_ne (pe_ixK (K := K) (pe_ixK (K := K) (pv 1) pe_int (fun _ _ => rfl)) (pv 4) (fun _ _ => rfl)) pe_int (nomark _))) (fun _ _ _ _ _ => (pv 4)))
      (pss_cons (ps_set (i := 5) sc_Lgive.nd rfl (.inl rfl) (pe_call (ok_Lpick T) hr1 rfl T.mg_Lpick T.F_Lpick.kp (b_Lpick T) .nil pass0 (pa_cons (pv 2) (pa_cons pe_int pa_nil))))
      (pss_cons (ps_if (pt_cmpR op_eq (pe_callB call_len_seq rfl T.b_len (by decide +kernel) (pa_cons (pv 3) pa_nil)) pe_int (nomark _))
        (pss_one ps_retN)
        pss_nil)
      (pss_cons (ps_set (i := 4) sc_Lgive.nd rfl (.inl rfl) (pe_ix ix_list (pv 3) (pe_op op_mod (pv 5) (pe_callB call_len_seq rfl T.b_len (by decide +kernel) (pa_cons (pv 3) pa_nil))) (fun _ _ => rfl)))
      (pss_cons (ps_set (i := 6) sc_Lgive.nd rfl (.inl rfl) (pe_dget (Nat.lt_of_le_of_lt (Nat.add_le_add_left (by decide : 1 ≤ 64) _) hr.units) (pe_ix ix_list (pv 1) pe_int (fun _ _ => rfl)) (pv 4) (fun _ _ => rfl)))
      (pss_cons (ps_set (i := 7) sc_Lgive.nd rfl (.inl rfl) (pe_meth0 (pv 0) T.cl_Image T.m_Image_twin (ok_twin T) hr (b_Image_twin T) .nil pass0))
      (pss_cons (ps_expr (pe_meth (pv 0) T.cl_Image T.m_Image_begin (ok_begin T) hr1 (b_Image_begin T) .nil pass0 (pa_cons pe_int (pa_cons (pe_tup pa_nil) pa_nil))))
      (pss_cons (ps_asg (pe_op op_add (pe_ix ix_list (pe_ix ix_list (pv 1) pe_int (fun _ _ => rfl)) pe_int (fun _ _ => rfl)) pe_int) (pg_sub (pe_ix ix_list (pv 1) pe_int (fun _ _ => rfl)) pe_int set_list))
      (pss_cons (ps_expr (pe_meth (pv 0) T.cl_Image T.m_Image_give (ok_give T) hr (b_Image_give T) .nil pass0 (pa_cons (pv 4) (pa_cons (pv 6) pa_nil))))
      (pss_cons (ps_expr (pe_meth (pv 0) T.cl_Image T.m_Image_settle (ok_settle T) hr (b_Image_settle T) .nil pass0 (pa_cons (pv 7) pa_nil)))
      (pss_cons (ps_expr (pe_call (ok_Lnote T) hr1 rfl T.mg_Lnote T.F_Lnote.kp (b_Lnote T) .nil pass0 (pa_cons (pv 1) (pa_cons (pv 4) (pa_cons pe_int (pa_cons pe_int (pa_cons (pv 6) pa_nil)))))))
      (pss_cons (ps_asg (pe_op op_sub (pe_ix ix_list (pe_ix ix_list (pv 1) pe_int (fun _ _ => rfl)) (pv 6) (fun _ _ => rfl)) pe_int) (pg_sub (pe_ix ix_list (pv 1) pe_int (fun _ _ => rfl)) (pv 6) set_list))
      (pss_cons (ps_expr (pe_call (ok_Ltouch T) hr1 rfl T.mg_Ltouch T.F_Ltouch.kp (b_Ltouch T) .nil pass0 (pa_cons (pv 1) (pa_cons pe_int pa_nil))))
      (pss_one (ps_expr (pe_call (ok_Ltouch T) hr1 rfl T.mg_Ltouch T.F_Ltouch.kp (b_Ltouch T) .nil pass0 (pa_cons (pv 1) (pa_cons (pe_op op_add pe_int (pe_op op_fdiv (pv 4) pe_int)) pa_nil)))))))))))))))))), ?_⟩
    have h14 : (rng 10 14).length < 1000 := by rw [rng_len]; decide
    have hfa : fa ∈ bkA B fa := by simp [bkA]
    refine ⟨10, 24, rfl, ⟨by decide, by decide, by decide, by decide⟩, fun D hD => ?_⟩
    refine lc_range (lo := 10) (n := ((24 : Int) - 10).toNat) (PvF H D (rng 10 14) (heldP w.kd)) (PvF.start hD) ?_ ?_
    · rintro j H' hj Pv
      have hj : j < 14 := hj
      have hx := rng_get (lo := 10) hj
      have hkl := G.kl
      have hjl : 10 + j < w.kd.length := by omega
      have ek : (w.kd[(10 + (j : Int)).toNat]?).getD 0 = w.kd[10 + j] := by
        rw [show (10 + (j : Int)).toNat = 10 + j by omega, List.getElem?_eq_getElem hjl]
        rfl
      have F' := S.F.same Pv.1
      refine ⟨rfl, ?_⟩
      refine ⟨_, rfl, B.bk, _, 0, .ref B.kd, rfl, rfl, .of (F'.get 1 rfl), atI_nat (j := 0) rfl, _, rfl, B.kd, _, _, _, rfl, rfl, .of (F'.get 2 rfl), at_of (j := 10 + j) (by omega) (by rw [List.getElem?_map, List.getElem?_eq_getElem hjl]; rfl), rfl, _, rfl, ?_⟩
      rw [dec_iv]
      by_cases e1 : w.kd[10 + j] = 0
      · rw [decide_eq_true e1]
        exact iteF (Pv.no (Same.refl _) hx (by unfold heldP; rw [ek, decide_eq_true e1]; rfl))
      · rw [decide_eq_false e1]
        exact iteT ⟨_, rfl, Pv.yes hD (Same.refl _) hx h14 (by unfold heldP; rw [ek, decide_eq_false e1]; rfl)⟩
    intro H1 Pv
    obtain ⟨s1, e1⟩ := Pv.all (by rw [rng_len]; rfl)
    have S1 := S.same s1
    -- the pick
    refine ⟨_, rfl, fa, fs, 14, rfl, S1.F.get 0 rfl, by decide, fun at_ f2 a0 a1 fl2 => ?_⟩
    have S2 := S1.feed f2
    have k02 : Kp (A.ft im ++ bkA B fa) H (upd H1 fa (.lst (f2.map V.int))) := (Kp.of s1).own (by simp [hfa])
    have fr02 : ∀ x, upd H1 fa (.lst (f2.map V.int)) x = none → H x = none := fun x e => s1.free (un e)
    have nDf : D ≠ fa := fun z => by
      have := S.F.get 0 (a := fa) rfl
      rw [← z, hD] at this
      cases this
    have e2 : upd H1 fa (.lst (f2.map V.int)) D = some (.lst (((rng 10 14).filter (heldP w.kd)).map V.int)) := by rw [upd_ne nDf]; exact e1
    generalize upd H1 fa (.lst (f2.map V.int)) = H2 at S2 k02 fr02 e2 ⊢
    refine ⟨_, rfl, D, _, rfl, .inl (.of e2), rfl, _, rfl, ite2 (fun z => ?_) (fun z => ?_)⟩
    · exact k H2 ⟨A, v, w, f2, S2, G.mono, k02, fun x hx => .inl hx⟩
    · have hne : (rng 10 14).filter (heldP w.kd) ≠ [] := fun q => z (decide_eq_true (by rw [q]; rfl))
      obtain ⟨j, x', ej, hx'⟩ := mod_idx (l := (rng 10 14).filter (heldP w.kd)) a0 hne
      have hm := List.mem_filter.mp (List.mem_of_getElem? hx')
      have hmr := rng_mem hm.1
      obtain ⟨x, rfl⟩ : ∃ x : Nat, x' = x := ⟨x'.toNat, by omega⟩
      have hx1 : 10 ≤ x := by omega
      have hx2 : x < 24 := by omega
      have hkx : (w.kd[x]?).getD 0 ≠ 0 := by
        have := hm.2
        unfold heldP at this
        rw [show ((x : Int)).toNat = x by omega] at this
        intro q
        rw [q] at this
        cases this
      have hxk : x < w.kd.length := by rw [G.kl]; exact hx2
      obtain ⟨o, ho, eo⟩ := G.ow x _ hx1 (List.getElem?_eq_getElem hxk) (by rw [List.getElem?_eq_getElem hxk] at hkx; exact hkx)
      have hlen0 : 0 < ((rng 10 14).filter (heldP w.kd)).length := List.length_pos_iff.mpr hne
      refine ⟨_, rfl, _, rfl, _, rfl, D, _, rfl, .inl (.of e2), _, _, rfl, rfl, by rw [List.length_map]; omega, D, _, _, _, rfl, rfl, .of e2, at_of (j := j) (by rw [List.length_map]; exact ej) (by rw [List.getElem?_map, hx']; rfl), ?_⟩
      refine ⟨_, rfl, B.bk, _, 5, .ref B.ow, rfl, rfl, .of (S2.F.get 1 rfl), atI_nat (j := 5) rfl, _, rfl, B.ow, _, rfl, by rw [← eo]; exact DGet.k (k := Sum.inl (x : Int)) (S2.F.get 7 rfl), ?_⟩
      -- twin, begin, serial
      refine ⟨_, rfl, im, _, _, rfl, S2.I.ob, rfl, im, A, v, 24, 5, sl, rfl, S2.I, fun H6 im0 A0 s6 n60 I60 N60 epl eba => ?_⟩
      refine ⟨_, rfl, im, _, _, rfl, (S2.same s6).I.ob, rfl, (by show 0 ≤ sizeLine; decide), fun tq ntq => ?_⟩
      refine ⟨im, A, v, 24, 5, sl, 0, tq, [], rfl, (S2.same s6).I.keep (same_upd ntq), .inr upd_same, fun H7 t I7 k7 nt => ?_⟩
      obtain ⟨Bg, S7⟩ := beg_of S2 k02 fr02 s6 n60 I60 N60 epl eba ntq I7 k7 nt
      refine ⟨_, rfl, B.bk, _, 6, .ref B.se, rfl, rfl, .of (S7.F.get 1 rfl), atI_nat (j := 6) rfl, B.se, _, 0, .int w.se, rfl, rfl, .of (S7.F.get 8 rfl), atI_nat (j := 0) rfl, _, _, rfl, rfl, ?_⟩
      refine ⟨_, rfl, B.bk, _, 6, .ref B.se, rfl, rfl, .of (S7.F.get 1 rfl), atI_nat (j := 6) rfl, B.se, _, _, 0, rfl, rfl, S7.F.get 8 rfl, ixN_nat rfl (by show 0 < 1; decide), ?_⟩
      generalize upd H7 B.se (.lst (([w.se].map V.int).set 0 (V.int (w.se + 1)))) = H8 at Bg ⊢
      have S8 := Bg.S
      -- give
      refine ⟨_, rfl, im, _, _, rfl, S8.I.ob, rfl, _, rfl, _, rfl, im, _, _, 24, 5, sl, x, o, rfl, S8.I, (by rw [show fdOf 24 5 = 10 by decide]; omega), by omega, ho, fun H9 q hq I9 k9 => ?_⟩
      have L := S.I.l24
      have S9 : SI T.C_Image T.C_Plan H9 im { A with ba := t, rs := A.rs.set x q } (giveV (begV v 0 []) x o) 24 5 sl (bkL B { w with se := w.se + 1 } fa f2) := S8.imgN I9 k9 (fun y hy => foot_mem hy) fun y hy => by
        rcases reads_rs (A := { A with ba := t }) hy with e | e
        · exact .inl e
        · right
          rw [e]
          exact S8.F.held hq
      have I90 : ImgAt T.C_Image T.C_Plan H9 im0 A0 v 24 5 sl := Bg.I0.keepF fun y o' hy e => k9 _ _ e fun z => Bg.out y (by simp only [List.mem_cons] at z ⊢; exact .inr z) hy
      have k09 : Kp (A.ft im ++ bkA B fa) H H9 := Bg.k.trans (k9.mono fun y hy => List.mem_append.mpr (.inl (ft_mem hy)))
      have hq0 : H q = none := Bg.fr _ hq
      -- settle
      refine ⟨_, rfl, im, _, _, rfl, S9.I.ob, rfl, _, rfl, im, _, _, 24, 5, sl, im0, A0, v, rfl, S9.I, I90, Bg.out A.st (by simp), fun H15 I15 k15 => ?_⟩
      have S15 : SI T.C_Image T.C_Plan H15 im { A with ba := t, rs := A.rs.set x q } (setV (giveV (begV v 0 []) x o) v) 24 5 sl (bkL B { w with se := w.se + 1 } fa f2) := S9.imgN I15 k15 (by simp [IA.reads]) fun y hy => .inl hy
      have k015 : Kp (A.ft im ++ bkA B fa) H H15 := k09.trans (k15.mono fun y hy => by simp [IA.ft] at hy ⊢; simp [hy])
      -- the book
      have wst : w.st.length = 24 := by rw [G.st]; exact L.s
      have who : w.ho.length = 24 := by rw [G.ho]; exact L.h
      have wol := G.ol
      obtain ⟨u, l, hu, hl, cu, cl, nu⟩ := G.us_at ho
      refine ⟨_, rfl, _, rfl, _, rfl, im, _, _, 24, 5, sl, B, _, fa, f2, x, 0, 0, o, rfl, S15, by rw [G.kl]; exact hx2, by rw [who]; exact hx2, by rw [wst]; exact hx2, by show w.ow.length < 1000; omega, fun H16 S16 k16 => ?_⟩
      have k016 := k015.trans (k16.mono fun y hy => List.mem_append.mpr (.inr hy))
      have hol : o < w.us.length := by rw [G.us4]; exact ho
      refine ⟨_, rfl, B.bk, _, 3, .ref B.us, rfl, rfl, .of (S16.F.get 1 rfl), atI_nat (j := 3) rfl, _, rfl, B.us, _, _, _, rfl, rfl, .of (S16.F.get 5 rfl), atI_nat (by rw [List.getElem?_map, hu]; rfl), _, _, rfl, rfl, ?_⟩
      refine ⟨_, rfl, B.bk, _, 3, .ref B.us, rfl, rfl, .of (S16.F.get 1 rfl), atI_nat (j := 3) rfl, _, rfl, B.us, _, _, o, rfl, rfl, S16.F.get 5 rfl, ixN_nat rfl (by rw [List.length_map]; exact hol), ?_⟩
      have S17 := S16.put 5 (o' := .lst ((w.us.map V.int).set o (V.int (u - 1)))) rfl
      have k017 := k016.own (o := .lst ((w.us.map V.int).set o (V.int (u - 1)))) (by simp [bkA] : B.us ∈ A.ft im ++ bkA B fa)
      rw [← List.map_set] at S17 k017 ⊢
      generalize upd H16 B.us (.lst ((w.us.set o (u - 1)).map V.int)) = H17 at S17 k017 ⊢
      refine ⟨_, rfl, im, _, _, 24, 5, sl, B, { w with se := w.se + 1, kd := w.kd.set x 0, ho := w.ho.set x 0, st := w.st.set x 0, ow := putK w.ow (Sum.inl (x : Int)) (.int (o : Int)), us := w.us.set o (u - 1) }, fa, f2, 0, rfl, S17, by show 0 < (w.st.set x 0).length; rw [List.length_set]; omega, fun H18 S18 k18 => ?_⟩
      have k018 := k017.trans (k18.mono fun y hy => List.mem_append.mpr (.inr hy))
      refine ⟨_, rfl, _, rfl, _, _, rfl, rfl, ⟨by decide, by decide⟩, _, _, rfl, rfl, im, _, _, 24, 5, sl, B, _, fa, f2, 2 + x / 8, ?_, S18, by show 2 + x / 8 < ((w.st.set x 0).set 0 (w.se + 1)).length; rw [List.length_set, List.length_set]; omega, fun H19 S19 k19 => ?_⟩
      · show [V.ref B.bk, V.int (2 + (x : Int) / 8)] ++ [] = [V.ref B.bk, V.int ((2 + x / 8 : Nat) : Int)]
        rw [show ((2 + x / 8 : Nat) : Int) = 2 + (x : Int) / 8 by omega]
        rfl
      have k019 := k018.trans (k19.mono fun y hy => List.mem_append.mpr (.inr hy))
      have hxM : x < v.M.length := by rw [L.m]; exact hx2
      have fin := G.took (v3 := giveV (begV v 0 []) x o) L hx1 hx2 ho (d := -1) (.inr rfl) (.inl rfl) hkx (sr := 0) (.inl ⟨rfl, rfl⟩)
        (fun y hy => rfl) (fun _ => tkx (d := -1) hx1 hxM) rfl rfl rfl rfl
      unfold bookT at fin
      rw [hu] at fin
      refine k H19 ⟨_, _, _, f2, S19, fin, k019, fun y hy => ?_⟩
      rcases reads_rs (A := { A with ba := t }) hy with e | e
      · rcases reads_ba e with e | e
        · exact .inl e
        · right
          rw [e]
          exact Bg.t0
      · right
        rw [e]
        exact hq0
end
end K88
namespace K88
open PySem PySem.Spec PyProof.Rows L2 Rg
section
variable {P : Program} {w0_ : World} {K : PySem.W.Frag} {mg : Str → Option Value} {base : Heap}
def sp_Lchange (CI CP : Addr) : Sp := fun vs H Q _ => ∃ (i : Nat) (im : Addr) (A : IA) (v : IV) (s : Int) (B : Bk) (w : BV) (fa : Addr) (fs : List Int), vs = [.ref im, .ref B.bk, .ref fa] ∧ SI CI CP H im A v 24 5 s (bkL B w fa fs) ∧ Agr i v w ∧ i ≤ 100 ∧
  ∀ H', Stp CI CP H im A s B fa i H' → Q .non H'
theorem ok_Llimit (T : Tx K mg) : FnOk P w0_ K mg base CX0 2 T.f_Llimit T.fd_Llimit ["_law_image", "_law_book", "_law_feed_here"] (sp_Lchange T.C_Image T.C_Plan) := by
  refine T.F_Llimit.ok sc_Llimit (fun vs H Q E h => ?_) (fun cdv A1_ outer s H vs Q E hr h => ?_)
  · obtain ⟨_, _, _, _, _, _, _, _, _, rfl, _⟩ := h; rfl
  · obtain ⟨i, im, A, v, sl, B, w, fa, fs, rfl, S, G, hi, k⟩ := h
    refine ⟨_, (pss_cons (ps_set (i := 3) sc_Llimit.nd rfl (.inl rfl) (pe_call (ok_Lpick T) hr rfl T.mg_Lpick T.F_Lpick.kp (b_Lpick T) .nil pass0 (pa_cons (pv 2) (pa_cons pe_int pa_nil))))
      (pss_cons (ps_set (i := 4) sc_Llimit.nd rfl (.inl rfl) (pe_call (ok_Lpick T) hr rfl T.mg_Lpick T.F_Lpick.kp (b_Lpick T) .nil pass0 (pa_cons (pv 2) (pa_cons pe_int pa_nil))))
      (pss_cons (ps_set (i := 5) sc_Llimit.nd rfl (.inl rfl) (pe_ix ix_list (pe_fld (pv 0) rfl) pe_int (fun _ _ => rfl)))
      (pss_cons (ps_asg (pv 4) (pg_sub (pv 5) (pe_op op_add pe_int (pv 3)) set_list))
      (pss_cons (ps_set (i := 6) sc_Llimit.nd rfl (.inl rfl) (pe_ix ix_list (pv 1) pe_int (fun _ _ => rfl)))
      (pss_one (ps_asg (pv 4) (pg_sub (pv 6) (pv 3) set_list)))))))), ?_⟩
    have hfa : fa ∈ bkA B fa := by simp [bkA]
    refine ⟨_, rfl, fa, fs, 4, rfl, S.F.get 0 rfl, by decide, fun r1 f1 r10 r11 fl1 => ?_⟩
    have S1 := S.feed f1
    refine ⟨_, rfl, fa, f1, 7, rfl, S1.F.get 0 rfl, by decide, fun lm f2 r20 r21 fl2 => ?_⟩
    rw [upd_upd]
    have S2 := S.feed f2
    have k2 : Kp (A.ft im ++ bkA B fa) H (upd H fa (.lst (f2.map V.int))) := Kp.refl.own (by simp [hfa])
    generalize upd H fa (.lst (f2.map V.int)) = H2 at S2 k2 ⊢
    obtain ⟨o, rfl⟩ : ∃ o : Nat, r1 = o := ⟨r1.toNat, by omega⟩
    have ho : o < 4 := by omega
    obtain ⟨r, m, r1', r2', r3', r4'⟩ := S2.I.row0
    refine ⟨_, rfl, im, _, _, _, _, rfl, S2.I.ob, T.cl_Image, T.na_Image_cells, rfl, A.ca, _, _, .ref r, rfl, rfl, .of S2.I.gr.out, at_of (j := 0) rfl (by rw [List.getElem?_map, r1']; rfl), ?_⟩
    refine ⟨_, rfl, _, rfl, _, rfl, _, _, rfl, rfl, r, _, _, 4 + o, rfl, rfl, r4', ixN_nat (by omega) (by rw [List.length_map]; omega), ?_⟩
    have hr_ : r ∈ A.rs := List.mem_of_getElem? r1'
    have I3 := S2.I.setC (j := 4 + o) (x := lm) r1' r2'
    have S3 : SI T.C_Image T.C_Plan (upd H2 r (.lst ((m.map V.int).set (4 + o) (V.int lm)))) im A (cellV v 0 (4 + o) lm) 24 5 sl (bkL B w fa f2) := S2.imgN (F := [r]) I3 Kp.refl.own1 (fun y hy => by rw [List.mem_singleton.mp hy]; simp [IA.reads, hr_]) fun y hy => .inl hy
    have k3 := k2.own (o := .lst ((m.map V.int).set (4 + o) (V.int lm))) (by simp [IA.ft, hr_] : r ∈ A.ft im ++ bkA B fa)
    generalize upd H2 r (.lst ((m.map V.int).set (4 + o) (V.int lm))) = H3 at S3 k3 ⊢
    refine ⟨_, rfl, B.bk, _, 4, .ref B.li, rfl, rfl, .of (S3.F.get 1 rfl), atI_nat (j := 4) rfl, ?_⟩
    refine ⟨_, rfl, _, rfl, _, rfl, B.li, _, _, o, rfl, rfl, S3.F.get 6 rfl, ixN_nat rfl (by rw [List.length_map, G.li4]; exact ho), ?_⟩
    have S4 := S3.put 6 (o' := .lst ((w.li.map V.int).set o (V.int lm))) rfl
    have k4 := k3.own (o := .lst ((w.li.map V.int).set o (V.int lm))) (by simp [bkA] : B.li ∈ A.ft im ++ bkA B fa)
    rw [← List.map_set] at S4 k4 ⊢
    exact k _ ⟨A, _, _, f2, S4, G.limited ho, k4, fun x hx => .inl hx⟩
theorem ok_Lchange (T : Tx K mg) : FnOk P w0_ K mg base CX0 4 T.f_Lchange T.fd_Lchange ["_law_image", "_law_book", "_law_feed_here"] (sp_Lchange T.C_Image T.C_Plan) := by
  refine T.F_Lchange.ok sc_Lchange (fun vs H Q E h => ?_) (fun cdv A1_ outer s H vs Q E hr h => ?_)
  · obtain ⟨_, _, _, _, _, _, _, _, _, rfl, _⟩ := h; rfl
  · obtain ⟨i, im, A, v, sl, B, w, fa, fs, rfl, S, G, hi, k⟩ := h
    have hr1 : Room 1 _ := hr.mono (by decide)
    refine ⟨_, (pss_cons (ps_setLc (i := 3) (own := [("_law_x", 4)]) (g := gName 4) (tt := _) rfl sc_Lchange.nd rfl rfl (sw_true rfl rfl rfl (by decide +kernel)) (pi_range2 rfl T.b_range (pa_cons pe_int (pa_cons pe_int pa_nil))) (blkOk_by (N := ["_law_image", "_law_book", "_law_feed_here", "_law_held", "_law_x", "_law_at", "_law_value", "_law_before", "_law_old", "_law_row"]) (sc := defScope s_Lchange) (by decide +kernel)) (fun _ _ _ _ _ => pg_name (i := 4) sc_Lchange.nd rfl (Or.inl rfl)) (fun _ _ _ _ _ => pts_one (pt_cmpR op_ne (pe_ixK (K := K) (pe_ixK (K := K) (pv 1) pe_int (fun _ _ => rfl)) (pv 4) (fun _ _ => rfl)) pe_int (nomark _))) (fun _ _ _ _ _ => (pv 4)))
      (pss_cons (ps_set (i := 4) sc_Lchange.nd rfl (.inl rfl) (pe_ix ix_list (pv 3) (pe_op op_mod (pe_call (ok_Lpick T) hr1 rfl T.mg_Lpick T.F_Lpick.kp (b_Lpick T) .nil pass0 (pa_cons (pv 2) (pa_cons pe_int pa_nil))) (pe_callB call_len_seq rfl T.b_len (by decide +kernel) (pa_cons (pv 3) pa_nil))) (fun _ _ => rfl)))
      (pss_cons (ps_set (i := 5) sc_Lchange.nd rfl (.inl rfl) (pe_call (ok_Lpick T) hr1 rfl T.mg_Lpick T.F_Lpick.kp (b_Lpick T) .nil pass0 (pa_cons (pv 2) (pa_cons pe_int pa_nil))))
      (pss_cons (ps_set (i := 6) sc_Lchange.nd rfl (.inl rfl) (pe_call (ok_Lpick T) hr1 rfl T.mg_Lpick T.F_Lpick.kp (b_Lpick T) .nil pass0 (pa_cons (pv 2) (pa_cons pe_int pa_nil))))
      (pss_cons (ps_set (i := 7) sc_Lchange.nd rfl (.inl rfl) (pe_meth0 (pv 0) T.cl_Image T.m_Image_twin (ok_twin T) hr (b_Image_twin T) .nil pass0))
      (pss_cons (ps_set (i := 8) sc_Lchange.nd rfl (.inl rfl) (pe_ix ix_list (pe_ix ix_list (pe_fld (pv 7) rfl) (pv 4) (fun _ _ => rfl)) (pv 5) (fun _ _ => rfl)))
      (pss_cons (ps_expr (pe_meth (pv 0) T.cl_Image T.m_Image_begin (ok_begin T) hr1 (b_Image_begin T) .nil pass0 (pa_cons pe_int (pa_cons (pe_tup pa_nil) pa_nil))))
      (pss_cons (ps_asg (pe_op op_add (pe_ix ix_list (pe_ix ix_list (pv 1) pe_int (fun _ _ => rfl)) pe_int (fun _ _ => rfl)) pe_int) (pg_sub (pe_ix ix_list (pv 1) pe_int (fun _ _ => rfl)) pe_int set_list))
      (pss_cons (ps_set (i := 9) sc_Lchange.nd rfl (.inl rfl) (pe_ix ix_list (pe_fld (pv 0) rfl) (pv 4) (fun _ _ => rfl)))
      (pss_cons (ps_asg (pv 6) (pg_sub (pv 9) (pv 5) set_list))
      (pss_cons (ps_expr (pe_meth (pv 0) T.cl_Image T.m_Image_settle (ok_settle T) hr (b_Image_settle T) .nil pass0 (pa_cons (pv 7) pa_nil)))
      (pss_one (ps_if (pt_cmpR op_ne (pv 6) (pv 8) (nomark _))
        (pss_one (ps_expr (pe_call (ok_Ltouch T) hr1 rfl T.mg_Ltouch T.F_Ltouch.kp (b_Ltouch T) .nil pass0 (pa_cons (pv 1) (pa_cons (pv 4) pa_nil)))))
        pss_nil))))))))))))), ?_⟩
    have h14 : (rng 5 19).length < 1000 := by rw [rng_len]; decide
    have hfa : fa ∈ bkA B fa := by simp [bkA]
    refine ⟨5, 24, rfl, ⟨by decide, by decide, by decide, by decide⟩, fun D hD => ?_⟩
    refine lc_range (lo := 5) (n := ((24 : Int) - 5).toNat) (PvF H D (rng 5 19) (heldP w.kd)) (PvF.start hD) ?_ ?_
    · rintro j H' hj Pv
      have hj : j < 19 := hj
      have hx := rng_get (lo := 5) hj
      have hkl := G.kl
      have hjl : 5 + j < w.kd.length := by omega
      have ek : (w.kd[(5 + (j : Int)).toNat]?).getD 0 = w.kd[5 + j] := by
        rw [show (5 + (j : Int)).toNat = 5 + j by omega, List.getElem?_eq_getElem hjl]
        rfl
      have F' := S.F.same Pv.1
      refine ⟨rfl, ?_⟩
      refine ⟨_, rfl, B.bk, _, 0, .ref B.kd, rfl, rfl, .of (F'.get 1 rfl), atI_nat (j := 0) rfl, _, rfl, B.kd, _, _, _, rfl, rfl, .of (F'.get 2 rfl), at_of (j := 5 + j) (by omega) (by rw [List.getElem?_map, List.getElem?_eq_getElem hjl]; rfl), rfl, _, rfl, ?_⟩
      rw [dec_iv]
      by_cases e1 : w.kd[5 + j] = 0
      · rw [decide_eq_true e1]
        exact iteF (Pv.no (Same.refl _) hx (by unfold heldP; rw [ek, decide_eq_true e1]; rfl))
      · rw [decide_eq_false e1]
        exact iteT ⟨_, rfl, Pv.yes hD (Same.refl _) hx h14 (by unfold heldP; rw [ek, decide_eq_false e1]; rfl)⟩
    intro H1 Pv
    obtain ⟨s1, e1⟩ := Pv.all (by rw [rng_len]; rfl)
    have S1 := S.same s1
    have hne : (rng 5 19).filter (heldP w.kd) ≠ [] := fun q => by
      have h5 : (5 : Int) ∈ (rng 5 19).filter (heldP w.kd) := by
        refine List.mem_filter.mpr ⟨List.mem_of_getElem? (rng_get (lo := 5) (n := 19) (i := 0) (by decide)), ?_⟩
        unfold heldP
        rw [show ((5 : Int)).toNat = 5 from rfl, G.kf 5 (by decide)]
        rfl
      rw [q] at h5
      cases h5
    -- the picks
    have hlen0 : 0 < ((rng 5 19).filter (heldP w.kd)).length := List.length_pos_iff.mpr hne
    refine ⟨_, rfl, _, rfl, fa, fs, 19, rfl, S1.F.get 0 rfl, by decide, fun p1 f1 p10 p11 fl1 => ?_⟩
    have S2 := S1.feed f1
    have k02 : Kp (A.ft im ++ bkA B fa) H (upd H1 fa (.lst (f1.map V.int))) := (Kp.of s1).own (by simp [hfa])
    have fr02 : ∀ x, upd H1 fa (.lst (f1.map V.int)) x = none → H x = none := fun x e => s1.free (un e)
    have nDf : D ≠ fa := fun z => by
      have := S.F.get 0 (a := fa) rfl
      rw [← z, hD] at this
      cases this
    have e2 : upd H1 fa (.lst (f1.map V.int)) D = some (.lst (((rng 5 19).filter (heldP w.kd)).map V.int)) := by rw [upd_ne nDf]; exact e1
    obtain ⟨j, x', ej, hx'⟩ := mod_idx (l := (rng 5 19).filter (heldP w.kd)) p10 hne
    have hm := List.mem_filter.mp (List.mem_of_getElem? hx')
    have hmr := rng_mem hm.1
    obtain ⟨x, rfl⟩ : ∃ x : Nat, x' = x := ⟨x'.toNat, by omega⟩
    have hx1 : 5 ≤ x := by omega
    have hx2 : x < 24 := by omega
    have hkx : (w.kd[x]?).getD 0 ≠ 0 := by
      have := hm.2
      unfold heldP at this
      rw [show ((x : Int)).toNat = x by omega] at this
      intro q
      rw [q] at this
      cases this
    refine ⟨_, rfl, D, _, rfl, .inl (.of e2), _, _, rfl, rfl, by rw [List.length_map]; omega, D, _, _, _, rfl, rfl, .of e2, at_of (j := j) (by rw [List.length_map]; exact ej) (by rw [List.getElem?_map, hx']; rfl), ?_⟩
    clear e2
    generalize upd H1 fa (.lst (f1.map V.int)) = H2 at S2 k02 fr02 ⊢
    refine ⟨_, rfl, fa, f1, 8, rfl, S2.F.get 0 rfl, by decide, fun p2 f2 p20 p21 fl2 => ?_⟩
    have S3 := S2.feed f2
    refine ⟨_, rfl, fa, f2, 3, rfl, S3.F.get 0 rfl, by decide, fun c f3 c0 c1 fl3 => ?_⟩
    rw [upd_upd]
    have S4 := S2.feed f3
    have k04 := k02.own (o := .lst (f3.map V.int)) (by simp [hfa] : fa ∈ A.ft im ++ bkA B fa)
    have fr04 : ∀ x, upd H2 fa (.lst (f3.map V.int)) x = none → H x = none := fun x e => fr02 _ (un e)
    generalize upd H2 fa (.lst (f3.map V.int)) = H4 at S4 k04 fr04 ⊢
    obtain ⟨jn, rfl⟩ : ∃ jn : Nat, p2 = jn := ⟨p2.toNat, by omega⟩
    have hjn : jn < 8 := by omega
    have L := S.I.l24
    have hxM : x < v.M.length := by rw [L.m]; exact hx2
    have h8 := L.r _ (List.getElem_mem hxM)
    have hjr : jn < (v.M[x]).length := by omega
    -- twin, old, begin, serial
    refine ⟨_, rfl, im, _, _, rfl, S4.I.ob, rfl, im, A, v, 24, 5, sl, rfl, S4.I, fun H6 im0 A0 s6 n60 I60 N60 epl eba => ?_⟩
    obtain ⟨r0, r01, r02, _⟩ := I60.gr.get (List.getElem?_eq_getElem hxM)
    refine ⟨_, rfl, im0, _, _, _, _, rfl, I60.ob, T.cl_Image, T.na_Image_cells, rfl, _, rfl, A0.ca, _, _, .ref r0, rfl, rfl, .of I60.gr.out, atI_nat (by rw [List.getElem?_map, r01]; rfl), _, rfl, r0, _, _, _, rfl, rfl, .of r02, atI_nat (by rw [List.getElem?_map, List.getElem?_eq_getElem hjr]; rfl), ?_⟩
    refine ⟨_, rfl, im, _, _, rfl, (S4.same s6).I.ob, rfl, (by show 0 ≤ sizeLine; decide), fun tq ntq => ?_⟩
    refine ⟨im, A, v, 24, 5, sl, 0, tq, [], rfl, (S4.same s6).I.keep (same_upd ntq), .inr upd_same, fun H7 t I7 k7 nt => ?_⟩
    obtain ⟨Bg, S7⟩ := beg_of S4 k04 fr04 s6 n60 I60 N60 epl eba ntq I7 k7 nt
    refine ⟨_, rfl, B.bk, _, 6, .ref B.se, rfl, rfl, .of (S7.F.get 1 rfl), atI_nat (j := 6) rfl, B.se, _, 0, .int w.se, rfl, rfl, .of (S7.F.get 8 rfl), atI_nat (j := 0) rfl, _, _, rfl, rfl, ?_⟩
    refine ⟨_, rfl, B.bk, _, 6, .ref B.se, rfl, rfl, .of (S7.F.get 1 rfl), atI_nat (j := 6) rfl, B.se, _, _, 0, rfl, rfl, S7.F.get 8 rfl, ixN_nat rfl (by show 0 < 1; decide), ?_⟩
    generalize upd H7 B.se (.lst (([w.se].map V.int).set 0 (V.int (w.se + 1)))) = H8 at Bg ⊢
    have S8 := Bg.S
    -- the cell
    obtain ⟨r, r1', r2', _⟩ := S8.I.gr.get (M := (begV v 0 []).M) (i := x) (m := v.M[x]) (List.getElem?_eq_getElem hxM)
    refine ⟨_, rfl, im, _, _, _, _, rfl, S8.I.ob, T.cl_Image, T.na_Image_cells, rfl, _, rfl, A.ca, _, _, .ref r, rfl, rfl, .of S8.I.gr.out, atI_nat (by rw [List.getElem?_map, r1']; rfl), ?_⟩
    refine ⟨_, rfl, _, rfl, _, rfl, r, _, _, jn, rfl, rfl, r2', ixN_nat rfl (by rw [List.length_map]; exact hjr), ?_⟩
    have hr_ : r ∈ A.rs := List.mem_of_getElem? r1'
    have I9 := S8.I.setC (j := jn) (x := c) r1' (List.getElem?_eq_getElem hxM)
    have S9 : SI T.C_Image T.C_Plan (upd H8 r (.lst ((v.M[x].map V.int).set jn (V.int c)))) im { A with ba := t } (cellV (begV v 0 []) x jn c) 24 5 sl (bkL B { w with se := w.se + 1 } fa f3) := S8.imgN (F := [r]) I9 Kp.refl.own1 (fun y hy => by rw [List.mem_singleton.mp hy]; simp [IA.reads, hr_]) fun y hy => .inl hy
    have k09 := Bg.k.own (o := .lst ((v.M[x].map V.int).set jn (V.int c))) (by simp [IA.ft, hr_] : r ∈ A.ft im ++ bkA B fa)
    have I90 : ImgAt T.C_Image T.C_Plan (upd H8 r (.lst ((v.M[x].map V.int).set jn (V.int c)))) im0 A0 v 24 5 sl := Bg.I0.keepF fun y o' hy e => by
      rw [upd_ne fun z => Bg.out r (by simp [hr_]) (by rw [← z]; exact hy)]
      exact e
    generalize upd H8 r (.lst ((v.M[x].map V.int).set jn (V.int c))) = H9 at S9 k09 I90 ⊢
    -- settle
    refine ⟨_, rfl, im, _, _, rfl, S9.I.ob, rfl, _, rfl, im, _, _, 24, 5, sl, im0, A0, v, rfl, S9.I, I90, Bg.out A.st (by simp), fun H15 I15 k15 => ?_⟩
    have S15 : SI T.C_Image T.C_Plan H15 im { A with ba := t } (setV (cellV (begV v 0 []) x jn c) v) 24 5 sl (bkL B { w with se := w.se + 1 } fa f3) := S9.imgN I15 k15 (by simp [IA.reads]) fun y hy => .inl hy
    have k015 : Kp (A.ft im ++ bkA B fa) H H15 := k09.trans (k15.mono fun y hy => by simp [IA.ft] at hy ⊢; simp [hy])
    have fin := G.changed (c := c) L hx1 hx2 hjn hkx 0 []
    have ec : cellAt v.M x jn = v.M[x][jn] := cellAt_of (List.getElem?_eq_getElem hxM) (List.getElem?_eq_getElem hjr)
    rw [ec] at fin
    have rd : ∀ y ∈ ({ A with ba := t } : IA).reads im, y ∈ A.reads im ∨ H y = none := fun y hy => by
      rcases reads_ba hy with e | e
      · exact .inl e
      · right
        rw [e]
        exact Bg.t0
    refine ⟨_, rfl, _, rfl, rfl, _, rfl, ?_⟩
    rw [dec_iv]
    by_cases q : c = v.M[x][jn]
    · rw [decide_eq_true q]
      rw [if_pos q] at fin
      exact iteF (k H15 ⟨_, _, _, f3, S15, fin, k015, rd⟩)
    · rw [decide_eq_false q]
      rw [if_neg q] at fin
      have wst : w.st.length = 24 := by rw [G.st]; exact L.s
      refine iteT ⟨_, rfl, _, rfl, im, _, _, 24, 5, sl, B, { w with se := w.se + 1 }, fa, f3, x, rfl, S15, by show x < w.st.length; omega, fun H16 S16 k16 => ?_⟩
      exact k H16 ⟨_, _, _, f3, S16, fin, k015.trans (k16.mono fun y hy => List.mem_append.mpr (.inr hy)), rd⟩
end
end K88
namespace K88
open PySem PySem.Spec PyProof.Rows L2 Rg
theorem start_M : (freshM 24 5).length = 24 := by decide +kernel
def v0I : IV := ofV 24 5 (freshM 24 5) (24 : Int).toNat
theorem agr0 : Agr 0 v0I w0 := by
  refine { se := rfl, ho := by decide +kernel, st := by decide +kernel, us4 := rfl, li4 := rfl, r0 := by decide +kernel, kl := rfl, kf := fun x hx => ?_, k3 := fun x k h => ?_, mp := fun x hx => ?_, z := fun x hx h => ?_, ow := fun x k hx h hk => ?_, hs := ?_, s1 := by decide, ul := ?_, ol := by decide, hd := rfl }
  · have h : ∀ x ∈ List.range 10, k0L[x]? = some 1 := by decide +kernel
    exact h x (by rw [List.mem_range]; exact hx)
  · have h' : k0L[x]? = some k := h
    have hm : k ∈ k0L := List.mem_of_getElem? h'
    have hh : ∀ k ∈ k0L, k = 0 ∨ k = 1 ∨ k = 2 := by decide +kernel
    exact hh k hm
  · have h : ∀ x ∈ List.range 24, cellAt v0I.M (2 + x / 8) (x % 8) = (w0.kd[x]?).getD 0 := by decide +kernel
    exact h x (by rw [List.mem_range]; exact hx)
  · have h24 : x < 24 := (List.getElem?_eq_some_iff.mp h).1
    have hh : ∀ x ∈ List.range 24, 10 ≤ x → v0I.M[x]? = some (List.replicate 8 0) := by decide +kernel
    exact hh x (by rw [List.mem_range]; exact h24) hx
  · have h24 : x < 24 := (List.getElem?_eq_some_iff.mp h).1
    have hh : ∀ x ∈ List.range 24, 10 ≤ x → w0.kd[x]? = some 0 := by decide +kernel
    rw [hh x (by rw [List.mem_range]; exact h24) hx] at h
    exact absurd (Option.some.inj h).symm hk
  · show ∀ y ∈ v0I.ho, y ≤ 1
    decide +kernel
  · show ∀ u ∈ ([0, 0, 0, 0] : List Int), u.natAbs ≤ 0
    decide
section
variable {P : Program} {w0_ : World} {K : PySem.W.Frag} {mg : Str → Option Value} {base : Heap}
def sp_law (K : PySem.W.Frag) : Sp := fun vs H Q _ => ∃ (a : Addr) (ns : List Int), vs = [.ref a] ∧ SqL K H a (ns.map V.int) ∧ ns.length ≤ 63 ∧ ∀ H', Q (.bl true) H'
theorem ok_law (T : Tx K mg) : FnOk P w0_ K mg base CX0 7 T.f_law T.fd_law ["_law_script"] (sp_law K) := by
  refine T.F_law.ok sc_law (fun vs H Q E h => ?_) (fun cdv A0_ outer s H vs Q E hr h => ?_)
  · obtain ⟨_, _, rfl, _⟩ := h; rfl
  · obtain ⟨a, ns, rfl, hS, hlen, k⟩ := h
    have hr1 : Room 1 _ := hr.mono (by decide)
    have hr2 : Room 2 _ := hr.mono (by decide)
    have hr3 : Room 3 _ := hr.mono (by decide)
    have hr4 : Room 4 _ := hr.mono (by decide)
    refine ⟨_, (pss_cons (ps_set (i := 1) sc_law.nd rfl (.inl rfl) (pe_call (ok_Lfeed T) hr1 rfl T.mg_Lfeed T.F_Lfeed.kp (b_Lfeed T) .nil pass0 (pa_cons (pv 0) pa_nil)))
      (pss_cons (ps_set (i := 2) sc_law.nd rfl (.inl rfl) (pe_smeth T.mg_Image T.cr_Image T.sm_Image_fresh (ok_fresh T) hr4 (b_Image_fresh T) .nil pass0 (pa_cons (pe_makeK T.mk_Plan (ok_Plan_init T) hr2 rfl T.mg_Plan (kb_Plan T) pass0 (pa_cons pe_int pa_nil) (pk_cons pe_int (pk_cons pe_int pk_nil))) pa_nil)))
      (pss_cons (ps_set (i := 3) sc_law.nd rfl (.inl rfl) (pe_call0 (ok_Lstart T) hr1 rfl T.mg_Lstart T.F_Lstart.kp (b_Lstart T) .nil pass0))
      (pss_cons (ps_if (pt_not (pt_val (pe_call (ok_Lagrees T) hr4 rfl T.mg_Lagrees T.F_Lagrees.kp (b_Lagrees T) .nil pass0 (pa_cons (pv 2) (pa_cons (pv 3) pa_nil)))))
        (pss_one (ps_ret pe_bl))
        pss_nil)
      (pss_cons (ps_for PassesOwn.never rfl (pi_range1 rfl T.b_range (pa_cons (pe_op op_add pe_int (pe_call (ok_Lpick T) hr1 rfl T.mg_Lpick T.F_Lpick.kp (b_Lpick T) .nil pass0 (pa_cons (pv 1) (pa_cons pe_int pa_nil)))) pa_nil)) (pg_name (i := 4) sc_law.nd rfl (.inl rfl))
        (pss_cons (ps_set (i := 5) sc_law.nd rfl (.inl rfl) (pe_lst (pa_cons (pe_lc rfl (own := [("_law_row", 6)]) (g := gName 6) (tt := tYes) sc_law.nd (pi_list (pe_fld (pv 2) rfl)) (blkOk_by (N := ["_law_script", "_law_feed_here", "_law_image", "_law_book", "_law_k", "_law_kept", "_law_row", "_law_twin", "_law_choice"]) (sc := defScope s_law) (by decide +kernel)) (fun _ _ _ _ _ => pg_name (i := 6) sc_law.nd rfl (Or.inl rfl)) (fun _ _ _ _ _ => pts_nil) (fun _ _ _ _ _ => (pe_listof (K := K) (pv 6) T.b_list))) (pa_cons (pe_listof (K := K) (pe_fld (pv 2) rfl) T.b_list) (pa_cons (pe_listof (K := K) (pe_fld (pv 2) rfl) T.b_list) pa_nil)))))
        (pss_cons (ps_set (i := 7) sc_law.nd rfl (.inl rfl) (pe_meth0 (pv 2) T.cl_Image T.m_Image_twin (ok_twin T) hr3 (b_Image_twin T) .nil pass0))
        (pss_cons (ps_set (i := 8) sc_law.nd rfl (.inl rfl) (pe_call (ok_Lpick T) hr1 rfl T.mg_Lpick T.F_Lpick.kp (b_Lpick T) .nil pass0 (pa_cons (pv 1) (pa_cons pe_int pa_nil))))
        (Evl.pss_cut (ps_if (pt_cmpR op_lt (pv 8) pe_int (nomark _))
          (pss_one (ps_if (pt_not (pt_val (pe_call (ok_Ltake T) hr rfl T.mg_Ltake T.F_Ltake.kp (b_Ltake T) .nil pass0 (pa_cons (pv 2) (pa_cons (pv 3) (pa_cons (pv 1) pa_nil))))))
            (pss_one (ps_ret pe_bl))
            pss_nil))
          (pss_one (ps_if (pt_cmpR op_lt (pv 8) pe_int (nomark _))
            (pss_one (ps_expr (pe_call (ok_Lgive T) hr4 rfl T.mg_Lgive T.F_Lgive.kp (b_Lgive T) .nil pass0 (pa_cons (pv 2) (pa_cons (pv 3) (pa_cons (pv 1) pa_nil))))))
            (pss_one (ps_if (pt_cmpR op_eq (pv 8) pe_int (nomark _))
              (pss_one (ps_expr (pe_call (ok_Lchange T) hr4 rfl T.mg_Lchange T.F_Lchange.kp (b_Lchange T) .nil pass0 (pa_cons (pv 2) (pa_cons (pv 3) (pa_cons (pv 1) pa_nil))))))
              (pss_one (ps_expr (pe_call (ok_Llimit T) hr2 rfl T.mg_Llimit T.F_Llimit.kp (b_Llimit T) .nil pass0 (pa_cons (pv 2) (pa_cons (pv 3) (pa_cons (pv 1) pa_nil)))))))))))
        (pss_one (ps_if (PW.pt (pw_or (pt_not (pt_val (pe_call (ok_Lagrees T) hr4 rfl T.mg_Lagrees T.F_Lagrees.kp (b_Lagrees T) .nil pass0 (pa_cons (pv 2) (pa_cons (pv 3) pa_nil))))) (pw_or1 (pt_not (pt_val (pe_call (ok_Lsame T) hr1 rfl T.mg_Lsame T.F_Lsame.kp (b_Lsame T) .nil pass0 (pa_cons (pv 7) (pa_cons (pv 5) pa_nil))))))))
          (pss_one (ps_ret pe_bl))
          pss_nil)))))))
      (pss_one (ps_ret (pe_and (pe_cmpR op_eq (pe_callB call_len_seq rfl T.b_len (by decide +kernel) (pa_cons (pe_fld (pv 2) rfl) pa_nil)) pe_int (nomark _)) (pe_one (pe_cmpR (op_eq_dict (Nat.lt_of_le_of_lt (Nat.le_add_right _ 64) hr.units)) (pe_fld (pv 2) rfl) pe_dnewK (nomark _))))))))))), ?_⟩
    -- the feed
    refine ⟨_, rfl, a, ns, rfl, hS, hlen, fun H1 fa f1 S1 nfa efa lfs => ?_⟩
    -- Plan(24, nodes=5, slots=30), Image.fresh
    refine ⟨rfl, rfl, fun px pdx npx npdx ned => ?_⟩
    refine ⟨px, pdx, 24, 5, 30, rfl, upd_same, by decide, by decide, by decide, by decide, by decide, by decide, by decide, rfl, ?_⟩
    have Pl : PlanAt T.C_Plan (upd (upd (upd H1 pdx (.own px)) px (.ins T.C_Plan pdx [])) px (.ins T.C_Plan pdx (planF 24 5 30))) px 24 5 30 :=
      ⟨⟨pdx, upd_same⟩, by decide, by decide, by decide, by decide, by decide, by decide, by decide⟩
    have Fp : (upd (upd (upd H1 pdx (.own px)) px (.ins T.C_Plan pdx [])) px (.ins T.C_Plan pdx (planF 24 5 30))) fa = some (.lst (f1.map V.int)) := by
      have a1 : fa ≠ px := ne_of_none efa npx
      have a2 : fa ≠ pdx := ne_of_none efa npdx
      rw [upd_ne a1, upd_ne a1, upd_ne a2]
      exact efa
    generalize upd (upd (upd H1 pdx (.own px)) px (.ins T.C_Plan pdx [])) px (.ins T.C_Plan pdx (planF 24 5 30)) = H2 at Pl Fp ⊢
    refine ⟨px, 24, 5, 30, rfl, Pl, fun H3 im A S3 nim I3 N3 eA => ?_⟩
    have F3 := S3 _ _ Fp
    have hfa : ∀ y, H2 y = none → fa ≠ y := fun y e => ne_of_none Fp e
    -- the book
    refine ⟨rfl, fun H4 B S4 FB nB => ?_⟩
    have F4 := S4 _ _ F3
    have I4 : ImgAt T.C_Image T.C_Plan H4 im A v0I 24 5 30 := I3.keep S4
    have hpl : ∃ dxp, H4 A.pl = some (.ins T.C_Plan dxp (planF 24 5 30)) := I4.pl.ob
    have X4 : SI T.C_Image T.C_Plan H4 im A v0I 24 5 30 (bkL B w0 fa f1) := by
      refine ⟨I4, ⟨fun p hp => ?_, ?_⟩, fun p hp => ?_⟩
      · rcases List.mem_cons.mp hp with rfl | hp
        · exact F4
        · exact FB.at_ p hp
      · show ((fa, HO.lst (f1.map V.int)) :: bkL0 B w0 |>.map (·.1)).Nodup
        rw [List.map_cons, List.nodup_cons]
        refine ⟨fun z => ?_, FB.nd⟩
        obtain ⟨q, hq, e⟩ := List.mem_map.mp z
        have h1 := nB q hq
        rw [e] at h1
        rw [h1] at F3
        cases F3
      · rcases List.mem_cons.mp hp with rfl | hp
        · intro z
          obtain ⟨dxp, hpl⟩ := hpl
          simp only [IA.reads, List.mem_cons] at z
          rcases z with z | z | z | z | z | z | z | z
          · exact hfa _ nim z
          · rw [← z, F4] at hpl
            cases hpl
          · exact hfa _ N3.ca z
          · exact hfa _ N3.ho z
          · exact hfa _ N3.st z
          · exact hfa _ N3.hd z
          · have := I4.ba
            rw [← z, F4] at this
            cases this
          · exact hfa _ (N3.rs _ z) rfl
        · intro z
          obtain ⟨o, e⟩ := I3.held z
          rw [nB p hp] at e
          cases e
    have G0 := agr0
    clear I4 I3 hpl
    generalize v0I = v0 at X4 G0
    -- the first look
    refine ⟨_, rfl, _, rfl, 0, im, A, v0, 30, B, w0, fa, f1, rfl, X4, G0, fun H5 S5 => ⟨_, rfl, iteF ?_⟩⟩
    have X5 := X4.same S5
    -- the loop
    refine ⟨_, rfl, fa, f1, 20, rfl, X5.F.get 0 rfl, by decide, fun r2 f2 r20 r21 fl2 => ?_⟩
    have X6 := X5.feed f2
    refine ⟨_, _, rfl, rfl, _, rfl, by omega, by omega, for_range (lo := 0) (n := (1 + r2).toNat) (fun i σ H' => ∃ (A : IA) (v : IV) (w : BV) (fs : List Int) (u4 u5 u6 u7 u8 : Option V), σ = [some (.ref a), some (.ref fa), some (.ref im), some (.ref B.bk), u4, u5, u6, u7, u8] ∧ SI T.C_Image T.C_Plan H' im A v 24 5 30 (bkL B w fa fs) ∧ Agr i v w)
      ⟨A, v0, w0, f2, _, _, _, _, _, rfl, X6, G0⟩ ?_ ?_⟩
    · rintro i σ H' hi ⟨A, v, w, fs, u4, u5, u6, u7, u8, rfl, X, G⟩
      have d0 := X.I.d0
      -- _law_kept
      refine ⟨_, rfl, im, _, _, _, _, rfl, X.I.ob, T.cl_Image, T.na_Image_cells, rfl, A.ca, rfl, ⟨_, .of X.I.gr.out⟩, fun D hD => ?_⟩
      refine lc_list (K := K) (a := A.ca) (xs := A.rs.map V.ref) (fun i H2 => ∃ qs, NewGrid H' H2 D qs (v.M.take i))
        ⟨[], NewGrid.start (Same.refl _) hD hD⟩ (fun i H2 _ ⟨qs, G⟩ => .of (G.same _ _ X.I.gr.out)) ?_ ?_
      · rintro i y H2 hi ⟨qs, G⟩
        have hil : i < A.rs.length := by
          have := (List.getElem?_eq_some_iff.mp hi).1
          rw [List.length_map] at this
          exact this
        rw [List.getElem?_map, List.getElem?_eq_getElem hil] at hi
        have hi : V.ref A.rs[i] = y := Option.some.inj hi
        subst hi
        have hiR : i < v.M.length := by rw [← X.I.gr.len]; exact hil
        have hrow := G.same _ _ (X.I.gr.row i A.rs[i] v.M[i] (List.getElem?_eq_getElem hil) (List.getElem?_eq_getElem hiR))
        refine ⟨rfl, ?_⟩
        refine yes_ ?_
        refine ⟨_, rfl, A.rs[i], _, rfl, .inl (.of hrow), fun q hq => ?_⟩
        refine ⟨_, by rw [upd_ne (ne_of_none G.grid.out hq)]; exact G.grid.out, ?_, qs ++ [q], ?_⟩
        · rw [List.length_map, G.grid.len, List.length_take]
          exact small1000 (by omega)
        · rw [List.take_succ, List.getElem?_eq_getElem hiR]
          exact G.snoc (same_upd hq) hq upd_same
      rintro H7 ⟨qs, G1⟩
      rw [List.length_map, X.I.gr.len, List.take_length] at G1
      have X7 := X.same G1.same
      refine ⟨_, rfl, im, _, _, _, _, rfl, X7.I.ob, T.cl_Image, T.na_Image_holdings, rfl, A.ho, _, rfl, .inl (.of X7.I.ho), fun kh nkh => ?_⟩
      have s8' := same_upd (o := .lst (v.ho.map V.int)) nkh
      have s8 := G1.same.trans s8'
      have g8 := G1.grid.same s8'
      have ekh : upd H7 kh (.lst (v.ho.map V.int)) kh = some (.lst (v.ho.map V.int)) := upd_same
      have nkh0 := G1.same.free nkh
      generalize upd H7 kh (.lst (v.ho.map V.int)) = H8 at s8 g8 ekh ⊢
      have X8 := X.same s8
      refine ⟨_, rfl, im, _, _, _, _, rfl, X8.I.ob, T.cl_Image, T.na_Image_stamps, rfl, A.st, _, rfl, .inl (.of X8.I.st), fun ks nks => ?_⟩
      have s9' := same_upd (o := .lst (v.st.map V.int)) nks
      have s9 := s8.trans s9'
      have g9 := g8.same s9'
      have ekh9 := s9' _ _ ekh
      have eks : upd H8 ks (.lst (v.st.map V.int)) ks = some (.lst (v.st.map V.int)) := upd_same
      have nks0 := s8.free nks
      generalize upd H8 ks (.lst (v.st.map V.int)) = H9 at s9 g9 ekh9 eks ⊢
      have X9 := X.same s9
      refine ⟨(by show 3 ≤ sizeLine; decide), fun ka nka => ?_⟩
      have s10' := same_upd (o := .lst [.ref D, .ref kh, .ref ks]) nka
      have s10 := s9.trans s10'
      have g10 := g9.same s10'
      have ekh10 := s10' _ _ ekh9
      have eks10 := s10' _ _ eks
      have eka : upd H9 ka (.lst [.ref D, .ref kh, .ref ks]) ka = some (.lst [.ref D, .ref kh, .ref ks]) := upd_same
      have nka0 := s9.free nka
      generalize upd H9 ka (.lst [.ref D, .ref kh, .ref ks]) = H10 at s10 g10 ekh10 eks10 eka ⊢
      have X10 := X.same s10
      -- _law_twin
      refine ⟨_, rfl, im, _, _, rfl, X10.I.ob, rfl, im, A, v, 24, 5, 30, rfl, X10.I, fun H11 it A2 s11 nit I11 N11 eA1 eA2 => ?_⟩
      have X11 := X10.same s11
      -- the choice
      refine ⟨_, rfl, fa, fs, 8, rfl, X11.F.get 0 rfl, by decide, fun ch f3 ch0 ch8 lf3 => ?_⟩
      have X12 := X11.feed f3
      have k12 : Kp (A.ft im ++ bkA B fa) H11 (upd H11 fa (.lst (f3.map V.int))) := Kp.refl.own (by simp [bkA])
      generalize upd H11 fa (.lst (f3.map V.int)) = H12 at X12 k12 ⊢
      have hi20 : i ≤ 100 := by omega
      -- what is kept
      have fresh_out : ∀ x, H' x = none → x ∉ A.ft im ++ bkA B fa := fun x e z => by
        rcases List.mem_append.mp z with z | z
        · obtain ⟨⟨o, q⟩, _⟩ := X.I.foot_ne z
          rw [e] at q
          cases q
        · rw [← bkA_eq (w := w) (fs := fs)] at z
          obtain ⟨p, hp, rfl⟩ := List.mem_map.mp z
          rw [X.F.at_ p hp] at e
          cases e
      have twin_keep : ∀ x ∈ A2.reads it, x ∉ A.ft im ++ bkA B fa := fun x hx z => by
        rcases List.mem_append.mp z with z | z
        · obtain ⟨⟨o, q⟩, n1, n2⟩ := X10.I.foot_ne z
          exact twin_out N11 nit eA1 eA2 ⟨o, q⟩ n1 n2 hx
        · rw [← bkA_eq (w := w) (fs := fs)] at z
          obtain ⟨p, hp, rfl⟩ := List.mem_map.mp z
          exact twin_out N11 nit eA1 eA2 ⟨_, X10.F.at_ p hp⟩ (fun z => X10.ap p hp (by rw [z]; simp [IA.reads])) (fun z => X10.ap p hp (by rw [z]; simp [IA.reads])) hx
      refine ⟨fun σ H13 => σ = [some (.ref a), some (.ref fa), some (.ref im), some (.ref B.bk), some (.int (0 + (i : Int))), some (.ref ka), u6, some (.ref it), some (.int ch)] ∧ Stp T.C_Image T.C_Plan H12 im A 30 B fa i H13, ?_, ?_⟩
      · refine ⟨_, rfl, _, _, rfl, rfl, _, rfl, ite2 (fun _ => ?_) (fun _ => ?_)⟩
        · exact ⟨_, rfl, _, rfl, _, rfl, i, im, A, v, 30, B, w, fa, f3, rfl, X12, G, hi20, fun H13 st => ⟨_, rfl, iteF ⟨rfl, st⟩⟩⟩
        · refine ⟨_, rfl, _, _, rfl, rfl, _, rfl, ite2 (fun _ => ?_) (fun _ => ?_)⟩
          · exact ⟨_, rfl, _, rfl, _, rfl, i, im, A, v, 30, B, w, fa, f3, rfl, X12, G, hi20, fun H13 st => ⟨rfl, st⟩⟩
          · refine ⟨_, rfl, rfl, _, rfl, ite2 (fun _ => ?_) (fun _ => ?_)⟩
            · exact ⟨_, rfl, _, rfl, _, rfl, i, im, A, v, 30, B, w, fa, f3, rfl, X12, G, hi20, fun H13 st => ⟨rfl, st⟩⟩
            · exact ⟨_, rfl, _, rfl, _, rfl, i, im, A, v, 30, B, w, fa, f3, rfl, X12, G, hi20, fun H13 st => ⟨rfl, st⟩⟩
      rintro σ H13 ⟨rfl, A', v', w', f4, X13, G13, k13, _⟩
      have kk : Kp (A.ft im ++ bkA B fa) H11 H13 := k12.trans k13
      refine ⟨_, rfl, _, rfl, i + 1, im, A', v', 30, B, w', fa, f4, rfl, X13, G13, fun H14 s14 => ⟨_, rfl, iteF ?_⟩⟩
      have ke : ∀ x o, H' x = none → H10 x = some o → H14 x = some o := fun x o n e => s14 _ _ (kk _ _ (s11 _ _ e) (fresh_out x n))
      have gk : Grid H14 D qs v.M := g10.keep fun x o hx e => ke x o (by
        rcases hx with rfl | hx
        · exact G1.freshD
        · exact G1.fresh x hx) e
      have it14 : ImgAt T.C_Image T.C_Plan H14 it A2 v 24 5 30 := I11.keepF fun x o hx e => s14 _ _ (kk _ _ e (twin_keep x hx))
      refine ⟨_, rfl, _, rfl, it, A2, v, 24, 5, 30, ka, D, kh, ks, qs, rfl, it14, ke _ _ nka0 eka, gk, ke _ _ nkh0 ekh10, ke _ _ nks0 eks10, fun H15 s15 => ⟨_, rfl, iteF ?_⟩⟩
      exact ⟨A', v', w', f4, _, _, _, _, _, rfl, (X13.same s14).same s15, G13⟩
    · rintro σ H' ⟨A, v, w, fs, u4, u5, u6, u7, u8, rfl, X, G⟩
      have L := X.I.l24
      refine ⟨_, rfl, im, _, _, _, _, rfl, X.I.ob, T.cl_Image, T.na_Image_cells, rfl, A.ca, _, rfl, .inl (.of X.I.gr.out), rfl, _, rfl, ?_⟩
      rw [dec_iv, List.length_map, X.I.gr.len, L.m, decide_eq_true (by decide)]
      have hdv := X.I.hd
      rw [G.hd] at hdv
      refine iteT ⟨_, rfl, im, _, _, _, _, rfl, X.I.ob, T.cl_Image, T.na_Image_handles, rfl, fun z nz => ?_⟩
      exact ⟨A.hd, z, [], rfl, rfl, same_upd nz _ _ hdv, upd_same, by simp, by simp, k _⟩
end
end K88
namespace K88
open PySem PySem.Spec PyProof.Rows L2 Rg
theorem law_binds {K : PySem.W.Frag} {mg : Str → Option Value} (T : Tx K mg) (s : Shared) (v : Value) : BindsTo s T.fd_law ⟨[v], []⟩ [("_law_script", v)] := by
  obtain ⟨oc, od, kV, doc, pm, an, cdv, ct, osl, e, lk, hcd⟩ := T.F_law.ex
  rw [e]
  exact .of_eq rfl
theorem fin_F {P : Program} {w : World} {K : PySem.W.Frag} {mg : Str → Option Value} {fa : Addr} (z : Nonempty (Tx K mg)) (hmg : mg "law" = some (.ref fa)) :
    ∃ fd : FuncData, (∀ (s : Shared) (u : Value), BindsTo s fd ⟨[u], []⟩ [("_law_script", u)]) ∧ ∀ base : Heap, K.In base → base.Ns mainGlobals mg → FnOk P w K mg base CX0 7 fa fd ["_law_script"] (sp_law K) := by
  obtain ⟨T⟩ := z
  have e : T.f_law = fa := Value.ref.inj (Option.some.inj (T.mg_law.symm.trans hmg))
  subst e
  exact ⟨T.fd_law, fun s v => law_binds T s v, fun base _ _ => ok_law T⟩
theorem all_mk {w : World} {K : PySem.W.Frag} {h : Heap} {mg : Str → Option Value} (X : K.In h) (G : h.Ns mainGlobals mg)
    {a_Lfeed : Addr}
    {od_Lfeed an_Lfeed : Option Addr} {sl_Lfeed : Array (Option Value)} {oc_Lfeed kV_Lfeed dc_Lfeed pm_Lfeed cd_Lfeed ct_Lfeed : Value}
    (l_Lfeed : K.lookup a_Lfeed = some ⟨oc_Lfeed, od_Lfeed, .func (PySem.W.fnOf "_law_feed" "_law_feed" (defArgs s_Lfeed) (defBody s_Lfeed) (defScope s_Lfeed) .none kV_Lfeed dc_Lfeed pm_Lfeed an_Lfeed cd_Lfeed ct_Lfeed), sl_Lfeed⟩)
    (c_Lfeed : PySem.W.codeIn K cd_Lfeed "_law_feed" = true)
    (k_Lfeed : PySem.W.keepIn K (.ref a_Lfeed) = true)
    (g_Lfeed : PySem.W.nsIn K mainGlobals "_law_feed" = some (some (.ref a_Lfeed)))
    {a_Lpick : Addr}
    {od_Lpick an_Lpick : Option Addr} {sl_Lpick : Array (Option Value)} {oc_Lpick kV_Lpick dc_Lpick pm_Lpick cd_Lpick ct_Lpick : Value}
    (l_Lpick : K.lookup a_Lpick = some ⟨oc_Lpick, od_Lpick, .func (PySem.W.fnOf "_law_pick" "_law_pick" (defArgs s_Lpick) (defBody s_Lpick) (defScope s_Lpick) .none kV_Lpick dc_Lpick pm_Lpick an_Lpick cd_Lpick ct_Lpick), sl_Lpick⟩)
    (c_Lpick : PySem.W.codeIn K cd_Lpick "_law_pick" = true)
    (k_Lpick : PySem.W.keepIn K (.ref a_Lpick) = true)
    (g_Lpick : PySem.W.nsIn K mainGlobals "_law_pick" = some (some (.ref a_Lpick)))
    {a_Lstart : Addr}
    {od_Lstart an_Lstart : Option Addr} {sl_Lstart : Array (Option Value)} {oc_Lstart kV_Lstart dc_Lstart pm_Lstart cd_Lstart ct_Lstart : Value}
    (l_Lstart : K.lookup a_Lstart = some ⟨oc_Lstart, od_Lstart, .func (PySem.W.fnOf "_law_start" "_law_start" (defArgs s_Lstart) (defBody s_Lstart) (defScope s_Lstart) .none kV_Lstart dc_Lstart pm_Lstart an_Lstart cd_Lstart ct_Lstart), sl_Lstart⟩)
    (c_Lstart : PySem.W.codeIn K cd_Lstart "_law_start" = true)
    (k_Lstart : PySem.W.keepIn K (.ref a_Lstart) = true)
    (g_Lstart : PySem.W.nsIn K mainGlobals "_law_start" = some (some (.ref a_Lstart)))
    {a_Lagrees : Addr}
    {od_Lagrees an_Lagrees : Option Addr} {sl_Lagrees : Array (Option Value)} {oc_Lagrees kV_Lagrees dc_Lagrees pm_Lagrees cd_Lagrees ct_Lagrees : Value}
    (l_Lagrees : K.lookup a_Lagrees = some ⟨oc_Lagrees, od_Lagrees, .func (PySem.W.fnOf "_law_agrees" "_law_agrees" (defArgs s_Lagrees) (defBody s_Lagrees) (defScope s_Lagrees) .none kV_Lagrees dc_Lagrees pm_Lagrees an_Lagrees cd_Lagrees ct_Lagrees), sl_Lagrees⟩)
    (c_Lagrees : PySem.W.codeIn K cd_Lagrees "_law_agrees" = true)
    (k_Lagrees : PySem.W.keepIn K (.ref a_Lagrees) = true)
    (g_Lagrees : PySem.W.nsIn K mainGlobals "_law_agrees" = some (some (.ref a_Lagrees)))
    {a_Ldue_block : Addr}
    {od_Ldue_block an_Ldue_block : Option Addr} {sl_Ldue_block : Array (Option Value)} {oc_Ldue_block kV_Ldue_block dc_Ldue_block pm_Ldue_block cd_Ldue_block ct_Ldue_block : Value}
    (l_Ldue_block : K.lookup a_Ldue_block = some ⟨oc_Ldue_block, od_Ldue_block, .func (PySem.W.fnOf "_law_due_block" "_law_due_block" (defArgs s_Ldue_block) (defBody s_Ldue_block) (defScope s_Ldue_block) .none kV_Ldue_block dc_Ldue_block pm_Ldue_block an_Ldue_block cd_Ldue_block ct_Ldue_block), sl_Ldue_block⟩)
    (c_Ldue_block : PySem.W.codeIn K cd_Ldue_block "_law_due_block" = true)
    (k_Ldue_block : PySem.W.keepIn K (.ref a_Ldue_block) = true)
    (g_Ldue_block : PySem.W.nsIn K mainGlobals "_law_due_block" = some (some (.ref a_Ldue_block)))
    {a_Lrefuses : Addr}
    {od_Lrefuses an_Lrefuses : Option Addr} {sl_Lrefuses : Array (Option Value)} {oc_Lrefuses kV_Lrefuses dc_Lrefuses pm_Lrefuses cd_Lrefuses ct_Lrefuses : Value}
    (l_Lrefuses : K.lookup a_Lrefuses = some ⟨oc_Lrefuses, od_Lrefuses, .func (PySem.W.fnOf "_law_refuses" "_law_refuses" (defArgs s_Lrefuses) (defBody s_Lrefuses) (defScope s_Lrefuses) .none kV_Lrefuses dc_Lrefuses pm_Lrefuses an_Lrefuses cd_Lrefuses ct_Lrefuses), sl_Lrefuses⟩)
    (c_Lrefuses : PySem.W.codeIn K cd_Lrefuses "_law_refuses" = true)
    (k_Lrefuses : PySem.W.keepIn K (.ref a_Lrefuses) = true)
    (g_Lrefuses : PySem.W.nsIn K mainGlobals "_law_refuses" = some (some (.ref a_Lrefuses)))
    {a_Ltake : Addr}
    {od_Ltake an_Ltake : Option Addr} {sl_Ltake : Array (Option Value)} {oc_Ltake kV_Ltake dc_Ltake pm_Ltake cd_Ltake ct_Ltake : Value}
    (l_Ltake : K.lookup a_Ltake = some ⟨oc_Ltake, od_Ltake, .func (PySem.W.fnOf "_law_take" "_law_take" (defArgs s_Ltake) (defBody s_Ltake) (defScope s_Ltake) .none kV_Ltake dc_Ltake pm_Ltake an_Ltake cd_Ltake ct_Ltake), sl_Ltake⟩)
    (c_Ltake : PySem.W.codeIn K cd_Ltake "_law_take" = true)
    (k_Ltake : PySem.W.keepIn K (.ref a_Ltake) = true)
    (g_Ltake : PySem.W.nsIn K mainGlobals "_law_take" = some (some (.ref a_Ltake)))
    {a_Lnote : Addr}
    {od_Lnote an_Lnote : Option Addr} {sl_Lnote : Array (Option Value)} {oc_Lnote kV_Lnote dc_Lnote pm_Lnote cd_Lnote ct_Lnote : Value}
    (l_Lnote : K.lookup a_Lnote = some ⟨oc_Lnote, od_Lnote, .func (PySem.W.fnOf "_law_note" "_law_note" (defArgs s_Lnote) (defBody s_Lnote) (defScope s_Lnote) .none kV_Lnote dc_Lnote pm_Lnote an_Lnote cd_Lnote ct_Lnote), sl_Lnote⟩)
    (c_Lnote : PySem.W.codeIn K cd_Lnote "_law_note" = true)
    (k_Lnote : PySem.W.keepIn K (.ref a_Lnote) = true)
    (g_Lnote : PySem.W.nsIn K mainGlobals "_law_note" = some (some (.ref a_Lnote)))
    {a_Ltouch : Addr}
    {od_Ltouch an_Ltouch : Option Addr} {sl_Ltouch : Array (Option Value)} {oc_Ltouch kV_Ltouch dc_Ltouch pm_Ltouch cd_Ltouch ct_Ltouch : Value}
    (l_Ltouch : K.lookup a_Ltouch = some ⟨oc_Ltouch, od_Ltouch, .func (PySem.W.fnOf "_law_touch" "_law_touch" (defArgs s_Ltouch) (defBody s_Ltouch) (defScope s_Ltouch) .none kV_Ltouch dc_Ltouch pm_Ltouch an_Ltouch cd_Ltouch ct_Ltouch), sl_Ltouch⟩)
    (c_Ltouch : PySem.W.codeIn K cd_Ltouch "_law_touch" = true)
    (k_Ltouch : PySem.W.keepIn K (.ref a_Ltouch) = true)
    (g_Ltouch : PySem.W.nsIn K mainGlobals "_law_touch" = some (some (.ref a_Ltouch)))
    {a_Lgive : Addr}
    {od_Lgive an_Lgive : Option Addr} {sl_Lgive : Array (Option Value)} {oc_Lgive kV_Lgive dc_Lgive pm_Lgive cd_Lgive ct_Lgive : Value}
    (l_Lgive : K.lookup a_Lgive = some ⟨oc_Lgive, od_Lgive, .func (PySem.W.fnOf "_law_give" "_law_give" (defArgs s_Lgive) (defBody s_Lgive) (defScope s_Lgive) .none kV_Lgive dc_Lgive pm_Lgive an_Lgive cd_Lgive ct_Lgive), sl_Lgive⟩)
    (c_Lgive : PySem.W.codeIn K cd_Lgive "_law_give" = true)
    (k_Lgive : PySem.W.keepIn K (.ref a_Lgive) = true)
    (g_Lgive : PySem.W.nsIn K mainGlobals "_law_give" = some (some (.ref a_Lgive)))
    {a_Lchange : Addr}
    {od_Lchange an_Lchange : Option Addr} {sl_Lchange : Array (Option Value)} {oc_Lchange kV_Lchange dc_Lchange pm_Lchange cd_Lchange ct_Lchange : Value}
    (l_Lchange : K.lookup a_Lchange = some ⟨oc_Lchange, od_Lchange, .func (PySem.W.fnOf "_law_change" "_law_change" (defArgs s_Lchange) (defBody s_Lchange) (defScope s_Lchange) .none kV_Lchange dc_Lchange pm_Lchange an_Lchange cd_Lchange ct_Lchange), sl_Lchange⟩)
    (c_Lchange : PySem.W.codeIn K cd_Lchange "_law_change" = true)
    (k_Lchange : PySem.W.keepIn K (.ref a_Lchange) = true)
    (g_Lchange : PySem.W.nsIn K mainGlobals "_law_change" = some (some (.ref a_Lchange)))
    {a_Llimit : Addr}
    {od_Llimit an_Llimit : Option Addr} {sl_Llimit : Array (Option Value)} {oc_Llimit kV_Llimit dc_Llimit pm_Llimit cd_Llimit ct_Llimit : Value}
    (l_Llimit : K.lookup a_Llimit = some ⟨oc_Llimit, od_Llimit, .func (PySem.W.fnOf "_law_limit" "_law_limit" (defArgs s_Llimit) (defBody s_Llimit) (defScope s_Llimit) .none kV_Llimit dc_Llimit pm_Llimit an_Llimit cd_Llimit ct_Llimit), sl_Llimit⟩)
    (c_Llimit : PySem.W.codeIn K cd_Llimit "_law_limit" = true)
    (k_Llimit : PySem.W.keepIn K (.ref a_Llimit) = true)
    (g_Llimit : PySem.W.nsIn K mainGlobals "_law_limit" = some (some (.ref a_Llimit)))
    {a_Lsame : Addr}
    {od_Lsame an_Lsame : Option Addr} {sl_Lsame : Array (Option Value)} {oc_Lsame kV_Lsame dc_Lsame pm_Lsame cd_Lsame ct_Lsame : Value}
    (l_Lsame : K.lookup a_Lsame = some ⟨oc_Lsame, od_Lsame, .func (PySem.W.fnOf "_law_same" "_law_same" (defArgs s_Lsame) (defBody s_Lsame) (defScope s_Lsame) .none kV_Lsame dc_Lsame pm_Lsame an_Lsame cd_Lsame ct_Lsame), sl_Lsame⟩)
    (c_Lsame : PySem.W.codeIn K cd_Lsame "_law_same" = true)
    (k_Lsame : PySem.W.keepIn K (.ref a_Lsame) = true)
    (g_Lsame : PySem.W.nsIn K mainGlobals "_law_same" = some (some (.ref a_Lsame)))
    {a_law : Addr}
    {od_law an_law : Option Addr} {sl_law : Array (Option Value)} {oc_law kV_law dc_law pm_law cd_law ct_law : Value}
    (l_law : K.lookup a_law = some ⟨oc_law, od_law, .func (PySem.W.fnOf "law" "law" (defArgs s_law) (defBody s_law) (defScope s_law) .none kV_law dc_law pm_law an_law cd_law ct_law), sl_law⟩)
    (c_law : PySem.W.codeIn K cd_law "law" = true)
    (k_law : PySem.W.keepIn K (.ref a_law) = true)
    (g_law : PySem.W.nsIn K mainGlobals "law" = some (some (.ref a_law)))
    {a_Plan___init__ : Addr}
    {od_Plan___init__ an_Plan___init__ : Option Addr} {sl_Plan___init__ : Array (Option Value)} {oc_Plan___init__ kV_Plan___init__ dc_Plan___init__ pm_Plan___init__ cd_Plan___init__ ct_Plan___init__ : Value}
    (l_Plan___init__ : K.lookup a_Plan___init__ = some ⟨oc_Plan___init__, od_Plan___init__, .func (PySem.W.fnOf "__init__" "Plan.__init__" (defArgs s_Plan___init__) (defBody s_Plan___init__) (defScope s_Plan___init__) .none kV_Plan___init__ dc_Plan___init__ pm_Plan___init__ an_Plan___init__ cd_Plan___init__ ct_Plan___init__), sl_Plan___init__⟩)
    (c_Plan___init__ : PySem.W.codeIn K cd_Plan___init__ "Plan.__init__" = true)
    (k_Plan___init__ : PySem.W.keepIn K (.ref a_Plan___init__) = true)
    {a_Plan_map_place : Addr}
    {od_Plan_map_place an_Plan_map_place : Option Addr} {sl_Plan_map_place : Array (Option Value)} {oc_Plan_map_place kV_Plan_map_place dc_Plan_map_place pm_Plan_map_place cd_Plan_map_place ct_Plan_map_place : Value}
    (l_Plan_map_place : K.lookup a_Plan_map_place = some ⟨oc_Plan_map_place, od_Plan_map_place, .func (PySem.W.fnOf "map_place" "Plan.map_place" (defArgs s_Plan_map_place) (defBody s_Plan_map_place) (defScope s_Plan_map_place) .none kV_Plan_map_place dc_Plan_map_place pm_Plan_map_place an_Plan_map_place cd_Plan_map_place ct_Plan_map_place), sl_Plan_map_place⟩)
    (c_Plan_map_place : PySem.W.codeIn K cd_Plan_map_place "Plan.map_place" = true)
    (k_Plan_map_place : PySem.W.keepIn K (.ref a_Plan_map_place) = true)
    {a_Plan_node_block : Addr}
    {od_Plan_node_block an_Plan_node_block : Option Addr} {sl_Plan_node_block : Array (Option Value)} {oc_Plan_node_block kV_Plan_node_block dc_Plan_node_block pm_Plan_node_block cd_Plan_node_block ct_Plan_node_block : Value}
    (l_Plan_node_block : K.lookup a_Plan_node_block = some ⟨oc_Plan_node_block, od_Plan_node_block, .func (PySem.W.fnOf "node_block" "Plan.node_block" (defArgs s_Plan_node_block) (defBody s_Plan_node_block) (defScope s_Plan_node_block) .none kV_Plan_node_block dc_Plan_node_block pm_Plan_node_block an_Plan_node_block cd_Plan_node_block ct_Plan_node_block), sl_Plan_node_block⟩)
    (c_Plan_node_block : PySem.W.codeIn K cd_Plan_node_block "Plan.node_block" = true)
    (k_Plan_node_block : PySem.W.keepIn K (.ref a_Plan_node_block) = true)
    {a_Plan_data_blocks : Addr}
    {od_Plan_data_blocks an_Plan_data_blocks : Option Addr} {sl_Plan_data_blocks : Array (Option Value)} {oc_Plan_data_blocks kV_Plan_data_blocks dc_Plan_data_blocks pm_Plan_data_blocks cd_Plan_data_blocks ct_Plan_data_blocks : Value}
    (l_Plan_data_blocks : K.lookup a_Plan_data_blocks = some ⟨oc_Plan_data_blocks, od_Plan_data_blocks, .func (PySem.W.fnOf "data_blocks" "Plan.data_blocks" (defArgs s_Plan_data_blocks) (defBody s_Plan_data_blocks) (defScope s_Plan_data_blocks) .none kV_Plan_data_blocks dc_Plan_data_blocks pm_Plan_data_blocks an_Plan_data_blocks cd_Plan_data_blocks ct_Plan_data_blocks), sl_Plan_data_blocks⟩)
    (c_Plan_data_blocks : PySem.W.codeIn K cd_Plan_data_blocks "Plan.data_blocks" = true)
    (k_Plan_data_blocks : PySem.W.keepIn K (.ref a_Plan_data_blocks) = true)
    {a_Image___init__ : Addr}
    {od_Image___init__ an_Image___init__ : Option Addr} {sl_Image___init__ : Array (Option Value)} {oc_Image___init__ kV_Image___init__ dc_Image___init__ pm_Image___init__ cd_Image___init__ ct_Image___init__ : Value}
    (l_Image___init__ : K.lookup a_Image___init__ = some ⟨oc_Image___init__, od_Image___init__, .func (PySem.W.fnOf "__init__" "Image.__init__" (defArgs s_Image___init__) (defBody s_Image___init__) (defScope s_Image___init__) .none kV_Image___init__ dc_Image___init__ pm_Image___init__ an_Image___init__ cd_Image___init__ ct_Image___init__), sl_Image___init__⟩)
    (c_Image___init__ : PySem.W.codeIn K cd_Image___init__ "Image.__init__" = true)
    (k_Image___init__ : PySem.W.keepIn K (.ref a_Image___init__) = true)
    {a_Image_twin : Addr}
    {od_Image_twin an_Image_twin : Option Addr} {sl_Image_twin : Array (Option Value)} {oc_Image_twin kV_Image_twin dc_Image_twin pm_Image_twin cd_Image_twin ct_Image_twin : Value}
    (l_Image_twin : K.lookup a_Image_twin = some ⟨oc_Image_twin, od_Image_twin, .func (PySem.W.fnOf "twin" "Image.twin" (defArgs s_Image_twin) (defBody s_Image_twin) (defScope s_Image_twin) .none kV_Image_twin dc_Image_twin pm_Image_twin an_Image_twin cd_Image_twin ct_Image_twin), sl_Image_twin⟩)
    (c_Image_twin : PySem.W.codeIn K cd_Image_twin "Image.twin" = true)
    (k_Image_twin : PySem.W.keepIn K (.ref a_Image_twin) = true)
    {a_Image_kind : Addr}
    {od_Image_kind an_Image_kind : Option Addr} {sl_Image_kind : Array (Option Value)} {oc_Image_kind kV_Image_kind dc_Image_kind pm_Image_kind cd_Image_kind ct_Image_kind : Value}
    (l_Image_kind : K.lookup a_Image_kind = some ⟨oc_Image_kind, od_Image_kind, .func (PySem.W.fnOf "kind" "Image.kind" (defArgs s_Image_kind) (defBody s_Image_kind) (defScope s_Image_kind) .none kV_Image_kind dc_Image_kind pm_Image_kind an_Image_kind cd_Image_kind ct_Image_kind), sl_Image_kind⟩)
    (c_Image_kind : PySem.W.codeIn K cd_Image_kind "Image.kind" = true)
    (k_Image_kind : PySem.W.keepIn K (.ref a_Image_kind) = true)
    {a_Image_begin : Addr}
    {od_Image_begin an_Image_begin : Option Addr} {sl_Image_begin : Array (Option Value)} {oc_Image_begin kV_Image_begin dc_Image_begin pm_Image_begin cd_Image_begin ct_Image_begin : Value}
    (l_Image_begin : K.lookup a_Image_begin = some ⟨oc_Image_begin, od_Image_begin, .func (PySem.W.fnOf "begin" "Image.begin" (defArgs s_Image_begin) (defBody s_Image_begin) (defScope s_Image_begin) .none kV_Image_begin dc_Image_begin pm_Image_begin an_Image_begin cd_Image_begin ct_Image_begin), sl_Image_begin⟩)
    (c_Image_begin : PySem.W.codeIn K cd_Image_begin "Image.begin" = true)
    (k_Image_begin : PySem.W.keepIn K (.ref a_Image_begin) = true)
    {a_Image_settle : Addr}
    {od_Image_settle an_Image_settle : Option Addr} {sl_Image_settle : Array (Option Value)} {oc_Image_settle kV_Image_settle dc_Image_settle pm_Image_settle cd_Image_settle ct_Image_settle : Value}
    (l_Image_settle : K.lookup a_Image_settle = some ⟨oc_Image_settle, od_Image_settle, .func (PySem.W.fnOf "settle" "Image.settle" (defArgs s_Image_settle) (defBody s_Image_settle) (defScope s_Image_settle) .none kV_Image_settle dc_Image_settle pm_Image_settle an_Image_settle cd_Image_settle ct_Image_settle), sl_Image_settle⟩)
    (c_Image_settle : PySem.W.codeIn K cd_Image_settle "Image.settle" = true)
    (k_Image_settle : PySem.W.keepIn K (.ref a_Image_settle) = true)
    {a_Image_take : Addr}
    {od_Image_take an_Image_take : Option Addr} {sl_Image_take : Array (Option Value)} {oc_Image_take kV_Image_take dc_Image_take pm_Image_take cd_Image_take ct_Image_take : Value}
    (l_Image_take : K.lookup a_Image_take = some ⟨oc_Image_take, od_Image_take, .func (PySem.W.fnOf "take" "Image.take" (defArgs s_Image_take) (defBody s_Image_take) (defScope s_Image_take) .none kV_Image_take dc_Image_take pm_Image_take an_Image_take cd_Image_take ct_Image_take), sl_Image_take⟩)
    (c_Image_take : PySem.W.codeIn K cd_Image_take "Image.take" = true)
    (k_Image_take : PySem.W.keepIn K (.ref a_Image_take) = true)
    {a_Image_give : Addr}
    {od_Image_give an_Image_give : Option Addr} {sl_Image_give : Array (Option Value)} {oc_Image_give kV_Image_give dc_Image_give pm_Image_give cd_Image_give ct_Image_give : Value}
    (l_Image_give : K.lookup a_Image_give = some ⟨oc_Image_give, od_Image_give, .func (PySem.W.fnOf "give" "Image.give" (defArgs s_Image_give) (defBody s_Image_give) (defScope s_Image_give) .none kV_Image_give dc_Image_give pm_Image_give an_Image_give cd_Image_give ct_Image_give), sl_Image_give⟩)
    (c_Image_give : PySem.W.codeIn K cd_Image_give "Image.give" = true)
    (k_Image_give : PySem.W.keepIn K (.ref a_Image_give) = true)
    {a_Image__put_block : Addr}
    {od_Image__put_block an_Image__put_block : Option Addr} {sl_Image__put_block : Array (Option Value)} {oc_Image__put_block kV_Image__put_block dc_Image__put_block pm_Image__put_block cd_Image__put_block ct_Image__put_block : Value}
    (l_Image__put_block : K.lookup a_Image__put_block = some ⟨oc_Image__put_block, od_Image__put_block, .func (PySem.W.fnOf "_put_block" "Image._put_block" (defArgs s_Image__put_block) (defBody s_Image__put_block) (defScope s_Image__put_block) .none kV_Image__put_block dc_Image__put_block pm_Image__put_block an_Image__put_block cd_Image__put_block ct_Image__put_block), sl_Image__put_block⟩)
    (c_Image__put_block : PySem.W.codeIn K cd_Image__put_block "Image._put_block" = true)
    (k_Image__put_block : PySem.W.keepIn K (.ref a_Image__put_block) = true)
    {a_Image_free_blocks : Addr}
    {od_Image_free_blocks an_Image_free_blocks : Option Addr} {sl_Image_free_blocks : Array (Option Value)} {oc_Image_free_blocks kV_Image_free_blocks dc_Image_free_blocks pm_Image_free_blocks cd_Image_free_blocks ct_Image_free_blocks : Value}
    (l_Image_free_blocks : K.lookup a_Image_free_blocks = some ⟨oc_Image_free_blocks, od_Image_free_blocks, .func (PySem.W.fnOf "free_blocks" "Image.free_blocks" (defArgs s_Image_free_blocks) (defBody s_Image_free_blocks) (defScope s_Image_free_blocks) .none kV_Image_free_blocks dc_Image_free_blocks pm_Image_free_blocks an_Image_free_blocks cd_Image_free_blocks ct_Image_free_blocks), sl_Image_free_blocks⟩)
    (c_Image_free_blocks : PySem.W.codeIn K cd_Image_free_blocks "Image.free_blocks" = true)
    (k_Image_free_blocks : PySem.W.keepIn K (.ref a_Image_free_blocks) = true)
    {a_Image_identity : Addr}
    {od_Image_identity an_Image_identity : Option Addr} {sl_Image_identity : Array (Option Value)} {oc_Image_identity kV_Image_identity dc_Image_identity pm_Image_identity cd_Image_identity ct_Image_identity : Value}
    (l_Image_identity : K.lookup a_Image_identity = some ⟨oc_Image_identity, od_Image_identity, .func (PySem.W.fnOf "identity" "Image.identity" (defArgs s_Image_identity) (defBody s_Image_identity) (defScope s_Image_identity) .none kV_Image_identity dc_Image_identity pm_Image_identity an_Image_identity cd_Image_identity ct_Image_identity), sl_Image_identity⟩)
    (c_Image_identity : PySem.W.codeIn K cd_Image_identity "Image.identity" = true)
    (k_Image_identity : PySem.W.keepIn K (.ref a_Image_identity) = true)
    {a_Image_fresh : Addr}
    {od_Image_fresh an_Image_fresh : Option Addr} {sl_Image_fresh : Array (Option Value)} {oc_Image_fresh kV_Image_fresh dc_Image_fresh pm_Image_fresh cd_Image_fresh ct_Image_fresh : Value}
    (l_Image_fresh : K.lookup a_Image_fresh = some ⟨oc_Image_fresh, od_Image_fresh, .func (PySem.W.fnOf "fresh" "Image.fresh" (defArgs s_Image_fresh) (defBody s_Image_fresh) (defScope s_Image_fresh) .none kV_Image_fresh dc_Image_fresh pm_Image_fresh an_Image_fresh cd_Image_fresh ct_Image_fresh), sl_Image_fresh⟩)
    (c_Image_fresh : PySem.W.codeIn K cd_Image_fresh "Image.fresh" = true)
    (k_Image_fresh : PySem.W.keepIn K (.ref a_Image_fresh) = true)
    {a_Image_of_cells : Addr}
    {od_Image_of_cells an_Image_of_cells : Option Addr} {sl_Image_of_cells : Array (Option Value)} {oc_Image_of_cells kV_Image_of_cells dc_Image_of_cells pm_Image_of_cells cd_Image_of_cells ct_Image_of_cells : Value}
    (l_Image_of_cells : K.lookup a_Image_of_cells = some ⟨oc_Image_of_cells, od_Image_of_cells, .func (PySem.W.fnOf "of_cells" "Image.of_cells" (defArgs s_Image_of_cells) (defBody s_Image_of_cells) (defScope s_Image_of_cells) .none kV_Image_of_cells dc_Image_of_cells pm_Image_of_cells an_Image_of_cells cd_Image_of_cells ct_Image_of_cells), sl_Image_of_cells⟩)
    (c_Image_of_cells : PySem.W.codeIn K cd_Image_of_cells "Image.of_cells" = true)
    (k_Image_of_cells : PySem.W.keepIn K (.ref a_Image_of_cells) = true)
    {aC_Plan : Addr}
    (g_Plan : PySem.W.nsIn K mainGlobals "Plan" = some (some (.ref aC_Plan)))
    (pg_Plan : PySem.W.plainGet K aC_Plan Str.empty = true)
    (hd_Plan : PySem.W.hasDictIn K aC_Plan = true)
    (po_Plan : PySem.W.plainOver K aC_Plan = true)
    (sa_Plan : PySem.W.findIn K (.ref aC_Plan) "__setattr__" = some (some (.builtin "object.__setattr__")))
    (n_Plan_blocks : PySem.W.findIn K (.ref aC_Plan) "blocks" = some none)
    (n_Plan_nodes : PySem.W.findIn K (.ref aC_Plan) "nodes" = some none)
    (n_Plan_slots : PySem.W.findIn K (.ref aC_Plan) "slots" = some none)
    (n_Plan_maps : PySem.W.findIn K (.ref aC_Plan) "maps" = some none)
    (n_Plan_first_node : PySem.W.findIn K (.ref aC_Plan) "first_node" = some none)
    (n_Plan_first_data : PySem.W.findIn K (.ref aC_Plan) "first_data" = some none)
    (mk1_Plan : PySem.W.makesIn K aC_Plan = true)
    (mk2_Plan : PySem.W.findIn K (.ref aC_Plan) "__init__" = some (some (.ref a_Plan___init__)))
    (mk3_Plan : PySem.W.isFn K (.ref a_Plan___init__) = true)
    (mk4_Plan : PySem.W.keepIn K (.ref aC_Plan) = true)
    {mcv_Plan : Value}
    (tp_Plan : PySem.W.typeIn K (.ref aC_Plan) = some mcv_Plan)
    (rd_Plan : PySem.W.readsIn K aC_Plan mcv_Plan = true)
    (ga_Plan : PySem.W.specialIn K (.ref aC_Plan) "__getattribute__" = some (some (.builtin "type.__getattribute__")))
    {tv_Plan_WIDTH : Tok}
    (v_Plan_WIDTH : PySem.W.findCls K (.ref aC_Plan) mcv_Plan "WIDTH" = some (.val (.int 8 tv_Plan_WIDTH)))
    {tv_Plan_FREE : Tok}
    (v_Plan_FREE : PySem.W.findCls K (.ref aC_Plan) mcv_Plan "FREE" = some (.val (.int 0 tv_Plan_FREE)))
    {tv_Plan_LOGGED : Tok}
    (v_Plan_LOGGED : PySem.W.findCls K (.ref aC_Plan) mcv_Plan "LOGGED" = some (.val (.int 1 tv_Plan_LOGGED)))
    {tv_Plan_PLAIN : Tok}
    (v_Plan_PLAIN : PySem.W.findCls K (.ref aC_Plan) mcv_Plan "PLAIN" = some (.val (.int 2 tv_Plan_PLAIN)))
    {tv_Plan_OWNERS : Tok}
    (v_Plan_OWNERS : PySem.W.findCls K (.ref aC_Plan) mcv_Plan "OWNERS" = some (.val (.int 4 tv_Plan_OWNERS)))
    {tc_Plan_WIDTH : Tok}
    (o_Plan_WIDTH : PySem.W.findIn K (.ref aC_Plan) "WIDTH" = some (some (.int 8 tc_Plan_WIDTH)))
    (og_Plan_WIDTH : PySem.W.specialIn K (.int 8 tc_Plan_WIDTH) "__get__" = some none)
    {aC_Image : Addr}
    (g_Image : PySem.W.nsIn K mainGlobals "Image" = some (some (.ref aC_Image)))
    (pg_Image : PySem.W.plainGet K aC_Image Str.empty = true)
    (hd_Image : PySem.W.hasDictIn K aC_Image = true)
    (po_Image : PySem.W.plainOver K aC_Image = true)
    (sa_Image : PySem.W.findIn K (.ref aC_Image) "__setattr__" = some (some (.builtin "object.__setattr__")))
    (n_Image_plan : PySem.W.findIn K (.ref aC_Image) "plan" = some none)
    (n_Image_cells : PySem.W.findIn K (.ref aC_Image) "cells" = some none)
    (n_Image_holdings : PySem.W.findIn K (.ref aC_Image) "holdings" = some none)
    (n_Image_stamps : PySem.W.findIn K (.ref aC_Image) "stamps" = some none)
    (n_Image_handles : PySem.W.findIn K (.ref aC_Image) "handles" = some none)
    (n_Image_serial : PySem.W.findIn K (.ref aC_Image) "serial" = some none)
    (n_Image_wish : PySem.W.findIn K (.ref aC_Image) "wish" = some none)
    (n_Image_barred : PySem.W.findIn K (.ref aC_Image) "barred" = some none)
    (mk1_Image : PySem.W.makesIn K aC_Image = true)
    (mk2_Image : PySem.W.findIn K (.ref aC_Image) "__init__" = some (some (.ref a_Image___init__)))
    (mk3_Image : PySem.W.isFn K (.ref a_Image___init__) = true)
    (mk4_Image : PySem.W.keepIn K (.ref aC_Image) = true)
    {mcv_Image : Value}
    (tp_Image : PySem.W.typeIn K (.ref aC_Image) = some mcv_Image)
    (rd_Image : PySem.W.readsIn K aC_Image mcv_Image = true)
    (ga_Image : PySem.W.specialIn K (.ref aC_Image) "__getattribute__" = some (some (.builtin "type.__getattribute__")))
    (m1_Plan_map_place : PySem.W.findIn K (.ref aC_Plan) "map_place" = some (some (.ref a_Plan_map_place)))
    (m2_Plan_map_place : PySem.W.isFn K (.ref a_Plan_map_place) = true)
    (m1_Plan_node_block : PySem.W.findIn K (.ref aC_Plan) "node_block" = some (some (.ref a_Plan_node_block)))
    (m2_Plan_node_block : PySem.W.isFn K (.ref a_Plan_node_block) = true)
    (m1_Plan_data_blocks : PySem.W.findIn K (.ref aC_Plan) "data_blocks" = some (some (.ref a_Plan_data_blocks)))
    (m2_Plan_data_blocks : PySem.W.isFn K (.ref a_Plan_data_blocks) = true)
    (m1_Image_twin : PySem.W.findIn K (.ref aC_Image) "twin" = some (some (.ref a_Image_twin)))
    (m2_Image_twin : PySem.W.isFn K (.ref a_Image_twin) = true)
    (m1_Image_kind : PySem.W.findIn K (.ref aC_Image) "kind" = some (some (.ref a_Image_kind)))
    (m2_Image_kind : PySem.W.isFn K (.ref a_Image_kind) = true)
    (m1_Image_begin : PySem.W.findIn K (.ref aC_Image) "begin" = some (some (.ref a_Image_begin)))
    (m2_Image_begin : PySem.W.isFn K (.ref a_Image_begin) = true)
    (m1_Image_settle : PySem.W.findIn K (.ref aC_Image) "settle" = some (some (.ref a_Image_settle)))
    (m2_Image_settle : PySem.W.isFn K (.ref a_Image_settle) = true)
    (m1_Image_take : PySem.W.findIn K (.ref aC_Image) "take" = some (some (.ref a_Image_take)))
    (m2_Image_take : PySem.W.isFn K (.ref a_Image_take) = true)
    (m1_Image_give : PySem.W.findIn K (.ref aC_Image) "give" = some (some (.ref a_Image_give)))
    (m2_Image_give : PySem.W.isFn K (.ref a_Image_give) = true)
    (m1_Image__put_block : PySem.W.findIn K (.ref aC_Image) "_put_block" = some (some (.ref a_Image__put_block)))
    (m2_Image__put_block : PySem.W.isFn K (.ref a_Image__put_block) = true)
    (m1_Image_free_blocks : PySem.W.findIn K (.ref aC_Image) "free_blocks" = some (some (.ref a_Image_free_blocks)))
    (m2_Image_free_blocks : PySem.W.isFn K (.ref a_Image_free_blocks) = true)
    (m1_Image_identity : PySem.W.findIn K (.ref aC_Image) "identity" = some (some (.ref a_Image_identity)))
    (m2_Image_identity : PySem.W.isFn K (.ref a_Image_identity) = true)
    {sp_Image_fresh : Addr} {sr_Image_fresh : List Value}
    (s1_Image_fresh : PySem.W.findCls K (.ref aC_Image) mcv_Image "fresh" = some (.get (.builtin "staticmethod.__get__") (.ref sp_Image_fresh) .none (.ref aC_Image)))
    (s2_Image_fresh : PySem.W.recIn K sp_Image_fresh "staticmethod" = some (.ref a_Image_fresh :: sr_Image_fresh))
    {sp_Image_of_cells : Addr} {sr_Image_of_cells : List Value}
    (s1_Image_of_cells : PySem.W.findCls K (.ref aC_Image) mcv_Image "of_cells" = some (.get (.builtin "staticmethod.__get__") (.ref sp_Image_of_cells) .none (.ref aC_Image)))
    (s2_Image_of_cells : PySem.W.recIn K sp_Image_of_cells "staticmethod" = some (.ref a_Image_of_cells :: sr_Image_of_cells))
    {aC_Refused : Addr}
    (g_Refused : PySem.W.nsIn K mainGlobals "Refused" = some (some (.ref aC_Refused)))
    (be1_Refused : PySem.W.subIn K (.ref aC_Refused) (.type "BaseException") = some true)
    (te1_Refused : PySem.W.typeIn K (.ref aC_Refused) = some (.type "type"))
    (ie1_Refused : PySem.W.isClsIn K aC_Refused = true)
    {aC_OverQuota : Addr}
    (g_OverQuota : PySem.W.nsIn K mainGlobals "OverQuota" = some (some (.ref aC_OverQuota)))
    (be1_OverQuota : PySem.W.subIn K (.ref aC_OverQuota) (.type "BaseException") = some true)
    (te1_OverQuota : PySem.W.typeIn K (.ref aC_OverQuota) = some (.type "type"))
    (ie1_OverQuota : PySem.W.isClsIn K aC_OverQuota = true)
    (xe1_OverQuota : PySem.W.excIn K aC_OverQuota [.type "ValueError", .type "Exception", .type "BaseException", .type "object"] "ValueError.__new__" = true)
    (ke1_OverQuota : PySem.W.keepIn K (.ref aC_OverQuota) = true)
    (ec1_OverQuota : PySem.W.findIn K (.ref aC_OverQuota) "__getattribute__" = some (some (.builtin "BaseException.__getattribute__")))
    (ec2_OverQuota : PySem.W.findIn K (.ref aC_OverQuota) "__getattr__" = some none)
    (ec4_OverQuota : PySem.W.hasDictIn K aC_OverQuota = true)
    (ec5_OverQuota : PySem.W.findIn K (.ref aC_OverQuota) "__class__" = some (some (.builtin "object.__class__")))
    (ec6_OverQuota : PySem.W.specialIn K (.builtin "object.__class__") "__get__" = some (some (.builtin "getset_descriptor.__get__")))
    (ec7_OverQuota : PySem.W.takesIn K (.builtin "object.__class__") = some true)
    (ec8_OverQuota : PySem.W.mroIn K aC_OverQuota (.type "object") = some true)
    {aC_BlocksFull : Addr}
    (g_BlocksFull : PySem.W.nsIn K mainGlobals "BlocksFull" = some (some (.ref aC_BlocksFull)))
    (be1_BlocksFull : PySem.W.subIn K (.ref aC_BlocksFull) (.type "BaseException") = some true)
    (te1_BlocksFull : PySem.W.typeIn K (.ref aC_BlocksFull) = some (.type "type"))
    (ie1_BlocksFull : PySem.W.isClsIn K aC_BlocksFull = true)
    (xe1_BlocksFull : PySem.W.excIn K aC_BlocksFull [.type "ValueError", .type "Exception", .type "BaseException", .type "object"] "ValueError.__new__" = true)
    (ke1_BlocksFull : PySem.W.keepIn K (.ref aC_BlocksFull) = true)
    (ec1_BlocksFull : PySem.W.findIn K (.ref aC_BlocksFull) "__getattribute__" = some (some (.builtin "BaseException.__getattribute__")))
    (ec2_BlocksFull : PySem.W.findIn K (.ref aC_BlocksFull) "__getattr__" = some none)
    (ec4_BlocksFull : PySem.W.hasDictIn K aC_BlocksFull = true)
    (ec5_BlocksFull : PySem.W.findIn K (.ref aC_BlocksFull) "__class__" = some (some (.builtin "object.__class__")))
    (ec6_BlocksFull : PySem.W.specialIn K (.builtin "object.__class__") "__get__" = some (some (.builtin "getset_descriptor.__get__")))
    (ec7_BlocksFull : PySem.W.takesIn K (.builtin "object.__class__") = some true)
    (ec8_BlocksFull : PySem.W.mroIn K aC_BlocksFull (.type "object") = some true)
    (sb_OverQuota_OverQuota : PySem.W.subIn K (.ref aC_OverQuota) (.ref aC_OverQuota) = some true)
    (sb_OverQuota_Refused : PySem.W.subIn K (.ref aC_OverQuota) (.ref aC_Refused) = some true)
    (sb_BlocksFull_Refused : PySem.W.subIn K (.ref aC_BlocksFull) (.ref aC_Refused) = some true)
    (sb_OverQuota_BlocksFull : PySem.W.subIn K (.ref aC_OverQuota) (.ref aC_BlocksFull) = some false)
    (sb_BlocksFull_OverQuota : PySem.W.subIn K (.ref aC_BlocksFull) (.ref aC_OverQuota) = some false)
    {t_ROOT : Tok}
    (gc_ROOT : PySem.W.nsIn K mainGlobals "ROOT" = some (some (.int 1 t_ROOT)))
    {t_KIND : Tok}
    (gc_KIND : PySem.W.nsIn K mainGlobals "KIND" = some (some (.int 0 t_KIND)))
    {t_LINKS : Tok}
    (gc_LINKS : PySem.W.nsIn K mainGlobals "LINKS" = some (some (.int 1 t_LINKS)))
    {t_MAKING : Tok}
    (gc_MAKING : PySem.W.nsIn K mainGlobals "MAKING" = some (some (.int 7 t_MAKING)))
    {t_FOLDER : Tok}
    (gc_FOLDER : PySem.W.nsIn K mainGlobals "FOLDER" = some (some (.int 2 t_FOLDER)))
    {t_SUMS_BLOCK : Tok}
    (gc_SUMS_BLOCK : PySem.W.nsIn K mainGlobals "SUMS_BLOCK" = some (some (.int 0 t_SUMS_BLOCK)))
    {t_LEAST_BLOCKS : Tok}
    (gc_LEAST_BLOCKS : PySem.W.nsIn K mainGlobals "LEAST_BLOCKS" = some (some (.int 8 t_LEAST_BLOCKS)))
    {t_MOST_BLOCKS : Tok}
    (gc_MOST_BLOCKS : PySem.W.nsIn K mainGlobals "MOST_BLOCKS" = some (some (.int 64 t_MOST_BLOCKS)))
    {t_LEAST_NODES : Tok}
    (gc_LEAST_NODES : PySem.W.nsIn K mainGlobals "LEAST_NODES" = some (some (.int 2 t_LEAST_NODES)))
    {t_MOST_NODES : Tok}
    (gc_MOST_NODES : PySem.W.nsIn K mainGlobals "MOST_NODES" = some (some (.int 16 t_MOST_NODES)))
    {t_MOST_SLOTS : Tok}
    (gc_MOST_SLOTS : PySem.W.nsIn K mainGlobals "MOST_SLOTS" = some (some (.int 200 t_MOST_SLOTS)))
    {t_LEAST_DATA : Tok}
    (gc_LEAST_DATA : PySem.W.nsIn K mainGlobals "LEAST_DATA" = some (some (.int 2 t_LEAST_DATA)))
    {t_FIRST_MAP : Tok}
    (gc_FIRST_MAP : PySem.W.nsIn K mainGlobals "FIRST_MAP" = some (some (.int 2 t_FIRST_MAP)))
    (nb_abs : PySem.W.nsIn K mainGlobals "abs" = some none)
    (nb_int : PySem.W.nsIn K mainGlobals "int" = some none)
    (nb_len : PySem.W.nsIn K mainGlobals "len" = some none)
    (nb_range : PySem.W.nsIn K mainGlobals "range" = some none)
    (nb_isinstance : PySem.W.nsIn K mainGlobals "isinstance" = some none)
    (nb_bool : PySem.W.nsIn K mainGlobals "bool" = some none)
    (nb_list : PySem.W.nsIn K mainGlobals "list" = some none)
    (nb_dict : PySem.W.nsIn K mainGlobals "dict" = some none)
    (nb_tuple : PySem.W.nsIn K mainGlobals "tuple" = some none)
    : Nonempty (Tx K mg) := ⟨{
      f_Lfeed := a_Lfeed,
      fd_Lfeed := PySem.W.fnOf "_law_feed" "_law_feed" (defArgs s_Lfeed) (defBody s_Lfeed) (defScope s_Lfeed) .none kV_Lfeed dc_Lfeed pm_Lfeed an_Lfeed cd_Lfeed ct_Lfeed,
      F_Lfeed := fun_mk (st := s_Lfeed) l_Lfeed c_Lfeed k_Lfeed,
      mg_Lfeed := PySem.W.mg_of X G g_Lfeed,
      f_Lpick := a_Lpick,
      fd_Lpick := PySem.W.fnOf "_law_pick" "_law_pick" (defArgs s_Lpick) (defBody s_Lpick) (defScope s_Lpick) .none kV_Lpick dc_Lpick pm_Lpick an_Lpick cd_Lpick ct_Lpick,
      F_Lpick := fun_mk (st := s_Lpick) l_Lpick c_Lpick k_Lpick,
      mg_Lpick := PySem.W.mg_of X G g_Lpick,
      f_Lstart := a_Lstart,
      fd_Lstart := PySem.W.fnOf "_law_start" "_law_start" (defArgs s_Lstart) (defBody s_Lstart) (defScope s_Lstart) .none kV_Lstart dc_Lstart pm_Lstart an_Lstart cd_Lstart ct_Lstart,
      F_Lstart := fun_mk (st := s_Lstart) l_Lstart c_Lstart k_Lstart,
      mg_Lstart := PySem.W.mg_of X G g_Lstart,
      f_Lagrees := a_Lagrees,
      fd_Lagrees := PySem.W.fnOf "_law_agrees" "_law_agrees" (defArgs s_Lagrees) (defBody s_Lagrees) (defScope s_Lagrees) .none kV_Lagrees dc_Lagrees pm_Lagrees an_Lagrees cd_Lagrees ct_Lagrees,
      F_Lagrees := fun_mk (st := s_Lagrees) l_Lagrees c_Lagrees k_Lagrees,
      mg_Lagrees := PySem.W.mg_of X G g_Lagrees,
      f_Ldue_block := a_Ldue_block,
      fd_Ldue_block := PySem.W.fnOf "_law_due_block" "_law_due_block" (defArgs s_Ldue_block) (defBody s_Ldue_block) (defScope s_Ldue_block) .none kV_Ldue_block dc_Ldue_block pm_Ldue_block an_Ldue_block cd_Ldue_block ct_Ldue_block,
      F_Ldue_block := fun_mk (st := s_Ldue_block) l_Ldue_block c_Ldue_block k_Ldue_block,
      mg_Ldue_block := PySem.W.mg_of X G g_Ldue_block,
      f_Lrefuses := a_Lrefuses,
      fd_Lrefuses := PySem.W.fnOf "_law_refuses" "_law_refuses" (defArgs s_Lrefuses) (defBody s_Lrefuses) (defScope s_Lrefuses) .none kV_Lrefuses dc_Lrefuses pm_Lrefuses an_Lrefuses cd_Lrefuses ct_Lrefuses,
      F_Lrefuses := fun_mk (st := s_Lrefuses) l_Lrefuses c_Lrefuses k_Lrefuses,
      mg_Lrefuses := PySem.W.mg_of X G g_Lrefuses,
      f_Ltake := a_Ltake,
      fd_Ltake := PySem.W.fnOf "_law_take" "_law_take" (defArgs s_Ltake) (defBody s_Ltake) (defScope s_Ltake) .none kV_Ltake dc_Ltake pm_Ltake an_Ltake cd_Ltake ct_Ltake,
      F_Ltake := fun_mk (st := s_Ltake) l_Ltake c_Ltake k_Ltake,
      mg_Ltake := PySem.W.mg_of X G g_Ltake,
      f_Lnote := a_Lnote,
      fd_Lnote := PySem.W.fnOf "_law_note" "_law_note" (defArgs s_Lnote) (defBody s_Lnote) (defScope s_Lnote) .none kV_Lnote dc_Lnote pm_Lnote an_Lnote cd_Lnote ct_Lnote,
      F_Lnote := fun_mk (st := s_Lnote) l_Lnote c_Lnote k_Lnote,
      mg_Lnote := PySem.W.mg_of X G g_Lnote,
      f_Ltouch := a_Ltouch,
      fd_Ltouch := PySem.W.fnOf "_law_touch" "_law_touch" (defArgs s_Ltouch) (defBody s_Ltouch) (defScope s_Ltouch) .none kV_Ltouch dc_Ltouch pm_Ltouch an_Ltouch cd_Ltouch ct_Ltouch,
      F_Ltouch := fun_mk (st := s_Ltouch) l_Ltouch c_Ltouch k_Ltouch,
      mg_Ltouch := PySem.W.mg_of X G g_Ltouch,
      f_Lgive := a_Lgive,
      fd_Lgive := PySem.W.fnOf "_law_give" "_law_give" (defArgs s_Lgive) (defBody s_Lgive) (defScope s_Lgive) .none kV_Lgive dc_Lgive pm_Lgive an_Lgive cd_Lgive ct_Lgive,
      F_Lgive := fun_mk (st := s_Lgive) l_Lgive c_Lgive k_Lgive,
      mg_Lgive := PySem.W.mg_of X G g_Lgive,
      f_Lchange := a_Lchange,
      fd_Lchange := PySem.W.fnOf "_law_change" "_law_change" (defArgs s_Lchange) (defBody s_Lchange) (defScope s_Lchange) .none kV_Lchange dc_Lchange pm_Lchange an_Lchange cd_Lchange ct_Lchange,
      F_Lchange := fun_mk (st := s_Lchange) l_Lchange c_Lchange k_Lchange,
      mg_Lchange := PySem.W.mg_of X G g_Lchange,
      f_Llimit := a_Llimit,
      fd_Llimit := PySem.W.fnOf "_law_limit" "_law_limit" (defArgs s_Llimit) (defBody s_Llimit) (defScope s_Llimit) .none kV_Llimit dc_Llimit pm_Llimit an_Llimit cd_Llimit ct_Llimit,
      F_Llimit := fun_mk (st := s_Llimit) l_Llimit c_Llimit k_Llimit,
      mg_Llimit := PySem.W.mg_of X G g_Llimit,
      f_Lsame := a_Lsame,
      fd_Lsame := PySem.W.fnOf "_law_same" "_law_same" (defArgs s_Lsame) (defBody s_Lsame) (defScope s_Lsame) .none kV_Lsame dc_Lsame pm_Lsame an_Lsame cd_Lsame ct_Lsame,
      F_Lsame := fun_mk (st := s_Lsame) l_Lsame c_Lsame k_Lsame,
      mg_Lsame := PySem.W.mg_of X G g_Lsame,
      f_law := a_law,
      fd_law := PySem.W.fnOf "law" "law" (defArgs s_law) (defBody s_law) (defScope s_law) .none kV_law dc_law pm_law an_law cd_law ct_law,
      F_law := fun_mk (st := s_law) l_law c_law k_law,
      mg_law := PySem.W.mg_of X G g_law,
      f_Plan___init__ := a_Plan___init__,
      fd_Plan___init__ := PySem.W.fnOf "__init__" "Plan.__init__" (defArgs s_Plan___init__) (defBody s_Plan___init__) (defScope s_Plan___init__) .none kV_Plan___init__ dc_Plan___init__ pm_Plan___init__ an_Plan___init__ cd_Plan___init__ ct_Plan___init__,
      F_Plan___init__ := fun_mk (st := s_Plan___init__) l_Plan___init__ c_Plan___init__ k_Plan___init__,
      f_Plan_map_place := a_Plan_map_place,
      fd_Plan_map_place := PySem.W.fnOf "map_place" "Plan.map_place" (defArgs s_Plan_map_place) (defBody s_Plan_map_place) (defScope s_Plan_map_place) .none kV_Plan_map_place dc_Plan_map_place pm_Plan_map_place an_Plan_map_place cd_Plan_map_place ct_Plan_map_place,
      F_Plan_map_place := fun_mk (st := s_Plan_map_place) l_Plan_map_place c_Plan_map_place k_Plan_map_place,
      f_Plan_node_block := a_Plan_node_block,
      fd_Plan_node_block := PySem.W.fnOf "node_block" "Plan.node_block" (defArgs s_Plan_node_block) (defBody s_Plan_node_block) (defScope s_Plan_node_block) .none kV_Plan_node_block dc_Plan_node_block pm_Plan_node_block an_Plan_node_block cd_Plan_node_block ct_Plan_node_block,
      F_Plan_node_block := fun_mk (st := s_Plan_node_block) l_Plan_node_block c_Plan_node_block k_Plan_node_block,
      f_Plan_data_blocks := a_Plan_data_blocks,
      fd_Plan_data_blocks := PySem.W.fnOf "data_blocks" "Plan.data_blocks" (defArgs s_Plan_data_blocks) (defBody s_Plan_data_blocks) (defScope s_Plan_data_blocks) .none kV_Plan_data_blocks dc_Plan_data_blocks pm_Plan_data_blocks an_Plan_data_blocks cd_Plan_data_blocks ct_Plan_data_blocks,
      F_Plan_data_blocks := fun_mk (st := s_Plan_data_blocks) l_Plan_data_blocks c_Plan_data_blocks k_Plan_data_blocks,
      f_Image___init__ := a_Image___init__,
      fd_Image___init__ := PySem.W.fnOf "__init__" "Image.__init__" (defArgs s_Image___init__) (defBody s_Image___init__) (defScope s_Image___init__) .none kV_Image___init__ dc_Image___init__ pm_Image___init__ an_Image___init__ cd_Image___init__ ct_Image___init__,
      F_Image___init__ := fun_mk (st := s_Image___init__) l_Image___init__ c_Image___init__ k_Image___init__,
      f_Image_twin := a_Image_twin,
      fd_Image_twin := PySem.W.fnOf "twin" "Image.twin" (defArgs s_Image_twin) (defBody s_Image_twin) (defScope s_Image_twin) .none kV_Image_twin dc_Image_twin pm_Image_twin an_Image_twin cd_Image_twin ct_Image_twin,
      F_Image_twin := fun_mk (st := s_Image_twin) l_Image_twin c_Image_twin k_Image_twin,
      f_Image_kind := a_Image_kind,
      fd_Image_kind := PySem.W.fnOf "kind" "Image.kind" (defArgs s_Image_kind) (defBody s_Image_kind) (defScope s_Image_kind) .none kV_Image_kind dc_Image_kind pm_Image_kind an_Image_kind cd_Image_kind ct_Image_kind,
      F_Image_kind := fun_mk (st := s_Image_kind) l_Image_kind c_Image_kind k_Image_kind,
      f_Image_begin := a_Image_begin,
      fd_Image_begin := PySem.W.fnOf "begin" "Image.begin" (defArgs s_Image_begin) (defBody s_Image_begin) (defScope s_Image_begin) .none kV_Image_begin dc_Image_begin pm_Image_begin an_Image_begin cd_Image_begin ct_Image_begin,
      F_Image_begin := fun_mk (st := s_Image_begin) l_Image_begin c_Image_begin k_Image_begin,
      f_Image_settle := a_Image_settle,
      fd_Image_settle := PySem.W.fnOf "settle" "Image.settle" (defArgs s_Image_settle) (defBody s_Image_settle) (defScope s_Image_settle) .none kV_Image_settle dc_Image_settle pm_Image_settle an_Image_settle cd_Image_settle ct_Image_settle,
      F_Image_settle := fun_mk (st := s_Image_settle) l_Image_settle c_Image_settle k_Image_settle,
      f_Image_take := a_Image_take,
      fd_Image_take := PySem.W.fnOf "take" "Image.take" (defArgs s_Image_take) (defBody s_Image_take) (defScope s_Image_take) .none kV_Image_take dc_Image_take pm_Image_take an_Image_take cd_Image_take ct_Image_take,
      F_Image_take := fun_mk (st := s_Image_take) l_Image_take c_Image_take k_Image_take,
      f_Image_give := a_Image_give,
      fd_Image_give := PySem.W.fnOf "give" "Image.give" (defArgs s_Image_give) (defBody s_Image_give) (defScope s_Image_give) .none kV_Image_give dc_Image_give pm_Image_give an_Image_give cd_Image_give ct_Image_give,
      F_Image_give := fun_mk (st := s_Image_give) l_Image_give c_Image_give k_Image_give,
      f_Image__put_block := a_Image__put_block,
      fd_Image__put_block := PySem.W.fnOf "_put_block" "Image._put_block" (defArgs s_Image__put_block) (defBody s_Image__put_block) (defScope s_Image__put_block) .none kV_Image__put_block dc_Image__put_block pm_Image__put_block an_Image__put_block cd_Image__put_block ct_Image__put_block,
      F_Image__put_block := fun_mk (st := s_Image__put_block) l_Image__put_block c_Image__put_block k_Image__put_block,
      f_Image_free_blocks := a_Image_free_blocks,
      fd_Image_free_blocks := PySem.W.fnOf "free_blocks" "Image.free_blocks" (defArgs s_Image_free_blocks) (defBody s_Image_free_blocks) (defScope s_Image_free_blocks) .none kV_Image_free_blocks dc_Image_free_blocks pm_Image_free_blocks an_Image_free_blocks cd_Image_free_blocks ct_Image_free_blocks,
      F_Image_free_blocks := fun_mk (st := s_Image_free_blocks) l_Image_free_blocks c_Image_free_blocks k_Image_free_blocks,
      f_Image_identity := a_Image_identity,
      fd_Image_identity := PySem.W.fnOf "identity" "Image.identity" (defArgs s_Image_identity) (defBody s_Image_identity) (defScope s_Image_identity) .none kV_Image_identity dc_Image_identity pm_Image_identity an_Image_identity cd_Image_identity ct_Image_identity,
      F_Image_identity := fun_mk (st := s_Image_identity) l_Image_identity c_Image_identity k_Image_identity,
      f_Image_fresh := a_Image_fresh,
      fd_Image_fresh := PySem.W.fnOf "fresh" "Image.fresh" (defArgs s_Image_fresh) (defBody s_Image_fresh) (defScope s_Image_fresh) .none kV_Image_fresh dc_Image_fresh pm_Image_fresh an_Image_fresh cd_Image_fresh ct_Image_fresh,
      F_Image_fresh := fun_mk (st := s_Image_fresh) l_Image_fresh c_Image_fresh k_Image_fresh,
      f_Image_of_cells := a_Image_of_cells,
      fd_Image_of_cells := PySem.W.fnOf "of_cells" "Image.of_cells" (defArgs s_Image_of_cells) (defBody s_Image_of_cells) (defScope s_Image_of_cells) .none kV_Image_of_cells dc_Image_of_cells pm_Image_of_cells an_Image_of_cells cd_Image_of_cells ct_Image_of_cells,
      F_Image_of_cells := fun_mk (st := s_Image_of_cells) l_Image_of_cells c_Image_of_cells k_Image_of_cells,
      C_Plan := aC_Plan,
      mg_Plan := PySem.W.mg_of X G g_Plan,
      cl_Plan := ⟨pg_Plan, hd_Plan, po_Plan, sa_Plan⟩,
      na_Plan_blocks := n_Plan_blocks,
      na_Plan_nodes := n_Plan_nodes,
      na_Plan_slots := n_Plan_slots,
      na_Plan_maps := n_Plan_maps,
      na_Plan_first_node := n_Plan_first_node,
      na_Plan_first_data := n_Plan_first_data,
      mk_Plan := ⟨mk1_Plan, mk2_Plan, mk3_Plan, mk4_Plan⟩,
      mc_Plan := mcv_Plan,
      cr_Plan := ⟨rd_Plan, ga_Plan⟩,
      cv_Plan_WIDTH := ⟨_, v_Plan_WIDTH, ⟨_, rfl⟩⟩,
      cv_Plan_FREE := ⟨_, v_Plan_FREE, ⟨_, rfl⟩⟩,
      cv_Plan_LOGGED := ⟨_, v_Plan_LOGGED, ⟨_, rfl⟩⟩,
      cv_Plan_PLAIN := ⟨_, v_Plan_PLAIN, ⟨_, rfl⟩⟩,
      cv_Plan_OWNERS := ⟨_, v_Plan_OWNERS, ⟨_, rfl⟩⟩,
      con_Plan_WIDTH := ⟨_, o_Plan_WIDTH, ⟨_, rfl⟩, og_Plan_WIDTH, by decide +kernel⟩,
      C_Image := aC_Image,
      mg_Image := PySem.W.mg_of X G g_Image,
      cl_Image := ⟨pg_Image, hd_Image, po_Image, sa_Image⟩,
      na_Image_plan := n_Image_plan,
      na_Image_cells := n_Image_cells,
      na_Image_holdings := n_Image_holdings,
      na_Image_stamps := n_Image_stamps,
      na_Image_handles := n_Image_handles,
      na_Image_serial := n_Image_serial,
      na_Image_wish := n_Image_wish,
      na_Image_barred := n_Image_barred,
      mk_Image := ⟨mk1_Image, mk2_Image, mk3_Image, mk4_Image⟩,
      mc_Image := mcv_Image,
      cr_Image := ⟨rd_Image, ga_Image⟩,
      m_Plan_map_place := ⟨m1_Plan_map_place, m2_Plan_map_place, k_Plan_map_place⟩,
      m_Plan_node_block := ⟨m1_Plan_node_block, m2_Plan_node_block, k_Plan_node_block⟩,
      m_Plan_data_blocks := ⟨m1_Plan_data_blocks, m2_Plan_data_blocks, k_Plan_data_blocks⟩,
      m_Image_twin := ⟨m1_Image_twin, m2_Image_twin, k_Image_twin⟩,
      m_Image_kind := ⟨m1_Image_kind, m2_Image_kind, k_Image_kind⟩,
      m_Image_begin := ⟨m1_Image_begin, m2_Image_begin, k_Image_begin⟩,
      m_Image_settle := ⟨m1_Image_settle, m2_Image_settle, k_Image_settle⟩,
      m_Image_take := ⟨m1_Image_take, m2_Image_take, k_Image_take⟩,
      m_Image_give := ⟨m1_Image_give, m2_Image_give, k_Image_give⟩,
      m_Image__put_block := ⟨m1_Image__put_block, m2_Image__put_block, k_Image__put_block⟩,
      m_Image_free_blocks := ⟨m1_Image_free_blocks, m2_Image_free_blocks, k_Image_free_blocks⟩,
      m_Image_identity := ⟨m1_Image_identity, m2_Image_identity, k_Image_identity⟩,
      sm_Image_fresh := ⟨_, s1_Image_fresh, ⟨_, s2_Image_fresh⟩, k_Image_fresh⟩,
      sm_Image_of_cells := ⟨_, s1_Image_of_cells, ⟨_, s2_Image_of_cells⟩, k_Image_of_cells⟩,
      C_Refused := aC_Refused,
      mg_Refused := PySem.W.mg_of X G g_Refused,
      be_Refused := be1_Refused,
      te_Refused := te1_Refused,
      ie_Refused := ie1_Refused,
      C_OverQuota := aC_OverQuota,
      mg_OverQuota := PySem.W.mg_of X G g_OverQuota,
      be_OverQuota := be1_OverQuota,
      te_OverQuota := te1_OverQuota,
      ie_OverQuota := ie1_OverQuota,
      xe_OverQuota := xe1_OverQuota,
      ke_OverQuota := ke1_OverQuota,
      ec_OverQuota := ⟨ec1_OverQuota, ec2_OverQuota, be1_OverQuota, ec4_OverQuota, ec5_OverQuota, ec6_OverQuota, ec7_OverQuota, ec8_OverQuota⟩,
      C_BlocksFull := aC_BlocksFull,
      mg_BlocksFull := PySem.W.mg_of X G g_BlocksFull,
      be_BlocksFull := be1_BlocksFull,
      te_BlocksFull := te1_BlocksFull,
      ie_BlocksFull := ie1_BlocksFull,
      xe_BlocksFull := xe1_BlocksFull,
      ke_BlocksFull := ke1_BlocksFull,
      ec_BlocksFull := ⟨ec1_BlocksFull, ec2_BlocksFull, be1_BlocksFull, ec4_BlocksFull, ec5_BlocksFull, ec6_BlocksFull, ec7_BlocksFull, ec8_BlocksFull⟩,
      sub_OverQuota_OverQuota := sb_OverQuota_OverQuota,
      sub_OverQuota_Refused := sb_OverQuota_Refused,
      sub_BlocksFull_Refused := sb_BlocksFull_Refused,
      sub_OverQuota_BlocksFull := sb_OverQuota_BlocksFull,
      sub_BlocksFull_OverQuota := sb_BlocksFull_OverQuota,
      c_ROOT := ⟨_, PySem.W.mg_of X G gc_ROOT⟩,
      c_KIND := ⟨_, PySem.W.mg_of X G gc_KIND⟩,
      c_LINKS := ⟨_, PySem.W.mg_of X G gc_LINKS⟩,
      c_MAKING := ⟨_, PySem.W.mg_of X G gc_MAKING⟩,
      c_FOLDER := ⟨_, PySem.W.mg_of X G gc_FOLDER⟩,
      c_SUMS_BLOCK := ⟨_, PySem.W.mg_of X G gc_SUMS_BLOCK⟩,
      c_LEAST_BLOCKS := ⟨_, PySem.W.mg_of X G gc_LEAST_BLOCKS⟩,
      c_MOST_BLOCKS := ⟨_, PySem.W.mg_of X G gc_MOST_BLOCKS⟩,
      c_LEAST_NODES := ⟨_, PySem.W.mg_of X G gc_LEAST_NODES⟩,
      c_MOST_NODES := ⟨_, PySem.W.mg_of X G gc_MOST_NODES⟩,
      c_MOST_SLOTS := ⟨_, PySem.W.mg_of X G gc_MOST_SLOTS⟩,
      c_LEAST_DATA := ⟨_, PySem.W.mg_of X G gc_LEAST_DATA⟩,
      c_FIRST_MAP := ⟨_, PySem.W.mg_of X G gc_FIRST_MAP⟩,
      b_abs := PySem.W.mg_none_of X G nb_abs,
      b_int := PySem.W.mg_none_of X G nb_int,
      b_len := PySem.W.mg_none_of X G nb_len,
      b_range := PySem.W.mg_none_of X G nb_range,
      b_isinstance := PySem.W.mg_none_of X G nb_isinstance,
      b_bool := PySem.W.mg_none_of X G nb_bool,
      b_list := PySem.W.mg_none_of X G nb_list,
      b_dict := PySem.W.mg_none_of X G nb_dict,
      b_tuple := PySem.W.mg_none_of X G nb_tuple
    }⟩
end K88
open PySem PySem.W PyProof.Rows
set_option maxRecDepth 100000 in
set_option maxHeartbeats 0 in
theorem PySem.Challenge.cw_lotsandties_k88_blocks_taken_and_given_holds : PySem.Challenge.rw_lotsandties_k88_blocks_taken_and_given.Holds := by
  w_on; o_law; k_head; (case hw => w_witness2)
  k_fill
  refine L2.walk_of (l := PySem.Challenge.rw_lotsandties_k88_blocks_taken_and_given) (n := 63) (k := 7) (x := "_law_script") (CX := fun _ => L2.CX0) (sp := fun w => K88.sp_law _) rfl (by decide) rfl ⟨rfl, by decide, by decide⟩ (fun w h Y => PySem.W.kIn_of Y) ?F (fun _ _ a ns hl _ hS => ⟨a, ns, rfl, hS, hl, fun _ => rfl⟩) (fun _ _ _ _ _ h => h)
  case F =>
    intro w mg fa h KX G hmg
    refine K88.fin_F ?_ hmg
    refine' K88.all_mk (w := w) KX G ?l_Lfeed ?c_Lfeed ?k_Lfeed ?g_Lfeed ?l_Lpick ?c_Lpick ?k_Lpick ?g_Lpick ?l_Lstart ?c_Lstart ?k_Lstart ?g_Lstart ?l_Lagrees ?c_Lagrees ?k_Lagrees ?g_Lagrees ?l_Ldue_block ?c_Ldue_block ?k_Ldue_block ?g_Ldue_block ?l_Lrefuses ?c_Lrefuses ?k_Lrefuses ?g_Lrefuses ?l_Ltake ?c_Ltake ?k_Ltake ?g_Ltake ?l_Lnote ?c_Lnote ?k_Lnote ?g_Lnote ?l_Ltouch ?c_Ltouch ?k_Ltouch ?g_Ltouch ?l_Lgive ?c_Lgive ?k_Lgive ?g_Lgive ?l_Lchange ?c_Lchange ?k_Lchange ?g_Lchange ?l_Llimit ?c_Llimit ?k_Llimit ?g_Llimit ?l_Lsame ?c_Lsame ?k_Lsame ?g_Lsame ?l_law ?c_law ?k_law ?g_law ?l_Plan___init__ ?c_Plan___init__ ?k_Plan___init__ ?l_Plan_map_place ?c_Plan_map_place ?k_Plan_map_place ?l_Plan_node_block ?c_Plan_node_block ?k_Plan_node_block ?l_Plan_data_blocks ?c_Plan_data_blocks ?k_Plan_data_blocks ?l_Image___init__ ?c_Image___init__ ?k_Image___init__ ?l_Image_twin ?c_Image_twin ?k_Image_twin ?l_Image_kind ?c_Image_kind ?k_Image_kind ?l_Image_begin ?c_Image_begin ?k_Image_begin ?l_Image_settle ?c_Image_settle ?k_Image_settle ?l_Image_take ?c_Image_take ?k_Image_take ?l_Image_give ?c_Image_give ?k_Image_give ?l_Image__put_block ?c_Image__put_block ?k_Image__put_block ?l_Image_free_blocks ?c_Image_free_blocks ?k_Image_free_blocks ?l_Image_identity ?c_Image_identity ?k_Image_identity ?l_Image_fresh ?c_Image_fresh ?k_Image_fresh ?l_Image_of_cells ?c_Image_of_cells ?k_Image_of_cells ?g_Plan ?pg_Plan ?hd_Plan ?po_Plan ?sa_Plan ?n_Plan_blocks ?n_Plan_nodes ?n_Plan_slots ?n_Plan_maps ?n_Plan_first_node ?n_Plan_first_data ?mk1_Plan ?mk2_Plan ?mk3_Plan ?mk4_Plan ?tp_Plan ?rd_Plan ?ga_Plan ?v_Plan_WIDTH ?v_Plan_FREE ?v_Plan_LOGGED ?v_Plan_PLAIN ?v_Plan_OWNERS ?o_Plan_WIDTH ?og_Plan_WIDTH ?g_Image ?pg_Image ?hd_Image ?po_Image ?sa_Image ?n_Image_plan ?n_Image_cells ?n_Image_holdings ?n_Image_stamps ?n_Image_handles ?n_Image_serial ?n_Image_wish ?n_Image_barred ?mk1_Image ?mk2_Image ?mk3_Image ?mk4_Image ?tp_Image ?rd_Image ?ga_Image ?m1_Plan_map_place ?m2_Plan_map_place ?m1_Plan_node_block ?m2_Plan_node_block ?m1_Plan_data_blocks ?m2_Plan_data_blocks ?m1_Image_twin ?m2_Image_twin ?m1_Image_kind ?m2_Image_kind ?m1_Image_begin ?m2_Image_begin ?m1_Image_settle ?m2_Image_settle ?m1_Image_take ?m2_Image_take ?m1_Image_give ?m2_Image_give ?m1_Image__put_block ?m2_Image__put_block ?m1_Image_free_blocks ?m2_Image_free_blocks ?m1_Image_identity ?m2_Image_identity ?s1_Image_fresh ?s2_Image_fresh ?s1_Image_of_cells ?s2_Image_of_cells ?g_Refused ?be1_Refused ?te1_Refused ?ie1_Refused ?g_OverQuota ?be1_OverQuota ?te1_OverQuota ?ie1_OverQuota ?xe1_OverQuota ?ke1_OverQuota ?ec1_OverQuota ?ec2_OverQuota ?ec4_OverQuota ?ec5_OverQuota ?ec6_OverQuota ?ec7_OverQuota ?ec8_OverQuota ?g_BlocksFull ?be1_BlocksFull ?te1_BlocksFull ?ie1_BlocksFull ?xe1_BlocksFull ?ke1_BlocksFull ?ec1_BlocksFull ?ec2_BlocksFull ?ec4_BlocksFull ?ec5_BlocksFull ?ec6_BlocksFull ?ec7_BlocksFull ?ec8_BlocksFull ?sb_OverQuota_OverQuota ?sb_OverQuota_Refused ?sb_BlocksFull_Refused ?sb_OverQuota_BlocksFull ?sb_BlocksFull_OverQuota ?gc_ROOT ?gc_KIND ?gc_LINKS ?gc_MAKING ?gc_FOLDER ?gc_SUMS_BLOCK ?gc_LEAST_BLOCKS ?gc_MOST_BLOCKS ?gc_LEAST_NODES ?gc_MOST_NODES ?gc_MOST_SLOTS ?gc_LEAST_DATA ?gc_FIRST_MAP ?nb_abs ?nb_int ?nb_len ?nb_range ?nb_isinstance ?nb_bool ?nb_list ?nb_dict ?nb_tuple
    (case g_Lfeed => k_is)
    (case g_Lpick => k_is)
    (case g_Lstart => k_is)
    (case g_Lagrees => k_is)
    (case g_Ldue_block => k_is)
    (case g_Lrefuses => k_is)
    (case g_Ltake => k_is)
    (case g_Lnote => k_is)
    (case g_Ltouch => k_is)
    (case g_Lgive => k_is)
    (case g_Lchange => k_is)
    (case g_Llimit => k_is)
    (case g_Lsame => k_is)
    (case g_law => k_is)
    (case g_Plan => k_is)
    (case g_Image => k_is)
    (case g_Refused => k_is)
    (case g_OverQuota => k_is)
    (case g_BlocksFull => k_is)
    (case tp_Plan => k_is)
    (case tp_Image => k_is)
    (case mk2_Plan => k_is)
    (case mk2_Image => k_is)
    (case m1_Plan_map_place => k_is)
    (case m1_Plan_node_block => k_is)
    (case m1_Plan_data_blocks => k_is)
    (case m1_Image_twin => k_is)
    (case m1_Image_kind => k_is)
    (case m1_Image_begin => k_is)
    (case m1_Image_settle => k_is)
    (case m1_Image_take => k_is)
    (case m1_Image_give => k_is)
    (case m1_Image__put_block => k_is)
    (case m1_Image_free_blocks => k_is)
    (case m1_Image_identity => k_is)
    (case s1_Image_fresh => k_is)
    (case s1_Image_of_cells => k_is)
    (case s2_Image_fresh => k_is)
    (case s2_Image_of_cells => k_is)
    (case l_Lfeed => k_is)
    (case c_Lfeed => k_is)
    (case k_Lfeed => k_is)
    (case l_Lpick => k_is)
    (case c_Lpick => k_is)
    (case k_Lpick => k_is)
    (case l_Lstart => k_is)
    (case c_Lstart => k_is)
    (case k_Lstart => k_is)
    (case l_Lagrees => k_is)
    (case c_Lagrees => k_is)
    (case k_Lagrees => k_is)
    (case l_Ldue_block => k_is)
    (case c_Ldue_block => k_is)
    (case k_Ldue_block => k_is)
    (case l_Lrefuses => k_is)
    (case c_Lrefuses => k_is)
    (case k_Lrefuses => k_is)
    (case l_Ltake => k_is)
    (case c_Ltake => k_is)
    (case k_Ltake => k_is)
    (case l_Lnote => k_is)
    (case c_Lnote => k_is)
    (case k_Lnote => k_is)
    (case l_Ltouch => k_is)
    (case c_Ltouch => k_is)
    (case k_Ltouch => k_is)
    (case l_Lgive => k_is)
    (case c_Lgive => k_is)
    (case k_Lgive => k_is)
    (case l_Lchange => k_is)
    (case c_Lchange => k_is)
    (case k_Lchange => k_is)
    (case l_Llimit => k_is)
    (case c_Llimit => k_is)
    (case k_Llimit => k_is)
    (case l_Lsame => k_is)
    (case c_Lsame => k_is)
    (case k_Lsame => k_is)
    (case l_law => k_is)
    (case c_law => k_is)
    (case k_law => k_is)
    (case l_Plan___init__ => k_is)
    (case c_Plan___init__ => k_is)
    (case k_Plan___init__ => k_is)
    (case l_Plan_map_place => k_is)
    (case c_Plan_map_place => k_is)
    (case k_Plan_map_place => k_is)
    (case l_Plan_node_block => k_is)
    (case c_Plan_node_block => k_is)
    (case k_Plan_node_block => k_is)
    (case l_Plan_data_blocks => k_is)
    (case c_Plan_data_blocks => k_is)
    (case k_Plan_data_blocks => k_is)
    (case l_Image___init__ => k_is)
    (case c_Image___init__ => k_is)
    (case k_Image___init__ => k_is)
    (case l_Image_twin => k_is)
    (case c_Image_twin => k_is)
    (case k_Image_twin => k_is)
    (case l_Image_kind => k_is)
    (case c_Image_kind => k_is)
    (case k_Image_kind => k_is)
    (case l_Image_begin => k_is)
    (case c_Image_begin => k_is)
    (case k_Image_begin => k_is)
    (case l_Image_settle => k_is)
    (case c_Image_settle => k_is)
    (case k_Image_settle => k_is)
    (case l_Image_take => k_is)
    (case c_Image_take => k_is)
    (case k_Image_take => k_is)
    (case l_Image_give => k_is)
    (case c_Image_give => k_is)
    (case k_Image_give => k_is)
    (case l_Image__put_block => k_is)
    (case c_Image__put_block => k_is)
    (case k_Image__put_block => k_is)
    (case l_Image_free_blocks => k_is)
    (case c_Image_free_blocks => k_is)
    (case k_Image_free_blocks => k_is)
    (case l_Image_identity => k_is)
    (case c_Image_identity => k_is)
    (case k_Image_identity => k_is)
    (case l_Image_fresh => k_is)
    (case c_Image_fresh => k_is)
    (case k_Image_fresh => k_is)
    (case l_Image_of_cells => k_is)
    (case c_Image_of_cells => k_is)
    (case k_Image_of_cells => k_is)
    (case pg_Plan => k_is)
    (case hd_Plan => k_is)
    (case po_Plan => k_is)
    (case sa_Plan => k_is)
    (case n_Plan_blocks => k_is)
    (case n_Plan_nodes => k_is)
    (case n_Plan_slots => k_is)
    (case n_Plan_maps => k_is)
    (case n_Plan_first_node => k_is)
    (case n_Plan_first_data => k_is)
    (case mk1_Plan => k_is)
    (case mk3_Plan => k_is)
    (case mk4_Plan => k_is)
    (case rd_Plan => k_is)
    (case ga_Plan => k_is)
    (case v_Plan_WIDTH => k_is)
    (case v_Plan_FREE => k_is)
    (case v_Plan_LOGGED => k_is)
    (case v_Plan_PLAIN => k_is)
    (case v_Plan_OWNERS => k_is)
    (case o_Plan_WIDTH => k_is)
    (case og_Plan_WIDTH => k_is)
    (case pg_Image => k_is)
    (case hd_Image => k_is)
    (case po_Image => k_is)
    (case sa_Image => k_is)
    (case n_Image_plan => k_is)
    (case n_Image_cells => k_is)
    (case n_Image_holdings => k_is)
    (case n_Image_stamps => k_is)
    (case n_Image_handles => k_is)
    (case n_Image_serial => k_is)
    (case n_Image_wish => k_is)
    (case n_Image_barred => k_is)
    (case mk1_Image => k_is)
    (case mk3_Image => k_is)
    (case mk4_Image => k_is)
    (case rd_Image => k_is)
    (case ga_Image => k_is)
    (case m2_Plan_map_place => k_is)
    (case m2_Plan_node_block => k_is)
    (case m2_Plan_data_blocks => k_is)
    (case m2_Image_twin => k_is)
    (case m2_Image_kind => k_is)
    (case m2_Image_begin => k_is)
    (case m2_Image_settle => k_is)
    (case m2_Image_take => k_is)
    (case m2_Image_give => k_is)
    (case m2_Image__put_block => k_is)
    (case m2_Image_free_blocks => k_is)
    (case m2_Image_identity => k_is)
    (case be1_Refused => k_is)
    (case te1_Refused => k_is)
    (case ie1_Refused => k_is)
    (case be1_OverQuota => k_is)
    (case te1_OverQuota => k_is)
    (case ie1_OverQuota => k_is)
    (case xe1_OverQuota => first | k_exc | k_is)
    (case ke1_OverQuota => k_is)
    (case ec1_OverQuota => k_is)
    (case ec2_OverQuota => k_is)
    (case ec4_OverQuota => k_is)
    (case ec5_OverQuota => k_is)
    (case ec6_OverQuota => k_is)
    (case ec7_OverQuota => k_is)
    (case ec8_OverQuota => k_is)
    (case be1_BlocksFull => k_is)
    (case te1_BlocksFull => k_is)
    (case ie1_BlocksFull => k_is)
    (case xe1_BlocksFull => first | k_exc | k_is)
    (case ke1_BlocksFull => k_is)
    (case ec1_BlocksFull => k_is)
    (case ec2_BlocksFull => k_is)
    (case ec4_BlocksFull => k_is)
    (case ec5_BlocksFull => k_is)
    (case ec6_BlocksFull => k_is)
    (case ec7_BlocksFull => k_is)
    (case ec8_BlocksFull => k_is)
    (case sb_OverQuota_OverQuota => first | rfl | k_is)
    (case sb_OverQuota_Refused => first | rfl | k_is)
    (case sb_BlocksFull_Refused => first | rfl | k_is)
    (case sb_OverQuota_BlocksFull => first | rfl | k_is)
    (case sb_BlocksFull_OverQuota => first | rfl | k_is)
    (case gc_ROOT => k_is)
    (case gc_KIND => k_is)
    (case gc_LINKS => k_is)
    (case gc_MAKING => k_is)
    (case gc_FOLDER => k_is)
    (case gc_SUMS_BLOCK => k_is)
    (case gc_LEAST_BLOCKS => k_is)
    (case gc_MOST_BLOCKS => k_is)
    (case gc_LEAST_NODES => k_is)
    (case gc_MOST_NODES => k_is)
    (case gc_MOST_SLOTS => k_is)
    (case gc_LEAST_DATA => k_is)
    (case gc_FIRST_MAP => k_is)
    (case nb_abs => k_is)
    (case nb_int => k_is)
    (case nb_len => k_is)
    (case nb_range => k_is)
    (case nb_isinstance => k_is)
    (case nb_bool => k_is)
    (case nb_list => k_is)
    (case nb_dict => k_is)
    (case nb_tuple => k_is)
