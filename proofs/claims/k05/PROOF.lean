import PyProof.Rows.All
import Wide.All
import OpenK.AllK
import Wide.FinOn
import HandS.ForMost
import HandS.IsInst
import HandS.Evl
import HandS.ClsMeth
import HandS.MakeKwOnly
import HandS.TryOnly
import HandS.ExcOwn
import HandS.ExcIs
import HandS.WordsExc
import PySem.Challenge.RW_lotsandties_k05_nodes
set_option Elab.async false
set_option linter.all false
set_option maxRecDepth 100000
set_option maxHeartbeats 4000000

namespace Rg
open PySem PySem.Spec PyProof.Rows L2
/-! ### heaps -/
theorem same_upd {H : Hp} {p : Addr} {o : HO} (h : H p = none) : Same H (upd H p o) := fun b x e => by
  rw [upd_ne (ne_of_none e h)]
  exact e
theorem upd_id {H : Hp} {p : Addr} {o : HO} (h : H p = some o) : upd H p o = H := by
  funext b
  by_cases e : b = p
  · rw [e, upd_same, h]
  · rw [upd_ne e]
theorem yes_ {σ : L2.St} {H : Hp} {A B : Hp → Prop} (h : A H) : tYes σ H fun b H3 => if b = true then A H3 else B H3 := by
  show if true = true then A H else B H
  rw [if_pos rfl]
  exact h
/-- what is free behind a store was free, and is another place -/
theorem un {H : Hp} {a b : Addr} {o : HO} (e : upd H a o b = none) : H b = none := by
  by_cases z : b = a
  · rw [z, upd_same] at e; cases e
  · rw [upd_ne z] at e; exact e
theorem unn {H : Hp} {a b : Addr} {o : HO} (e : upd H a o b = none) : b ≠ a := fun z => by
  rw [z, upd_same] at e; cases e
theorem unn' {H : Hp} {a b : Addr} {o : HO} (e : upd H a o b = none) : a ≠ b := fun z => unn e z.symm
theorem upd_comm {H : Hp} {p q : Addr} {o o' : HO} (h : p ≠ q) : upd (upd H p o) q o' = upd (upd H q o') p o := by
  funext b
  by_cases e : b = p
  · rw [e, upd_same, upd_ne h, upd_same]
  · by_cases e2 : b = q
    · rw [e2, upd_same, upd_ne h.symm, upd_same]
    · rw [upd_ne e2, upd_ne e, upd_ne e, upd_ne e2]
theorem upd_app {H : Hp} {p : Addr} {fs : List Int} {x : Int} : upd (upd H p (.lst (fs.map V.int))) p (.lst (fs.map V.int ++ [V.int x])) = upd H p (.lst ((fs ++ [x]).map V.int)) := by
  rw [upd_upd, List.map_append]
  rfl
/-- kept but for what stands at S -/
def Kp (S : List Addr) (H H' : Hp) : Prop := ∀ x o, H x = some o → x ∉ S → H' x = some o
theorem Kp.refl {S : List Addr} {H : Hp} : Kp S H H := fun _ _ e _ => e
theorem Kp.new {S : List Addr} {H H1 : Hp} {a : Addr} {o : HO} (k : Kp S H H1) (h : H1 a = none) : Kp S H (upd H1 a o) := fun x u e n => by
  rw [upd_ne (ne_of_none (k x u e n) h)]
  exact k x u e n
theorem Kp.own {S : List Addr} {H H1 : Hp} {a : Addr} {o : HO} (k : Kp S H H1) (h : a ∈ S) : Kp S H (upd H1 a o) := fun x u e n => by
  have z : x ≠ a := fun z => by rw [z] at n; exact n h
  rw [upd_ne z]
  exact k x u e n
theorem Kp.own1 {p : Addr} {H H1 : Hp} {o : HO} (k : Kp [p] H H1) : Kp [p] H (upd H1 p o) := k.own (by simp)
theorem Kp.trans {S : List Addr} {H H1 H2 : Hp} (a : Kp S H H1) (b : Kp S H1 H2) : Kp S H H2 := fun x o e n => b x o (a x o e n) n
theorem Kp.same {S : List Addr} {H H1 H2 : Hp} (a : Kp S H H1) (b : Same H1 H2) : Kp S H H2 := fun x o e n => b x o (a x o e n)
theorem Kp.of {S : List Addr} {H H1 : Hp} (b : Same H H1) : Kp S H H1 := fun x o e _ => b x o e
theorem Kp.mono {S S' : List Addr} {H H1 : Hp} (a : Kp S H H1) (h : ∀ x, x ∈ S → x ∈ S') : Kp S' H H1 := fun x o e n => a x o e fun z => n (h x z)
theorem Kp.free {S : List Addr} {H H1 : Hp} {x : Addr} (a : Kp S H H1) (n : x ∉ S) (h : H1 x = none) : H x = none := by
  cases q : H x with
  | none => rfl
  | some o => rw [a x o q n] at h; cases h
theorem Kp.at1 {p x : Addr} {H H' : Hp} {o : HO} (k : Kp [p] H H') (e : H x = some o) (n : x ≠ p) : H' x = some o := k x o e (by simp [n])
theorem Kp.ret {a : Addr} {S : List Addr} {H H' : Hp} {o : HO} (k : Kp (a :: S) H H') (h : H a = none) : Kp S H H' := fun x u e n => k x u e (by
  intro z
  rcases List.mem_cons.mp z with z | z
  · rw [z, h] at e; cases e
  · exact n z)
theorem own_f {H H' : Hp} {p : Addr} {o : HO} (h : upd H p o = H') : H' p = some o ∧ Kp [p] H H' ∧ ∀ x, H' x = none → H x = none ∧ x ≠ p := by
  subst h
  exact ⟨upd_same, Kp.refl.own1, fun x e => ⟨un e, unn e⟩⟩
theorem new_f {H H' : Hp} {a : Addr} {o : HO} (h : upd H a o = H') (n : H a = none) : H' a = some o ∧ Same H H' ∧ ∀ x, H' x = none → H x = none ∧ x ≠ a := by
  subst h
  exact ⟨upd_same, same_upd n, fun x e => ⟨un e, unn e⟩⟩
/-- a whole-number constant of the module -/
theorem pe_gc {X : Cx} {x : Str} {n : Int} {pos : Pos} (hm : ∃ t, X.mg x = some (.int n t)) (hg : Gl X x := by rfl) (hd : (x == ("__debug__" : Str)) = false := by decide) : PE X (.Name x pos) (tC (.int n)) :=
  let ⟨t, h⟩ := hm
  pe_glob hg h ⟨t, rfl⟩ hd
/-- a text constant of the module -/
theorem pe_gs {X : Cx} {x z : Str} {pos : Pos} (hm : ∃ t, X.mg x = some (.str z t)) (hg : Gl X x := by rfl) (hd : (x == ("__debug__" : Str)) = false := by decide) : PE X (.Name x pos) (tC (.str z)) :=
  let ⟨t, h⟩ := hm
  pe_glob hg h ⟨t, rfl⟩ hd
/-- C.f, C a class of the module, f a value of the class -/
theorem pe_cv {X : Cx} {x f : Str} {C : Addr} {mc : Value} {v : V} {p pos : Pos} (hm : X.mg x = some (.ref C)) (r : ClX.CRead X.K C mc) (k : ∃ u, ClX.CVal X.K C mc f v u) (hg : Gl X x := by rfl) (hd : (x == ("__debug__" : Str)) = false := by decide)
    (hb : attributeBase (.Name x p) f X.env (eval (.Name x p) X.env) = eval (.Name x p) X.env := by rfl) : PE X (.Attribute (.Name x p) f pos) (tC v) := by
  obtain ⟨u, k⟩ := k
  have := (ClX.pe_cval (pos := pos) (pe_glob (X := X) (x := x) (v := .ref C) (u := .ref C) (pos := p) hg hm rfl hd) hb)
  exact ⟨fun pins s σ H Q I h => this.run pins s σ H Q I ⟨C, mc, v, u, rfl, r, k, h⟩⟩
/-! ### the same rules with the written part named (inside a comprehension) -/
section
variable {X : Cx} {K : PySem.W.Frag}
def rListOf (K : PySem.W.Frag) : List V → Hp → VK → Prop := fun xs H Q => ∃ p ys, xs = [.ref p] ∧ (SqL K H p ys ∨ SqT K H p ys) ∧ ∀ l, H l = none → Q (.ref l) (upd H l (.lst ys))
theorem pe_listof {e : Expr} {te : TE} {p pos : Pos} (he : PE X e te) (hm : X.mg "list" = none) (hK : X.K = K := by rfl) (hg : Gl X "list" := by rfl) (hs : starEach [e] X.env = (false, eval e X.env) :: starEach [] X.env := by rfl) : PE X (.Call (.Name "list" p) [e] [] pos) (tCB (rListOf K) (tCons te tNil)) := by
  subst hK
  exact pe_callTy call_list_of hg hm (by decide +kernel) (pa_cons he pa_nil hs) (he := hs)
theorem pe_fldK {e : Expr} {f : Str} {pos : Pos} {ta : TE} (he : PE X e ta) (hb : attributeBase e f X.env (eval e X.env) = eval e X.env) (hK : X.K = K := by rfl) : PE X (.Attribute e f pos) (tFld K ta f) := by
  subst hK
  exact pe_fld he hb
theorem pe_ixK {a b : Expr} {pos : Pos} {ta tb : TE} (ha : PE X a ta) (hb : PE X b tb) (hs : PlainIx b) (hK : X.K = K := by rfl) : PE X (.Subscript a b pos) (tOp (rIxL K) ta tb) := by
  subst hK
  exact pe_ix ix_list ha hb hs
theorem pe_lenK {e : Expr} {te : TE} {p pos : Pos} (he : PE X e te) (hm : X.mg "len" = none) (hK : X.K = K := by rfl) (hg : Gl X "len" := by rfl) (hs : starEach [e] X.env = (false, eval e X.env) :: starEach [] X.env := by rfl) : PE X (.Call (.Name "len" p) [e] [] pos) (tCB (fun xs H Q => ∃ p ys, xs = [.ref p] ∧ (SqL K H p ys ∨ SqT K H p ys) ∧ Q (.int ys.length) H) (tCons te tNil)) := by
  subst hK
  exact pe_callB call_len_seq hg hm (by decide +kernel) (pa_cons he pa_nil hs) (he := hs)
end
/-! ### static methods, called off the class -/
structure SMet (K : PySem.W.Frag) (C : Addr) (mc : Value) (m : Str) (g : Addr) : Prop where
  ex : ∃ p, PySem.W.findCls K (.ref C) mc m = some (.get (.builtin "staticmethod.__get__") (.ref p) .none (.ref C)) ∧ (∃ rest, PySem.W.recIn K p "staticmethod" = some (.ref g :: rest)) ∧ PySem.W.keepIn K (.ref g) = true
/-- C.m(e, ..), C the class at C, m a static method -/
def tSMeth (sp : Sp) (dvs : List V) (E : XK) (t : TA) : TE := fun σ H Q => t σ H fun vs H2 => sp (vs ++ dvs) H2 Q E
section
variable {X : Cx} {CX : CXT} {k : Nat} {C g : Addr} {mc : Value} {sp : Sp} {E : XK} {x : Str} {e : Expr} {es : List Expr} {m : Str} {p pos apos : Pos} {t : TA} {pl : Sem Bool} {fd : FuncData} {ps : List Str} {ds : List Value} {dvs : List V}
theorem pe_smeth (hmx : X.mg x = some (.ref C)) (r : ClX.CRead X.K C mc) (c : SMet X.K C mc m g) (F : FnOk X.prog X.w X.K X.mg X.base CX k g fd ps sp) (hr : Room k X.A) (hb : Binds X.K fd ps ds) (hd : Vals dvs ds) (hx : Passes CX X E) (ha : PA X (e :: es) t) (hg : Gl X x := by rfl) (hdb : (x == ("__debug__" : Str)) = false := by decide)
    (hst : starEach (e :: es) X.env = (false, eval e X.env) :: starEach es X.env := by rfl) (hpl : (backTo pos (starEach es X.env)).any (·.1) = false := by rfl)
    (ht : eval (.Call (.Attribute (.Name x p) m apos) (e :: es) [] pos) X.env = (do
      let ov ← eval (.Name x p) X.env
      standAt apos.atName
      let (f, first) ← holding [ov] (getMethod ov m pl)
      callWith pos f first (backTo pos (starEach (e :: es) X.env)) (backToKw pos (keywordEach [] X.env))) := by rfl) :
    PE X (.Call (.Attribute (.Name x p) m apos) (e :: es) [] pos) (tSMeth sp dvs E t) := by
  obtain ⟨q, at_, ⟨rest, hp⟩, hk⟩ := c.ex
  refine ⟨fun pins s σ H Q I h => ?_⟩
  refine PySem.W.methodCall_KW (pl := pl) (ld_glob I hg hmx ?_ hdb) ht
  refine PySem.W.method_cls I.kIn r.ga (PySem.W.cls_bind I.kIn r.rd at_ ?_)
  refine wpAny_call (PySem.W.sm_get (s := { s with toks := s.toks + 1 }) I.kIn hp (PySem.W.handed_on rfl ?_))
  refine PySem.W.callWith_K (f := .ref g) (first := []) (h₀ := X.base) I.ok.mod.kin hk (thn (ha.run pos pins _ σ H _ (I.tok _) h) fun us s1 ⟨vs, H1, I1, r1, q1⟩ => ⟨I1.kIn, ?_⟩) hst hpl
  exact run_fn F hr hb hd hx I1 r1 q1
end
/-! ### errors -/
theorem exm_sub {K : PySem.W.Frag} {D S : Addr} (h1 : PySem.W.subIn K (.ref S) (.type "BaseException") = some true) (h2 : PySem.W.isClsIn K S = true) (h3 : PySem.W.typeIn K (.ref S) = some (.type "type")) (h4 : PySem.W.subIn K (.ref D) (.ref S) = some true) :
    PySem.W.exmOne K (.ref D) (.ref S) = some true := by
  have e1 : (PySem.W.subIn K (.ref S) (.type "BaseException") == some true) = true := by rw [h1] <;> rfl
  have e2 : ((PySem.W.clsIn K S).isSome && PySem.W.typeIn K (.ref S) == some (.type "type")) = true := by
    have h2' : (PySem.W.clsIn K S).isSome = true := h2
    rw [h2', h3] <;> rfl
  show (if (PySem.W.subIn K (.ref S) (.type "BaseException") == some true) = true then (if ((PySem.W.clsIn K S).isSome && PySem.W.typeIn K (.ref S) == some (.type "type")) = true then PySem.W.subIn K (.ref D) (.ref S) else none) else none) = some true
  rw [if_pos e1, if_pos e2]
  exact h4
theorem kit_sub {K : PySem.W.Frag} {D S : Addr} {b : Bool} (hne : D ≠ S) (h2 : PySem.W.isClsIn K S = true) (h3 : PySem.W.typeIn K (.ref S) = some (.type "type")) (h4 : PySem.W.subIn K (.ref D) (.ref S) = some b) :
    PySem.W.kitOne K (.ref D) (.ref S) = some b := by
  have e2 : ((PySem.W.clsIn K S).isSome && PySem.W.typeIn K (.ref S) == some (.type "type")) = true := by
    have h2' : (PySem.W.clsIn K S).isSome = true := h2
    rw [h2', h3] <;> rfl
  unfold PySem.W.kitOne
  rw [if_neg (by intro z; exact hne (Value.ref.inj (beq_iff_eq.mp z)))]
  show (if ((PySem.W.clsIn K S).isSome && PySem.W.typeIn K (.ref S) == some (.type "type")) = true then PySem.W.subIn K (.ref D) (.ref S) else none) = some b
  rw [if_pos e2]
  exact h4
/-- a suite that is come to by an error of the class at D alone (no fields of its own) -/
def tOnly (cls : Value) (d : Option Addr) (D : Addr) (t : TS) : TS := fun E σ H => cls = .ref D ∧ d = none ∧ t E σ H
theorem pss_only {X : Cx} {sts : List Stmt} {t : TS} {cls : Value} {d : Option Addr} {D : Addr} (h : cls = .ref D → d = none → PSs X sts t) : PSs X sts (tOnly cls d D t) :=
  ⟨fun pins s σ H E I hh => (h hh.1 hh.2.1).run pins s σ H E I hh.2.2⟩
theorem kit_self {K : PySem.W.Frag} {D : Addr} : PySem.W.kitOne K (.ref D) (.ref D) = some true := by
  unfold PySem.W.kitOne
  rw [if_pos (beq_self_eq_true _)]
theorem dec_iv (a d : Int) : decide (V.int a = V.int d) = decide (a = d) := by
  by_cases e : a = d
  · subst e; simp
  · rw [decide_eq_false e, decide_eq_false fun q => e (V.int.inj q)]
end Rg

namespace K05
open PySem PySem.Spec PyProof.Rows L2 Rg
def top (i : Nat) : Stmt := PySem.Challenge.pw_lotsandties_k05_nodes.main.body.getD i (.Pass ⟨0, 0, 0, 0⟩)
abbrev s_node_cell : Stmt := top 31
abbrev s_put_node_cell : Stmt := top 32
abbrev s_is_made : Stmt := top 33
abbrev s_made_nodes : Stmt := top 34
abbrev s_make_node : Stmt := top 35
abbrev s_unmake_node : Stmt := top 36
abbrev s_Lfeed : Stmt := top 40
abbrev s_Lpick : Stmt := top 41
abbrev s_Linteger : Stmt := top 42
abbrev s_Lagrees : Stmt := top 43
abbrev s_Lothers : Stmt := top 44
abbrev s_Lfull : Stmt := top 45
abbrev s_Lmake : Stmt := top 46
abbrev s_law : Stmt := top 47
abbrev s_Plan___init__ : Stmt := inClass (top 29) 6
abbrev s_Plan_map_place : Stmt := inClass (top 29) 9
abbrev s_Plan_node_block : Stmt := inClass (top 29) 10
abbrev s_Image___init__ : Stmt := inClass (top 38) 0
abbrev s_Image_twin : Stmt := inClass (top 38) 5
abbrev s_Image_kind : Stmt := inClass (top 38) 10
abbrev s_Image_fresh : Stmt := inClass (top 38) 1
abbrev s_Image_of_cells : Stmt := inClass (top 38) 2
theorem sc_node_cell : FnScope ["image", "n", "field"] ["image", "n", "field"] (defScope s_node_cell) := ⟨rfl, rfl, rfl, by decide +kernel, rfl, by decide +kernel, by decide +kernel⟩
theorem sc_put_node_cell : FnScope ["image", "n", "field", "value"] ["image", "n", "field", "value"] (defScope s_put_node_cell) := ⟨rfl, rfl, rfl, by decide +kernel, rfl, by decide +kernel, by decide +kernel⟩
theorem sc_is_made : FnScope ["image", "n"] ["image", "n"] (defScope s_is_made) := ⟨rfl, rfl, rfl, by decide +kernel, rfl, by decide +kernel, by decide +kernel⟩
theorem sc_made_nodes : FnScope ["image", "n"] ["image"] (defScope s_made_nodes) := ⟨rfl, rfl, rfl, by decide +kernel, rfl, by decide +kernel, by decide +kernel⟩
theorem sc_make_node : FnScope ["image", "kind", "owner", "unmade", "n"] ["image", "kind", "owner"] (defScope s_make_node) := ⟨rfl, rfl, rfl, by decide +kernel, rfl, by decide +kernel, by decide +kernel⟩
theorem sc_unmake_node : FnScope ["image", "n", "field"] ["image", "n"] (defScope s_unmake_node) := ⟨rfl, rfl, rfl, by decide +kernel, rfl, by decide +kernel, by decide +kernel⟩
theorem sc_Lfeed : FnScope ["_law_script", "_law_feed_here", "_law_cell", "_law_rest", "_law_k"] ["_law_script"] (defScope s_Lfeed) := ⟨rfl, rfl, rfl, by decide +kernel, rfl, by decide +kernel, by decide +kernel⟩
theorem sc_Lpick : FnScope ["_law_feed_here", "_law_limit"] ["_law_feed_here", "_law_limit"] (defScope s_Lpick) := ⟨rfl, rfl, rfl, by decide +kernel, rfl, by decide +kernel, by decide +kernel⟩
theorem sc_Linteger : FnScope ["_law_actual", "_law_due"] ["_law_actual", "_law_due"] (defScope s_Linteger) := ⟨rfl, rfl, rfl, by decide +kernel, rfl, by decide +kernel, by decide +kernel⟩
theorem sc_Lagrees : FnScope ["_law_image", "_law_table", "_law_count", "_law_n", "_law_field", "_law_made"] ["_law_image", "_law_table", "_law_count"] (defScope s_Lagrees) := ⟨rfl, rfl, rfl, by decide +kernel, rfl, by decide +kernel, by decide +kernel⟩
theorem sc_Lothers : FnScope ["_law_image", "_law_kept", "_law_count", "_law_x"] ["_law_image", "_law_kept", "_law_count"] (defScope s_Lothers) := ⟨rfl, rfl, rfl, by decide +kernel, rfl, by decide +kernel, by decide +kernel⟩
theorem sc_Lfull : FnScope ["_law_image", "_law_kind", "_law_owner", "e"] ["_law_image", "_law_kind", "_law_owner"] (defScope s_Lfull) := ⟨rfl, rfl, rfl, by decide +kernel, rfl, by decide +kernel, by decide +kernel⟩
theorem sc_Lmake : FnScope ["_law_image", "_law_table", "_law_feed_here", "_law_count", "_law_kind", "_law_owner", "_law_unmade", "_law_n", "_law_row"] ["_law_image", "_law_table", "_law_feed_here", "_law_count"] (defScope s_Lmake) := ⟨rfl, rfl, rfl, by decide +kernel, rfl, by decide +kernel, by decide +kernel⟩
theorem sc_law : FnScope ["_law_script", "_law_feed_here", "_law_count", "_law_image", "_law_table", "_law_n", "_law_kept", "_law_row", "_law_k", "_law_before", "_law_twin", "_law_choice", "_law_made", "_law_m", "_law_field", "_law_value"] ["_law_script"] (defScope s_law) := ⟨rfl, rfl, rfl, by decide +kernel, rfl, by decide +kernel, by decide +kernel⟩
theorem sc_Plan___init__ : FnScope ["self", "blocks", "nodes", "slots"] ["self", "blocks", "nodes", "slots"] (defScope s_Plan___init__) := ⟨rfl, rfl, rfl, by decide +kernel, rfl, by decide +kernel, by decide +kernel⟩
theorem sc_Plan_map_place : FnScope ["self", "x"] ["self", "x"] (defScope s_Plan_map_place) := ⟨rfl, rfl, rfl, by decide +kernel, rfl, by decide +kernel, by decide +kernel⟩
theorem sc_Plan_node_block : FnScope ["self", "n"] ["self", "n"] (defScope s_Plan_node_block) := ⟨rfl, rfl, rfl, by decide +kernel, rfl, by decide +kernel, by decide +kernel⟩
theorem sc_Image___init__ : FnScope ["self", "plan", "_"] ["self", "plan"] (defScope s_Image___init__) := ⟨rfl, rfl, rfl, by decide +kernel, rfl, by decide +kernel, by decide +kernel⟩
theorem sc_Image_twin : FnScope ["self", "other", "row"] ["self"] (defScope s_Image_twin) := ⟨rfl, rfl, rfl, by decide +kernel, rfl, by decide +kernel, by decide +kernel⟩
theorem sc_Image_kind : FnScope ["self", "x", "block", "cell", "kind"] ["self", "x"] (defScope s_Image_kind) := ⟨rfl, rfl, rfl, by decide +kernel, rfl, by decide +kernel, by decide +kernel⟩
theorem sc_Image_fresh : FnScope ["plan", "image", "x", "block", "cell", "root"] ["plan"] (defScope s_Image_fresh) := ⟨rfl, rfl, rfl, by decide +kernel, rfl, by decide +kernel, by decide +kernel⟩
theorem sc_Image_of_cells : FnScope ["plan", "rows", "image", "row", "x"] ["plan", "rows"] (defScope s_Image_of_cells) := ⟨rfl, rfl, rfl, by decide +kernel, rfl, by decide +kernel, by decide +kernel⟩

structure Tx (K : PySem.W.Frag) (mg : Str → Option Value) where
  f_node_cell : Addr
  fd_node_cell : FuncData
  F_node_cell : Fun K "node_cell" "node_cell" s_node_cell f_node_cell fd_node_cell
  mg_node_cell : mg "node_cell" = some (.ref f_node_cell)
  f_put_node_cell : Addr
  fd_put_node_cell : FuncData
  F_put_node_cell : Fun K "put_node_cell" "put_node_cell" s_put_node_cell f_put_node_cell fd_put_node_cell
  mg_put_node_cell : mg "put_node_cell" = some (.ref f_put_node_cell)
  f_is_made : Addr
  fd_is_made : FuncData
  F_is_made : Fun K "is_made" "is_made" s_is_made f_is_made fd_is_made
  mg_is_made : mg "is_made" = some (.ref f_is_made)
  f_made_nodes : Addr
  fd_made_nodes : FuncData
  F_made_nodes : Fun K "made_nodes" "made_nodes" s_made_nodes f_made_nodes fd_made_nodes
  mg_made_nodes : mg "made_nodes" = some (.ref f_made_nodes)
  f_make_node : Addr
  fd_make_node : FuncData
  F_make_node : Fun K "make_node" "make_node" s_make_node f_make_node fd_make_node
  mg_make_node : mg "make_node" = some (.ref f_make_node)
  f_unmake_node : Addr
  fd_unmake_node : FuncData
  F_unmake_node : Fun K "unmake_node" "unmake_node" s_unmake_node f_unmake_node fd_unmake_node
  mg_unmake_node : mg "unmake_node" = some (.ref f_unmake_node)
  f_Lfeed : Addr
  fd_Lfeed : FuncData
  F_Lfeed : Fun K "_law_feed" "_law_feed" s_Lfeed f_Lfeed fd_Lfeed
  mg_Lfeed : mg "_law_feed" = some (.ref f_Lfeed)
  f_Lpick : Addr
  fd_Lpick : FuncData
  F_Lpick : Fun K "_law_pick" "_law_pick" s_Lpick f_Lpick fd_Lpick
  mg_Lpick : mg "_law_pick" = some (.ref f_Lpick)
  f_Linteger : Addr
  fd_Linteger : FuncData
  F_Linteger : Fun K "_law_integer" "_law_integer" s_Linteger f_Linteger fd_Linteger
  mg_Linteger : mg "_law_integer" = some (.ref f_Linteger)
  f_Lagrees : Addr
  fd_Lagrees : FuncData
  F_Lagrees : Fun K "_law_agrees" "_law_agrees" s_Lagrees f_Lagrees fd_Lagrees
  mg_Lagrees : mg "_law_agrees" = some (.ref f_Lagrees)
  f_Lothers : Addr
  fd_Lothers : FuncData
  F_Lothers : Fun K "_law_others" "_law_others" s_Lothers f_Lothers fd_Lothers
  mg_Lothers : mg "_law_others" = some (.ref f_Lothers)
  f_Lfull : Addr
  fd_Lfull : FuncData
  F_Lfull : Fun K "_law_full" "_law_full" s_Lfull f_Lfull fd_Lfull
  mg_Lfull : mg "_law_full" = some (.ref f_Lfull)
  f_Lmake : Addr
  fd_Lmake : FuncData
  F_Lmake : Fun K "_law_make" "_law_make" s_Lmake f_Lmake fd_Lmake
  mg_Lmake : mg "_law_make" = some (.ref f_Lmake)
  f_law : Addr
  fd_law : FuncData
  F_law : Fun K "law" "law" s_law f_law fd_law
  mg_law : mg "law" = some (.ref f_law)
  f_Plan___init__ : Addr
  fd_Plan___init__ : FuncData
  F_Plan___init__ : Fun K "__init__" "Plan.__init__" s_Plan___init__ f_Plan___init__ fd_Plan___init__
  f_Plan_map_place : Addr
  fd_Plan_map_place : FuncData
  F_Plan_map_place : Fun K "map_place" "Plan.map_place" s_Plan_map_place f_Plan_map_place fd_Plan_map_place
  f_Plan_node_block : Addr
  fd_Plan_node_block : FuncData
  F_Plan_node_block : Fun K "node_block" "Plan.node_block" s_Plan_node_block f_Plan_node_block fd_Plan_node_block
  f_Image___init__ : Addr
  fd_Image___init__ : FuncData
  F_Image___init__ : Fun K "__init__" "Image.__init__" s_Image___init__ f_Image___init__ fd_Image___init__
  f_Image_twin : Addr
  fd_Image_twin : FuncData
  F_Image_twin : Fun K "twin" "Image.twin" s_Image_twin f_Image_twin fd_Image_twin
  f_Image_kind : Addr
  fd_Image_kind : FuncData
  F_Image_kind : Fun K "kind" "Image.kind" s_Image_kind f_Image_kind fd_Image_kind
  f_Image_fresh : Addr
  fd_Image_fresh : FuncData
  F_Image_fresh : Fun K "fresh" "Image.fresh" s_Image_fresh f_Image_fresh fd_Image_fresh
  f_Image_of_cells : Addr
  fd_Image_of_cells : FuncData
  F_Image_of_cells : Fun K "of_cells" "Image.of_cells" s_Image_of_cells f_Image_of_cells fd_Image_of_cells
  C_Plan : Addr
  mg_Plan : mg "Plan" = some (.ref C_Plan)
  cl_Plan : Cls K C_Plan
  na_Plan_blocks : NoAttr K C_Plan "blocks"
  na_Plan_nodes : NoAttr K C_Plan "nodes"
  na_Plan_slots : NoAttr K C_Plan "slots"
  na_Plan_maps : NoAttr K C_Plan "maps"
  na_Plan_first_node : NoAttr K C_Plan "first_node"
  na_Plan_first_data : NoAttr K C_Plan "first_data"
  mk_Plan : Mk K C_Plan f_Plan___init__
  mc_Plan : Value
  cr_Plan : ClX.CRead K C_Plan mc_Plan
  cv_Plan_WIDTH : ∃ u, ClX.CVal K C_Plan mc_Plan "WIDTH" (.int 8) u
  cv_Plan_FREE : ∃ u, ClX.CVal K C_Plan mc_Plan "FREE" (.int 0) u
  cv_Plan_LOGGED : ∃ u, ClX.CVal K C_Plan mc_Plan "LOGGED" (.int 1) u
  cv_Plan_PLAIN : ∃ u, ClX.CVal K C_Plan mc_Plan "PLAIN" (.int 2) u
  con_Plan_WIDTH : ∃ u, Con K C_Plan "WIDTH" (.int 8) u
  C_Image : Addr
  mg_Image : mg "Image" = some (.ref C_Image)
  cl_Image : Cls K C_Image
  na_Image_plan : NoAttr K C_Image "plan"
  na_Image_cells : NoAttr K C_Image "cells"
  na_Image_holdings : NoAttr K C_Image "holdings"
  na_Image_stamps : NoAttr K C_Image "stamps"
  na_Image_handles : NoAttr K C_Image "handles"
  na_Image_serial : NoAttr K C_Image "serial"
  na_Image_wish : NoAttr K C_Image "wish"
  na_Image_barred : NoAttr K C_Image "barred"
  mk_Image : Mk K C_Image f_Image___init__
  mc_Image : Value
  cr_Image : ClX.CRead K C_Image mc_Image
  m_Plan_map_place : Meth K C_Plan "map_place" f_Plan_map_place
  m_Plan_node_block : Meth K C_Plan "node_block" f_Plan_node_block
  m_Image_twin : Meth K C_Image "twin" f_Image_twin
  m_Image_kind : Meth K C_Image "kind" f_Image_kind
  sm_Image_fresh : SMet K C_Image mc_Image "fresh" f_Image_fresh
  sm_Image_of_cells : SMet K C_Image mc_Image "of_cells" f_Image_of_cells
  C_Refused : Addr
  mg_Refused : mg "Refused" = some (.ref C_Refused)
  be_Refused : PySem.W.subIn K (.ref C_Refused) (.type "BaseException") = some true
  te_Refused : PySem.W.typeIn K (.ref C_Refused) = some (.type "type")
  ie_Refused : PySem.W.isClsIn K C_Refused = true
  C_NodesFull : Addr
  mg_NodesFull : mg "NodesFull" = some (.ref C_NodesFull)
  be_NodesFull : PySem.W.subIn K (.ref C_NodesFull) (.type "BaseException") = some true
  te_NodesFull : PySem.W.typeIn K (.ref C_NodesFull) = some (.type "type")
  ie_NodesFull : PySem.W.isClsIn K C_NodesFull = true
  xe_NodesFull : PySem.W.excIn K C_NodesFull [.type "ValueError", .type "Exception", .type "BaseException", .type "object"] "ValueError.__new__" = true
  ke_NodesFull : PySem.W.keepIn K (.ref C_NodesFull) = true
  ec_NodesFull : ExcC K C_NodesFull
  sub_NodesFull_Refused : PySem.W.subIn K (.ref C_NodesFull) (.ref C_Refused) = some true
  c_ROOT : ∃ t, mg "ROOT" = some (.int 1 t)
  c_KIND : ∃ t, mg "KIND" = some (.int 0 t)
  c_LINKS : ∃ t, mg "LINKS" = some (.int 1 t)
  c_OWNER : ∃ t, mg "OWNER" = some (.int 3 t)
  c_MAKING : ∃ t, mg "MAKING" = some (.int 7 t)
  c_UNMADE : ∃ t, mg "UNMADE" = some (.int 0 t)
  c_FOLDER : ∃ t, mg "FOLDER" = some (.int 2 t)
  c_LEAST_BLOCKS : ∃ t, mg "LEAST_BLOCKS" = some (.int 8 t)
  c_MOST_BLOCKS : ∃ t, mg "MOST_BLOCKS" = some (.int 64 t)
  c_LEAST_NODES : ∃ t, mg "LEAST_NODES" = some (.int 2 t)
  c_MOST_NODES : ∃ t, mg "MOST_NODES" = some (.int 16 t)
  c_MOST_SLOTS : ∃ t, mg "MOST_SLOTS" = some (.int 200 t)
  c_LEAST_DATA : ∃ t, mg "LEAST_DATA" = some (.int 2 t)
  c_FIRST_MAP : ∃ t, mg "FIRST_MAP" = some (.int 2 t)
  b_abs : mg "abs" = none
  b_int : mg "int" = none
  b_len : mg "len" = none
  b_range : mg "range" = none
  b_isinstance : mg "isinstance" = none
  b_bool : mg "bool" = none
  b_list : mg "list" = none
  b_dict : mg "dict" = none

section
variable {P : Program} {w : World} {K : PySem.W.Frag} {mg : Str → Option Value} {base : Heap}
theorem b_node_cell (T : Tx K mg) : Binds K T.fd_node_cell ["image", "n", "field"] [] := T.F_node_cell.binds (ps := ["image", "n", "field"]) fun _ _ _ _ _ _ us hl => match us, hl with | [_, _, _], _ => rfl
theorem b_put_node_cell (T : Tx K mg) : Binds K T.fd_put_node_cell ["image", "n", "field", "value"] [] := T.F_put_node_cell.binds (ps := ["image", "n", "field", "value"]) fun _ _ _ _ _ _ us hl => match us, hl with | [_, _, _, _], _ => rfl
theorem b_is_made (T : Tx K mg) : Binds K T.fd_is_made ["image", "n"] [] := T.F_is_made.binds (ps := ["image", "n"]) fun _ _ _ _ _ _ us hl => match us, hl with | [_, _], _ => rfl
theorem b_made_nodes (T : Tx K mg) : Binds K T.fd_made_nodes ["image"] [] := T.F_made_nodes.binds (ps := ["image"]) fun _ _ _ _ _ _ us hl => match us, hl with | [_], _ => rfl
theorem b_make_node (T : Tx K mg) : Binds K T.fd_make_node ["image", "kind", "owner"] [] := T.F_make_node.binds (ps := ["image", "kind", "owner"]) fun _ _ _ _ _ _ us hl => match us, hl with | [_, _, _], _ => rfl
theorem b_unmake_node (T : Tx K mg) : Binds K T.fd_unmake_node ["image", "n"] [] := T.F_unmake_node.binds (ps := ["image", "n"]) fun _ _ _ _ _ _ us hl => match us, hl with | [_, _], _ => rfl
theorem b_Lfeed (T : Tx K mg) : Binds K T.fd_Lfeed ["_law_script"] [] := T.F_Lfeed.binds (ps := ["_law_script"]) fun _ _ _ _ _ _ us hl => match us, hl with | [_], _ => rfl
theorem b_Lpick (T : Tx K mg) : Binds K T.fd_Lpick ["_law_feed_here", "_law_limit"] [] := T.F_Lpick.binds (ps := ["_law_feed_here", "_law_limit"]) fun _ _ _ _ _ _ us hl => match us, hl with | [_, _], _ => rfl
theorem b_Linteger (T : Tx K mg) : Binds K T.fd_Linteger ["_law_actual", "_law_due"] [] := T.F_Linteger.binds (ps := ["_law_actual", "_law_due"]) fun _ _ _ _ _ _ us hl => match us, hl with | [_, _], _ => rfl
theorem b_Lagrees (T : Tx K mg) : Binds K T.fd_Lagrees ["_law_image", "_law_table", "_law_count"] [] := T.F_Lagrees.binds (ps := ["_law_image", "_law_table", "_law_count"]) fun _ _ _ _ _ _ us hl => match us, hl with | [_, _, _], _ => rfl
theorem b_Lothers (T : Tx K mg) : Binds K T.fd_Lothers ["_law_image", "_law_kept", "_law_count"] [] := T.F_Lothers.binds (ps := ["_law_image", "_law_kept", "_law_count"]) fun _ _ _ _ _ _ us hl => match us, hl with | [_, _, _], _ => rfl
theorem b_Lfull (T : Tx K mg) : Binds K T.fd_Lfull ["_law_image", "_law_kind", "_law_owner"] [] := T.F_Lfull.binds (ps := ["_law_image", "_law_kind", "_law_owner"]) fun _ _ _ _ _ _ us hl => match us, hl with | [_, _, _], _ => rfl
theorem b_Lmake (T : Tx K mg) : Binds K T.fd_Lmake ["_law_image", "_law_table", "_law_feed_here", "_law_count"] [] := T.F_Lmake.binds (ps := ["_law_image", "_law_table", "_law_feed_here", "_law_count"]) fun _ _ _ _ _ _ us hl => match us, hl with | [_, _, _, _], _ => rfl
theorem b_law (T : Tx K mg) : Binds K T.fd_law ["_law_script"] [] := T.F_law.binds (ps := ["_law_script"]) fun _ _ _ _ _ _ us hl => match us, hl with | [_], _ => rfl
theorem b_Plan_map_place (T : Tx K mg) : Binds K T.fd_Plan_map_place ["self", "x"] [] := T.F_Plan_map_place.binds (ps := ["self", "x"]) fun _ _ _ _ _ _ us hl => match us, hl with | [_, _], _ => rfl
theorem b_Plan_node_block (T : Tx K mg) : Binds K T.fd_Plan_node_block ["self", "n"] [] := T.F_Plan_node_block.binds (ps := ["self", "n"]) fun _ _ _ _ _ _ us hl => match us, hl with | [_, _], _ => rfl
theorem b_Image___init__ (T : Tx K mg) : Binds K T.fd_Image___init__ ["self", "plan"] [] := T.F_Image___init__.binds (ps := ["self", "plan"]) fun _ _ _ _ _ _ us hl => match us, hl with | [_, _], _ => rfl
theorem b_Image_twin (T : Tx K mg) : Binds K T.fd_Image_twin ["self"] [] := T.F_Image_twin.binds (ps := ["self"]) fun _ _ _ _ _ _ us hl => match us, hl with | [_], _ => rfl
theorem b_Image_kind (T : Tx K mg) : Binds K T.fd_Image_kind ["self", "x"] [] := T.F_Image_kind.binds (ps := ["self", "x"]) fun _ _ _ _ _ _ us hl => match us, hl with | [_, _], _ => rfl
theorem b_Image_fresh (T : Tx K mg) : Binds K T.fd_Image_fresh ["plan"] [] := T.F_Image_fresh.binds (ps := ["plan"]) fun _ _ _ _ _ _ us hl => match us, hl with | [_], _ => rfl
theorem b_Image_of_cells (T : Tx K mg) : Binds K T.fd_Image_of_cells ["plan", "rows"] [] := T.F_Image_of_cells.binds (ps := ["plan", "rows"]) fun _ _ _ _ _ _ us hl => match us, hl with | [_, _], _ => rfl
end
end K05

namespace K05
open PySem PySem.Spec PyProof.Rows L2 Rg
section
variable {P : Program} {w : World} {K : PySem.W.Frag} {mg : Str → Option Value} {base : Heap}
/-! ### _law_pick -/
def sp_Lpick : Sp := fun vs H Q _ => ∃ (p : Addr) (fs : List Int) (lim : Int), vs = [.ref p, .int lim] ∧ H p = some (.lst (fs.map V.int)) ∧ 0 < lim ∧
  ∀ (r : Int) (fs' : List Int), 0 ≤ r → r < lim → fs'.length ≤ fs.length → Q (.int r) (upd H p (.lst (fs'.map V.int)))
theorem ok_Lpick (T : Tx K mg) : FnOk P w K mg base CX0 1 T.f_Lpick T.fd_Lpick ["_law_feed_here", "_law_limit"] sp_Lpick := by
  refine T.F_Lpick.ok sc_Lpick (fun vs H Q E h => ?_) (fun cdv A outer s H vs Q E hr h => ?_)
  · obtain ⟨p, fs, lim, rfl, _⟩ := h
    rfl
  · obtain ⟨p, fs, lim, rfl, hp, hl, k⟩ := h
    refine ⟨_, (pss_cons (ps_if (pt_cmpR op_eq (pe_callB call_len_seq rfl T.b_len (by decide +kernel) (pa_cons (pv 0) pa_nil)) pe_int (nomark _))
        (pss_one (ps_ret pe_int))
        pss_nil)
      (pss_one (ps_ret (pe_op op_mod (pe_callTy call_int1 rfl T.b_int (by decide +kernel) (pa_cons (pe_bm PySem.F.plainAttrs_list PySem.F.slot_list_pop PySem.F.type_list_pop mt_popAt (pv 0) (pa_cons pe_int pa_nil)) pa_nil)) (pv 1))))), ?_⟩
    refine ⟨_, rfl, p, fs.map V.int, rfl, .inl (.inl (.inl hp)), rfl, _, rfl, ite2 (fun e => ?_) (fun e => ?_)⟩
    · have := k 0 fs (Int.le_refl _) hl (Nat.le_refl _)
      rw [upd_id hp] at this
      exact this
    · cases fs with
      | nil => exact absurd (decide_eq_true rfl) e
      | cons x r =>
        refine ⟨.ref p, rfl, .inl ⟨rfl, _, .inl (.inl hp)⟩, p, _, 0, 0, .int x, rfl, rfl, hp, by decide, by decide, ?_, rfl, .inl ⟨x, rfl, ?_⟩⟩
        · rw [List.length_map]; simp [seqIndex?]
        · refine ⟨.int lim, rfl, _, _, rfl, rfl, hl, ?_⟩
          exact k _ r (Int.emod_nonneg _ (by omega)) (Int.emod_lt_of_pos _ hl) (by simp)

/-! ### _law_integer: of two ints -/
def sp_Linteger : Sp := fun vs H Q _ => ∃ (a d : Int), vs = [.int a, .int d] ∧ Q (.bl (decide (a = d))) H
theorem ok_Linteger (T : Tx K mg) : FnOk P w K mg base CX0 1 T.f_Linteger T.fd_Linteger ["_law_actual", "_law_due"] sp_Linteger := by
  refine T.F_Linteger.ok sc_Linteger (fun vs H Q E h => ?_) (fun cdv A outer s H vs Q E hr h => ?_)
  · obtain ⟨_, _, rfl, _⟩ := h; rfl
  · obtain ⟨a, d, rfl, k⟩ := h
    refine ⟨_, (pss_one (ps_ret (pe_and (pe_callB call_isi rfl T.b_isinstance (by decide +kernel) (pa_cons (pv 0) (pa_cons (pe_bltn (v := .ty "int") rfl T.b_int (by decide +kernel) rfl) pa_nil)))
      (pe_and (pe_not (pe_callB call_isi rfl T.b_isinstance (by decide +kernel) (pa_cons (pv 0) (pa_cons (pe_bltn (v := .ty "bool") rfl T.b_bool (by decide +kernel) rfl) pa_nil))))
      (pe_one (pe_cmpR op_eq (pv 0) (pv 1) (nomark _))))))), ?_⟩
    refine ⟨_, rfl, _, _, _, _, true, rfl, .ty _, .base (.int _), kit_ty (by decide +kernel), _, rfl, iteT ⟨_, rfl, _, _, _, _, false, rfl, .ty _, .base (.int _), kit_ty (by decide +kernel), _, rfl, _, rfl, iteT ⟨_, rfl, _, rfl, rfl, ?_⟩⟩⟩
    have : decide (V.int a = V.int d) = decide (a = d) := by
      by_cases e : a = d
      · subst e; simp
      · rw [decide_eq_false e, decide_eq_false fun q => e (V.int.inj q)]
    rw [this]
    exact k

/-! ### _law_feed -/
def sp_Lfeed (K : PySem.W.Frag) : Sp := fun vs H Q _ => ∃ (a : Addr) (ns : List Int), vs = [.ref a] ∧ SqL K H a (ns.map V.int) ∧ ns.length ≤ 63 ∧
  ∀ (H' : Hp) (p : Addr) (fs : List Int), Same H H' → H p = none → H' p = some (.lst (fs.map V.int)) → fs.length ≤ 5000 → Q (.ref p) H'
theorem ok_Lfeed (T : Tx K mg) : FnOk P w K mg base CX0 1 T.f_Lfeed T.fd_Lfeed ["_law_script"] (sp_Lfeed K) := by
  refine T.F_Lfeed.ok sc_Lfeed (fun vs H Q E h => ?_) (fun cdv A outer s H vs Q E hr h => ?_)
  · obtain ⟨_, _, rfl, _⟩ := h; rfl
  · obtain ⟨a, ns, rfl, hS, hlen, k⟩ := h
    refine ⟨_, (pss_cons (ps_set (i := 1) sc_Lfeed.nd rfl (.inl rfl) (pe_lst pa_nil))
      (pss_cons (ps_for PassesOwn.never rfl (pi_list (pv 0)) (pg_name (i := 2) sc_Lfeed.nd rfl (.inl rfl))
        (pss_cons (ps_set (i := 3) sc_Lfeed.nd rfl (.inl rfl) (pe_callB call_abs rfl T.b_abs (by decide +kernel) (pa_cons (pv 2) pa_nil)))
        (Evl.pss_cut (ps_if (pt_cmpR op_lt (pv 3) (pe_op op_pow pe_int pe_int) (nomark _))
          (pss_cons (ps_set (i := 3) sc_Lfeed.nd rfl (.inl rfl) (pe_op op_mod (pe_callTy call_int1 rfl T.b_int (by decide +kernel) (pa_cons (pe_op op_add (pe_op op_mul (pv 3) pe_int) pe_int) pa_nil)) pe_int))
          (pss_cons (ps_expr (pe_bm PySem.F.plainAttrs_list PySem.F.slot_list_append PySem.F.type_list_append mt_append (pv 1) (pa_cons (pe_op op_mod (pe_callTy call_int1 rfl T.b_int (by decide +kernel) (pa_cons (pe_op op_add (pe_op op_mul (pv 3) pe_int) pe_int) pa_nil)) pe_int) pa_nil)))
          (pss_one (ps_set (i := 3) sc_Lfeed.nd rfl (.inl rfl) pe_int))))
          pss_nil)
        (pss_one (ps_for PassesOwn.never rfl (pi_range1 rfl T.b_range (pa_cons pe_int pa_nil)) (pg_name (i := 4) sc_Lfeed.nd rfl (.inl rfl))
          (pss_one (ps_if (pt_cmpR op_gt (pv 3) pe_int (nomark _))
            (pss_cons (ps_expr (pe_bm PySem.F.plainAttrs_list PySem.F.slot_list_append PySem.F.type_list_append mt_append (pv 1) (pa_cons (pe_op op_mod (pe_callTy call_int1 rfl T.b_int (by decide +kernel) (pa_cons (pv 3) pa_nil)) pe_int) pa_nil)))
            (pss_one (ps_set (i := 3) sc_Lfeed.nd rfl (.inl rfl) (pe_op op_fdiv (pv 3) pe_int))))
            pss_nil)))))))
      (pss_one (ps_ret (pv 1))))), ?_⟩
    refine ⟨Nat.zero_le _, fun p np => ?_⟩
    have s0 : Same H (upd H p (.lst [])) := same_upd np
    have npa : ∀ H2, SqL K H2 a (ns.map V.int) → True := fun _ _ => trivial
    refine ⟨_, rfl, a, rfl, ⟨_, s0.seq hS⟩, for_list (K := K) (a := a) (xs := ns.map V.int) (fun i σ H2 => ∃ (fs : List Int) (v2 v3 v4 : Option V), σ = [some (.ref a), some (.ref p), v2, v3, v4] ∧ H2 = upd H p (.lst (fs.map V.int)) ∧ fs.length ≤ 61 * i)
      ⟨[], none, none, none, rfl, rfl, Nat.zero_le _⟩ (fun i σ H2 _ ⟨_, _, _, _, _, e, _⟩ => by rw [e]; exact (same_upd np).seq hS) ?_ ?_⟩
    · rintro i y σ H2 hi ⟨fs, v2, v3, v4, rfl, rfl, hl⟩
      have hil : i < 63 := by
        have := (List.getElem?_eq_some_iff.mp hi).1
        rw [List.length_map] at this
        omega
      obtain ⟨z, rfl⟩ : ∃ z, y = V.int z := by
        rw [List.getElem?_map] at hi
        cases e : ns[i]? with
        | none => rw [e] at hi; cases hi
        | some z => rw [e] at hi; exact ⟨z, (Option.some.inj hi).symm⟩
      refine ⟨_, rfl, z, rfl, ?_⟩
      refine ⟨fun σ' H' => ∃ (fs : List Int) (R : Int) (v4 : Option V), σ' = [some (.ref a), some (.ref p), some (.int z), some (.int R), v4] ∧ H' = upd H p (.lst (fs.map V.int)) ∧ 0 ≤ R ∧ fs.length ≤ 61 * i + 1, ?_, ?_⟩
      · have hz : 0 ≤ (if z < 0 then -z else z) := by split <;> omega
        refine ⟨_, rfl, _, _, rfl, rfl, ⟨by decide, by decide, by decide⟩, _, _, rfl, rfl, _, rfl, ite2 (fun e => ?_) (fun e => ?_)⟩
        · have e1 : (if z < 0 then -z else z) < 10 ^ 18 := of_decide_eq_true e
          refine ⟨_, rfl, _, _, rfl, rfl, .inl ⟨by omega, by omega⟩, _, _, rfl, rfl, .inl ⟨_, rfl, _, _, rfl, rfl, (by show (0 : Int) < _; decide), ?_⟩⟩
          refine ⟨.ref p, rfl, .inl ⟨rfl, _, .inl (.inl upd_same)⟩, _, rfl, _, _, rfl, rfl, .inr ⟨by decide, by decide⟩, _, _, rfl, rfl, .inl ⟨_, rfl, _, _, rfl, rfl, (by show (0 : Int) < _; decide), p, _, _, rfl, rfl, upd_same, ?_, ?_⟩⟩
          · rw [List.length_map]; exact Nat.lt_of_lt_of_le (Nat.lt_succ_of_le hl) (by unfold sizeLine; omega)
          · exact ⟨fs ++ [_], 0, v4, rfl, upd_app, Int.le_refl _, by rw [List.length_append]; simp; omega⟩
        · exact ⟨fs, _, v4, rfl, rfl, hz, by omega⟩
      · rintro σ' H' ⟨fs, R, v4, rfl, rfl, hR, hl⟩
        refine ⟨60, rfl, by decide, by decide, for_range (lo := 0) (n := 60) (fun j σ' H' => ∃ (fs : List Int) (R : Int) (v4 : Option V), σ' = [some (.ref a), some (.ref p), some (.int z), some (.int R), v4] ∧ H' = upd H p (.lst (fs.map V.int)) ∧ 0 ≤ R ∧ fs.length ≤ 61 * i + 1 + j)
          ⟨fs, R, v4, rfl, rfl, hR, hl⟩ ?_ ?_⟩
        · rintro j σ' H' hj ⟨fs, R, v4, rfl, rfl, hR, hl⟩
          refine ⟨_, rfl, _, _, rfl, rfl, _, rfl, ite2 (fun e => ?_) (fun e => ?_)⟩
          · refine ⟨.ref p, rfl, .inl ⟨rfl, _, .inl (.inl upd_same)⟩, _, rfl, .inl ⟨_, rfl, _, _, rfl, rfl, (by show (0 : Int) < _; decide), p, _, _, rfl, rfl, upd_same, ?_, ?_⟩⟩
            · rw [List.length_map]; exact Nat.lt_of_lt_of_le (Nat.lt_succ_of_le hl) (by unfold sizeLine; omega)
            · refine ⟨_, rfl, _, _, rfl, rfl, ⟨by decide, by decide⟩, fs ++ [_], _, _, rfl, upd_app, Int.ediv_nonneg hR (by decide), by rw [List.length_append]; simp; omega⟩
          · exact ⟨fs, R, _, rfl, rfl, hR, by omega⟩
        · rintro σ' H' ⟨fs, R, v4, rfl, rfl, hR, hl⟩
          exact ⟨fs, _, _, _, rfl, rfl, by omega⟩
    · rintro σ H2 ⟨fs, v2, v3, v4, rfl, rfl, hl⟩
      rw [List.length_map] at hl
      exact ⟨_, rfl, k _ p fs (same_upd np) np upd_same (by omega)⟩
end
end K05

namespace K05
open PySem PySem.Spec PyProof.Rows L2 Rg
section
variable {P : Program} {w : World} {K : PySem.W.Frag} {mg : Str → Option Value} {base : Heap}
/-! ### plans -/
def planF (b n s : Int) : List (Str × V) := [("blocks", .int b), ("nodes", .int n), ("slots", .int s), ("maps", .int ((b + 8 - 1) / 8)), ("first_node", .int (2 + (b + 8 - 1) / 8)), ("first_data", .int (2 + (b + 8 - 1) / 8 + n))]
structure PlanAt (C : Addr) (H : Hp) (p : Addr) (b n s : Int) : Prop where
  ob : ∃ dx, H p = some (.ins C dx (planF b n s))
  b1 : 8 ≤ b
  b2 : b ≤ 64
  n1 : 2 ≤ n
  n2 : n ≤ 16
  s1 : b < s
  s2 : s ≤ 200
  d : 2 ≤ b - (2 + (b + 8 - 1) / 8 + n)
theorem PlanAt.same {C : Addr} {H H' : Hp} {p : Addr} {b n s : Int} (e : Same H H') (h : PlanAt C H p b n s) : PlanAt C H' p b n s :=
  let ⟨dx, z⟩ := h.ob
  ⟨⟨dx, e _ _ z⟩, h.b1, h.b2, h.n1, h.n2, h.s1, h.s2, h.d⟩
theorem PlanAt.of {C : Addr} {H H' : Hp} {p : Addr} {b n s : Int} (h : PlanAt C H p b n s) (e : ∀ o, H p = some o → H' p = some o) : PlanAt C H' p b n s :=
  let ⟨dx, z⟩ := h.ob
  ⟨⟨dx, e _ z⟩, h.b1, h.b2, h.n1, h.n2, h.s1, h.s2, h.d⟩
def sp_Plan_init (C : Addr) : Sp := fun vs H Q _ => ∃ (p dx : Addr) (b n s : Int), vs = [.ref p, .int b, .int n, .int s] ∧ H p = some (.ins C dx []) ∧ 8 ≤ b ∧ b ≤ 64 ∧ 2 ≤ n ∧ n ≤ 16 ∧ b < s ∧ s ≤ 200 ∧ 2 ≤ b - (2 + (b + 8 - 1) / 8 + n) ∧
  Q .non (upd H p (.ins C dx (planF b n s)))
theorem ok_Plan_init (T : Tx K mg) : FnOk P w K mg base CX0 1 T.f_Plan___init__ T.fd_Plan___init__ ["self", "blocks", "nodes", "slots"] (sp_Plan_init T.C_Plan) := by
  refine T.F_Plan___init__.ok sc_Plan___init__ (fun vs H Q E h => ?_) (fun cdv A outer s H vs Q E hr h => ?_)
  · obtain ⟨_, _, _, _, _, rfl, _⟩ := h; rfl
  · obtain ⟨p, dx, b, n, sl, rfl, hp, h1, h2, h3, h4, h5, h6, h7, k⟩ := h
    refine ⟨_, (pss_cons (ps_if (pt_not (pt_chain op_le op_le (pe_gc T.c_LEAST_BLOCKS) (pv 1) (pe_gc T.c_MOST_BLOCKS)))
        (pss_one ps_never)
        pss_nil)
      (pss_cons (ps_if (pt_not (pt_chain op_le op_le (pe_gc T.c_LEAST_NODES) (pv 2) (pe_gc T.c_MOST_NODES)))
        (pss_one ps_never)
        pss_nil)
      (pss_cons (ps_if (pt_not (pt_chain op_lt op_le (pv 1) (pv 3) (pe_gc T.c_MOST_SLOTS)))
        (pss_one ps_never)
        pss_nil)
      (pss_cons (ps_fld (pv 0) (pv 1) rfl)
      (pss_cons (ps_fld (pv 0) (pv 2) rfl)
      (pss_cons (ps_fld (pv 0) (pv 3) rfl)
      (pss_cons (ps_fld (pv 0) (pe_op op_fdiv (pe_op op_sub (pe_op op_add (pv 1) (pe_con (pv 0) rfl)) pe_int) (pe_con (pv 0) rfl)) rfl)
      (pss_cons (ps_fld (pv 0) (pe_op op_add (pe_gc T.c_FIRST_MAP) (pe_fld (pv 0) rfl)) rfl)
      (pss_cons (ps_fld (pv 0) (pe_op op_add (pe_fld (pv 0) rfl) (pv 2)) rfl)
      (pss_one (ps_if (pt_cmpR op_lt (pe_op op_sub (pv 1) (pe_fld (pv 0) rfl)) (pe_gc T.c_LEAST_DATA) (nomark _))
        (pss_one ps_never)
        pss_nil))))))))))), ?_⟩
    obtain ⟨uW, cW⟩ := T.con_Plan_WIDTH
    refine ⟨_, rfl, _, _, rfl, rfl, _, rfl, ?_⟩
    rw [decide_eq_true h1]
    refine iteT ⟨_, _, rfl, rfl, _, rfl, ?_⟩
    rw [decide_eq_true h2]
    refine iteF ⟨_, rfl, _, _, rfl, rfl, _, rfl, ?_⟩
    rw [decide_eq_true h3]
    refine iteT ⟨_, _, rfl, rfl, _, rfl, ?_⟩
    rw [decide_eq_true h4]
    refine iteF ⟨_, rfl, _, rfl, _, _, rfl, rfl, _, rfl, ?_⟩
    rw [decide_eq_true h5]
    refine iteT ⟨_, _, rfl, rfl, _, rfl, ?_⟩
    rw [decide_eq_true h6]
    refine iteF ⟨_, rfl, _, rfl, p, _, dx, _, rfl, hp, T.cl_Plan, T.na_Plan_blocks, (by show 0 < 1000; decide), ?_⟩
    refine ⟨_, rfl, _, rfl, p, _, dx, _, rfl, upd_same, T.cl_Plan, T.na_Plan_nodes, (by show 1 < 1000; decide), ?_⟩
    refine ⟨_, rfl, _, rfl, p, _, dx, _, rfl, upd_same, T.cl_Plan, T.na_Plan_slots, (by show 2 < 1000; decide), ?_⟩
    refine ⟨_, rfl, _, rfl, p, _, dx, _, _, _, rfl, upd_same, T.cl_Plan, cW, rfl, _, _, rfl, rfl, _, _, rfl, rfl, _, rfl, p, _, dx, _, _, _, rfl, upd_same, T.cl_Plan, cW, rfl, _, _, rfl, rfl, ⟨by decide, by decide⟩, ?_⟩
    refine ⟨_, rfl, p, _, dx, _, rfl, upd_same, T.cl_Plan, T.na_Plan_maps, (by show 3 < 1000; decide), ?_⟩
    refine ⟨_, rfl, p, _, dx, _, _, rfl, upd_same, T.cl_Plan, T.na_Plan_maps, rfl, _, _, rfl, rfl, _, rfl, p, _, dx, _, rfl, upd_same, T.cl_Plan, T.na_Plan_first_node, (by show 4 < 1000; decide), ?_⟩
    refine ⟨_, rfl, p, _, dx, _, _, rfl, upd_same, T.cl_Plan, T.na_Plan_first_node, rfl, _, rfl, _, _, rfl, rfl, _, rfl, p, _, dx, _, rfl, upd_same, T.cl_Plan, T.na_Plan_first_data, (by show 5 < 1000; decide), ?_⟩
    refine ⟨_, rfl, _, rfl, p, _, dx, _, _, rfl, upd_same, T.cl_Plan, T.na_Plan_first_data, rfl, _, _, rfl, rfl, _, _, rfl, rfl, _, rfl, ?_⟩
    rw [decide_eq_false (by omega)]
    refine iteF ?_
    rw [upd_upd, upd_upd, upd_upd, upd_upd, upd_upd]
    exact k
/-- the call Plan(b, nodes=n, slots=s) -/
theorem kb_Plan (T : Tx K mg) : KBn K T.fd_Plan___init__ ["self", "blocks", "nodes", "slots"] 2 ["nodes", "slots"] (fun us ws => us ++ ws) (fun us ws => us ++ ws) := by
  obtain ⟨oc, od, kV, doc, pm, an, cdv, ct, osl, e, lk, hcd⟩ := T.F_Plan___init__.ex
  refine ⟨fun s us ws _ l1 l2 => ?_, fun r1 r2 => r1.append r2⟩
  rw [e]
  match us, ws, l1, l2 with
  | [_, _], [_, _], _, _ => exact .of_eq rfl
def sp_map_place (C : Addr) : Sp := fun vs H Q _ => ∃ (p : Addr) (b n s x : Int), vs = [.ref p, .int x] ∧ PlanAt C H p b n s ∧ ∀ t, H t = none → Q (.ref t) (upd H t (.tup [.int (2 + x / 8), .int (x % 8)]))
theorem ok_Plan_map_place (T : Tx K mg) : FnOk P w K mg base CX0 1 T.f_Plan_map_place T.fd_Plan_map_place ["self", "x"] (sp_map_place T.C_Plan) := by
  refine T.F_Plan_map_place.ok sc_Plan_map_place (fun vs H Q E h => ?_) (fun cdv A outer s H vs Q E hr h => ?_)
  · obtain ⟨_, _, _, _, _, rfl, _⟩ := h; rfl
  · obtain ⟨p, b, n, sl, x, rfl, hP, k⟩ := h
    obtain ⟨dx, hp⟩ := hP.ob
    obtain ⟨uW, cW⟩ := T.con_Plan_WIDTH
    refine ⟨_, (pss_one (ps_ret (pe_tup (pa_cons (pe_op op_add (pe_gc T.c_FIRST_MAP) (pe_op op_fdiv (pv 1) (pe_con (pv 0) rfl))) (pa_cons (pe_op op_mod (pv 1) (pe_con (pv 0) rfl)) pa_nil))))), ?_⟩
    refine ⟨_, rfl, _, rfl, p, _, dx, _, _, _, rfl, hp, T.cl_Plan, cW, rfl, _, _, rfl, rfl, ⟨by decide, by decide⟩, _, _, rfl, rfl, _, rfl, _, rfl, p, _, dx, _, _, _, rfl, hp, T.cl_Plan, cW, rfl, _, _, rfl, rfl, (by show (0 : Int) < _; decide), (by show 2 ≤ sizeLine; decide), k⟩
def sp_node_block (C : Addr) : Sp := fun vs H Q _ => ∃ (p : Addr) (b n s x : Int), vs = [.ref p, .int x] ∧ PlanAt C H p b n s ∧ Q (.int (2 + (b + 8 - 1) / 8 + x - 1)) H
theorem ok_Plan_node_block (T : Tx K mg) : FnOk P w K mg base CX0 1 T.f_Plan_node_block T.fd_Plan_node_block ["self", "n"] (sp_node_block T.C_Plan) := by
  refine T.F_Plan_node_block.ok sc_Plan_node_block (fun vs H Q E h => ?_) (fun cdv A outer s H vs Q E hr h => ?_)
  · obtain ⟨_, _, _, _, _, rfl, _⟩ := h; rfl
  · obtain ⟨p, b, n, sl, x, rfl, hP, k⟩ := h
    obtain ⟨dx, hp⟩ := hP.ob
    refine ⟨_, (pss_one (ps_ret (pe_op op_sub (pe_op op_add (pe_fld (pv 0) rfl) (pv 1)) pe_int))), ?_⟩
    exact ⟨_, rfl, p, _, dx, _, _, rfl, hp, T.cl_Plan, T.na_Plan_first_node, rfl, _, rfl, _, _, rfl, rfl, _, _, rfl, rfl, k⟩
end
end K05

namespace K05
open PySem PySem.Spec PyProof.Rows L2 Rg
/-! ### a list of lists of ints -/
structure Grid (H : Hp) (ca : Addr) (rs : List Addr) (M : List (List Int)) : Prop where
  out : H ca = some (.lst (rs.map V.ref))
  len : rs.length = M.length
  row : ∀ (i : Nat) (r : Addr) (m : List Int), rs[i]? = some r → M[i]? = some m → H r = some (.lst (m.map V.int))
  nd : rs.Nodup
  nin : ca ∉ rs
theorem Grid.held {H : Hp} {ca : Addr} {rs : List Addr} {M : List (List Int)} (G : Grid H ca rs M) {r : Addr} (h : r ∈ rs) : ∃ o, H r = some o := by
  obtain ⟨i, hi, e⟩ := List.getElem_of_mem h
  have hm : i < M.length := by rw [← G.len]; exact hi
  exact ⟨_, G.row i r M[i] (by rw [List.getElem?_eq_getElem hi, e]) (List.getElem?_eq_getElem hm)⟩
theorem Grid.same {H H' : Hp} {ca : Addr} {rs : List Addr} {M : List (List Int)} (G : Grid H ca rs M) (s : Same H H') : Grid H' ca rs M :=
  ⟨s _ _ G.out, G.len, fun i r m a b => s _ _ (G.row i r m a b), G.nd, G.nin⟩
/-- kept where it stands -/
theorem Grid.keep {H H' : Hp} {ca : Addr} {rs : List Addr} {M : List (List Int)} (G : Grid H ca rs M) (h : ∀ b o, b = ca ∨ b ∈ rs → H b = some o → H' b = some o) : Grid H' ca rs M :=
  ⟨h _ _ (.inl rfl) G.out, G.len, fun i r m a b => h _ _ (.inr (List.mem_of_getElem? a)) (G.row i r m a b), G.nd, G.nin⟩
theorem Grid.get {H : Hp} {ca : Addr} {rs : List Addr} {M : List (List Int)} (G : Grid H ca rs M) {i : Nat} {m : List Int} (h : M[i]? = some m) : ∃ r, rs[i]? = some r ∧ H r = some (.lst (m.map V.int)) ∧ r ≠ ca := by
  have hi : i < rs.length := by rw [G.len]; exact (List.getElem?_eq_some_iff.mp h).1
  refine ⟨rs[i], List.getElem?_eq_getElem hi, G.row i _ m (List.getElem?_eq_getElem hi) h, fun e => G.nin ?_⟩
  rw [← e]
  exact List.getElem_mem hi
/-- one row stored anew -/
theorem Grid.put {H : Hp} {ca : Addr} {rs : List Addr} {M : List (List Int)} (G : Grid H ca rs M) {i : Nat} {r : Addr} {m : List Int} (hr : rs[i]? = some r) : Grid (upd H r (.lst (m.map V.int))) ca rs (M.set i m) := by
  have hi : i < rs.length := (List.getElem?_eq_some_iff.mp hr).1
  have hir : rs[i] = r := (List.getElem?_eq_some_iff.mp hr).2
  have rin : r ∈ rs := List.mem_of_getElem? hr
  refine ⟨?_, by rw [List.length_set]; exact G.len, fun j q m' hj hm => ?_, G.nd, G.nin⟩
  · rw [upd_ne (fun e => G.nin (by rw [e]; exact rin))]
    exact G.out
  · by_cases e : i = j
    · subst e
      rw [hr] at hj
      cases hj
      rw [List.getElem?_set_self (by rw [← G.len]; exact hi)] at hm
      cases hm
      exact upd_same
    · rw [List.getElem?_set_ne e] at hm
      have hq : q ≠ r := fun z => by
        subst z
        have hjl : j < rs.length := (List.getElem?_eq_some_iff.mp hj).1
        have := (List.getElem?_eq_some_iff.mp hj).2
        exact e ((List.getElem_inj G.nd).mp (hir.trans this.symm))
      rw [upd_ne hq]
      exact G.row j q m' hj hm
theorem map_set {α β : Type} (f : α → β) (l : List α) (i : Nat) (x : α) : (l.map f).set i (f x) = (l.set i x).map f := by
  rw [List.map_set]
/-- a grid that is new -/
structure NewGrid (H0 H : Hp) (D : Addr) (qs : List Addr) (M : List (List Int)) : Prop where
  grid : Grid H D qs M
  fresh : ∀ q ∈ qs, H0 q = none
  freshD : H0 D = none
  same : Same H0 H
theorem NewGrid.start {H0 H : Hp} {D : Addr} (s : Same H0 H) (hD : H0 D = none) (hn : H D = none) : NewGrid H0 (upd H D (.lst [])) D [] [] :=
  ⟨⟨by rw [upd_same]; rfl, rfl, fun i r m a _ => by simp at a, List.nodup_nil, by simp⟩, fun q h => (by cases h), hD, s.trans (same_upd hn)⟩
theorem NewGrid.snoc {H0 H H1 : Hp} {D : Addr} {qs : List Addr} {M : List (List Int)} {p : Addr} {m : List Int} (G : NewGrid H0 H D qs M) (s : Same H H1) (hp : H p = none) (h1 : H1 p = some (.lst (m.map V.int))) :
    NewGrid H0 (upd H1 D (.lst (qs.map V.ref ++ [V.ref p]))) D (qs ++ [p]) (M ++ [m]) := by
  have pD : p ≠ D := fun e => by
    rw [e, G.grid.out] at hp
    cases hp
  have pq : p ∉ qs := fun h => by
    obtain ⟨o, z⟩ := G.grid.held h
    rw [hp] at z
    cases z
  refine ⟨⟨by rw [upd_same, List.map_append]; rfl, by simp [G.grid.len], fun i r m' hi hm => ?_, ?_, ?_⟩, ?_, G.freshD, ?_⟩
  · by_cases e : i < qs.length
    · rw [List.getElem?_append_left e] at hi
      rw [List.getElem?_append_left (by rw [← G.grid.len]; exact e)] at hm
      have hr : r ∈ qs := List.mem_of_getElem? hi
      rw [upd_ne (fun z => G.grid.nin (by rw [← z]; exact hr))]
      exact s _ _ (G.grid.row i r m' hi hm)
    · have hi2 : i = qs.length := by
        have := (List.getElem?_eq_some_iff.mp hi).1
        simp at this
        omega
      subst hi2
      rw [List.getElem?_append_right (Nat.le_refl _)] at hi
      rw [G.grid.len, List.getElem?_append_right (Nat.le_refl _)] at hm
      simp at hi hm
      subst hi hm
      rw [upd_ne pD]
      exact h1
  · exact List.nodup_append.mpr ⟨G.grid.nd, by simp, fun a ha b hb => by simp at hb; subst hb; exact fun e => pq (e ▸ ha)⟩
  · simp
    exact ⟨G.grid.nin, fun e => pD e.symm⟩
  · intro q hq
    rcases List.mem_append.mp hq with h | h
    · exact G.fresh q h
    · simp at h
      subst h
      exact G.same.free hp
  · intro b o e
    rw [upd_ne (ne_of_none e G.freshD)]
    exact s _ _ (G.same _ _ e)
theorem NewGrid.nin0 {H0 H : Hp} {D : Addr} {qs : List Addr} {M : List (List Int)} (G : NewGrid H0 H D qs M) {b : Addr} {o : HO} (h : H0 b = some o) : b ≠ D ∧ b ∉ qs :=
  ⟨ne_of_none h G.freshD, fun z => by rw [G.fresh b z] at h; cases h⟩
end K05

namespace K05
open PySem PySem.Spec PyProof.Rows L2 Rg
/-! ### images -/
structure IA where
  (dx pl ca : Addr) (rs : List Addr) (ho st hd ba : Addr)
structure IV where
  (M : List (List Int)) (ho st : List Int) (hd : List (Int × Int)) (se wi : Int) (ba : List Int)
def imgF (A : IA) (v : IV) : List (Str × V) := [("plan", .ref A.pl), ("cells", .ref A.ca), ("holdings", .ref A.ho), ("stamps", .ref A.st), ("handles", .ref A.hd), ("serial", .int v.se), ("wish", .int v.wi), ("barred", .ref A.ba)]
def hdK (h : List (Int × Int)) : List (Key × V) := h.map fun p => (Sum.inl p.1, V.int p.2)
structure ImgAt (CI CP : Addr) (H : Hp) (im : Addr) (A : IA) (v : IV) (b n s : Int) : Prop where
  ob : H im = some (.ins CI A.dx (imgF A v))
  pl : PlanAt CP H A.pl b n s
  gr : Grid H A.ca A.rs v.M
  ho : H A.ho = some (.lst (v.ho.map V.int))
  st : H A.st = some (.lst (v.st.map V.int))
  hd : H A.hd = some (.dK (hdK v.hd))
  ba : H A.ba = some (.tup (v.ba.map V.int))
  n1 : A.ho ∉ A.rs
  n2 : A.st ∉ A.rs
  n3 : A.ho ≠ A.st
  n4 : A.ca ≠ A.ho
  n5 : A.ca ≠ A.st
  d0 : (v.M.length : Int) = b
  d1 : ∀ m ∈ v.M, m.length = 8
  d2 : (v.ho.length : Int) = b
  d3 : (v.st.length : Int) = b
/-- where an image may be changed -/
def IA.foot (A : IA) (im : Addr) : List Addr := im :: A.ca :: A.ho :: A.st :: A.hd :: A.rs
/-- its parts are new -/
structure IA.New (A : IA) (H0 : Hp) : Prop where
  ca : H0 A.ca = none
  rs : ∀ q ∈ A.rs, H0 q = none
  ho : H0 A.ho = none
  st : H0 A.st = none
  hd : H0 A.hd = none
theorem ImgAt.keep {CI CP : Addr} {H H' : Hp} {im : Addr} {A : IA} {v : IV} {b n s : Int} (I : ImgAt CI CP H im A v b n s) (h : ∀ x o, H x = some o → H' x = some o) : ImgAt CI CP H' im A v b n s :=
  { I with ob := h _ _ I.ob, pl := I.pl.same h, gr := I.gr.same h, ho := h _ _ I.ho, st := h _ _ I.st, hd := h _ _ I.hd, ba := h _ _ I.ba }
theorem rep_flat {α : Type} (n : Nat) (x : α) : (List.replicate n [x]).flatten = List.replicate n x := by
  induction n with
  | zero => rfl
  | succ n ih => rw [List.replicate_succ, List.flatten_cons, ih, List.replicate_succ]; rfl
theorem rep_map (n : Nat) (x : Int) : (List.replicate n (V.int x)) = (List.replicate n x).map V.int := by rw [List.map_replicate]
def zeroV (b : Int) : IV := ⟨List.replicate b.toNat (List.replicate 8 0), List.replicate b.toNat 0, List.replicate b.toNat 0, [], 0, 0, []⟩
section
variable {P : Program} {w : World} {K : PySem.W.Frag} {mg : Str → Option Value} {base : Heap}
def sp_Image_init (CI CP : Addr) : Sp := fun vs H Q _ => ∃ (p dx pl : Addr) (b n s : Int), vs = [.ref p, .ref pl] ∧ H p = some (.ins CI dx []) ∧ PlanAt CP H pl b n s ∧
  ∀ (H' : Hp) (A : IA), (∀ x o, H x = some o → x ≠ p → H' x = some o) → ImgAt CI CP H' p A (zeroV b) b n s → A.New H → A.pl = pl → Q .non H'
theorem ok_Image_init (T : Tx K mg) : FnOk P w K mg base CX0 1 T.f_Image___init__ T.fd_Image___init__ ["self", "plan"] (sp_Image_init T.C_Image T.C_Plan) := by
  refine T.F_Image___init__.ok sc_Image___init__ (fun vs H Q E h => ?_) (fun cdv A outer s H vs Q E hr h => ?_)
  · obtain ⟨_, _, _, _, _, _, rfl, _⟩ := h; rfl
  · obtain ⟨p, dx, pl, b, n, sl, rfl, hp, hP, k⟩ := h
    refine ⟨_, (pss_cons (ps_fld (pv 0) (pv 1) rfl)
      (pss_cons (ps_fld (pv 0) (pe_lc rfl (own := [("_", 2)]) (g := gName 2) (tt := tYes) sc_Image___init__.nd (pi_range1 rfl T.b_range (pa_cons (pe_fld (pv 1) rfl) pa_nil)) (blkOk_by (N := ["self", "plan", "_"]) (sc := defScope s_Image___init__) (by decide +kernel)) (fun _ _ _ _ _ => pg_name (i := 2) sc_Image___init__.nd rfl (Or.inl rfl)) (fun _ _ _ _ _ => pts_nil) (fun _ _ _ _ _ => (pe_op op_rep (pe_lst (pa_cons pe_int pa_nil)) (pe_cv T.mg_Plan T.cr_Plan T.cv_Plan_WIDTH)))) rfl)
      (pss_cons (ps_fld (pv 0) (pe_op op_rep (pe_lst (pa_cons pe_int pa_nil)) (pe_fld (pv 1) rfl)) rfl)
      (pss_cons (ps_fld (pv 0) (pe_op op_rep (pe_lst (pa_cons pe_int pa_nil)) (pe_fld (pv 1) rfl)) rfl)
      (pss_cons (ps_fld (pv 0) pe_dnewK rfl)
      (pss_cons (ps_fld (pv 0) pe_int rfl)
      (pss_cons (ps_fld (pv 0) pe_int rfl)
      (pss_one (ps_fld (pv 0) (pe_tup pa_nil) rfl))))))))), ?_⟩
    obtain ⟨dxp, hpl⟩ := hP.ob
    have hb1 := hP.b1
    have hb2 := hP.b2
    have nppl : pl ≠ p := fun e => by
      rw [e, hp] at hpl
      have := HO.ins.inj (Option.some.inj hpl)
      have := this.2.2
      simp [planF] at this
    -- self.plan = plan
    refine ⟨_, rfl, _, rfl, p, _, dx, _, rfl, hp, T.cl_Image, T.na_Image_plan, (by show 0 < 1000; decide), ?_⟩
    generalize hH1 : upd H p _ = H1
    obtain ⟨e1, k1, n1⟩ := own_f hH1
    have pl1 := k1.at1 hpl nppl
    -- self.cells = [[0] * Plan.WIDTH for _ in range(plan.blocks)]
    refine ⟨_, rfl, pl, _, dxp, _, _, rfl, pl1, T.cl_Plan, T.na_Plan_blocks, rfl, b, rfl, by omega, by omega, fun D hD => ?_⟩
    refine lc_range (lo := 0) (n := b.toNat) (fun i H' => ∃ qs, NewGrid H1 H' D qs (List.replicate i (List.replicate 8 0)))
      ⟨[], NewGrid.start (Same.refl _) hD hD⟩ ?_ ?_
    · rintro i H' hi ⟨qs, G⟩
      refine ⟨rfl, ?_⟩
      refine yes_ ?_
      refine ⟨by show 1 ≤ sizeLine; decide, fun l hl => ?_⟩
      refine ⟨l, 8, _, rfl, rfl, upd_same, by decide, by decide, by show 1 * 8 ≤ sizeLine; decide, fun q hq => ?_⟩
      have hq0 : H' q = none := un hq
      have hlD : H' D = some (.lst (qs.map V.ref)) := G.grid.out
      have hq1 : (upd (upd H' l (.lst [V.int 0])) q (.lst (List.replicate (8 : Int).toNat [V.int 0]).flatten)) q = some (.lst ((List.replicate 8 (0 : Int)).map V.int)) := by rw [upd_same]; rfl
      have sm : Same H' (upd (upd H' l (.lst [V.int 0])) q (.lst (List.replicate (8 : Int).toNat [V.int 0]).flatten)) := (same_upd hl).trans (same_upd hq)
      refine ⟨_, sm _ _ hlD, ?_, qs ++ [q], ?_⟩
      · rw [List.length_map, G.grid.len, List.length_replicate]
        exact small1000 (by omega)
      · rw [List.replicate_succ']
        exact G.snoc sm hq0 hq1
    rintro H2 ⟨qs, G⟩
    have e2 := G.same _ _ e1
    have pl2 := G.same _ _ pl1
    have npD : p ≠ D := ne_of_none e1 G.freshD
    refine ⟨_, rfl, p, _, dx, _, rfl, e2, T.cl_Image, T.na_Image_cells, (by show 1 < 1000; decide), ?_⟩
    generalize hH3 : upd H2 p _ = H3
    obtain ⟨e3, k3, n3⟩ := own_f hH3
    have pl3 := k3.at1 pl2 nppl
    -- self.holdings = [0] * plan.blocks
    refine ⟨by show 1 ≤ sizeLine; decide, fun l hl => ?_⟩
    generalize hH4 : upd H3 l _ = H4
    obtain ⟨e4, s4, n4⟩ := new_f hH4 hl
    have pl4 := s4 _ _ pl3
    refine ⟨_, rfl, pl, _, dxp, _, _, rfl, pl4, T.cl_Plan, T.na_Plan_blocks, rfl, l, b, _, rfl, rfl, e4, by omega, by omega, (by show 1 * b.toNat ≤ sizeLine; exact Nat.le_of_lt (small1000 (by omega))), fun ho hho => ?_⟩
    rw [rep_flat, rep_map]
    generalize hH5 : upd H4 ho _ = H5
    obtain ⟨e5, s5, n5⟩ := new_f hH5 hho
    refine ⟨_, rfl, p, _, dx, _, rfl, s5 _ _ (s4 _ _ e3), T.cl_Image, T.na_Image_holdings, (by show 2 < 1000; decide), ?_⟩
    generalize hH6 : upd H5 p _ = H6
    obtain ⟨e6, k6, n6⟩ := own_f hH6
    have pl6 := k6.at1 (s5 _ _ pl4) nppl
    have nho : ho ≠ p := (ne_of_none (s4 _ _ e3) hho).symm
    have ho6 := k6.at1 e5 nho
    -- self.stamps = [0] * plan.blocks
    refine ⟨by show 1 ≤ sizeLine; decide, fun l2 hl2 => ?_⟩
    generalize hH7 : upd H6 l2 _ = H7
    obtain ⟨e7, s7, n7⟩ := new_f hH7 hl2
    refine ⟨_, rfl, pl, _, dxp, _, _, rfl, s7 _ _ pl6, T.cl_Plan, T.na_Plan_blocks, rfl, l2, b, _, rfl, rfl, e7, by omega, by omega, (by show 1 * b.toNat ≤ sizeLine; exact Nat.le_of_lt (small1000 (by omega))), fun st hst => ?_⟩
    rw [rep_flat, rep_map]
    generalize hH8 : upd H7 st _ = H8
    obtain ⟨e8, s8, n8⟩ := new_f hH8 hst
    refine ⟨_, rfl, p, _, dx, _, rfl, s8 _ _ (s7 _ _ e6), T.cl_Image, T.na_Image_stamps, (by show 3 < 1000; decide), ?_⟩
    generalize hH9 : upd H8 p _ = H9
    obtain ⟨e9, k9, n9⟩ := own_f hH9
    have nst : st ≠ p := (ne_of_none (s7 _ _ e6) hst).symm
    have nsth : st ≠ ho := (ne_of_none (s7 _ _ ho6) hst).symm
    have st9 := k9.at1 e8 nst
    have ho9 := k9.at1 (s8 _ _ (s7 _ _ ho6)) nho
    -- self.handles = {}; serial, wish, barred
    intro hd hhd
    generalize hH10 : upd H9 hd _ = H10
    obtain ⟨e10, s10, n10⟩ := new_f hH10 hhd
    have nhd : hd ≠ p := (ne_of_none e9 hhd).symm
    refine ⟨_, rfl, p, _, dx, _, rfl, s10 _ _ e9, T.cl_Image, T.na_Image_handles, (by show 4 < 1000; decide), ?_⟩
    generalize hH11 : upd H10 p _ = H11
    obtain ⟨e11, k11, n11⟩ := own_f hH11
    refine ⟨_, rfl, p, _, dx, _, rfl, e11, T.cl_Image, T.na_Image_serial, (by show 5 < 1000; decide), ?_⟩
    generalize hH12 : upd H11 p _ = H12
    obtain ⟨e12, k12, n12⟩ := own_f hH12
    refine ⟨_, rfl, p, _, dx, _, rfl, e12, T.cl_Image, T.na_Image_wish, (by show 6 < 1000; decide), ?_⟩
    generalize hH13 : upd H12 p _ = H13
    obtain ⟨e13, k13, n13⟩ := own_f hH13
    refine ⟨by show 0 ≤ sizeLine; decide, fun ba hba => ?_⟩
    generalize hH14 : upd H13 ba _ = H14
    obtain ⟨e14, s14, n14⟩ := new_f hH14 hba
    have nba : ba ≠ p := (ne_of_none e13 hba).symm
    refine ⟨_, rfl, p, _, dx, _, rfl, s14 _ _ e13, T.cl_Image, T.na_Image_barred, (by show 7 < 1000; decide), ?_⟩
    generalize hH15 : upd H14 p _ = H15
    obtain ⟨e15, k15, n15⟩ := own_f hH15
    -- what stands
    have k10 : Kp [p] H10 H15 := (((k11.trans k12).trans k13).same s14).trans k15
    have k2 : Kp [p] H2 H15 := ((((((k3.same s4).same s5).trans k6).same s7).same s8).trans (k9.same s10)).trans k10
    have k0 : Kp [p] H H15 := (k1.same G.same).trans k2
    have f_ho : H2 ho = none := (n3 _ (n4 _ hho).1).1
    have f_st : H2 st = none := (n3 _ (n4 _ (n5 _ (n6 _ (n7 _ hst).1).1).1).1).1
    have f_hd : H2 hd = none := (n3 _ (n4 _ (n5 _ (n6 _ (n7 _ (n8 _ (n9 _ hhd).1).1).1).1).1).1).1
    have fr : ∀ x, H2 x = none → H x = none := fun x e => (n1 _ (G.same.free e)).1
    have qp : ∀ q ∈ qs, q ≠ p := fun q hq e => by
      have := G.fresh q hq
      rw [e, e1] at this
      cases this
    have qn : ∀ x, H2 x = none → x ∉ qs := fun x e hq => by
      obtain ⟨o, z⟩ := G.grid.held hq
      rw [e] at z
      cases z
    refine k _ ⟨dx, pl, D, qs, ho, st, hd, ba⟩ (fun x o e ne => k0.at1 e ne)
      ⟨e15, hP.of fun o e => k0.at1 e nppl, G.grid.keep fun x o hx e => k2.at1 e ?_, k10.at1 (s10 _ _ ho9) nho, k10.at1 (s10 _ _ st9) nst, k10.at1 e10 nhd, k15.at1 e14 nba, qn _ f_ho, qn _ f_st, nsth.symm, ne_of_none G.grid.out f_ho, ne_of_none G.grid.out f_st, ?_, ?_, ?_, ?_⟩
      ⟨(n1 _ G.freshD).1, fun q hq => (n1 _ (G.fresh q hq)).1, fr _ f_ho, fr _ f_st, fr _ f_hd⟩ rfl
    · rcases hx with rfl | hx
      · exact npD.symm
      · exact qp x hx
    · show ((List.replicate b.toNat (List.replicate 8 (0 : Int))).length : Int) = b
      rw [List.length_replicate]
      omega
    · intro m hm
      rw [List.eq_of_mem_replicate hm]
      rfl
    · show ((List.replicate b.toNat (0 : Int)).length : Int) = b
      rw [List.length_replicate]
      omega
    · show ((List.replicate b.toNat (0 : Int)).length : Int) = b
      rw [List.length_replicate]
      omega
end
end K05

namespace K05
open PySem PySem.Spec PyProof.Rows L2 Rg
def cellAt (M : List (List Int)) (i j : Nat) : Int := ((M[i]?.getD [])[j]?).getD 0
theorem cellAt_of {M : List (List Int)} {i j : Nat} {m : List Int} {x : Int} (h : M[i]? = some m) (hj : m[j]? = some x) : cellAt M i j = x := by
  unfold cellAt
  rw [h]
  show (m[j]?).getD 0 = x
  rw [hj]
  rfl
def kindOf (b n : Int) (M : List (List Int)) (x : Int) : Int :=
  if x < 2 + (b + 8 - 1) / 8 + n then 1 else if cellAt M (2 + x / 8).toNat (x % 8).toNat = 1 ∨ cellAt M (2 + x / 8).toNat (x % 8).toNat = 2 then cellAt M (2 + x / 8).toNat (x % 8).toNat else 0
section
variable {P : Program} {w : World} {K : PySem.W.Frag} {mg : Str → Option Value} {base : Heap}
def sp_Image_kind (CI CP : Addr) : Sp := fun vs H Q _ => ∃ (im : Addr) (A : IA) (v : IV) (b n s x : Int), vs = [.ref im, .int x] ∧ ImgAt CI CP H im A v b n s ∧ 0 ≤ x ∧ x < b ∧
  ∀ H', Same H H' → Q (.int (kindOf b n v.M x)) H'
theorem ok_Image_kind (T : Tx K mg) : FnOk P w K mg base CX0 2 T.f_Image_kind T.fd_Image_kind ["self", "x"] (sp_Image_kind T.C_Image T.C_Plan) := by
  refine T.F_Image_kind.ok sc_Image_kind (fun vs H Q E h => ?_) (fun cdv A0 outer s H vs Q E hr h => ?_)
  · obtain ⟨_, _, _, _, _, _, _, rfl, _⟩ := h; rfl
  · obtain ⟨im, A, v, b, n, sl, x, rfl, I, hx0, hxb, k⟩ := h
    refine ⟨_, (pss_cons (ps_if (pt_cmpR op_lt (pv 1) (pe_fld (pe_fld (pv 0) rfl) rfl) (nomark _))
        (pss_one (ps_ret (pe_cv T.mg_Plan T.cr_Plan T.cv_Plan_LOGGED)))
        pss_nil)
      (pss_cons (ps_asg (pe_meth (pe_fld (pv 0) rfl) T.cl_Plan T.m_Plan_map_place (ok_Plan_map_place T) hr (b_Plan_map_place T) .nil pass0 (pa_cons (pv 1) pa_nil)) (pg_tup rfl (pgs_cons (pg_name (i := 2) sc_Image_kind.nd rfl (.inl rfl)) (pgs_cons (pg_name (i := 3) sc_Image_kind.nd rfl (.inl rfl)) pgs_nil))))
      (pss_cons (ps_set (i := 4) sc_Image_kind.nd rfl (.inl rfl) (pe_ix ix_list (pe_ix ix_list (pe_fld (pv 0) rfl) (pv 2) (fun _ _ => rfl)) (pv 3) (fun _ _ => rfl)))
      (pss_one (ps_ret (pe_ifExp (pt_cmpR op_in_seq (pv 4) (pe_tup (pa_cons (pe_cv T.mg_Plan T.cr_Plan T.cv_Plan_LOGGED) (pa_cons (pe_cv T.mg_Plan T.cr_Plan T.cv_Plan_PLAIN) pa_nil))) rfl) (pv 4) (pe_cv T.mg_Plan T.cr_Plan T.cv_Plan_FREE))))))), ?_⟩
    obtain ⟨dxp, hpl⟩ := I.pl.ob
    have b1 := I.pl.b1
    have b2 := I.pl.b2
    have n1 := I.pl.n1
    refine ⟨_, rfl, _, rfl, im, _, _, _, _, rfl, I.ob, T.cl_Image, T.na_Image_plan, rfl, A.pl, _, dxp, _, _, rfl, hpl, T.cl_Plan, T.na_Plan_first_data, rfl, _, _, rfl, rfl, _, rfl, ite2 (fun e => ?_) (fun e => ?_)⟩
    · have e' := of_decide_eq_true e
      have := k H (Same.refl _)
      unfold kindOf at this
      rw [if_pos e'] at this
      exact this
    · have e' : ¬ x < 2 + (b + 8 - 1) / 8 + n := fun z => e (decide_eq_true z)
      -- the cell
      have d0 := I.d0
      have hi : (2 + x / 8).toNat < v.M.length := by omega
      obtain ⟨r, hr1, hr2, _⟩ := I.gr.get (List.getElem?_eq_getElem hi)
      have hj : (x % 8).toNat < (v.M[(2 + x / 8).toNat]).length := by
        rw [I.d1 _ (List.getElem_mem hi)]
        omega
      have hc : cellAt v.M (2 + x / 8).toNat (x % 8).toNat = (v.M[(2 + x / 8).toNat])[(x % 8).toNat] := cellAt_of (List.getElem?_eq_getElem hi) (List.getElem?_eq_getElem hj)
      refine ⟨_, rfl, im, _, _, _, _, rfl, I.ob, T.cl_Image, T.na_Image_plan, rfl, A.pl, dxp, _, rfl, hpl, rfl, _, rfl, A.pl, b, n, sl, x, rfl, I.pl, fun t ht => ?_⟩
      have st := same_upd (o := .tup [.int (2 + x / 8), .int (x % 8)]) ht
      refine ⟨t, _, rfl, .inl (.inl upd_same), rfl, _, _, rfl, _, _, rfl, rfl, ?_⟩
      refine ⟨_, rfl, im, _, _, _, _, rfl, st _ _ I.ob, T.cl_Image, T.na_Image_cells, rfl, _, rfl, A.ca, _, _, .ref r, rfl, rfl, .inl (.inl (st _ _ I.gr.out)), at_of (j := (2 + x / 8).toNat) (by omega) (by rw [List.getElem?_map, hr1]; rfl), _, rfl, r, _, _, _, rfl, rfl, .inl (.inl (st _ _ hr2)), at_of (j := (x % 8).toNat) (by omega) (by rw [List.getElem?_map, List.getElem?_eq_getElem hj]; rfl), ?_⟩
      refine ⟨_, rfl, (by show 2 ≤ sizeLine; decide), fun t2 ht2 => ?_⟩
      have st2 := same_upd (o := .tup [.int 1, .int 2]) ht2
      have kk := k _ (st.trans st2)
      unfold kindOf at kk
      rw [if_neg e', hc] at kk
      generalize (v.M[(2 + x / 8).toNat])[(x % 8).toNat] = c at kk ⊢
      refine ⟨t2, _, rfl, .inr (.inl (.inl upd_same)), rfl, rfl, _, rfl, ite2 (fun q => ?_) (fun q => ?_)⟩
      · have hq : c = 1 ∨ c = 2 := by
          simp [inV, eqV] at q
          omega
        rw [if_pos hq] at kk
        exact ⟨_, rfl, kk⟩
      · have hq : ¬ (c = 1 ∨ c = 2) := fun z => q (by
          simp [inV, eqV]
          omega)
        rw [if_neg hq] at kk
        exact kk
end
end K05

namespace K05
open PySem PySem.Spec PyProof.Rows L2 Rg
theorem mem_set_of {α : Type} {l : List α} {i : Nat} {x y : α} (h : y ∈ l.set i x) : y = x ∨ y ∈ l := by
  rcases List.mem_or_eq_of_mem_set h with h | h
  · exact .inr h
  · exact .inl h
theorem nodup_set {α : Type} : ∀ {l : List α} {i : Nat} {x : α}, l.Nodup → x ∉ l → (l.set i x).Nodup
  | [], _, _, h, _ => by simp
  | y :: l, 0, x, h, n => by
    rw [List.set_cons_zero]
    rw [List.nodup_cons] at h ⊢
    exact ⟨fun z => n (List.mem_cons_of_mem _ z), h.2⟩
  | y :: l, i + 1, x, h, n => by
    rw [List.set_cons_succ]
    rw [List.nodup_cons] at h ⊢
    refine ⟨fun z => ?_, nodup_set h.2 fun z => n (List.mem_cons_of_mem _ z)⟩
    rcases mem_set_of z with e | e
    · exact n (by rw [e]; exact List.mem_cons_self)
    · exact h.1 e
/-- a row replaced by a new one -/
theorem Grid.swap {H H1 : Hp} {ca : Addr} {rs : List Addr} {M : List (List Int)} {i : Nat} {q : Addr} {m : List Int} (G : Grid H ca rs M) (s1 : Same H H1) (hq : H q = none) (h1 : H1 q = some (.lst (m.map V.int))) :
    Grid (upd H1 ca (.lst ((rs.map V.ref).set i (V.ref q)))) ca (rs.set i q) (M.set i m) := by
  have qr : q ∉ rs := fun h => by
    obtain ⟨o, z⟩ := G.held h
    rw [hq] at z
    cases z
  have qc : q ≠ ca := fun e => by
    rw [e, G.out] at hq
    cases hq
  refine ⟨by rw [upd_same, ← List.map_set], by rw [List.length_set, List.length_set]; exact G.len, fun j r m' hj hm => ?_, nodup_set G.nd qr, fun z => ?_⟩
  · by_cases e : i = j
    · subst e
      have hi : i < rs.length := by
        have := (List.getElem?_eq_some_iff.mp hj).1
        rw [List.length_set] at this
        exact this
      rw [List.getElem?_set_self hi] at hj
      rw [List.getElem?_set_self (by rw [← G.len]; exact hi)] at hm
      cases hj
      cases hm
      rw [upd_ne qc]
      exact h1
    · rw [List.getElem?_set_ne e] at hj hm
      rw [upd_ne fun z => G.nin (by rw [← z]; exact List.mem_of_getElem? hj)]
      exact s1 _ _ (G.row j r m' hj hm)
  · rcases mem_set_of z with e | e
    · exact qc e.symm
    · exact G.nin e
section
variable {CI CP : Addr} {H : Hp} {im : Addr} {A : IA} {v : IV} {b n s : Int}
theorem ImgAt.fresh_n (I : ImgAt CI CP H im A v b n s) {q : Addr} (hq : H q = none) : q ≠ im ∧ q ≠ A.ca ∧ q ≠ A.ho ∧ q ≠ A.st ∧ q ≠ A.hd ∧ q ∉ A.rs :=
  ⟨(ne_of_none I.ob hq).symm, (ne_of_none I.gr.out hq).symm, (ne_of_none I.ho hq).symm, (ne_of_none I.st hq).symm, (ne_of_none I.hd hq).symm, fun h => by
    obtain ⟨o, z⟩ := I.gr.held h
    rw [hq] at z
    cases z⟩
/-- image.cells[i] = a new row -/
theorem ImgAt.swap {H1 : Hp} {i : Nat} {q : Addr} {m : List Int} (I : ImgAt CI CP H im A v b n s) (s1 : Same H H1) (hq : H q = none) (h1 : H1 q = some (.lst (m.map V.int))) (hm : m.length = 8) :
    ImgAt CI CP (upd H1 A.ca (.lst ((A.rs.map V.ref).set i (V.ref q)))) im { A with rs := A.rs.set i q } { v with M := v.M.set i m } b n s := by
  obtain ⟨f1, f2, f3, f4, f5, f6⟩ := I.fresh_n hq
  obtain ⟨dxp, hpl⟩ := I.pl.ob
  have oc := I.gr.out
  refine { ob := ?_, pl := I.pl.of fun o e => ?_, gr := I.gr.swap s1 hq h1, ho := ?_, st := ?_, hd := ?_, ba := ?_, n1 := fun z => ?_, n2 := fun z => ?_, n3 := I.n3, n4 := I.n4, n5 := I.n5, d0 := ?_, d1 := fun m' hm' => ?_, d2 := I.d2, d3 := I.d3 }
  · rw [upd_ne (ne_of I.ob oc (by intro z; cases z))]; exact s1 _ _ I.ob
  · rw [upd_ne (ne_of hpl oc (by intro z; cases z))]; exact s1 _ _ e
  · rw [upd_ne I.n4.symm]; exact s1 _ _ I.ho
  · rw [upd_ne I.n5.symm]; exact s1 _ _ I.st
  · rw [upd_ne (ne_of I.hd oc (by intro z; cases z))]; exact s1 _ _ I.hd
  · rw [upd_ne (ne_of I.ba oc (by intro z; cases z))]; exact s1 _ _ I.ba
  · rcases mem_set_of z with e | e
    · exact f3 e.symm
    · exact I.n1 e
  · rcases mem_set_of z with e | e
    · exact f4 e.symm
    · exact I.n2 e
  · show ((v.M.set i m).length : Int) = b
    rw [List.length_set]
    exact I.d0
  · rcases mem_set_of hm' with e | e
    · rw [e]; exact hm
    · exact I.d1 _ e
/-- image.holdings[i] = x -/
theorem ImgAt.putHo {i : Nat} {x : Int} (I : ImgAt CI CP H im A v b n s) : ImgAt CI CP (upd H A.ho (.lst ((v.ho.map V.int).set i (V.int x)))) im A { v with ho := v.ho.set i x } b n s := by
  obtain ⟨dxp, hpl⟩ := I.pl.ob
  have oc := I.ho
  refine { I with ob := ?_, pl := I.pl.of fun o e => ?_, gr := I.gr.keep fun y o hy e => ?_, ho := by rw [upd_same, ← List.map_set], st := ?_, hd := ?_, ba := ?_, d2 := ?_ }
  · rw [upd_ne (ne_of I.ob oc (by intro z; cases z))]; exact I.ob
  · rw [upd_ne (ne_of hpl oc (by intro z; cases z))]; exact e
  · rw [upd_ne]
    · exact e
    · rcases hy with rfl | hy
      · exact I.n4
      · exact fun z => I.n1 (z ▸ hy)
  · rw [upd_ne I.n3.symm]; exact I.st
  · rw [upd_ne (ne_of I.hd oc (by intro z; cases z))]; exact I.hd
  · rw [upd_ne (ne_of I.ba oc (by intro z; cases z))]; exact I.ba
  · show ((v.ho.set i x).length : Int) = b
    rw [List.length_set]
    exact I.d2
/-- image.stamps[i] = x -/
theorem ImgAt.putSt {i : Nat} {x : Int} (I : ImgAt CI CP H im A v b n s) : ImgAt CI CP (upd H A.st (.lst ((v.st.map V.int).set i (V.int x)))) im A { v with st := v.st.set i x } b n s := by
  obtain ⟨dxp, hpl⟩ := I.pl.ob
  have oc := I.st
  refine { I with ob := ?_, pl := I.pl.of fun o e => ?_, gr := I.gr.keep fun y o hy e => ?_, st := by rw [upd_same, ← List.map_set], ho := ?_, hd := ?_, ba := ?_, d3 := ?_ }
  · rw [upd_ne (ne_of I.ob oc (by intro z; cases z))]; exact I.ob
  · rw [upd_ne (ne_of hpl oc (by intro z; cases z))]; exact e
  · rw [upd_ne]
    · exact e
    · rcases hy with rfl | hy
      · exact I.n5
      · exact fun z => I.n2 (z ▸ hy)
  · rw [upd_ne I.n3]; exact I.ho
  · rw [upd_ne (ne_of I.hd oc (by intro z; cases z))]; exact I.hd
  · rw [upd_ne (ne_of I.ba oc (by intro z; cases z))]; exact I.ba
  · show ((v.st.set i x).length : Int) = b
    rw [List.length_set]
    exact I.d3
/-- one row changed: image.cells[i][j] = x and the like -/
theorem ImgAt.putRow {i : Nat} {r : Addr} {m : List Int} (I : ImgAt CI CP H im A v b n s) (hr : A.rs[i]? = some r) (hm : m.length = 8) : ImgAt CI CP (upd H r (.lst (m.map V.int))) im A { v with M := v.M.set i m } b n s := by
  obtain ⟨dxp, hpl⟩ := I.pl.ob
  have rin : r ∈ A.rs := List.mem_of_getElem? hr
  have hi : i < v.M.length := by rw [← I.gr.len]; exact (List.getElem?_eq_some_iff.mp hr).1
  have oc := I.gr.row i r _ hr (List.getElem?_eq_getElem hi)
  refine { I with ob := ?_, pl := I.pl.of fun o e => ?_, gr := I.gr.put hr, st := ?_, ho := ?_, hd := ?_, ba := ?_, d0 := ?_, d1 := fun m' hm' => ?_ }
  · rw [upd_ne (ne_of I.ob oc (by intro z; cases z))]; exact I.ob
  · rw [upd_ne (ne_of hpl oc (by intro z; cases z))]; exact e
  · rw [upd_ne (fun z : A.ho = r => I.n1 (by rw [z]; exact rin))]; exact I.ho
  · rw [upd_ne (fun z : A.st = r => I.n2 (by rw [z]; exact rin))]; exact I.st
  · rw [upd_ne (ne_of I.hd oc (by intro z; cases z))]; exact I.hd
  · rw [upd_ne (ne_of I.ba oc (by intro z; cases z))]; exact I.ba
  · show ((v.M.set i m).length : Int) = b
    rw [List.length_set]
    exact I.d0
  · rcases mem_set_of hm' with e | e
    · rw [e]; exact hm
    · exact I.d1 _ e
end
end K05

namespace K05
open PySem PySem.Spec PyProof.Rows L2 Rg
/-- what of_cells makes of the rows, the blocks before i looked at -/
def ofM (b n : Int) (R : List (List Int)) (i : Nat) : List (List Int) := (List.range b.toNat).map fun x => if x < i ∧ kindOf b n R x = 0 then List.replicate 8 0 else R[x]?.getD []
def ofH (b n : Int) (R : List (List Int)) (i : Nat) : List Int := (List.range b.toNat).map fun x => if x < i ∧ ¬ kindOf b n R x = 0 then 1 else 0
def ofV (b n : Int) (R : List (List Int)) (i : Nat) : IV := ⟨ofM b n R i, ofH b n R i, ofH b n R i, [], 1, 0, []⟩
theorem kindOf_fix {b n : Int} {R : List (List Int)} {x : Int} (h : x < 2 + (b + 8 - 1) / 8 + n) : kindOf b n R x = 1 := by
  unfold kindOf
  rw [if_pos h]
theorem cellAt_congr {M R : List (List Int)} {i j : Nat} (h : M[i]? = R[i]?) : cellAt M i j = cellAt R i j := by
  unfold cellAt
  rw [h]
theorem kindOf_congr {b n : Int} {M R : List (List Int)} {x : Int} (hn : 0 ≤ n) (h0 : 0 ≤ x) (hb : x < b) (h : ∀ y : Nat, (y : Int) < 2 + (b + 8 - 1) / 8 + n → M[y]? = R[y]?) : kindOf b n M x = kindOf b n R x := by
  unfold kindOf
  rw [cellAt_congr (h (2 + x / 8).toNat (by omega))]
theorem ofM_get {b n : Int} {R : List (List Int)} {i x : Nat} (hx : x < b.toNat) : (ofM b n R i)[x]? = some (if x < i ∧ kindOf b n R x = 0 then List.replicate 8 0 else R[x]?.getD []) := by
  unfold ofM
  rw [List.getElem?_map, List.getElem?_range hx]
  rfl
theorem ofM_fix {b n : Int} {R : List (List Int)} {i y : Nat} (hR : (R.length : Int) = b) (hb : 2 + (b + 8 - 1) / 8 + n ≤ b) (hy : (y : Int) < 2 + (b + 8 - 1) / 8 + n) : (ofM b n R i)[y]? = R[y]? := by
  rw [ofM_get (by omega), kindOf_fix hy, if_neg (fun z => by simp at z), List.getElem?_eq_getElem (show y < R.length by omega)]
  rfl
theorem ofM_zero {b n : Int} {R : List (List Int)} (hR : (R.length : Int) = b) : ofM b n R 0 = R := by
  apply List.ext_getElem?
  intro x
  by_cases hx : x < b.toNat
  · rw [ofM_get hx, if_neg (fun z => by simp at z), List.getElem?_eq_getElem (show x < R.length by omega)]
    rfl
  · rw [List.getElem?_eq_none (by unfold ofM; simp; omega), List.getElem?_eq_none (by omega)]
theorem ofM_succ {b n : Int} {R : List (List Int)} {i : Nat} (hi : i < b.toNat) : ofM b n R (i + 1) = if kindOf b n R i = 0 then (ofM b n R i).set i (List.replicate 8 0) else ofM b n R i := by
  apply List.ext_getElem?
  intro x
  by_cases hx : x < b.toNat
  · rw [ofM_get hx]
    by_cases hk : kindOf b n R i = 0
    · rw [if_pos hk]
      by_cases e : i = x
      · subst e
        rw [List.getElem?_set_self (by unfold ofM; simp; omega), if_pos ⟨Nat.lt_succ_self _, hk⟩]
      · rw [List.getElem?_set_ne e, ofM_get hx]
        by_cases h : x < i
        · simp only [show (x < i + 1) ↔ (x < i) by omega]
        · simp only [show (x < i + 1) ↔ (x < i) by omega]
    · rw [if_neg hk, ofM_get hx]
      by_cases e : i = x
      · subst e
        rw [if_neg (fun z => hk z.2), if_neg (fun z => hk z.2)]
      · simp only [show (x < i + 1) ↔ (x < i) by omega]
  · have l1 : (ofM b n R (i + 1)).length = b.toNat := by unfold ofM; simp
    have l2 : (ofM b n R i).length = b.toNat := by unfold ofM; simp
    rw [List.getElem?_eq_none (by omega)]
    split
    · rw [List.getElem?_eq_none (by rw [List.length_set]; omega)]
    · rw [List.getElem?_eq_none (by omega)]
theorem ofH_get {b n : Int} {R : List (List Int)} {i x : Nat} (hx : x < b.toNat) : (ofH b n R i)[x]? = some (if x < i ∧ ¬ kindOf b n R x = 0 then 1 else 0) := by
  unfold ofH
  rw [List.getElem?_map, List.getElem?_range hx]
  rfl
theorem ofH_zero {b n : Int} {R : List (List Int)} : ofH b n R 0 = List.replicate b.toNat 0 := by
  apply List.ext_getElem?
  intro x
  by_cases hx : x < b.toNat
  · rw [ofH_get hx, if_neg (fun z => by simp at z), List.getElem?_replicate, if_pos hx]
  · rw [List.getElem?_eq_none (by unfold ofH; simp; omega), List.getElem?_eq_none (by simp; omega)]
theorem ofH_succ {b n : Int} {R : List (List Int)} {i : Nat} (hi : i < b.toNat) : ofH b n R (i + 1) = if kindOf b n R i = 0 then ofH b n R i else (ofH b n R i).set i 1 := by
  apply List.ext_getElem?
  intro x
  by_cases hx : x < b.toNat
  · rw [ofH_get hx]
    by_cases hk : kindOf b n R i = 0
    · rw [if_pos hk, ofH_get hx]
      by_cases e : i = x
      · subst e
        rw [if_neg (fun z => z.2 hk), if_neg (fun z => z.2 hk)]
      · simp only [show (x < i + 1) ↔ (x < i) by omega]
    · rw [if_neg hk]
      by_cases e : i = x
      · subst e
        rw [List.getElem?_set_self (by unfold ofH; simp; omega), if_pos ⟨Nat.lt_succ_self _, hk⟩]
      · rw [List.getElem?_set_ne e, ofH_get hx]
        simp only [show (x < i + 1) ↔ (x < i) by omega]
  · have l1 : (ofH b n R (i + 1)).length = b.toNat := by unfold ofH; simp
    have l2 : (ofH b n R i).length = b.toNat := by unfold ofH; simp
    rw [List.getElem?_eq_none (by omega)]
    split
    · rw [List.getElem?_eq_none (by omega)]
    · rw [List.getElem?_eq_none (by rw [List.length_set]; omega)]
section
variable {P : Program} {w : World} {K : PySem.W.Frag} {mg : Str → Option Value} {base : Heap}
def sp_of_cells (CI CP : Addr) : Sp := fun vs H Q _ => ∃ (pl ra : Addr) (rr : List Addr) (R : List (List Int)) (b n s : Int), vs = [.ref pl, .ref ra] ∧ PlanAt CP H pl b n s ∧ Grid H ra rr R ∧ (R.length : Int) = b ∧ (∀ m ∈ R, m.length = 8) ∧
  ∀ (H' : Hp) (im : Addr) (A : IA), Same H H' → H im = none → ImgAt CI CP H' im A (ofV b n R b.toNat) b n s → A.New H → A.pl = pl → Q (.ref im) H'
theorem ok_of_cells (T : Tx K mg) : FnOk P w K mg base CX0 3 T.f_Image_of_cells T.fd_Image_of_cells ["plan", "rows"] (sp_of_cells T.C_Image T.C_Plan) := by
  refine T.F_Image_of_cells.ok sc_Image_of_cells (fun vs H Q E h => ?_) (fun cdv A0 outer s H vs Q E hr h => ?_)
  · obtain ⟨_, _, _, _, _, _, _, rfl, _⟩ := h; rfl
  · obtain ⟨pl, ra, rr, R, b, n, sl, rfl, hP, GR, hR, hR8, k⟩ := h
    have hr2 : Room 2 _ := hr.mono (by decide)
    refine ⟨_, (pss_cons (ps_set (i := 2) sc_Image_of_cells.nd rfl (.inl rfl) (pe_make T.mk_Image (ok_Image_init T) hr2 rfl T.mg_Image (b_Image___init__ T) .nil pass0 (pa_cons (pv 0) pa_nil)))
      (pss_cons (ps_fld (pv 2) (pe_lc rfl (own := [("row", 3)]) (g := gName 3) (tt := tYes) sc_Image_of_cells.nd (pi_list (pv 1)) (blkOk_by (N := ["plan", "rows", "image", "row", "x"]) (sc := defScope s_Image_of_cells) (by decide +kernel)) (fun _ _ _ _ _ => pg_name (i := 3) sc_Image_of_cells.nd rfl (Or.inl rfl)) (fun _ _ _ _ _ => pts_nil) (fun _ _ _ _ _ => (pe_listof (K := K) (pv 3) T.b_list))) rfl)
      (pss_cons (ps_fld (pv 2) pe_int rfl)
      (pss_cons (ps_for PassesOwn.never rfl (pi_range1 rfl T.b_range (pa_cons (pe_fld (pv 0) rfl) pa_nil)) (pg_name (i := 4) sc_Image_of_cells.nd rfl (.inl rfl))
        (pss_one (ps_if (pt_cmpR op_eq (pe_meth (pv 2) T.cl_Image T.m_Image_kind (ok_Image_kind T) hr2 (b_Image_kind T) .nil pass0 (pa_cons (pv 4) pa_nil)) (pe_cv T.mg_Plan T.cr_Plan T.cv_Plan_FREE) (nomark _))
          (pss_one (ps_asg (pe_op op_rep (pe_lst (pa_cons pe_int pa_nil)) (pe_cv T.mg_Plan T.cr_Plan T.cv_Plan_WIDTH)) (pg_sub (pe_fld (pv 2) rfl) (pv 4) set_list)))
          (pss_cons (ps_asg pe_int (pg_sub (pe_fld (pv 2) rfl) (pv 4) set_list))
          (pss_one (ps_asg pe_int (pg_sub (pe_fld (pv 2) rfl) (pv 4) set_list)))))))
      (pss_one (ps_ret (pv 2))))))), ?_⟩
    obtain ⟨dxp, hpl⟩ := hP.ob
    have hb1 := hP.b1
    have hb2 := hP.b2
    have hd := hP.d
    have hn1 := hP.n1
    -- image = Image(plan)
    refine ⟨_, rfl, fun x dx nx ndx nex => ?_⟩
    have s1 : Same H (upd (upd H dx (.own x)) x (.ins T.C_Image dx [])) := (same_upd ndx).trans (same_upd (by rw [upd_ne nex.symm]; exact nx))
    refine ⟨x, dx, pl, b, n, sl, rfl, upd_same, hP.same s1, fun H1 A1 k1 I1 N1 eA => ⟨rfl, ?_⟩⟩
    have k1' : ∀ y o, H y = some o → H1 y = some o := fun y o e => k1 y o (s1 _ _ e) (ne_of_none e nx)
    have xs1 : ∀ y, (upd (upd H dx (.own x)) x (.ins T.C_Image dx [])) y = none → H y = none := fun y e => un (un e)
    -- image.cells = [list(row) for row in rows]
    refine ⟨_, rfl, ra, rfl, ⟨_, .of (k1' _ _ GR.out)⟩, fun D hD => ?_⟩
    refine lc_list (K := K) (a := ra) (xs := rr.map V.ref) (fun i H' => ∃ qs, NewGrid H1 H' D qs (R.take i))
      ⟨[], NewGrid.start (Same.refl _) hD hD⟩ (fun i H' _ ⟨qs, G⟩ => .of (G.same _ _ (k1' _ _ GR.out))) ?_ ?_
    · rintro i y H' hi ⟨qs, G⟩
      have hil : i < rr.length := by
        have := (List.getElem?_eq_some_iff.mp hi).1
        rw [List.length_map] at this
        exact this
      rw [List.getElem?_map, List.getElem?_eq_getElem hil] at hi
      have hi : V.ref rr[i] = y := Option.some.inj hi
      subst hi
      have hiR : i < R.length := by rw [← GR.len]; exact hil
      have hrow := G.same _ _ (k1' _ _ (GR.row i rr[i] R[i] (List.getElem?_eq_getElem hil) (List.getElem?_eq_getElem hiR)))
      refine ⟨rfl, ?_⟩
      refine yes_ ?_
      refine ⟨_, rfl, rr[i], _, rfl, .inl (.of hrow), fun q hq => ?_⟩
      refine ⟨_, by rw [upd_ne (ne_of_none G.grid.out hq)]; exact G.grid.out, ?_, qs ++ [q], ?_⟩
      · rw [List.length_map, G.grid.len, List.length_take]
        exact small1000 (by omega)
      · rw [List.take_succ, List.getElem?_eq_getElem hiR]
        exact G.snoc (same_upd hq) hq upd_same
    rintro H2 ⟨qs, G⟩
    rw [List.length_map, GR.len, List.take_length] at G
    have I2 : ImgAt T.C_Image T.C_Plan H2 x A1 (zeroV b) b n sl := I1.keep G.same
    refine ⟨_, rfl, x, _, _, _, rfl, I2.ob, T.cl_Image, T.na_Image_cells, (by show 8 < 1000; decide), ?_⟩
    generalize hH3 : upd H2 x _ = H3
    obtain ⟨e3, k3, n3⟩ := own_f hH3
    refine ⟨_, rfl, x, _, _, _, rfl, e3, T.cl_Image, T.na_Image_serial, (by show 8 < 1000; decide), ?_⟩
    generalize hH4 : upd H3 x _ = H4
    obtain ⟨e4, k4, n4⟩ := own_f hH4
    have k24 : Kp [x] H2 H4 := k3.trans k4
    have kx : ∀ y o, H2 y = some o → y ≠ x → H4 y = some o := fun y o e ne => k24.at1 e ne
    have npl : pl ≠ x := ne_of_none hpl nx
    have pl2 : H2 A1.pl = some (.ins T.C_Plan dxp (planF b n sl)) := by rw [eA]; exact G.same _ _ (k1' _ _ hpl)
    have xD : x ≠ D := ne_of_none I1.ob G.freshD
    have xq : x ∉ qs := (G.nin0 I1.ob).2
    have I4 : ImgAt T.C_Image T.C_Plan H4 x { A1 with ca := D, rs := qs } (ofV b n R 0) b n sl := by
      refine { ob := e4, pl := I2.pl.of fun o e => kx _ _ e (by show A1.pl ≠ x; rw [eA]; exact npl), gr := ?_, ho := ?_, st := ?_, hd := ?_, ba := ?_, n1 := (G.nin0 I1.ho).2, n2 := (G.nin0 I1.st).2, n3 := I1.n3, n4 := (G.nin0 I1.ho).1.symm, n5 := (G.nin0 I1.st).1.symm, d0 := ?_, d1 := ?_, d2 := ?_, d3 := ?_ }
      · show Grid H4 D qs (ofM b n R 0)
        rw [ofM_zero hR]
        refine G.grid.keep fun y o hy e => kx _ _ e ?_
        rcases hy with rfl | hy
        · exact xD.symm
        · exact fun z => xq (by rw [← z]; exact hy)
      · show H4 A1.ho = some (.lst ((ofH b n R 0).map V.int))
        rw [ofH_zero]
        exact kx _ _ I2.ho (ne_of I2.ho I2.ob (by intro z; cases z))
      · show H4 A1.st = some (.lst ((ofH b n R 0).map V.int))
        rw [ofH_zero]
        exact kx _ _ I2.st (ne_of I2.st I2.ob (by intro z; cases z))
      · exact kx _ _ I2.hd (ne_of I2.hd I2.ob (by intro z; cases z))
      · exact kx _ _ I2.ba (ne_of I2.ba I2.ob (by intro z; cases z))
      · show ((ofM b n R 0).length : Int) = b
        rw [ofM_zero hR]
        exact hR
      · show ∀ m ∈ ofM b n R 0, m.length = 8
        rw [ofM_zero hR]
        exact hR8
      · show ((ofH b n R 0).length : Int) = b
        rw [ofH_zero, List.length_replicate]
        omega
      · show ((ofH b n R 0).length : Int) = b
        rw [ofH_zero, List.length_replicate]
        omega
    have N0 : ∀ y, H1 y = none → H y = none := fun y e => by
      cases q : H y with
      | none => rfl
      | some o => rw [k1' y o q] at e; cases e
    have N4 : ({ A1 with ca := D, rs := qs } : IA).New H := ⟨N0 _ G.freshD, fun q hq => N0 _ (G.fresh q hq), xs1 _ N1.ho, xs1 _ N1.st, xs1 _ N1.hd⟩
    have S4 : Same H H4 := fun y o e => kx _ _ (G.same _ _ (k1' _ _ e)) (ne_of_none e nx)
    -- for x in range(plan.blocks)
    have hpl4 : H4 pl = some (.ins T.C_Plan dxp (planF b n sl)) := S4 _ _ hpl
    refine ⟨_, rfl, pl, _, dxp, _, _, rfl, hpl4, T.cl_Plan, T.na_Plan_blocks, rfl, b, rfl, by omega, by omega, for_range (lo := 0) (n := b.toNat) (fun i σ H' => ∃ (A : IA) (u3 u4 : Option V), σ = [some (.ref pl), some (.ref ra), some (.ref x), u3, u4] ∧ ImgAt T.C_Image T.C_Plan H' x A (ofV b n R i) b n sl ∧ Same H H' ∧ A.New H ∧ A.pl = pl)
      ⟨_, _, _, rfl, I4, S4, N4, eA⟩ ?_ ?_⟩
    · rintro i σ H' hi ⟨A, u3, u4, rfl, I, S, N, eA⟩
      have hib : (i : Int) < b := by omega
      refine ⟨_, rfl, x, _, _, rfl, I.ob, rfl, _, rfl, x, A, ofV b n R i, b, n, sl, _, rfl, I, by omega, by omega, fun H5 s5 => ?_⟩
      have ek : kindOf b n (ofV b n R i).M (0 + (i : Int)) = kindOf b n R i := by
        rw [show (0 : Int) + (i : Int) = i by omega]
        exact kindOf_congr (by omega) (by omega) hib fun y hy => ofM_fix hR (by omega) hy
      rw [ek]
      have I5 := I.keep s5
      have S5 := S.trans s5
      refine ⟨rfl, _, rfl, ite2 (fun e => ?_) (fun e => ?_)⟩
      · have hk : kindOf b n R i = 0 := V.int.inj (of_decide_eq_true e)
        refine ⟨by show 1 ≤ sizeLine; decide, fun l hl => ?_⟩
        refine ⟨l, 8, _, rfl, rfl, upd_same, by decide, by decide, by show 1 * 8 ≤ sizeLine; decide, fun q hq => ?_⟩
        have sm : Same H5 (upd (upd H5 l (.lst [V.int 0])) q (.lst (List.replicate (8 : Int).toNat [V.int 0]).flatten)) := (same_upd hl).trans (same_upd hq)
        have hq5 : H5 q = none := un hq
        have hq1 : (upd (upd H5 l (.lst [V.int 0])) q (.lst (List.replicate (8 : Int).toNat [V.int 0]).flatten)) q = some (.lst ((List.replicate 8 (0 : Int)).map V.int)) := by rw [upd_same]; rfl
        generalize hH6 : upd (upd H5 l (.lst [V.int 0])) q (.lst (List.replicate (8 : Int).toNat [V.int 0]).flatten) = H6 at sm hq1 ⊢
        refine ⟨_, rfl, x, _, _, _, _, rfl, sm _ _ I5.ob, T.cl_Image, T.na_Image_cells, rfl, _, rfl, A.ca, _, _, i, rfl, rfl, sm _ _ I5.gr.out, ?_, ?_⟩
        · unfold ixN
          rw [if_pos (by omega), List.length_map, if_pos (by rw [I5.gr.len]; show (0 : Int) + i < (ofM b n R i).length; unfold ofM; simp; omega)]
          congr 1
          omega
        · refine ⟨{ A with rs := A.rs.set i q }, u3, _, rfl, ?_, ?_, ⟨N.ca, fun z hz => ?_, N.ho, N.st, N.hd⟩, eA⟩
          rotate_left
          · exact fun y o e => by
              rw [upd_ne (ne_of_none e N.ca)]
              exact sm _ _ (S5 _ _ e)
          · rcases mem_set_of hz with e | e
            · rw [e]; exact S5.free hq5
            · exact N.rs z e
          · have := I5.swap (i := i) sm hq5 hq1 (by rfl)
            unfold ofV at this ⊢
            dsimp only at this ⊢
            rw [ofM_succ (by omega), if_pos hk, ofH_succ (by omega), if_pos hk]
            exact this
      · have hk : ¬ kindOf b n R i = 0 := fun z => e (by rw [z]; exact decide_eq_true rfl)
        have ix : ∀ (xs : List V), xs.length = b.toNat → ixN xs.length (0 + (i : Int)) = some i := fun xs hx => by
          unfold ixN
          rw [if_pos (by omega), if_pos (by omega)]
          congr 1
          omega
        have lh : ((ofH b n R i).map V.int).length = b.toNat := by unfold ofH; simp
        refine ⟨_, rfl, x, _, _, _, _, rfl, I5.ob, T.cl_Image, T.na_Image_holdings, rfl, _, rfl, A.ho, _, _, i, rfl, rfl, I5.ho, ix _ lh, ?_⟩
        have I6 := I5.putHo (i := i) (x := 1)
        refine ⟨_, rfl, x, _, _, _, _, rfl, I6.ob, T.cl_Image, T.na_Image_stamps, rfl, _, rfl, A.st, _, _, i, rfl, rfl, I6.st, ix _ lh, ?_⟩
        have I7 := I6.putSt (i := i) (x := 1)
        refine ⟨_, u3, _, rfl, ?_, ?_, N, eA⟩
        · unfold ofV at I7 ⊢
          dsimp only at I7 ⊢
          rw [ofM_succ (by omega), if_neg hk, ofH_succ (by omega), if_neg hk]
          exact I7
        · exact fun y o e => by
            rw [upd_ne (ne_of_none e N.st), upd_ne (ne_of_none e N.ho)]
            exact S5 _ _ e
    · rintro σ H' ⟨A, u3, u4, rfl, I, S, N, eA⟩
      exact ⟨_, rfl, k H' x A S nx I N eA⟩
end
end K05

namespace K05
open PySem PySem.Spec PyProof.Rows L2 Rg
def setC (M : List (List Int)) (i j : Nat) (x : Int) : List (List Int) := M.set i ((M[i]?.getD []).set j x)
theorem setC_len {M : List (List Int)} {i j : Nat} {x : Int} : (setC M i j x).length = M.length := by
  unfold setC
  rw [List.length_set]
theorem setC_at {M : List (List Int)} {i j : Nat} {x : Int} {m : List Int} (h : M[i]? = some m) : (setC M i j x)[i]? = some (m.set j x) := by
  have hi := (List.getElem?_eq_some_iff.mp h).1
  unfold setC
  rw [List.getElem?_set_self hi, h]
  rfl
theorem ImgAt.setC {CI CP : Addr} {H : Hp} {im : Addr} {A : IA} {v : IV} {b n s : Int} (I : ImgAt CI CP H im A v b n s) {i j : Nat} {x : Int} {r : Addr} {m : List Int} (hr : A.rs[i]? = some r) (hm : v.M[i]? = some m) :
    ImgAt CI CP (upd H r (.lst ((m.map V.int).set j (V.int x)))) im A { v with M := setC v.M i j x } b n s := by
  have h8 : m.length = 8 := I.d1 m (List.mem_of_getElem? hm)
  have := I.putRow (m := m.set j x) hr (by rw [List.length_set]; exact h8)
  rw [List.map_set] at this
  unfold K05.setC
  rw [hm]
  exact this
/-- the index i of a list of a known length -/
theorem ixN_nat {n : Nat} {z : Int} {i : Nat} (e : z = i) (h : i < n) : ixN n z = some i := by
  subst e
  unfold ixN
  rw [if_pos (by omega), if_pos (by omega)]
  rfl
def zerosM (b : Int) : List (List Int) := List.replicate b.toNat (List.replicate 8 0)
def fmM (b : Int) : Nat → List (List Int)
  | 0 => zerosM b
  | k + 1 => setC (fmM b k) (2 + k / 8) (k % 8) 1
def freshM (b n : Int) : List (List Int) :=
  let r := (2 + (b + 8 - 1) / 8).toNat
  setC (setC (setC (fmM b (r + n.toNat)) r 0 2) r 1 1) r 7 1
section
variable {P : Program} {w : World} {K : PySem.W.Frag} {mg : Str → Option Value} {base : Heap}
def sp_fresh (CI CP : Addr) : Sp := fun vs H Q _ => ∃ (pl : Addr) (b n s : Int), vs = [.ref pl] ∧ PlanAt CP H pl b n s ∧
  ∀ (H' : Hp) (im : Addr) (A : IA), Same H H' → H im = none → ImgAt CI CP H' im A (ofV b n (freshM b n) b.toNat) b n s → A.New H → A.pl = pl → Q (.ref im) H'
theorem ok_fresh (T : Tx K mg) : FnOk P w K mg base CX0 4 T.f_Image_fresh T.fd_Image_fresh ["plan"] (sp_fresh T.C_Image T.C_Plan) := by
  refine T.F_Image_fresh.ok sc_Image_fresh (fun vs H Q E h => ?_) (fun cdv A0 outer s H vs Q E hr h => ?_)
  · obtain ⟨_, _, _, _, rfl, _⟩ := h; rfl
  · obtain ⟨pl, b, n, sl, rfl, hP, k⟩ := h
    have hr1 : Room 1 _ := hr.mono (by decide)
    have hr2 : Room 2 _ := hr.mono (by decide)
    refine ⟨_, (pss_cons (ps_set (i := 1) sc_Image_fresh.nd rfl (.inl rfl) (pe_make T.mk_Image (ok_Image_init T) hr2 rfl T.mg_Image (b_Image___init__ T) .nil pass0 (pa_cons (pv 0) pa_nil)))
      (pss_cons (ps_for PassesOwn.never rfl (pi_range1 rfl T.b_range (pa_cons (pe_fld (pv 0) rfl) pa_nil)) (pg_name (i := 2) sc_Image_fresh.nd rfl (.inl rfl))
        (pss_cons (ps_asg (pe_meth (pv 0) T.cl_Plan T.m_Plan_map_place (ok_Plan_map_place T) hr1 (b_Plan_map_place T) .nil pass0 (pa_cons (pv 2) pa_nil)) (pg_tup rfl (pgs_cons (pg_name (i := 3) sc_Image_fresh.nd rfl (.inl rfl)) (pgs_cons (pg_name (i := 4) sc_Image_fresh.nd rfl (.inl rfl)) pgs_nil))))
        (pss_one (ps_asg (pe_cv T.mg_Plan T.cr_Plan T.cv_Plan_LOGGED) (pg_sub (pe_ix ix_list (pe_fld (pv 1) rfl) (pv 3) (fun _ _ => rfl)) (pv 4) set_list)))))
      (pss_cons (ps_set (i := 5) sc_Image_fresh.nd rfl (.inl rfl) (pe_ix ix_list (pe_fld (pv 1) rfl) (pe_meth (pv 0) T.cl_Plan T.m_Plan_node_block (ok_Plan_node_block T) hr1 (b_Plan_node_block T) .nil pass0 (pa_cons (pe_gc T.c_ROOT) pa_nil)) (fun _ _ => rfl)))
      (pss_cons (ps_asg (pe_gc T.c_FOLDER) (pg_sub (pv 5) (pe_gc T.c_KIND) set_list))
      (pss_cons (ps_asg pe_int (pg_sub (pv 5) (pe_gc T.c_LINKS) set_list))
      (pss_cons (ps_asg pe_int (pg_sub (pv 5) (pe_gc T.c_MAKING) set_list))
      (pss_one (ps_ret (pe_smeth T.mg_Image T.cr_Image T.sm_Image_of_cells (ok_of_cells T) hr (b_Image_of_cells T) .nil pass0 (pa_cons (pv 0) (pa_cons (pe_fld (pv 1) rfl) pa_nil))))))))))), ?_⟩
    obtain ⟨dxp, hpl⟩ := hP.ob
    have hb1 := hP.b1
    have hb2 := hP.b2
    have hd := hP.d
    have hn1 := hP.n1
    -- image = Image(plan)
    refine ⟨_, rfl, fun x dx nx ndx nex => ?_⟩
    have s1 : Same H (upd (upd H dx (.own x)) x (.ins T.C_Image dx [])) := (same_upd ndx).trans (same_upd (by rw [upd_ne nex.symm]; exact nx))
    refine ⟨x, dx, pl, b, n, sl, rfl, upd_same, hP.same s1, fun H1 A k1 I1 N1 eA => ⟨rfl, ?_⟩⟩
    have S1 : Same H H1 := fun y o e => k1 y o (s1 _ _ e) (ne_of_none e nx)
    have Nrs : ∀ q ∈ A.rs, H q = none := fun q hq => un (un (N1.rs q hq))
    have pr : pl ∉ A.rs := fun z => by rw [Nrs _ z] at hpl; cases hpl
    -- the map
    refine ⟨_, rfl, pl, _, dxp, _, _, rfl, S1 _ _ hpl, T.cl_Plan, T.na_Plan_first_data, rfl, _, rfl, by omega, by omega, for_range (lo := 0) (n := (2 + (b + 8 - 1) / 8 + n).toNat) (fun i σ H' => ∃ (u2 u3 u4 : Option V), σ = [some (.ref pl), some (.ref x), u2, u3, u4, none] ∧ ImgAt T.C_Image T.C_Plan H' x A { zeroV b with M := fmM b i } b n sl ∧ Same H H')
      ⟨_, _, _, rfl, I1, S1⟩ ?_ ?_⟩
    · rintro i σ H' hi ⟨u2, u3, u4, rfl, I, S⟩
      refine ⟨_, rfl, pl, dxp, _, rfl, S _ _ hpl, rfl, _, rfl, pl, b, n, sl, _, rfl, hP.same S, fun t ht => ?_⟩
      have st := same_upd (o := .tup [.int (2 + (0 + (i : Int)) / 8), .int ((0 + (i : Int)) % 8)]) ht
      refine ⟨t, _, rfl, .inl (.inl upd_same), rfl, _, _, rfl, _, _, rfl, rfl, ?_⟩
      have It := I.keep st
      have d0 := It.d0
      have hl : 2 + i / 8 < (fmM b i).length := by
        have : ((fmM b i).length : Int) = b := d0
        omega
      obtain ⟨r, hr1, hr2, _⟩ := It.gr.get (List.getElem?_eq_getElem hl)
      have h8 : ((fmM b i)[2 + i / 8]).length = 8 := It.d1 _ (List.getElem_mem hl)
      refine ⟨_, rfl, x, _, _, _, _, rfl, It.ob, T.cl_Image, T.na_Image_cells, rfl, _, rfl, A.ca, _, _, .ref r, rfl, rfl, .of It.gr.out, at_of (j := 2 + i / 8) (by omega) (by rw [List.getElem?_map, hr1]; rfl), _, rfl, r, _, _, i % 8, rfl, rfl, hr2, ixN_nat (by omega) (by rw [List.length_map, h8]; omega), ?_⟩
      refine ⟨_, _, _, rfl, It.setC (j := i % 8) (x := 1) hr1 (List.getElem?_eq_getElem hl), fun y o e => ?_⟩
      rw [upd_ne (ne_of_none e (Nrs r (List.mem_of_getElem? hr1)))]
      exact st _ _ (S _ _ e)
    · rintro σ H' ⟨u2, u3, u4, rfl, I, S⟩
      have d0 := I.d0
      -- root = ..
      have hl : (2 + (b + 8 - 1) / 8).toNat < (fmM b (2 + (b + 8 - 1) / 8 + n).toNat).length := by
        have : ((fmM b (2 + (b + 8 - 1) / 8 + n).toNat).length : Int) = b := d0
        omega
      obtain ⟨r, hr1, hr2, _⟩ := I.gr.get (List.getElem?_eq_getElem hl)
      generalize hm : (fmM b (2 + (b + 8 - 1) / 8 + n).toNat)[(2 + (b + 8 - 1) / 8).toNat] = m at hr2
      have hm' : (fmM b (2 + (b + 8 - 1) / 8 + n).toNat)[(2 + (b + 8 - 1) / 8).toNat]? = some m := by rw [List.getElem?_eq_getElem hl, hm]
      have h8 : m.length = 8 := I.d1 _ (List.mem_of_getElem? hm')
      refine ⟨_, rfl, x, _, _, _, _, rfl, I.ob, T.cl_Image, T.na_Image_cells, rfl, _, rfl, pl, dxp, _, rfl, S _ _ hpl, rfl, pl, b, n, sl, 1, rfl, hP.same S, A.ca, _, _, .ref r, rfl, rfl, .of I.gr.out, at_of (j := (2 + (b + 8 - 1) / 8).toNat) (by omega) (by rw [List.getElem?_map, hr1]; rfl), ?_⟩
      refine ⟨_, rfl, r, _, _, 0, rfl, rfl, hr2, ixN_nat rfl (by rw [List.length_map, h8]; omega), ?_⟩
      have I1 := I.setC (j := 0) (x := 2) hr1 hm'
      refine ⟨_, rfl, r, _, _, 1, rfl, rfl, upd_same, ixN_nat rfl (by simp [h8]), ?_⟩
      have e1 : (m.map V.int).set 0 (V.int 2) = (m.set 0 2).map V.int := List.map_set.symm
      rw [e1] at I1 ⊢
      have I2 := I1.setC (j := 1) (x := 1) hr1 (setC_at hm')
      refine ⟨_, rfl, r, _, _, 7, rfl, rfl, upd_same, ixN_nat rfl (by simp [h8]), ?_⟩
      have e2 : ((m.set 0 2).map V.int).set 1 (V.int 1) = ((m.set 0 2).set 1 1).map V.int := List.map_set.symm
      rw [e2] at I2 ⊢
      have I3 := I2.setC (j := 7) (x := 1) hr1 (setC_at (setC_at hm'))
      rw [upd_upd, upd_upd]
      rw [upd_upd, upd_upd] at I3
      generalize hHf : upd H' r (.lst ((((m.set 0 2).set 1 1).map V.int).set 7 (V.int 1))) = Hf at I3 ⊢
      have Sf : Same H Hf := fun y o e => by
        rw [← hHf, upd_ne (ne_of_none e (Nrs r (List.mem_of_getElem? hr1)))]
        exact S _ _ e
      have eM : freshM b n = setC (setC (setC (fmM b (2 + (b + 8 - 1) / 8 + n).toNat) (2 + (b + 8 - 1) / 8).toNat 0 2) (2 + (b + 8 - 1) / 8).toNat 1 1) (2 + (b + 8 - 1) / 8).toNat 7 1 := by
        unfold freshM
        rw [show (2 + (b + 8 - 1) / 8 + n).toNat = (2 + (b + 8 - 1) / 8).toNat + n.toNat by omega]
      refine ⟨_, rfl, _, rfl, x, _, _, _, _, rfl, I3.ob, T.cl_Image, T.na_Image_cells, rfl, pl, A.ca, A.rs, _, b, n, sl, rfl, hP.same Sf, I3.gr, I3.d0, I3.d1, fun H2 im A2 S2 nim I2 N2 eA2 => ?_⟩
      have fr : ∀ y, Hf y = none → H y = none := fun y e => Sf.free e
      refine k H2 im A2 (Sf.trans S2) (fr _ nim) ?_ ⟨fr _ N2.ca, fun q hq => fr _ (N2.rs q hq), fr _ N2.ho, fr _ N2.st, fr _ N2.hd⟩ eA2
      rw [eM]
      exact I2
end
end K05

namespace K05
open PySem PySem.Spec PyProof.Rows L2 Rg
section
variable {P : Program} {w : World} {K : PySem.W.Frag} {mg : Str → Option Value} {base : Heap}
def sp_twin (CI CP : Addr) : Sp := fun vs H Q _ => ∃ (im : Addr) (A : IA) (v : IV) (b n s : Int), vs = [.ref im] ∧ ImgAt CI CP H im A v b n s ∧
  ∀ (H' : Hp) (im' : Addr) (A' : IA), Same H H' → H im' = none → ImgAt CI CP H' im' A' v b n s → A'.New H → A'.pl = A.pl → A'.ba = A.ba → Q (.ref im') H'
theorem ok_twin (T : Tx K mg) : FnOk P w K mg base CX0 3 T.f_Image_twin T.fd_Image_twin ["self"] (sp_twin T.C_Image T.C_Plan) := by
  refine T.F_Image_twin.ok sc_Image_twin (fun vs H Q E h => ?_) (fun cdv A0 outer s H vs Q E hr h => ?_)
  · obtain ⟨_, _, _, _, _, _, rfl, _⟩ := h; rfl
  · obtain ⟨im, A, v, b, n, sl, rfl, I, k⟩ := h
    refine ⟨_, (pss_cons (ps_set (i := 1) sc_Image_twin.nd rfl (.inl rfl) (pe_make T.mk_Image (ok_Image_init T) hr rfl T.mg_Image (b_Image___init__ T) .nil pass0 (pa_cons (pe_fld (pv 0) rfl) pa_nil)))
      (pss_cons (ps_fld (pv 1) (pe_lc rfl (own := [("row", 2)]) (g := gName 2) (tt := tYes) sc_Image_twin.nd (pi_list (pe_fld (pv 0) rfl)) (blkOk_by (N := ["self", "other", "row"]) (sc := defScope s_Image_twin) (by decide +kernel)) (fun _ _ _ _ _ => pg_name (i := 2) sc_Image_twin.nd rfl (Or.inl rfl)) (fun _ _ _ _ _ => pts_nil) (fun _ _ _ _ _ => (pe_listof (K := K) (pv 2) T.b_list))) rfl)
      (pss_cons (ps_fld (pv 1) (pe_listof (K := K) (pe_fld (pv 0) rfl) T.b_list) rfl)
      (pss_cons (ps_fld (pv 1) (pe_listof (K := K) (pe_fld (pv 0) rfl) T.b_list) rfl)
      (pss_cons (ps_fld (pv 1) (pe_callTy call_dictD rfl T.b_dict (by decide +kernel) (pa_cons (pe_fld (pv 0) rfl) pa_nil)) rfl)
      (pss_cons (ps_fld (pv 1) (pe_fld (pv 0) rfl) rfl)
      (pss_cons (ps_fld (pv 1) (pe_fld (pv 0) rfl) rfl)
      (pss_cons (ps_fld (pv 1) (pe_fld (pv 0) rfl) rfl)
      (pss_one (ps_ret (pv 1))))))))))), ?_⟩
    obtain ⟨dxp, hpl⟩ := I.pl.ob
    have hb1 := I.pl.b1
    have hb2 := I.pl.b2
    -- other = Image(self.plan)
    refine ⟨_, rfl, im, _, _, _, _, rfl, I.ob, T.cl_Image, T.na_Image_plan, rfl, fun x dx nx ndx nex => ?_⟩
    have s1 : Same H (upd (upd H dx (.own x)) x (.ins T.C_Image dx [])) := (same_upd ndx).trans (same_upd (by rw [upd_ne nex.symm]; exact nx))
    refine ⟨x, dx, A.pl, b, n, sl, rfl, upd_same, I.pl.same s1, fun H1 A1 k1 I1 N1 eA => ⟨rfl, ?_⟩⟩
    have S1 : Same H H1 := fun y o e => k1 y o (s1 _ _ e) (ne_of_none e nx)
    have J1 := I.keep S1
    -- other.cells
    refine ⟨_, rfl, im, _, _, _, _, rfl, J1.ob, T.cl_Image, T.na_Image_cells, rfl, A.ca, rfl, ⟨_, .of J1.gr.out⟩, fun D hD => ?_⟩
    refine lc_list (K := K) (a := A.ca) (xs := A.rs.map V.ref) (fun i H' => ∃ qs, NewGrid H1 H' D qs (v.M.take i))
      ⟨[], NewGrid.start (Same.refl _) hD hD⟩ (fun i H' _ ⟨qs, G⟩ => .of (G.same _ _ J1.gr.out)) ?_ ?_
    · rintro i y H' hi ⟨qs, G⟩
      have hil : i < A.rs.length := by
        have := (List.getElem?_eq_some_iff.mp hi).1
        rw [List.length_map] at this
        exact this
      rw [List.getElem?_map, List.getElem?_eq_getElem hil] at hi
      have hi : V.ref A.rs[i] = y := Option.some.inj hi
      subst hi
      have hiR : i < v.M.length := by rw [← J1.gr.len]; exact hil
      have hrow := G.same _ _ (J1.gr.row i A.rs[i] v.M[i] (List.getElem?_eq_getElem hil) (List.getElem?_eq_getElem hiR))
      have d0 := I.d0
      refine ⟨rfl, ?_⟩
      refine yes_ ?_
      refine ⟨_, rfl, A.rs[i], _, rfl, .inl (.of hrow), fun q hq => ?_⟩
      refine ⟨_, by rw [upd_ne (ne_of_none G.grid.out hq)]; exact G.grid.out, ?_, qs ++ [q], ?_⟩
      · rw [List.length_map, G.grid.len, List.length_take]
        exact small1000 (by omega)
      · rw [List.take_succ, List.getElem?_eq_getElem hiR]
        exact G.snoc (same_upd hq) hq upd_same
    rintro H2 ⟨qs, G⟩
    rw [List.length_map, J1.gr.len, List.take_length] at G
    have I2 : ImgAt T.C_Image T.C_Plan H2 x A1 (zeroV b) b n sl := I1.keep G.same
    have J2 := J1.keep G.same
    have nix : im ≠ x := ne_of_none I.ob nx
    refine ⟨_, rfl, x, _, _, _, rfl, I2.ob, T.cl_Image, T.na_Image_cells, (by show 8 < 1000; decide), ?_⟩
    generalize hH3 : upd H2 x _ = H3
    obtain ⟨e3, k3, n3⟩ := own_f hH3
    have o3 := k3.at1 J2.ob nix
    have nxho : A.ho ≠ x := ne_of_none I.ho nx
    have nxst : A.st ≠ x := ne_of_none I.st nx
    have nxhd : A.hd ≠ x := ne_of_none I.hd nx
    -- other.holdings
    refine ⟨_, rfl, im, _, _, _, _, rfl, o3, T.cl_Image, T.na_Image_holdings, rfl, A.ho, _, rfl, .inl (.of (k3.at1 J2.ho nxho)), fun ho hho => ?_⟩
    generalize hH4 : upd H3 ho _ = H4
    obtain ⟨e4, s4, n4⟩ := new_f hH4 hho
    refine ⟨_, rfl, x, _, _, _, rfl, s4 _ _ e3, T.cl_Image, T.na_Image_holdings, (by show 8 < 1000; decide), ?_⟩
    generalize hH5 : upd H4 x _ = H5
    obtain ⟨e5, k5, n5⟩ := own_f hH5
    have o5 := k5.at1 (s4 _ _ o3) nix
    have nhox : ho ≠ x := (ne_of_none e3 hho).symm
    have ho5 := k5.at1 e4 nhox
    -- other.stamps
    refine ⟨_, rfl, im, _, _, _, _, rfl, o5, T.cl_Image, T.na_Image_stamps, rfl, A.st, _, rfl, .inl (.of (k5.at1 (s4 _ _ (k3.at1 J2.st nxst)) nxst)), fun st hst => ?_⟩
    generalize hH6 : upd H5 st _ = H6
    obtain ⟨e6, s6, n6⟩ := new_f hH6 hst
    refine ⟨_, rfl, x, _, _, _, rfl, s6 _ _ e5, T.cl_Image, T.na_Image_stamps, (by show 8 < 1000; decide), ?_⟩
    generalize hH7 : upd H6 x _ = H7
    obtain ⟨e7, k7, n7⟩ := own_f hH7
    have o7 := k7.at1 (s6 _ _ o5) nix
    have nstx : st ≠ x := (ne_of_none e5 hst).symm
    have nstho : st ≠ ho := (ne_of_none ho5 hst).symm
    have st7 := k7.at1 e6 nstx
    have ho7 := k7.at1 (s6 _ _ ho5) nhox
    -- other.handles
    have hd7 := k7.at1 (s6 _ _ (k5.at1 (s4 _ _ (k3.at1 J2.hd nxhd)) nxhd)) nxhd
    refine ⟨_, rfl, im, _, _, _, _, rfl, o7, T.cl_Image, T.na_Image_handles, rfl, A.hd, _, rfl, .inl hd7, fun hd hhd => ?_⟩
    generalize hH8 : upd H7 hd _ = H8
    obtain ⟨e8, s8, n8⟩ := new_f hH8 hhd
    refine ⟨_, rfl, x, _, _, _, rfl, s8 _ _ e7, T.cl_Image, T.na_Image_handles, (by show 8 < 1000; decide), ?_⟩
    generalize hH9 : upd H8 x _ = H9
    obtain ⟨e9, k9, n9⟩ := own_f hH9
    have nhdx : hd ≠ x := (ne_of_none e7 hhd).symm
    have o9 := k9.at1 (s8 _ _ o7) nix
    -- serial, wish, barred
    refine ⟨_, rfl, im, _, _, _, _, rfl, o9, T.cl_Image, T.na_Image_serial, rfl, _, rfl, x, _, _, _, rfl, e9, T.cl_Image, T.na_Image_serial, (by show 8 < 1000; decide), ?_⟩
    generalize hH10 : upd H9 x _ = H10
    obtain ⟨e10, k10, n10⟩ := own_f hH10
    refine ⟨_, rfl, im, _, _, _, _, rfl, k10.at1 o9 nix, T.cl_Image, T.na_Image_wish, rfl, _, rfl, x, _, _, _, rfl, e10, T.cl_Image, T.na_Image_wish, (by show 8 < 1000; decide), ?_⟩
    generalize hH11 : upd H10 x _ = H11
    obtain ⟨e11, k11, n11⟩ := own_f hH11
    refine ⟨_, rfl, im, _, _, _, _, rfl, k11.at1 (k10.at1 o9 nix) nix, T.cl_Image, T.na_Image_barred, rfl, _, rfl, x, _, _, _, rfl, e11, T.cl_Image, T.na_Image_barred, (by show 8 < 1000; decide), ?_⟩
    generalize hH12 : upd H11 x _ = H12
    obtain ⟨e12, k12, n12⟩ := own_f hH12
    have k9' : Kp [x] H9 H12 := (k10.trans k11).trans k12
    have k2' : Kp [x] H2 H12 := (((((k3.same s4).trans k5).same s6).trans k7).same s8).trans (k9.trans k9')
    have S12 : Same H H12 := fun y o e => k2'.at1 (G.same _ _ (S1 _ _ e)) (ne_of_none e nx)
    have N1' : ∀ y, H1 y = none → H y = none := fun y e => S1.free e
    have f_ho : H2 ho = none := (n3 _ hho).1
    have f_st : H2 st = none := (n3 _ (n4 _ (n5 _ hst).1).1).1
    have f_hd : H2 hd = none := (n3 _ (n4 _ (n5 _ (n6 _ (n7 _ hhd).1).1).1).1).1
    have fr : ∀ y, H2 y = none → H y = none := fun y e => N1' _ (G.same.free e)
    have xD : x ≠ D := ne_of_none I1.ob G.freshD
    have xq : x ∉ qs := (G.nin0 I1.ob).2
    have qn : ∀ y, H2 y = none → y ∉ qs := fun y e hq => by
      obtain ⟨o, z⟩ := G.grid.held hq
      rw [e] at z
      cases z
    refine ⟨_, rfl, k H12 x ⟨A1.dx, A1.pl, D, qs, ho, st, hd, A.ba⟩ S12 nx
      { ob := e12, pl := ?_, gr := G.grid.keep fun y o hy e => k2'.at1 e ?_, ho := k9'.at1 (k9.at1 (s8 _ _ ho7) nhox) nhox, st := k9'.at1 (k9.at1 (s8 _ _ st7) nstx) nstx, hd := k9'.at1 (k9.at1 e8 nhdx) nhdx, ba := S12 _ _ I.ba, n1 := qn _ f_ho, n2 := qn _ f_st, n3 := nstho.symm, n4 := ne_of_none G.grid.out f_ho, n5 := ne_of_none G.grid.out f_st, d0 := I.d0, d1 := I.d1, d2 := I.d2, d3 := I.d3 }
      ⟨N1' _ G.freshD, fun q hq => N1' _ (G.fresh q hq), fr _ f_ho, fr _ f_st, fr _ f_hd⟩ eA rfl⟩
    · show PlanAt T.C_Plan H12 A1.pl b n sl
      rw [eA]
      exact I.pl.same S12
    · rcases hy with rfl | hy
      · exact xD.symm
      · exact fun z => xq (by rw [← z]; exact hy)
end
end K05

namespace K05
open PySem PySem.Spec PyProof.Rows L2 Rg
/-- the row of a node's block -/
def nrow (b m : Int) : Nat := (2 + (b + 8 - 1) / 8 + m - 1).toNat
section
variable {P : Program} {w : World} {K : PySem.W.Frag} {mg : Str → Option Value} {base : Heap}
theorem ImgAt.node {CI CP : Addr} {H : Hp} {im : Addr} {A : IA} {v : IV} {b n s m : Int} (I : ImgAt CI CP H im A v b n s) (h1 : 1 ≤ m) (h2 : m ≤ n) : ∃ r row, A.rs[nrow b m]? = some r ∧ v.M[nrow b m]? = some row ∧ row.length = 8 ∧ H r = some (.lst (row.map V.int)) := by
  have d0 := I.d0
  have b1 := I.pl.b1
  have n1 := I.pl.n1
  have d := I.pl.d
  have hl : nrow b m < v.M.length := by
    unfold nrow
    omega
  obtain ⟨r, hr1, hr2, _⟩ := I.gr.get (List.getElem?_eq_getElem hl)
  exact ⟨r, _, hr1, List.getElem?_eq_getElem hl, I.d1 _ (List.getElem_mem hl), hr2⟩
def sp_node_cell (CI CP : Addr) : Sp := fun vs H Q _ => ∃ (im : Addr) (A : IA) (v : IV) (b n s m f : Int), vs = [.ref im, .int m, .int f] ∧ ImgAt CI CP H im A v b n s ∧ 1 ≤ m ∧ m ≤ n ∧ 0 ≤ f ∧ f < 8 ∧ Q (.int (cellAt v.M (nrow b m) f.toNat)) H
theorem ok_node_cell (T : Tx K mg) : FnOk P w K mg base CX0 2 T.f_node_cell T.fd_node_cell ["image", "n", "field"] (sp_node_cell T.C_Image T.C_Plan) := by
  refine T.F_node_cell.ok sc_node_cell (fun vs H Q E h => ?_) (fun cdv A0 outer s H vs Q E hr h => ?_)
  · obtain ⟨_, _, _, _, _, _, _, _, rfl, _⟩ := h; rfl
  · obtain ⟨im, A, v, b, n, sl, m, f, rfl, I, h1, h2, h3, h4, k⟩ := h
    refine ⟨_, (pss_one (ps_ret (pe_ix ix_list (pe_ix ix_list (pe_fld (pv 0) rfl) (pe_meth (pe_fld (pv 0) rfl) T.cl_Plan T.m_Plan_node_block (ok_Plan_node_block T) hr (b_Plan_node_block T) .nil pass0 (pa_cons (pv 1) pa_nil)) (fun _ _ => rfl)) (pv 2) (fun _ _ => rfl)))), ?_⟩
    obtain ⟨dxp, hpl⟩ := I.pl.ob
    obtain ⟨r, row, e1, e2, e3, e4⟩ := I.node h1 h2
    have b1 := I.pl.b1
    have hf : f.toNat < row.length := by omega
    rw [cellAt_of e2 (List.getElem?_eq_getElem hf)] at k
    refine ⟨_, rfl, im, _, _, _, _, rfl, I.ob, T.cl_Image, T.na_Image_cells, rfl, _, rfl, im, _, _, _, _, rfl, I.ob, T.cl_Image, T.na_Image_plan, rfl, A.pl, dxp, _, rfl, hpl, rfl, _, rfl, A.pl, b, n, sl, m, rfl, I.pl, A.ca, _, _, .ref r, rfl, rfl, .of I.gr.out, at_of (j := nrow b m) (by unfold nrow; omega) (by rw [List.getElem?_map, e1]; rfl), _, rfl, r, _, _, _, rfl, rfl, .of e4, at_of (j := f.toNat) (by omega) (by rw [List.getElem?_map, List.getElem?_eq_getElem hf]; rfl), k⟩
def sp_put_node_cell (CI CP : Addr) : Sp := fun vs H Q _ => ∃ (im : Addr) (A : IA) (v : IV) (b n s m f x : Int), vs = [.ref im, .int m, .int f, .int x] ∧ ImgAt CI CP H im A v b n s ∧ 1 ≤ m ∧ m ≤ n ∧ 0 ≤ f ∧ f < 8 ∧
  ∀ H', ImgAt CI CP H' im A { v with M := setC v.M (nrow b m) f.toNat x } b n s → Kp A.rs H H' → Q .non H'
theorem ok_put_node_cell (T : Tx K mg) : FnOk P w K mg base CX0 2 T.f_put_node_cell T.fd_put_node_cell ["image", "n", "field", "value"] (sp_put_node_cell T.C_Image T.C_Plan) := by
  refine T.F_put_node_cell.ok sc_put_node_cell (fun vs H Q E h => ?_) (fun cdv A0 outer s H vs Q E hr h => ?_)
  · obtain ⟨_, _, _, _, _, _, _, _, _, rfl, _⟩ := h; rfl
  · obtain ⟨im, A, v, b, n, sl, m, f, x, rfl, I, h1, h2, h3, h4, k⟩ := h
    refine ⟨_, (pss_one (ps_asg (pv 3) (pg_sub (pe_ix ix_list (pe_fld (pv 0) rfl) (pe_meth (pe_fld (pv 0) rfl) T.cl_Plan T.m_Plan_node_block (ok_Plan_node_block T) hr (b_Plan_node_block T) .nil pass0 (pa_cons (pv 1) pa_nil)) (fun _ _ => rfl)) (pv 2) set_list))), ?_⟩
    obtain ⟨dxp, hpl⟩ := I.pl.ob
    obtain ⟨r, row, e1, e2, e3, e4⟩ := I.node h1 h2
    have b1 := I.pl.b1
    refine ⟨_, rfl, _, rfl, im, _, _, _, _, rfl, I.ob, T.cl_Image, T.na_Image_cells, rfl, _, rfl, im, _, _, _, _, rfl, I.ob, T.cl_Image, T.na_Image_plan, rfl, A.pl, dxp, _, rfl, hpl, rfl, _, rfl, A.pl, b, n, sl, m, rfl, I.pl, A.ca, _, _, .ref r, rfl, rfl, .of I.gr.out, at_of (j := nrow b m) (by unfold nrow; omega) (by rw [List.getElem?_map, e1]; rfl), _, rfl, r, _, _, f.toNat, rfl, rfl, e4, ixN_nat (by omega) (by rw [List.length_map]; omega), ?_⟩
    exact k _ (I.setC e1 e2) (Kp.refl.own (List.mem_of_getElem? e1))
def sp_is_made (CI CP : Addr) : Sp := fun vs H Q _ => ∃ (im : Addr) (A : IA) (v : IV) (b n s m : Int), vs = [.ref im, .int m] ∧ ImgAt CI CP H im A v b n s ∧ 1 ≤ m ∧ m ≤ n ∧ Q (.bl (!decide (cellAt v.M (nrow b m) 0 = 0))) H
theorem ok_is_made (T : Tx K mg) : FnOk P w K mg base CX0 3 T.f_is_made T.fd_is_made ["image", "n"] (sp_is_made T.C_Image T.C_Plan) := by
  refine T.F_is_made.ok sc_is_made (fun vs H Q E h => ?_) (fun cdv A0 outer s H vs Q E hr h => ?_)
  · obtain ⟨_, _, _, _, _, _, _, rfl, _⟩ := h; rfl
  · obtain ⟨im, A, v, b, n, sl, m, rfl, I, h1, h2, k⟩ := h
    refine ⟨_, (pss_one (ps_ret (pe_cmpR op_ne (pe_call (ok_node_cell T) hr rfl T.mg_node_cell T.F_node_cell.kp (b_node_cell T) .nil pass0 (pa_cons (pv 0) (pa_cons (pv 1) (pa_cons (pe_gc T.c_KIND) pa_nil)))) (pe_gc T.c_UNMADE) (nomark _)))), ?_⟩
    refine ⟨_, rfl, _, rfl, im, A, v, b, n, sl, m, 0, rfl, I, h1, h2, by decide, by decide, rfl, ?_⟩
    rw [dec_iv]
    exact k
/-- the made nodes up to i -/
def madeTo (b : Int) (M : List (List Int)) : Nat → List Int
  | 0 => []
  | i + 1 => madeTo b M i ++ (if cellAt M (nrow b (i + 1)) 0 = 0 then [] else [(i : Int) + 1])
theorem madeTo_len {b : Int} {M : List (List Int)} : ∀ i, (madeTo b M i).length ≤ i
  | 0 => Nat.le_refl _
  | i + 1 => by
    unfold madeTo
    rw [List.length_append]
    have := madeTo_len (b := b) (M := M) i
    split <;> simp <;> omega
def sp_made_nodes (CI CP : Addr) : Sp := fun vs H Q _ => ∃ (im : Addr) (A : IA) (v : IV) (b n s : Int), vs = [.ref im] ∧ ImgAt CI CP H im A v b n s ∧ ∀ H' p, Same H H' → H p = none → H' p = some (.lst ((madeTo b v.M n.toNat).map V.int)) → Q (.ref p) H'
theorem ok_made_nodes (T : Tx K mg) : FnOk P w K mg base CX0 4 T.f_made_nodes T.fd_made_nodes ["image"] (sp_made_nodes T.C_Image T.C_Plan) := by
  refine T.F_made_nodes.ok sc_made_nodes (fun vs H Q E h => ?_) (fun cdv A0 outer s H vs Q E hr h => ?_)
  · obtain ⟨_, _, _, _, _, _, rfl, _⟩ := h; rfl
  · obtain ⟨im, A, v, b, n, sl, rfl, I, k⟩ := h
    refine ⟨_, (pss_one (ps_ret (pe_lc rfl (own := [("n", 1)]) (g := gName 1) (tt := _) sc_made_nodes.nd (pi_range2 rfl T.b_range (pa_cons (pe_gc T.c_ROOT) (pa_cons (pe_op op_add (pe_fld (pe_fld (pv 0) rfl) rfl) pe_int) pa_nil))) (blkOk_by (N := ["image", "n"]) (sc := defScope s_made_nodes) (by decide +kernel)) (fun _ _ _ _ _ => pg_name (i := 1) sc_made_nodes.nd rfl (Or.inl rfl)) (fun _ _ _ _ _ => pts_one (pt_val (pe_call (ok_is_made T) hr rfl T.mg_is_made T.F_is_made.kp (b_is_made T) .nil pass0 (pa_cons (pv 0) (pa_cons (pv 1) pa_nil))))) (fun _ _ _ _ _ => (pv 1))))), ?_⟩
    obtain ⟨dxp, hpl⟩ := I.pl.ob
    have n1 := I.pl.n1
    have n2 := I.pl.n2
    refine ⟨_, rfl, im, _, _, _, _, rfl, I.ob, T.cl_Image, T.na_Image_plan, rfl, A.pl, _, dxp, _, _, rfl, hpl, T.cl_Plan, T.na_Plan_nodes, rfl, _, _, rfl, rfl, 1, n + 1, rfl, ⟨by omega, by omega, by omega, by omega⟩, fun D hD => ?_⟩
    refine lc_range (lo := 1) (n := (n + 1 - 1).toNat) (fun i H' => Same H H' ∧ H' D = some (.lst ((madeTo b v.M i).map V.int))) ⟨same_upd hD, upd_same⟩ ?_ ?_
    · rintro i H' hi ⟨S, e⟩
      refine ⟨rfl, ?_⟩
      refine ⟨_, rfl, _, rfl, im, A, v, b, n, sl, _, rfl, I.keep S, by omega, by omega, _, rfl, ?_⟩
      have hD0 := hD
      by_cases hk : cellAt v.M (nrow b (i + 1)) 0 = 0
      · rw [show (1 : Int) + i = i + 1 by omega, hk]
        refine iteF ⟨S, ?_⟩
        unfold madeTo
        rw [if_pos hk, List.append_nil]
        exact e
      · rw [show (1 : Int) + i = i + 1 by omega, decide_eq_false hk]
        refine iteT ⟨_, rfl, _, e, ?_, fun y o z => ?_, ?_⟩
        · rw [List.length_map]
          have := madeTo_len (b := b) (M := v.M) i
          exact small1000 (by omega)
        · rw [upd_ne (ne_of_none z hD0)]
          exact S _ _ z
        · rw [upd_same]
          show _ = some (HO.lst (((madeTo b v.M i) ++ (if cellAt v.M (nrow b (i + 1)) 0 = 0 then [] else [(i : Int) + 1])).map V.int))
          rw [if_neg hk, List.map_append]
          rfl
    · rintro H' ⟨S, e⟩
      rw [show (n + 1 - 1).toNat = n.toNat by omega] at e
      exact k H' D S hD e
end
end K05

namespace K05
open PySem PySem.Spec PyProof.Rows L2 Rg
/-- a node's block, its first i cells cleared but for the making -/
def rz (m : List Int) (i : Nat) : List Int := List.replicate (min i 7) 0 ++ m.drop (min i 7)
theorem rz_len {m : List Int} {i : Nat} (h : m.length = 8) : (rz m i).length = 8 := by
  unfold rz
  rw [List.length_append, List.length_replicate, List.length_drop]
  omega
theorem rz_step {m : List Int} {i : Nat} (h : m.length = 8) (hi : i < 7) : (rz m i).set i 0 = rz m (i + 1) := by
  match m, h with
  | [a, b, c, d, e, f, g, x], _ =>
    match i, hi with
    | 0, _ => rfl
    | 1, _ => rfl
    | 2, _ => rfl
    | 3, _ => rfl
    | 4, _ => rfl
    | 5, _ => rfl
    | 6, _ => rfl
theorem rz_zero {m : List Int} : rz m 0 = m := rfl
theorem rz_eight {m : List Int} (h : m.length = 8) : rz m 8 = [0, 0, 0, 0, 0, 0, 0, (m[7]?).getD 0] := by
  match m, h with
  | [a, b, c, d, e, f, g, x], _ => rfl
theorem setC_set {M : List (List Int)} {r j : Nat} {m : List Int} {x : Int} (h : r < M.length) : setC (M.set r m) r j x = M.set r (m.set j x) := by
  unfold setC
  rw [List.getElem?_set_self h, List.set_set]
  rfl
theorem set_self {M : List (List Int)} {r : Nat} {m : List Int} (h : M[r]? = some m) : M.set r m = M := by
  apply List.ext_getElem?
  intro i
  by_cases e : r = i
  · subst e
    rw [List.getElem?_set_self (List.getElem?_eq_some_iff.mp h).1, h]
  · rw [List.getElem?_set_ne e]
section
variable {P : Program} {w : World} {K : PySem.W.Frag} {mg : Str → Option Value} {base : Heap}
def sp_unmake_node (CI CP : Addr) : Sp := fun vs H Q _ => ∃ (im : Addr) (A : IA) (v : IV) (b n s m : Int), vs = [.ref im, .int m] ∧ ImgAt CI CP H im A v b n s ∧ 1 ≤ m ∧ m ≤ n ∧
  ∀ H', ImgAt CI CP H' im A { v with M := v.M.set (nrow b m) [0, 0, 0, 0, 0, 0, 0, cellAt v.M (nrow b m) 7] } b n s → Kp A.rs H H' → Q .non H'
theorem ok_unmake_node (T : Tx K mg) : FnOk P w K mg base CX0 3 T.f_unmake_node T.fd_unmake_node ["image", "n"] (sp_unmake_node T.C_Image T.C_Plan) := by
  refine T.F_unmake_node.ok sc_unmake_node (fun vs H Q E h => ?_) (fun cdv A0 outer s H vs Q E hr h => ?_)
  · obtain ⟨_, _, _, _, _, _, _, rfl, _⟩ := h; rfl
  · obtain ⟨im, A, v, b, n, sl, m, rfl, I, h1, h2, k⟩ := h
    refine ⟨_, (pss_one (ps_for PassesOwn.never rfl (pi_range1 rfl T.b_range (pa_cons (pe_cv T.mg_Plan T.cr_Plan T.cv_Plan_WIDTH) pa_nil)) (pg_name (i := 2) sc_unmake_node.nd rfl (.inl rfl))
        (pss_one (ps_if (pt_cmpR op_ne (pv 2) (pe_gc T.c_MAKING) (nomark _))
          (pss_one (ps_expr (pe_call (ok_put_node_cell T) hr rfl T.mg_put_node_cell T.F_put_node_cell.kp (b_put_node_cell T) .nil pass0 (pa_cons (pv 0) (pa_cons (pv 1) (pa_cons (pv 2) (pa_cons pe_int pa_nil)))))))
          pss_nil)))), ?_⟩
    obtain ⟨r, row, e1, e2, e3, e4⟩ := I.node h1 h2
    have hl := (List.getElem?_eq_some_iff.mp e2).1
    refine ⟨8, rfl, by decide, by decide, for_range (lo := 0) (n := (8 : Int).toNat) (fun i σ H' => ∃ u2, σ = [some (.ref im), some (.int m), u2] ∧ ImgAt T.C_Image T.C_Plan H' im A { v with M := v.M.set (nrow b m) (rz row i) } b n sl ∧ Kp A.rs H H')
      ⟨_, rfl, by rw [rz_zero, set_self e2]; exact I, Kp.refl⟩ ?_ ?_⟩
    · rintro i σ H' hi ⟨u2, rfl, I', k'⟩
      have hi : i < 8 := hi
      refine ⟨_, rfl, rfl, _, rfl, ?_⟩
      rw [dec_iv]
      by_cases e : i = 7
      · subst e
        rw [decide_eq_true (by decide)]
        refine iteF ⟨_, rfl, ?_, k'⟩
        have : rz row (7 + 1) = rz row 7 := by unfold rz; rfl
        rw [this]
        exact I'
      · rw [decide_eq_false (by omega)]
        refine iteT ⟨_, rfl, _, rfl, _, rfl, im, A, _, b, n, sl, m, _, 0, rfl, I', h1, h2, by omega, by omega, fun H2 I2 k2 => ?_⟩
        refine ⟨_, rfl, ?_, k'.trans k2⟩
        have ej : ((0 : Int) + (i : Int)).toNat = i := by omega
        dsimp only at I2
        rw [ej, setC_set hl, rz_step e3 (by omega)] at I2
        exact I2
    · rintro σ H' ⟨u2, rfl, I', k'⟩
      refine k H' ?_ k'
      have : rz row (8 : Int).toNat = [0, 0, 0, 0, 0, 0, 0, cellAt v.M (nrow b m) 7] := by
        show rz row 8 = _
        rw [rz_eight e3]
        unfold cellAt
        rw [e2]
        rfl
      rw [this] at I'
      exact I'
/-- the unmade nodes from 2 on, i looked at -/
def unmadeTo (b : Int) (M : List (List Int)) : Nat → List Int
  | 0 => []
  | i + 1 => unmadeTo b M i ++ (if cellAt M (nrow b (i + 2)) 0 = 0 then [(i : Int) + 2] else [])
theorem unmadeTo_len {b : Int} {M : List (List Int)} : ∀ i, (unmadeTo b M i).length ≤ i
  | 0 => Nat.le_refl _
  | i + 1 => by
    unfold unmadeTo
    rw [List.length_append]
    have := unmadeTo_len (b := b) (M := M) i
    split <;> simp <;> omega
theorem unmadeTo_mem {b : Int} {M : List (List Int)} {m : Int} : ∀ {i : Nat}, m ∈ unmadeTo b M i → 2 ≤ m ∧ m < i + 2 ∧ cellAt M (nrow b m) 0 = 0
  | 0, h => by cases h
  | i + 1, h => by
    unfold unmadeTo at h
    rcases List.mem_append.mp h with h | h
    · have := unmadeTo_mem h
      exact ⟨this.1, by omega, this.2.2⟩
    · split at h
      · rename_i hk
        simp at h
        subst h
        exact ⟨by omega, by omega, hk⟩
      · cases h
def sp_make_node (CI CP CN : Addr) : Sp := fun vs H Q E => ∃ (im : Addr) (A : IA) (v : IV) (b n s kind owner : Int), vs = [.ref im, .int kind, .int owner] ∧ ImgAt CI CP H im A v b n s ∧
  (unmadeTo b v.M (n - 1).toNat = [] → ∀ H', Same H H' → E (.ref CN) none H') ∧
  (∀ m rest, unmadeTo b v.M (n - 1).toNat = m :: rest → ∀ H', ImgAt CI CP H' im A { v with M := v.M.set (nrow b m) [kind, 0, 0, owner, 0, 0, 0, cellAt v.M (nrow b m) 7 + 1] } b n s → Kp A.rs H H' → Q (.int m) H')
theorem ok_make_node (T : Tx K mg) : FnOk P w K mg base (L2.CX P w) 4 T.f_make_node T.fd_make_node ["image", "kind", "owner"] (sp_make_node T.C_Image T.C_Plan T.C_NodesFull) := by
  refine T.F_make_node.okX sc_make_node (fun vs H Q E h => ?_) (fun cdv A0 outer s H vs Q E hr h => ?_)
  · obtain ⟨_, _, _, _, _, _, _, _, rfl, _⟩ := h; rfl
  · obtain ⟨im, A, v, b, n, sl, kind, owner, rfl, I, kE, k⟩ := h
    have hr2 : Room 2 _ := hr.mono (by decide)
    refine ⟨_, (pss_cons (ps_setLc (i := 3) (own := [("n", 4)]) (g := gName 4) (tt := _) rfl sc_make_node.nd rfl rfl (sw_true rfl rfl rfl (by decide +kernel)) (pi_range2 rfl T.b_range (pa_cons (pe_op op_add (pe_gc T.c_ROOT) pe_int) (pa_cons (pe_op op_add (pe_fld (pe_fld (pv 0) rfl) rfl) pe_int) pa_nil))) (blkOk_by (N := ["image", "kind", "owner", "unmade", "n"]) (sc := defScope s_make_node) (by decide +kernel)) (fun _ _ _ _ _ => pg_name (i := 4) sc_make_node.nd rfl (Or.inl rfl)) (fun _ _ _ _ _ => pts_one (pt_not (pt_val (pe_call (ok_is_made T) hr rfl T.mg_is_made T.F_is_made.kp (b_is_made T) .nil pass0 (pa_cons (pv 0) (pa_cons (pv 4) pa_nil)))))) (fun _ _ _ _ _ => (pv 4)))
      (pss_cons (ps_if (pt_cmpR op_eq (pe_callB call_len_seq rfl T.b_len (by decide +kernel) (pa_cons (pv 3) pa_nil)) pe_int (nomark _))
        (pss_one (ps_raise rfl (takes_of rfl rfl rfl rfl) (pmk_own PySem.F.excBase_ValueError T.xe_NodesFull T.mg_NodesFull T.ke_NodesFull (raises_own T.be_NodesFull T.te_NodesFull) rfl)))
        pss_nil)
      (PSs.nox (pss_cons (ps_set (i := 4) sc_make_node.nd rfl (.inl rfl) (pe_ix ix_list (pv 3) pe_int (fun _ _ => rfl)))
      (pss_cons (ps_expr (pe_call (ok_unmake_node T) hr rfl T.mg_unmake_node T.F_unmake_node.kp (b_unmake_node T) .nil pass0 (pa_cons (pv 0) (pa_cons (pv 4) pa_nil))))
      (pss_cons (ps_expr (pe_call (ok_put_node_cell T) hr2 rfl T.mg_put_node_cell T.F_put_node_cell.kp (b_put_node_cell T) .nil pass0 (pa_cons (pv 0) (pa_cons (pv 4) (pa_cons (pe_gc T.c_KIND) (pa_cons (pv 1) pa_nil))))))
      (pss_cons (ps_expr (pe_call (ok_put_node_cell T) hr2 rfl T.mg_put_node_cell T.F_put_node_cell.kp (b_put_node_cell T) .nil pass0 (pa_cons (pv 0) (pa_cons (pv 4) (pa_cons (pe_gc T.c_OWNER) (pa_cons (pv 2) pa_nil))))))
      (pss_cons (ps_expr (pe_call (ok_put_node_cell T) hr2 rfl T.mg_put_node_cell T.F_put_node_cell.kp (b_put_node_cell T) .nil pass0 (pa_cons (pv 0) (pa_cons (pv 4) (pa_cons (pe_gc T.c_MAKING) (pa_cons (pe_op op_add (pe_call (ok_node_cell T) hr2 rfl T.mg_node_cell T.F_node_cell.kp (b_node_cell T) .nil pass0 (pa_cons (pv 0) (pa_cons (pv 4) (pa_cons (pe_gc T.c_MAKING) pa_nil)))) pe_int) pa_nil))))))
      (pss_one (ps_ret (pv 4))))))))))), ?_⟩
    obtain ⟨dxp, hpl⟩ := I.pl.ob
    have n1 := I.pl.n1
    have n2 := I.pl.n2
    refine ⟨_, _, rfl, rfl, _, rfl, im, _, _, _, _, rfl, I.ob, T.cl_Image, T.na_Image_plan, rfl, A.pl, _, dxp, _, _, rfl, hpl, T.cl_Plan, T.na_Plan_nodes, rfl, _, _, rfl, rfl, 1 + 1, n + 1, rfl, ⟨by omega, by omega, by omega, by omega⟩, fun D hD => ?_⟩
    refine lc_range (lo := 1 + 1) (n := (n + 1 - (1 + 1)).toNat) (fun i H' => Same H H' ∧ H' D = some (.lst ((unmadeTo b v.M i).map V.int))) ⟨same_upd hD, upd_same⟩ ?_ ?_
    · rintro i H' hi ⟨S, e⟩
      refine ⟨rfl, ?_⟩
      refine ⟨_, rfl, _, rfl, im, A, v, b, n, sl, _, rfl, I.keep S, by omega, by omega, _, rfl, ?_⟩
      by_cases hk : cellAt v.M (nrow b (i + 2)) 0 = 0
      · rw [show (1 : Int) + 1 + i = i + 2 by omega, hk]
        refine iteT ⟨_, rfl, _, e, ?_, fun y o z => ?_, ?_⟩
        · rw [List.length_map]
          have := unmadeTo_len (b := b) (M := v.M) i
          exact small1000 (by omega)
        · rw [upd_ne (ne_of_none z hD)]
          exact S _ _ z
        · rw [upd_same]
          show _ = some (HO.lst (((unmadeTo b v.M i) ++ (if cellAt v.M (nrow b (i + 2)) 0 = 0 then [(i : Int) + 2] else [])).map V.int))
          rw [if_pos hk, List.map_append]
          rfl
      · rw [show (1 : Int) + 1 + i = i + 2 by omega, decide_eq_false hk]
        refine iteF ⟨S, ?_⟩
        unfold unmadeTo
        rw [if_neg hk, List.append_nil]
        exact e
    rintro H1 ⟨S, e⟩
    rw [show (n + 1 - (1 + 1)).toNat = (n - 1).toNat by omega] at e
    refine ⟨_, rfl, D, _, rfl, .inl (.of e), rfl, _, rfl, ite2 (fun z => ?_) (fun z => ?_)⟩
    · have z' := V.int.inj (of_decide_eq_true z)
      rw [List.length_map] at z'
      have : unmadeTo b v.M (n - 1).toNat = [] := by
        cases q : unmadeTo b v.M (n - 1).toNat with
        | nil => rfl
        | cons a r => rw [q] at z'; simp at z'; omega
      exact kE this _ S
    · cases q : unmadeTo b v.M (n - 1).toNat with
      | nil =>
        refine absurd (decide_eq_true ?_) z
        rw [q]
        rfl
      | cons m rest =>
        have hm : m ∈ unmadeTo b v.M (n - 1).toNat := by rw [q]; exact List.mem_cons_self
        obtain ⟨h1, h2, h3⟩ := unmadeTo_mem hm
        have I1 := I.keep S
        obtain ⟨r, row, e1, e2, e3, e4⟩ := I1.node (m := m) (by omega) (by omega)
        have hl := (List.getElem?_eq_some_iff.mp e2).1
        refine ⟨_, rfl, D, _, 0, .int m, rfl, rfl, .of e, atI_nat (j := 0) (by rw [q]; rfl), ?_⟩
        refine ⟨_, rfl, _, rfl, im, A, v, b, n, sl, m, rfl, I1, by omega, by omega, fun H2 I2 k2 => ?_⟩
        refine ⟨_, rfl, _, rfl, _, rfl, im, A, _, b, n, sl, m, 0, kind, rfl, I2, by omega, by omega, by decide, by decide, fun H3 I3 k3 => ?_⟩
        refine ⟨_, rfl, _, rfl, _, rfl, im, A, _, b, n, sl, m, 3, owner, rfl, I3, by omega, by omega, by decide, by decide, fun H4 I4 k4 => ?_⟩
        refine ⟨_, rfl, _, rfl, _, rfl, _, rfl, im, A, _, b, n, sl, m, 7, rfl, I4, by omega, by omega, by decide, by decide, _, _, rfl, rfl, im, A, _, b, n, sl, m, 7, _, rfl, I4, by omega, by omega, by decide, by decide, fun H5 I5 k5 => ?_⟩
        refine ⟨_, rfl, k m rest q H5 ?_ (fun y o z ny => k5 _ _ (k4 _ _ (k3 _ _ (k2 _ _ (S _ _ z) ny) ny) ny) ny)⟩
        dsimp only at I5
        have c0 : (0 : Int).toNat = 0 := rfl
        have c3 : (3 : Int).toNat = 3 := rfl
        have c7 : (7 : Int).toNat = 7 := rfl
        rw [c0, c3, c7, setC_set hl, setC_set hl, cellAt_of (List.getElem?_set_self hl) (x := cellAt v.M (nrow b m) 7) rfl, setC_set hl] at I5
        exact I5
end
end K05

namespace K05
open PySem PySem.Spec PyProof.Rows L2 Rg
/-! ### lists of ints and lists of such lists, compared -/
def dI (ns : List Int) : PyData := .list (ns.map PyData.int)
def dG (M : List (List Int)) : PyData := .list (M.map dI)
theorem dpAllI {K : PySem.W.Frag} {H : Hp} : ∀ ns : List Int, DpAll K H (ns.map V.int) (ns.map PyData.int)
  | [] => .nil
  | n :: ns => .cons (.int n) (dpAllI ns)
theorem dpI {K : PySem.W.Frag} {H : Hp} {a : Addr} {ns : List Int} (h : H a = some (.lst (ns.map V.int))) : Dp K H (.ref a) (dI ns) := .lst (.of h) (dpAllI ns)
theorem dpAllG {K : PySem.W.Frag} {H : Hp} : ∀ (rs : List Addr) (M : List (List Int)), rs.length = M.length → (∀ (i : Nat) (r : Addr) (m : List Int), rs[i]? = some r → M[i]? = some m → H r = some (.lst (m.map V.int))) → DpAll K H (rs.map V.ref) (M.map dI)
  | [], [], _, _ => .nil
  | r :: rs, m :: M, hl, h => .cons (dpI (h 0 r m rfl rfl)) (dpAllG rs M (by simpa using hl) fun i q n a b => h (i + 1) q n (by simpa using a) (by simpa using b))
  | [], _ :: _, hl, _ => by simp at hl
  | _ :: _, [], hl, _ => by simp at hl
theorem dpG {K : PySem.W.Frag} {H : Hp} {ca : Addr} {rs : List Addr} {M : List (List Int)} (G : Grid H ca rs M) : Dp K H (.ref ca) (dG M) := .lst (.of G.out) (dpAllG rs M G.len G.row)
theorem canI : ∀ ns : List Int, PyData.canLayAll0 (ns.map PyData.int) = true
  | [] => rfl
  | n :: ns => by
    show (PyData.canLay0 (.int n) && PyData.canLayAll0 (ns.map PyData.int)) = true
    rw [canI ns]
    rfl
theorem canG : ∀ M : List (List Int), PyData.canLayAll0 (M.map dI) = true
  | [] => rfl
  | m :: M => by
    show (PyData.canLayAll0 (m.map PyData.int) && PyData.canLayAll0 (M.map dI)) = true
    rw [canI, canG M]
    rfl
theorem depI : ∀ ns : List Int, PyData.depthAll (ns.map PyData.int) = 0
  | [] => rfl
  | n :: ns => by
    show max (PyData.depth (.int n)) (PyData.depthAll (ns.map PyData.int)) = 0
    rw [depI ns]
    rfl
theorem depG : ∀ M : List (List Int), PyData.depthAll (M.map dI) ≤ 1
  | [] => Nat.zero_le _
  | m :: M => by
    show max (PyData.depthAll (m.map PyData.int) + 1) (PyData.depthAll (M.map dI)) ≤ 1
    rw [depI m]
    have := depG M
    omega
theorem shI (ns : List Int) : SeqAt.shaped (dI ns) = true := by
  unfold SeqAt.shaped dI
  rw [Bool.and_eq_true]
  refine ⟨canI ns, decide_eq_true ?_⟩
  show PyData.depthAll (ns.map PyData.int) + 1 ≤ 64
  rw [depI ns]
  decide
theorem shG (M : List (List Int)) : SeqAt.shaped (dG M) = true := by
  unfold SeqAt.shaped dG
  rw [Bool.and_eq_true]
  refine ⟨canG M, decide_eq_true ?_⟩
  show PyData.depthAll (M.map dI) + 1 ≤ 64
  have := depG M
  omega
theorem eqI (ns : List Int) : PyData.eqv (dI ns) (dI ns) = true := SeqAt.eqv_refl _ (canI ns)
theorem eqG (M : List (List Int)) : PyData.eqv (dG M) (dG M) = true := SeqAt.eqv_refl _ (canG M)
section
variable {P : Program} {w : World} {K : PySem.W.Frag} {mg : Str → Option Value} {base : Heap}
/-! ### the law's table: the image's nodes by themselves -/
def Tab (M Tb : List (List Int)) (c : Nat) : Prop := ∀ m : Nat, 1 ≤ m → m ≤ c → Tb[m]? = M[4 + m]?
theorem nrow24 {m : Int} : nrow 24 m = (5 + m - 1).toNat := rfl
theorem nrow24n {m : Nat} (h : 1 ≤ m) : nrow 24 (m : Int) = 4 + m := by
  rw [nrow24]
  omega
theorem Tab.cell {M Tb : List (List Int)} {c : Nat} (R : Tab M Tb c) {m : Nat} (h1 : 1 ≤ m) (h2 : m ≤ c) (j : Nat) : cellAt M (nrow 24 m) j = cellAt Tb m j := by
  rw [nrow24n h1]
  unfold cellAt
  rw [R m h1 h2]
def sp_Lagrees (CI CP : Addr) : Sp := fun vs H Q _ => ∃ (im : Addr) (A : IA) (v : IV) (n s : Int) (ta : Addr) (ts : List Addr) (Tb : List (List Int)), vs = [.ref im, .ref ta, .int n] ∧ ImgAt CI CP H im A v 24 n s ∧ Grid H ta ts Tb ∧ Tab v.M Tb n.toNat ∧ (Tb.length : Int) = n + 1 ∧
  ∀ H', Same H H' → Q (.bl true) H'
theorem ok_Lagrees (T : Tx K mg) : FnOk P w K mg base CX0 5 T.f_Lagrees T.fd_Lagrees ["_law_image", "_law_table", "_law_count"] (sp_Lagrees T.C_Image T.C_Plan) := by
  refine T.F_Lagrees.ok sc_Lagrees (fun vs H Q E h => ?_) (fun cdv A0 outer s H vs Q E hr h => ?_)
  · obtain ⟨_, _, _, _, _, _, _, _, rfl, _⟩ := h; rfl
  · obtain ⟨im, A, v, n, sl, ta, ts, Tb, rfl, I, GT, R, hT, k⟩ := h
    have hr1 : Room 1 _ := hr.mono (by decide)
    have hr2 : Room 2 _ := hr.mono (by decide)
    refine ⟨_, (pss_cons (ps_for PassesOwn.never rfl (pi_range2 rfl T.b_range (pa_cons pe_int (pa_cons (pe_op op_add (pv 2) pe_int) pa_nil))) (pg_name (i := 3) sc_Lagrees.nd rfl (.inl rfl))
        (pss_cons (ps_for PassesOwn.never rfl (pi_range1 rfl T.b_range (pa_cons pe_int pa_nil)) (pg_name (i := 4) sc_Lagrees.nd rfl (.inl rfl))
          (pss_one (ps_if (pt_not (pt_val (pe_call (ok_Linteger T) hr1 rfl T.mg_Linteger T.F_Linteger.kp (b_Linteger T) .nil pass0 (pa_cons (pe_call (ok_node_cell T) hr2 rfl T.mg_node_cell T.F_node_cell.kp (b_node_cell T) .nil pass0 (pa_cons (pv 0) (pa_cons (pv 3) (pa_cons (pv 4) pa_nil)))) (pa_cons (pe_ix ix_list (pe_ix ix_list (pv 1) (pv 3) (fun _ _ => rfl)) (pv 4) (fun _ _ => rfl)) pa_nil)))))
            (pss_one (ps_ret pe_bl))
            pss_nil)))
        (pss_one (ps_if (pt_cmpR (op_neD hr.units) (pe_listof (K := K) (pe_ix ix_list (pe_fld (pv 0) rfl) (pe_op op_add pe_int (pv 3)) (fun _ _ => rfl)) T.b_list) (pe_ix ix_list (pv 1) (pv 3) (fun _ _ => rfl)) (nomark _))
          (pss_one (ps_ret pe_bl))
          pss_nil))))
      (pss_cons (ps_set (i := 5) sc_Lagrees.nd rfl (.inl rfl) (pe_call (ok_made_nodes T) hr rfl T.mg_made_nodes T.F_made_nodes.kp (b_made_nodes T) .nil pass0 (pa_cons (pv 0) pa_nil)))
      (pss_cons (ps_if (PW.pt (pw_or (pt_not (pt_val (pe_callB call_isi rfl T.b_isinstance (by decide +kernel) (pa_cons (pv 5) (pa_cons (pe_bltn (v := .ty "list") rfl T.b_list (by decide +kernel) rfl) pa_nil))))) (pw_or1 (pt_cmpR (op_neD hr.units) (pv 5) (pe_lc rfl (own := [("_law_n", 3)]) (g := gName 3) (tt := _) sc_Lagrees.nd (pi_range2 rfl T.b_range (pa_cons pe_int (pa_cons (pe_op op_add (pv 2) pe_int) pa_nil))) (blkOk_by (N := ["_law_image", "_law_table", "_law_count", "_law_n", "_law_field", "_law_made"]) (sc := defScope s_Lagrees) (by decide +kernel)) (fun _ _ _ _ _ => pg_name (i := 3) sc_Lagrees.nd rfl (Or.inl rfl)) (fun _ _ _ _ _ => pts_one (pt_cmpR op_ne (pe_ixK (K := K) (pe_ixK (K := K) (pv 1) (pv 3) (fun _ _ => rfl)) pe_int (fun _ _ => rfl)) pe_int (nomark _))) (fun _ _ _ _ _ => (pv 3))) (nomark _)))))
        (pss_one (ps_ret pe_bl))
        pss_nil)
      (pss_cons (ps_expr (pe_bm PySem.F.plainAttrs_list PySem.F.slot_list_append PySem.F.type_list_append mt_append (pv 5) (pa_cons pe_int pa_nil)))
      (pss_one (ps_ret pe_bl)))))), ?_⟩
    have n1 := I.pl.n1
    have n2 := I.pl.n2
    have d := I.pl.d
    refine ⟨_, rfl, _, _, rfl, rfl, 1, n + 1, rfl, ⟨by omega, by omega, by omega, by omega⟩, for_range (lo := 1) (n := (n + 1 - 1).toNat) (fun i σ H' => ∃ u3 u4 : Option V, σ = [some (.ref im), some (.ref ta), some (.int n), u3, u4, none] ∧ Same H H') ⟨_, _, rfl, Same.refl _⟩ ?_ ?_⟩
    · rintro i σ H' hi ⟨u3, u4, rfl, S⟩
      have I' := I.keep S
      have GT' := GT.same S
      obtain ⟨r, row, e1, e2, e3, e4⟩ := I'.node (m := 1 + (i : Int)) (by omega) (by omega)
      have ei : nrow 24 (1 + (i : Int)) = 4 + (i + 1) := by rw [nrow24]; omega
      have hTb : Tb[i + 1]? = some row := by rw [R (i + 1) (by omega) (by omega), ← ei]; exact e2
      obtain ⟨q, q1, q2, _⟩ := GT'.get hTb
      refine ⟨8, rfl, by decide, by decide, for_range (lo := 0) (n := (8 : Int).toNat) (fun j σ H2 => ∃ u4 : Option V, σ = [some (.ref im), some (.ref ta), some (.int n), some (.int (1 + (i : Int))), u4, none] ∧ H2 = H') ⟨_, rfl, rfl⟩ ?_ ?_⟩
      · rintro j σ H2 hj ⟨u4, rfl, rfl⟩
        have hj : j < 8 := hj
        have hjr : j < row.length := by omega
        refine ⟨_, rfl, _, rfl, _, rfl, im, A, v, 24, n, sl, _, _, rfl, I', by omega, by omega, by omega, by omega, _, rfl, _, rfl, ta, _, _, .ref q, rfl, rfl, .of GT'.out, at_of (j := i + 1) (by omega) (by rw [List.getElem?_map, q1]; rfl), _, rfl, q, _, _, _, rfl, rfl, .of q2, at_of (j := j) (by omega) (by rw [List.getElem?_map, List.getElem?_eq_getElem hjr]; rfl), _, _, rfl, _, rfl, ?_⟩
        rw [cellAt_of e2 (x := row[j]) (by rw [show ((0 : Int) + (j : Int)).toNat = j by omega]; exact List.getElem?_eq_getElem hjr), decide_eq_true rfl]
        exact iteF ⟨_, rfl, rfl⟩
      · rintro σ H2 ⟨u4, rfl, rfl⟩
        refine ⟨_, rfl, im, _, _, _, _, rfl, I'.ob, T.cl_Image, T.na_Image_cells, rfl, _, rfl, _, _, rfl, rfl, A.ca, _, _, .ref r, rfl, rfl, .of I'.gr.out, at_of (j := nrow 24 (1 + (i : Int))) (by rw [ei]; omega) (by rw [List.getElem?_map, e1]; rfl), r, _, rfl, .inl (.of e4), fun l hl => ?_⟩
        have sl := same_upd (o := .lst (row.map V.int)) hl
        refine ⟨_, rfl, _, rfl, ta, _, _, .ref q, rfl, rfl, .of (sl _ _ GT'.out), at_of (j := i + 1) (by omega) (by rw [List.getElem?_map, q1]; rfl), dI row, dI row, dpI upd_same, dpI (sl _ _ q2), shI _, shI _, _, rfl, ?_⟩
        rw [eqI]
        exact iteF ⟨_, _, rfl, S.trans sl⟩
    · rintro σ H1 ⟨u3, u4, rfl, S⟩
      refine ⟨_, rfl, im, A, v, 24, n, sl, rfl, I.keep S, fun H2 p S2 np ep => ?_⟩
      refine ⟨_, rfl, _, _, _, _, true, rfl, .ty _, .base (.lst ep), kit_ty (by decide +kernel), _, rfl, iteF ?_⟩
      refine ⟨_, rfl, _, rfl, _, _, rfl, rfl, 1, n + 1, rfl, ⟨by omega, by omega, by omega, by omega⟩, fun D hD => ?_⟩
      have GT2 := (GT.same S).same S2
      refine lc_range (lo := 1) (n := (n + 1 - 1).toNat) (fun i H' => Same H2 H' ∧ H' D = some (.lst ((madeTo 24 v.M i).map V.int))) ⟨same_upd hD, upd_same⟩ ?_ ?_
      · rintro i H' hi ⟨S3, e⟩
        have GT3 := GT2.same S3
        have hil : i + 1 < Tb.length := by omega
        obtain ⟨q, q1, q2, _⟩ := GT3.get (List.getElem?_eq_getElem hil)
        have h8 : 0 < (Tb[i + 1]).length := by
          obtain ⟨r, row, e1, e2, e3, e4⟩ := I.node (m := 1 + (i : Int)) (by omega) (by omega)
          have ei : nrow 24 (1 + (i : Int)) = 4 + (i + 1) := by rw [nrow24]; omega
          have : Tb[i + 1]? = some row := by rw [R (i + 1) (by omega) (by omega), ← ei]; exact e2
          rw [List.getElem?_eq_getElem hil] at this
          rw [Option.some.inj this]
          omega
        have hc : cellAt v.M (nrow 24 ((i : Int) + 1)) 0 = (Tb[i + 1])[0] := by
          have := R.cell (m := i + 1) (by omega) (by omega) 0
          rw [show ((i + 1 : Nat) : Int) = (i : Int) + 1 by omega] at this
          rw [this]
          exact cellAt_of (List.getElem?_eq_getElem hil) (List.getElem?_eq_getElem h8)
        refine ⟨rfl, ?_⟩
        refine ⟨_, rfl, _, rfl, ta, _, _, .ref q, rfl, rfl, .of GT3.out, at_of (j := i + 1) (by omega) (by rw [List.getElem?_map, q1]; rfl), q, _, _, _, rfl, rfl, .of q2, at_of (j := 0) rfl (by rw [List.getElem?_map, List.getElem?_eq_getElem h8]; rfl), rfl, _, rfl, ?_⟩
        rw [dec_iv]
        by_cases hk : (Tb[i + 1])[0] = 0
        · rw [hk]
          refine iteF ⟨S3, ?_⟩
          unfold madeTo
          rw [hc, if_pos hk, List.append_nil]
          exact e
        · rw [decide_eq_false hk]
          refine iteT ⟨_, rfl, _, e, ?_, fun y o z => ?_, ?_⟩
          · rw [List.length_map]
            have := madeTo_len (b := 24) (M := v.M) i
            exact small1000 (by omega)
          · rw [upd_ne (ne_of_none z hD)]
            exact S3 _ _ z
          · rw [upd_same]
            show _ = some (HO.lst (((madeTo 24 v.M i) ++ (if cellAt v.M (nrow 24 (i + 1)) 0 = 0 then [] else [(i : Int) + 1])).map V.int))
            rw [hc, if_neg hk, List.map_append, show (1 : Int) + i = i + 1 by omega]
            rfl
      · rintro H3 ⟨S3, e⟩
        rw [show (n + 1 - 1).toNat = n.toNat by omega] at e
        refine ⟨dI (madeTo 24 v.M n.toNat), dI (madeTo 24 v.M n.toNat), dpI (S3 _ _ ep), dpI e, shI _, shI _, _, rfl, ?_⟩
        rw [eqI]
        refine iteF ⟨_, rfl, .inl ⟨rfl, _, .of (S3 _ _ ep)⟩, p, _, _, rfl, rfl, S3 _ _ ep, ?_, ?_⟩
        · rw [List.length_map]
          have := madeTo_len (b := 24) (M := v.M) n.toNat
          exact small1000 (by omega)
        · refine k _ fun y o z => ?_
          rw [upd_ne (ne_of_none (S _ _ z) np)]
          exact S3 _ _ (S2 _ _ (S _ _ z))
end
end K05

namespace K05
open PySem PySem.Spec PyProof.Rows L2 Rg
section
variable {P : Program} {w : World} {K : PySem.W.Frag} {mg : Str → Option Value} {base : Heap}
/-! ### _law_others -/
def Oth (M M0 : List (List Int)) (c : Nat) : Prop := ∀ x : Nat, x < 24 → (x < 5 ∨ 4 + c < x) → M[x]? = M0[x]?
def sp_Lothers (CI CP : Addr) : Sp := fun vs H Q _ => ∃ (im : Addr) (A : IA) (v : IV) (n s : Int) (ka : Addr) (ks : List Addr) (M0 : List (List Int)), vs = [.ref im, .ref ka, .int n] ∧ ImgAt CI CP H im A v 24 n s ∧ Grid H ka ks M0 ∧ Oth v.M M0 n.toNat ∧ Q (.bl true) H
theorem ok_Lothers (T : Tx K mg) : FnOk P w K mg base CX0 1 T.f_Lothers T.fd_Lothers ["_law_image", "_law_kept", "_law_count"] (sp_Lothers T.C_Image T.C_Plan) := by
  refine T.F_Lothers.ok sc_Lothers (fun vs H Q E h => ?_) (fun cdv A0 outer s H vs Q E hr h => ?_)
  · obtain ⟨_, _, _, _, _, _, _, _, rfl, _⟩ := h; rfl
  · obtain ⟨im, A, v, n, sl, ka, ks, M0, rfl, I, GK, R, k⟩ := h
    refine ⟨_, (pss_cons (ps_for PassesOwn.never rfl (pi_range1 rfl T.b_range (pa_cons pe_int pa_nil)) (pg_name (i := 3) sc_Lothers.nd rfl (.inl rfl))
        (pss_one (ps_if (PW.pt (pw_and (PW.pt (pw_or (pt_cmpR op_lt (pv 3) pe_int (nomark _)) (pw_or1 (pt_cmpR op_gt (pv 3) (pe_op op_add pe_int (pv 2)) (nomark _))))) (pw_and1 (pt_cmpR (op_neD hr.units) (pe_ix ix_list (pe_fld (pv 0) rfl) (pv 3) (fun _ _ => rfl)) (pe_ix ix_list (pv 1) (pv 3) (fun _ _ => rfl)) (nomark _)))))
          (pss_one (ps_ret pe_bl))
          pss_nil)))
      (pss_one (ps_ret (pe_cmpR op_eq (pe_callB call_len_seq rfl T.b_len (by decide +kernel) (pa_cons (pe_fld (pv 0) rfl) pa_nil)) pe_int (nomark _))))), ?_⟩
    have n1 := I.pl.n1
    have d0 := I.d0
    refine ⟨24, rfl, by decide, by decide, for_range (lo := 0) (n := (24 : Int).toNat) (fun i σ H' => ∃ u3 : Option V, σ = [some (.ref im), some (.ref ka), some (.int n), u3] ∧ H' = H) ⟨_, rfl, rfl⟩ ?_ ?_⟩
    · rintro i σ H' hi ⟨u3, rfl, rfl⟩
      have hi : i < 24 := hi
      have key : (i < 5 ∨ 4 + n.toNat < i) → ∃ (r q : Addr) (m : List Int), A.rs[i]? = some r ∧ H' r = some (.lst (m.map V.int)) ∧ ks[i]? = some q ∧ H' q = some (.lst (m.map V.int)) := fun h => by
        have hl : i < v.M.length := by omega
        obtain ⟨r, r1, r2, _⟩ := I.gr.get (List.getElem?_eq_getElem hl)
        have hk : M0[i]? = some v.M[i] := by rw [← R i hi h]; exact List.getElem?_eq_getElem hl
        obtain ⟨q, q1, q2, _⟩ := GK.get hk
        exact ⟨r, q, _, r1, r2, q1, q2⟩
      refine ⟨_, rfl, _, _, rfl, rfl, _, rfl, ite2 (fun e => ?_) (fun e => ?_)⟩
      · have e' := of_decide_eq_true e
        obtain ⟨r, q, m, r1, r2, q1, q2⟩ := key (.inl (by omega))
        refine iteT ⟨_, rfl, im, _, _, _, _, rfl, I.ob, T.cl_Image, T.na_Image_cells, rfl, _, rfl, A.ca, _, _, .ref r, rfl, rfl, .of I.gr.out, at_of (j := i) (by omega) (by rw [List.getElem?_map, r1]; rfl), _, rfl, _, rfl, ka, _, _, .ref q, rfl, rfl, .of GK.out, at_of (j := i) (by omega) (by rw [List.getElem?_map, q1]; rfl), dI m, dI m, dpI r2, dpI q2, shI _, shI _, _, rfl, ?_⟩
        rw [eqI]
        exact iteF ⟨_, rfl, rfl⟩
      · refine ⟨_, rfl, _, rfl, _, _, rfl, rfl, _, _, rfl, rfl, _, rfl, ?_⟩
        by_cases e2 : 4 + n < 0 + (i : Int)
        · obtain ⟨r, q, m, r1, r2, q1, q2⟩ := key (.inr (by omega))
          rw [decide_eq_true e2]
          refine iteT ⟨_, rfl, im, _, _, _, _, rfl, I.ob, T.cl_Image, T.na_Image_cells, rfl, _, rfl, A.ca, _, _, .ref r, rfl, rfl, .of I.gr.out, at_of (j := i) (by omega) (by rw [List.getElem?_map, r1]; rfl), _, rfl, _, rfl, ka, _, _, .ref q, rfl, rfl, .of GK.out, at_of (j := i) (by omega) (by rw [List.getElem?_map, q1]; rfl), dI m, dI m, dpI r2, dpI q2, shI _, shI _, _, rfl, ?_⟩
          rw [eqI]
          exact iteF ⟨_, rfl, rfl⟩
        · rw [decide_eq_false e2]
          exact iteF ⟨_, rfl, rfl⟩
    · rintro σ H' ⟨u3, rfl, rfl⟩
      refine ⟨_, rfl, im, _, _, _, _, rfl, I.ob, T.cl_Image, T.na_Image_cells, rfl, A.ca, _, rfl, .inl (.of I.gr.out), rfl, ?_⟩
      rw [dec_iv, List.length_map, I.gr.len, decide_eq_true (by omega)]
      exact k
/-! ### _law_full -/
def sp_Lfull (CI CP : Addr) : Sp := fun vs H Q _ => ∃ (im : Addr) (A : IA) (v : IV) (b n s kind owner : Int), vs = [.ref im, .int kind, .int owner] ∧ ImgAt CI CP H im A v b n s ∧ unmadeTo b v.M (n - 1).toNat = [] ∧ ∀ H', Same H H' → Q (.bl true) H'
theorem ok_Lfull (T : Tx K mg) : FnOk P w K mg base CX0 5 T.f_Lfull T.fd_Lfull ["_law_image", "_law_kind", "_law_owner"] (sp_Lfull T.C_Image T.C_Plan) := by
  refine T.F_Lfull.ok sc_Lfull (fun vs H Q E h => ?_) (fun cdv A0 outer s H vs Q E hr h => ?_)
  · obtain ⟨_, _, _, _, _, _, _, _, rfl, _⟩ := h; rfl
  · obtain ⟨im, A, v, b, n, sl, kind, owner, rfl, I, hU, k⟩ := h
    refine ⟨_, (pss_cons (ps_try_as (i := 3) rfl rfl sc_Lfull.nd rfl rfl ⟨rfl, by decide, .inl T.mg_Refused⟩ takes0
        (fun W pn xe tk _ => pss_one (ps_expr (by exact (pe_callS (ok_make_node T) hr rfl T.mg_make_node T.F_make_node.kp (b_make_node T) (fun σ => passAt tk σ) (by exact (pa_cons (pv 0) (pa_cons (pv 1) (pa_cons (pv 2) pa_nil))))))))
        (fun a oe cls d pn hz hf => pss_only (cls := cls) (d := d) (D := T.C_NodesFull) (t := tRet (tCB (rIsE K T.C_NodesFull a) (tCons (tVar 3) (tCons (tC (.ref T.C_NodesFull)) tNil)))) fun e1 e2 => by
          subst e1
          subst e2
          exact pss_one (ps_ret (pe_callB (call_isE T.ec_NodesFull hz hf) rfl T.b_isinstance (by decide +kernel) (pa_cons (pv 3) (pa_cons (pe_glob (v := .ref T.C_NodesFull) rfl T.mg_NodesFull rfl) pa_nil))))))
      (pss_one (ps_ret pe_bl))), ?_⟩
    refine ⟨_, rfl, _, rfl, _, rfl, im, A, v, b, n, sl, kind, owner, rfl, I, fun _ H' S => ⟨true, exm_sub T.be_Refused T.ie_Refused T.te_Refused T.sub_NodesFull_Refused, fun _ a ha => ?_, fun q => nomatch q⟩, fun m rest z => ?_⟩
    · exact ⟨rfl, rfl, _, rfl, _, _, true, rfl, fun u hu => hu, kit_self, k H' S⟩
    · rw [hU] at z
      cases z
end
end K05

namespace K05
open PySem PySem.Spec PyProof.Rows L2 Rg
theorem Grid.other {H : Hp} {ca p : Addr} {rs : List Addr} {M : List (List Int)} {o : HO} (G : Grid H ca rs M) (h1 : p ≠ ca) (h2 : p ∉ rs) : Grid (upd H p o) ca rs M :=
  G.keep fun b u hb e => by
    rw [upd_ne]
    · exact e
    · rcases hb with rfl | hb
      · exact h1.symm
      · exact fun z => h2 (by rw [← z]; exact hb)
theorem ImgAt.otherL {CI CP : Addr} {H : Hp} {im p : Addr} {A : IA} {v : IV} {b n s : Int} {xs ys : List V} (I : ImgAt CI CP H im A v b n s) (e : H p = some (.lst ys)) (n1 : p ≠ A.ca) (n2 : p ≠ A.ho) (n3 : p ≠ A.st) (n4 : p ∉ A.rs) : ImgAt CI CP (upd H p (.lst xs)) im A v b n s := by
  obtain ⟨dxp, hpl⟩ := I.pl.ob
  exact { I with
    ob := by rw [upd_ne (ne_of I.ob e (by intro z; cases z))]; exact I.ob
    pl := I.pl.of fun o z => by rw [upd_ne (ne_of hpl e (by intro z; cases z))]; exact z
    gr := I.gr.other n1 n4
    ho := by rw [upd_ne n2.symm]; exact I.ho
    st := by rw [upd_ne n3.symm]; exact I.st
    hd := by rw [upd_ne (ne_of I.hd e (by intro z; cases z))]; exact I.hd
    ba := by rw [upd_ne (ne_of I.ba e (by intro z; cases z))]; exact I.ba }
/-- the law's state: the image, the table, the feed, all apart -/
structure S5 (CI CP : Addr) (H : Hp) (im : Addr) (A : IA) (v : IV) (n s : Int) (ta : Addr) (ts : List Addr) (Tb : List (List Int)) (fa : Addr) (fs : List Int) : Prop where
  I : ImgAt CI CP H im A v 24 n s
  GT : Grid H ta ts Tb
  R : Tab v.M Tb n.toNat
  hT : (Tb.length : Int) = n + 1
  F : H fa = some (.lst (fs.map V.int))
  a1 : ta ≠ A.ca
  a2 : ta ≠ A.ho
  a3 : ta ≠ A.st
  a4 : ta ∉ A.rs
  b1 : fa ≠ A.ca
  b2 : fa ≠ A.ho
  b3 : fa ≠ A.st
  b4 : fa ∉ A.rs
  b5 : fa ≠ ta
  b6 : fa ∉ ts
  c1 : ∀ q ∈ ts, q ≠ A.ca ∧ q ≠ A.ho ∧ q ≠ A.st ∧ q ∉ A.rs
  rt : cellAt v.M 5 0 ≠ 0
section
variable {CI CP : Addr} {H : Hp} {im : Addr} {A : IA} {v : IV} {n s : Int} {ta : Addr} {ts : List Addr} {Tb : List (List Int)} {fa : Addr} {fs : List Int}
theorem S5.same (S : S5 CI CP H im A v n s ta ts Tb fa fs) {H' : Hp} (h : Same H H') : S5 CI CP H' im A v n s ta ts Tb fa fs := { S with I := S.I.keep h, GT := S.GT.same h, F := h _ _ S.F }
theorem S5.feed (S : S5 CI CP H im A v n s ta ts Tb fa fs) (fs' : List Int) : S5 CI CP (upd H fa (.lst (fs'.map V.int))) im A v n s ta ts Tb fa fs' :=
  { S with I := S.I.otherL S.F S.b1 S.b2 S.b3 S.b4, GT := S.GT.other S.b5 S.b6, F := upd_same }
/-- the image changed at a row, the table at the same -/
theorem S5.node (S : S5 CI CP H im A v n s ta ts Tb fa fs) {m : Nat} (h1 : 1 ≤ m) (h2 : (m : Int) ≤ n) {H' : Hp} {row : List Int} {ts' : List Addr} (I' : ImgAt CI CP H' im A { v with M := v.M.set (nrow 24 m) row } 24 n s) (G' : Grid H' ta ts' (Tb.set m row)) (F' : H' fa = some (.lst (fs.map V.int)))
    (hts : ∀ q ∈ ts', q ∈ ts ∨ H q = none) (hrt : cellAt (v.M.set (nrow 24 m) row) 5 0 ≠ 0) : S5 CI CP H' im A { v with M := v.M.set (nrow 24 m) row } n s ta ts' (Tb.set m row) fa fs := by
  refine { S with I := I', GT := G', F := F', rt := hrt, R := fun j j1 j2 => ?_, hT := ?_, b6 := fun z => ?_, c1 := fun q hq => ?_ }
  · have d0 := S.I.d0
    have hT := S.hT
    have n1 := S.I.pl.n1
    have d := S.I.pl.d
    rw [nrow24n h1]
    by_cases e : m = j
    · subst e
      rw [List.getElem?_set_self (by omega), List.getElem?_set_self (by omega)]
    · rw [List.getElem?_set_ne e, List.getElem?_set_ne (by omega)]
      exact S.R j j1 j2
  · rw [List.length_set]
    exact S.hT
  · rcases hts _ z with e | e
    · exact S.b6 e
    · rw [S.F] at e
      cases e
  · rcases hts q hq with e | e
    · exact S.c1 q e
    · exact ⟨(ne_of_none S.I.gr.out e).symm, (ne_of_none S.I.ho e).symm, (ne_of_none S.I.st e).symm, (S.I.fresh_n e).2.2.2.2.2⟩
theorem S5.held (S : S5 CI CP H im A v n s ta ts Tb fa fs) {q : Addr} (h : q ∈ ta :: fa :: (A.rs ++ ts)) : ∃ o, H q = some o := by
  simp only [List.mem_cons, List.mem_append] at h
  rcases h with rfl | rfl | h | h
  · exact ⟨_, S.GT.out⟩
  · exact ⟨_, S.F⟩
  · exact S.I.gr.held h
  · exact S.GT.held h
theorem S5.apart (S : S5 CI CP H im A v n s ta ts Tb fa fs) {q : Addr} (h : H q = none) : q ∉ ta :: fa :: (A.rs ++ ts) := fun z => by
  obtain ⟨o, e⟩ := S.held z
  rw [h] at e
  cases e
end
theorem cellAt_set_ne {M : List (List Int)} {i r j : Nat} {m : List Int} (h : r ≠ i) : cellAt (M.set r m) i j = cellAt M i j := by
  unfold cellAt
  rw [List.getElem?_set_ne h]
theorem Oth.refl {M : List (List Int)} {c : Nat} : Oth M M c := fun _ _ _ => rfl
theorem Oth.set {M : List (List Int)} {c m : Nat} {row : List Int} (h1 : 1 ≤ m) (h2 : m ≤ c) : Oth (M.set (4 + m) row) M c := fun x hx h => by
  rw [List.getElem?_set_ne (by omega)]
theorem Oth.trans {M M1 M2 : List (List Int)} {c : Nat} (a : Oth M2 M1 c) (b : Oth M1 M c) : Oth M2 M c := fun x hx h => (a x hx h).trans (b x hx h)
section
variable {P : Program} {w : World} {K : PySem.W.Frag} {mg : Str → Option Value} {base : Heap}
/-- what a step of the law leaves -/
def Stp (CI CP : Addr) (H : Hp) (im : Addr) (A : IA) (v : IV) (n s : Int) (ta : Addr) (ts : List Addr) (fa : Addr) (H' : Hp) : Prop :=
  ∃ (v' : IV) (ts' : List Addr) (Tb' : List (List Int)) (fs' : List Int), S5 CI CP H' im A v' n s ta ts' Tb' fa fs' ∧ Oth v'.M v.M n.toNat ∧ Kp (ta :: fa :: (A.rs ++ ts)) H H' ∧ ∀ q ∈ ts', q ∈ ts ∨ H q = none
def sp_Lmake (CI CP : Addr) : Sp := fun vs H Q _ => ∃ (im : Addr) (A : IA) (v : IV) (n s : Int) (ta : Addr) (ts : List Addr) (Tb : List (List Int)) (fa : Addr) (fs : List Int), vs = [.ref im, .ref ta, .ref fa, .int n] ∧ S5 CI CP H im A v n s ta ts Tb fa fs ∧
  ∀ H', Stp CI CP H im A v n s ta ts fa H' → Q (.bl true) H'
theorem ok_Lmake (T : Tx K mg) : FnOk P w K mg base CX0 6 T.f_Lmake T.fd_Lmake ["_law_image", "_law_table", "_law_feed_here", "_law_count"] (sp_Lmake T.C_Image T.C_Plan) := by
  refine T.F_Lmake.ok sc_Lmake (fun vs H Q E h => ?_) (fun cdv A0 outer s H vs Q E hr h => ?_)
  · obtain ⟨_, _, _, _, _, _, _, _, _, _, rfl, _⟩ := h; rfl
  · obtain ⟨im, A, v, n, sl, ta, ts, Tb, fa, fs, rfl, S, k⟩ := h
    have hr1 : Room 1 _ := hr.mono (by decide)
    have hr4 : Room 4 _ := hr.mono (by decide)
    refine ⟨_, (pss_cons (ps_set (i := 4) sc_Lmake.nd rfl (.inl rfl) (pe_op op_add pe_int (pe_call (ok_Lpick T) hr1 rfl T.mg_Lpick T.F_Lpick.kp (b_Lpick T) .nil pass0 (pa_cons (pv 2) (pa_cons pe_int pa_nil)))))
      (pss_cons (ps_set (i := 5) sc_Lmake.nd rfl (.inl rfl) (pe_call (ok_Lpick T) hr1 rfl T.mg_Lpick T.F_Lpick.kp (b_Lpick T) .nil pass0 (pa_cons (pv 2) (pa_cons pe_int pa_nil))))
      (pss_cons (ps_setLc (i := 6) (own := [("_law_n", 7)]) (g := gName 7) (tt := _) rfl sc_Lmake.nd rfl rfl (sw_true rfl rfl rfl (by decide +kernel)) (pi_range2 rfl T.b_range (pa_cons pe_int (pa_cons (pe_op op_add (pv 3) pe_int) pa_nil))) (blkOk_by (N := ["_law_image", "_law_table", "_law_feed_here", "_law_count", "_law_kind", "_law_owner", "_law_unmade", "_law_n", "_law_row"]) (sc := defScope s_Lmake) (by decide +kernel)) (fun _ _ _ _ _ => pg_name (i := 7) sc_Lmake.nd rfl (Or.inl rfl)) (fun _ _ _ _ _ => pts_one (pt_cmpR op_eq (pe_ixK (K := K) (pe_ixK (K := K) (pv 1) (pv 7) (fun _ _ => rfl)) pe_int (fun _ _ => rfl)) pe_int (nomark _))) (fun _ _ _ _ _ => (pv 7)))
      (pss_cons (ps_if (pt_cmpR op_eq (pe_callB call_len_seq rfl T.b_len (by decide +kernel) (pa_cons (pv 6) pa_nil)) pe_int (nomark _))
        (pss_one (ps_ret (pe_call (ok_Lfull T) hr rfl T.mg_Lfull T.F_Lfull.kp (b_Lfull T) .nil pass0 (pa_cons (pv 0) (pa_cons (pv 4) (pa_cons (pv 5) pa_nil))))))
        pss_nil)
      (pss_cons (ps_set (i := 7) sc_Lmake.nd rfl (.inl rfl) (pe_ix ix_list (pv 6) pe_int (fun _ _ => rfl)))
      (pss_cons (ps_set (i := 8) sc_Lmake.nd rfl (.inl rfl) (pe_ix ix_list (pv 1) (pv 7) (fun _ _ => rfl)))
      (pss_cons (ps_asg (pe_lst (pa_cons (pv 4) (pa_cons pe_int (pa_cons pe_int (pa_cons (pv 5) (pa_cons pe_int (pa_cons pe_int (pa_cons pe_int (pa_cons (pe_op op_add (pe_ix ix_list (pv 8) pe_int (fun _ _ => rfl)) pe_int) pa_nil))))))))) (pg_sub (pv 1) (pv 7) set_list))
      (pss_one (ps_ret (pe_call (ok_Linteger T) hr1 rfl T.mg_Linteger T.F_Linteger.kp (b_Linteger T) .nil pass0 (pa_cons (pe_call (ok_make_node T) hr4 rfl T.mg_make_node T.F_make_node.kp (b_make_node T) .nil passL (pa_cons (pv 0) (pa_cons (pv 4) (pa_cons (pv 5) pa_nil)))) (pa_cons (pv 7) pa_nil)))))))))))), ?_⟩
    have n1 := S.I.pl.n1
    have n2 := S.I.pl.n2
    -- the two picks
    refine ⟨_, rfl, fa, fs, 3, rfl, S.F, by decide, fun r1 f1 r10 r11 fl1 => ?_⟩
    refine ⟨_, _, rfl, rfl, ?_⟩
    refine ⟨_, rfl, fa, f1, 4, rfl, upd_same, by decide, fun r2 f2 r20 r21 fl2 => ?_⟩
    rw [upd_upd]
    have S2 := S.feed f2
    have K2 : Kp (ta :: fa :: (A.rs ++ ts)) H (upd H fa (.lst (f2.map V.int))) := Kp.refl.own (by simp)
    generalize upd H fa (.lst (f2.map V.int)) = H2 at S2 K2 ⊢
    -- the unmade nodes
    refine ⟨_, rfl, _, _, rfl, rfl, 2, n + 1, rfl, ⟨by omega, by omega, by omega, by omega⟩, fun D hD => ?_⟩
    refine lc_range (lo := 2) (n := (n + 1 - 2).toNat) (fun i H' => Same H2 H' ∧ H' D = some (.lst ((unmadeTo 24 v.M i).map V.int))) ⟨same_upd hD, upd_same⟩ ?_ ?_
    · rintro i H' hi ⟨S3, e⟩
      have GT3 := S2.GT.same S3
      have hT := S.hT
      have hil : i + 2 < Tb.length := by omega
      obtain ⟨q, q1, q2, _⟩ := GT3.get (List.getElem?_eq_getElem hil)
      have h8 : 0 < (Tb[i + 2]).length := by
        obtain ⟨r, row, e1, e2, e3, e4⟩ := S.I.node (m := 2 + (i : Int)) (by omega) (by omega)
        have ei : nrow 24 (2 + (i : Int)) = 4 + (i + 2) := by rw [nrow24]; omega
        have : Tb[i + 2]? = some row := by rw [S.R (i + 2) (by omega) (by omega), ← ei]; exact e2
        rw [List.getElem?_eq_getElem hil] at this
        rw [Option.some.inj this]
        omega
      have hc : cellAt v.M (nrow 24 ((i : Int) + 2)) 0 = (Tb[i + 2])[0] := by
        have := S.R.cell (m := i + 2) (by omega) (by omega) 0
        rw [show ((i + 2 : Nat) : Int) = (i : Int) + 2 by omega] at this
        rw [this]
        exact cellAt_of (List.getElem?_eq_getElem hil) (List.getElem?_eq_getElem h8)
      refine ⟨rfl, ?_⟩
      refine ⟨_, rfl, _, rfl, ta, _, _, .ref q, rfl, rfl, .of GT3.out, at_of (j := i + 2) (by omega) (by rw [List.getElem?_map, q1]; rfl), q, _, _, _, rfl, rfl, .of q2, at_of (j := 0) rfl (by rw [List.getElem?_map, List.getElem?_eq_getElem h8]; rfl), rfl, _, rfl, ?_⟩
      rw [dec_iv]
      by_cases hk : (Tb[i + 2])[0] = 0
      · rw [hk]
        refine iteT ⟨_, rfl, _, e, ?_, fun y o z => ?_, ?_⟩
        · rw [List.length_map]
          have := unmadeTo_len (b := 24) (M := v.M) i
          exact small1000 (by omega)
        · rw [upd_ne (ne_of_none z hD)]
          exact S3 _ _ z
        · rw [upd_same]
          show _ = some (HO.lst (((unmadeTo 24 v.M i) ++ (if cellAt v.M (nrow 24 (i + 2)) 0 = 0 then [(i : Int) + 2] else [])).map V.int))
          rw [hc, if_pos hk, List.map_append, show (2 : Int) + i = i + 2 by omega]
          rfl
      · rw [decide_eq_false hk]
        refine iteF ⟨S3, ?_⟩
        unfold unmadeTo
        rw [hc, if_neg hk, List.append_nil]
        exact e
    rintro H3 ⟨S3, e⟩
    rw [show (n + 1 - 2).toNat = (n - 1).toNat by omega] at e
    have K3 := K2.same S3
    have S3' := S2.same S3
    refine ⟨_, rfl, D, _, rfl, .inl (.of e), rfl, _, rfl, ite2 (fun z => ?_) (fun z => ?_)⟩
    · have z' := V.int.inj (of_decide_eq_true z)
      rw [List.length_map] at z'
      have hU : unmadeTo 24 v.M (n - 1).toNat = [] := by
        cases q : unmadeTo 24 v.M (n - 1).toNat with
        | nil => rfl
        | cons a r => rw [q] at z'; simp at z'; omega
      refine ⟨_, rfl, _, rfl, _, rfl, im, A, v, 24, n, sl, _, _, rfl, S3'.I, hU, fun H4 S4 => k H4 ⟨v, ts, Tb, f2, S3'.same S4, Oth.refl, K3.same S4, fun q hq => .inl hq⟩⟩
    · cases q : unmadeTo 24 v.M (n - 1).toNat with
      | nil =>
        refine absurd (decide_eq_true ?_) z
        rw [q]
        rfl
      | cons m rest =>
        have hm : m ∈ unmadeTo 24 v.M (n - 1).toNat := by rw [q]; exact List.mem_cons_self
        obtain ⟨h1, h2, h3⟩ := unmadeTo_mem hm
        obtain ⟨mn, rfl⟩ : ∃ mn : Nat, m = mn := ⟨m.toNat, by omega⟩
        have hT := S.hT
        have hil : mn < Tb.length := by omega
        obtain ⟨qr, q1, q2, _⟩ := S3'.GT.get (List.getElem?_eq_getElem hil)
        obtain ⟨r, row, e1, e2, e3, e4⟩ := S3'.I.node (m := (mn : Int)) (by omega) (by omega)
        have erow : Tb[mn] = row := by
          have := S.R mn (by omega) (by omega)
          rw [← nrow24n (by omega), e2, List.getElem?_eq_getElem hil] at this
          exact Option.some.inj this
        have h7 : 7 < (Tb[mn]).length := by rw [erow]; omega
        refine ⟨_, rfl, D, _, 0, .int (mn : Int), rfl, rfl, .of e, atI_nat (j := 0) (by rw [q]; rfl), ?_⟩
        refine ⟨_, rfl, _, rfl, ta, _, _, .ref qr, rfl, rfl, .of S3'.GT.out, at_of (j := mn) rfl (by rw [List.getElem?_map, q1]; rfl), ?_⟩
        refine ⟨_, rfl, _, rfl, _, rfl, qr, _, _, _, rfl, rfl, .of q2, at_of (j := 7) rfl (by rw [List.getElem?_map, List.getElem?_eq_getElem h7]; rfl), _, _, rfl, rfl, (by show 8 ≤ sizeLine; decide), fun p hp => ?_⟩
        have S4 := same_upd (o := .lst [.int (1 + r1), .int 0, .int 0, .int r2, .int 0, .int 0, .int 0, .int (Tb[mn][7] + 1)]) hp
        have S4' := S3'.same S4
        have G5 := S3'.GT.swap (i := mn) (m := [1 + r1, 0, 0, r2, 0, 0, 0, Tb[mn][7] + 1]) S4 hp upd_same
        refine ⟨_, rfl, _, rfl, ta, _, _, mn, rfl, rfl, S4'.GT.out, ixN_nat rfl (by rw [List.length_map, S3'.GT.len]; exact hil), ?_⟩
        have I5 := S4'.I.otherL (xs := (ts.map V.ref).set mn (V.ref p)) S4'.GT.out S.a1 S.a2 S.a3 S.a4
        have F5 : (upd (upd H3 p (.lst [.int (1 + r1), .int 0, .int 0, .int r2, .int 0, .int 0, .int 0, .int (Tb[mn][7] + 1)])) ta (.lst ((ts.map V.ref).set mn (V.ref p)))) fa = some (.lst (f2.map V.int)) := by
          rw [upd_ne S.b5]
          exact S4'.F
        have K5 : Kp (ta :: fa :: (A.rs ++ ts)) H (upd (upd H3 p (.lst [.int (1 + r1), .int 0, .int 0, .int r2, .int 0, .int 0, .int 0, .int (Tb[mn][7] + 1)])) ta (.lst ((ts.map V.ref).set mn (V.ref p)))) := (K3.same S4).own (by simp)
        change Grid (upd (upd H3 p (.lst [.int (1 + r1), .int 0, .int 0, .int r2, .int 0, .int 0, .int 0, .int (Tb[mn][7] + 1)])) ta (.lst ((ts.map V.ref).set mn (V.ref p)))) _ _ _ at G5
        generalize upd (upd H3 p (.lst [.int (1 + r1), .int 0, .int 0, .int r2, .int 0, .int 0, .int 0, .int (Tb[mn][7] + 1)])) ta (.lst ((ts.map V.ref).set mn (V.ref p))) = H5 at G5 I5 F5 K5 ⊢
        refine ⟨_, rfl, _, rfl, _, rfl, im, A, v, 24, n, sl, _, _, rfl, I5, fun z => (by rw [q] at z; cases z), fun m' rest' z H6 I6 k6 => ?_⟩
        rw [q] at z
        injection z with z1 z2
        subst z1
        have e7 : cellAt v.M (nrow 24 (mn : Int)) 7 + (1 : Int) = Tb[mn][7] + (1 : Int) := by
          rw [S.R.cell (by omega) (by omega), cellAt_of (List.getElem?_eq_getElem hil) (List.getElem?_eq_getElem h7)]
        rw [e7] at I6
        have nta : ta ∉ A.rs := S.a4
        have G6 : Grid H6 ta (ts.set mn p) (Tb.set mn [1 + r1, 0, 0, r2, 0, 0, 0, Tb[mn][7] + 1]) := G5.keep fun x o hx z => k6 _ _ z (fun y => by
          rcases hx with rfl | hx
          · exact S.a4 y
          · rcases mem_set_of hx with z1 | z1
            · subst z1
              exact (S3'.I.fresh_n hp).2.2.2.2.2 y
            · exact (S.c1 _ z1).2.2.2 y)
        refine ⟨_, rfl, _, _, rfl, ?_⟩
        rw [decide_eq_true rfl]
        have hts : ∀ x ∈ ts.set mn p, x ∈ ts ∨ H x = none := fun x hx => by
          rcases mem_set_of hx with z1 | z1
          · subst z1
            exact .inr (K3.free (S3'.apart hp) hp)
          · exact .inl z1
        refine k H6 ⟨_, _, _, f2, S3'.node (by omega) (by omega) I6 G6 (k6 _ _ F5 S.b4) (fun x hx => ?_) ?_, ?_, ?_, hts⟩
        · rcases mem_set_of hx with z1 | z1
          · subst z1
            exact .inr hp
          · exact .inl z1
        · rw [cellAt_set_ne (by rw [nrow24n (by omega)]; omega)]
          exact S.rt
        · dsimp only
          rw [nrow24n (by omega)]
          exact Oth.set (by omega) (by omega)
        · exact K5.trans (k6.mono fun x hx => by simp [hx])
end
end K05

namespace K05
open PySem PySem.Spec PyProof.Rows L2 Rg
def z8 : List Int := [0, 0, 0, 0, 0, 0, 0, 0]
def root8 : List Int := [2, 1, 0, 0, 0, 0, 0, 1]
theorem tab0 {n : Nat} (h1 : 2 ≤ n) (h2 : n ≤ 7) : Tab (ofM 24 (n : Int) (freshM 24 (n : Int)) 24) ((List.replicate (n + 1) z8).set 1 root8) n := by
  have h : ∀ n ∈ [2, 3, 4, 5, 6, 7], ∀ m ∈ List.range' 1 n, ((List.replicate (n + 1) z8).set 1 root8)[m]? = (ofM 24 ((n : Nat) : Int) (freshM 24 ((n : Nat) : Int)) 24)[4 + m]? := by decide +kernel
  intro m m1 m2
  exact h n (by simp; omega) m (by rw [List.mem_range'_1]; omega)
theorem root0 {n : Nat} (h1 : 2 ≤ n) (h2 : n ≤ 7) : cellAt (ofM 24 (n : Int) (freshM 24 (n : Int)) 24) 5 0 ≠ 0 := by
  have h : ∀ n ∈ [2, 3, 4, 5, 6, 7], cellAt (ofM 24 ((n : Nat) : Int) (freshM 24 ((n : Nat) : Int)) 24) 5 0 ≠ 0 := by decide +kernel
  exact h n (by simp; omega)
theorem madeTo_mem {b : Int} {M : List (List Int)} {m : Int} : ∀ {i : Nat}, m ∈ madeTo b M i → 1 ≤ m ∧ m ≤ i
  | 0, h => by cases h
  | i + 1, h => by
    unfold madeTo at h
    rcases List.mem_append.mp h with h | h
    · have := madeTo_mem h
      exact ⟨this.1, by omega⟩
    · split at h
      · cases h
      · simp at h
        subst h
        exact ⟨by omega, by omega⟩
theorem madeTo_ne {M : List (List Int)} (h : cellAt M 5 0 ≠ 0) : ∀ {i : Nat}, 1 ≤ i → madeTo 24 M i ≠ []
  | i + 1, _ => by
    unfold madeTo
    by_cases e : i = 0
    · subst e
      rw [if_neg (show ¬ cellAt M (nrow 24 (((0 : Nat) : Int) + 1)) 0 = 0 from h)]
      simp
    · have := madeTo_ne h (i := i) (by omega)
      intro z
      exact this (List.append_eq_nil_iff.mp z).1
theorem set_map_int (row : List Int) (f : Nat) (x : Int) : (row.map V.int).set f (V.int x) = (row.set f x).map V.int := List.map_set.symm
section
variable {P : Program} {w : World} {K : PySem.W.Frag} {mg : Str → Option Value} {base : Heap}
/-- the law's loop -/
structure Inv5 (CI CP : Addr) (H : Hp) (im : Addr) (A : IA) (n s : Int) (ta fa ka : Addr) (ks : List Addr) (M0 : List (List Int)) (v : IV) (ts : List Addr) (Tb : List (List Int)) (fs : List Int) : Prop where
  S : S5 CI CP H im A v n s ta ts Tb fa fs
  O : Oth v.M M0 n.toNat
  G : Grid H ka ks M0
  x1 : ka ∉ ta :: fa :: (A.rs ++ ts)
  x2 : ∀ q ∈ ks, q ∉ ta :: fa :: (A.rs ++ ts)
theorem Inv5.step {CI CP : Addr} {H H1 H' : Hp} {im : Addr} {A : IA} {n s : Int} {ta fa ka : Addr} {ks : List Addr} {M0 : List (List Int)} {v : IV} {ts : List Addr} {Tb : List (List Int)} {fs : List Int} (I : Inv5 CI CP H im A n s ta fa ka ks M0 v ts Tb fs) (h1 : Same H H1)
    (h : Stp CI CP H1 im A v n s ta ts fa H') : ∃ v' ts' Tb' fs', Inv5 CI CP H' im A n s ta fa ka ks M0 v' ts' Tb' fs' ∧ Kp (ta :: fa :: (A.rs ++ ts)) H1 H' := by
  obtain ⟨v', ts', Tb', fs', S', O', K', hts⟩ := h
  have ne : ∀ q o, H q = some o → q ∉ ta :: fa :: (A.rs ++ ts) → q ∉ ta :: fa :: (A.rs ++ ts') := fun q o e n z => by
    simp only [List.mem_cons, List.mem_append] at z n
    rcases z with z | z | z | z
    · exact n (.inl z)
    · exact n (.inr (.inl z))
    · exact n (.inr (.inr (.inl z)))
    · rcases hts q z with y | y
      · exact n (.inr (.inr (.inr y)))
      · rw [h1 _ _ e] at y
        cases y
  refine ⟨v', ts', Tb', fs', ⟨S', O'.trans I.O, I.G.keep fun x o hx e => ?_, ne _ _ I.G.out I.x1, fun q hq => ?_⟩, K'⟩
  · refine K' _ _ (h1 _ _ e) ?_
    rcases hx with rfl | hx
    · exact I.x1
    · exact I.x2 x hx
  · obtain ⟨o, e⟩ := I.G.held hq
    exact ne q o e (I.x2 q hq)
def sp_law (K : PySem.W.Frag) : Sp := fun vs H Q _ => ∃ (a : Addr) (ns : List Int), vs = [.ref a] ∧ SqL K H a (ns.map V.int) ∧ ns.length ≤ 63 ∧ ∀ H', Q (.bl true) H'
theorem ok_law (T : Tx K mg) : FnOk P w K mg base CX0 7 T.f_law T.fd_law ["_law_script"] (sp_law K) := by
  refine T.F_law.ok sc_law (fun vs H Q E h => ?_) (fun cdv A0 outer s H vs Q E hr h => ?_)
  · obtain ⟨_, _, rfl, _⟩ := h; rfl
  · obtain ⟨a, ns, rfl, hS, hlen, k⟩ := h
    have hr1 : Room 1 _ := hr.mono (by decide)
    have hr2 : Room 2 _ := hr.mono (by decide)
    have hr3 : Room 3 _ := hr.mono (by decide)
    have hr4 : Room 4 _ := hr.mono (by decide)
    have hr5 : Room 5 _ := hr.mono (by decide)
    refine ⟨_, (pss_cons (ps_set (i := 1) sc_law.nd rfl (.inl rfl) (pe_call (ok_Lfeed T) hr1 rfl T.mg_Lfeed T.F_Lfeed.kp (b_Lfeed T) .nil pass0 (pa_cons (pv 0) pa_nil)))
      (pss_cons (ps_set (i := 2) sc_law.nd rfl (.inl rfl) (pe_op op_add pe_int (pe_call (ok_Lpick T) hr1 rfl T.mg_Lpick T.F_Lpick.kp (b_Lpick T) .nil pass0 (pa_cons (pv 1) (pa_cons pe_int pa_nil)))))
      (pss_cons (ps_set (i := 3) sc_law.nd rfl (.inl rfl) (pe_smeth T.mg_Image T.cr_Image T.sm_Image_fresh (ok_fresh T) hr4 (b_Image_fresh T) .nil pass0 (pa_cons (pe_makeK T.mk_Plan (ok_Plan_init T) hr2 rfl T.mg_Plan (kb_Plan T) pass0 (pa_cons pe_int pa_nil) (pk_cons (pv 2) (pk_cons pe_int pk_nil))) pa_nil)))
      (pss_cons (ps_set (i := 4) sc_law.nd rfl (.inr rfl) (pe_lc rfl (own := [("_law_n", 5)]) (g := gName 5) (tt := tYes) sc_law.nd (pi_range1 rfl T.b_range (pa_cons (pe_op op_add (pv 2) pe_int) pa_nil)) (blkOk_by (N := ["_law_script", "_law_feed_here", "_law_count", "_law_image", "_law_table", "_law_n", "_law_kept", "_law_row", "_law_k", "_law_before", "_law_twin", "_law_choice", "_law_made", "_law_m", "_law_field", "_law_value"]) (sc := defScope s_law) (by decide +kernel)) (fun _ _ _ _ _ => pg_name (i := 5) sc_law.nd rfl (Or.inl rfl)) (fun _ _ _ _ _ => pts_nil) (fun _ _ _ _ _ => (pe_lst (pa_cons pe_int (pa_cons pe_int (pa_cons pe_int (pa_cons pe_int (pa_cons pe_int (pa_cons pe_int (pa_cons pe_int (pa_cons pe_int pa_nil))))))))))))
      (pss_cons (ps_asg (pe_lst (pa_cons pe_int (pa_cons pe_int (pa_cons pe_int (pa_cons pe_int (pa_cons pe_int (pa_cons pe_int (pa_cons pe_int (pa_cons pe_int pa_nil))))))))) (pg_sub (pv 4) pe_int set_list))
      (pss_cons (ps_setLc (i := 6) (own := [("_law_row", 7)]) (g := gName 7) (tt := tYes) rfl sc_law.nd rfl rfl (sw_true rfl rfl rfl (by decide +kernel)) (pi_list (pe_fld (pv 3) rfl)) (blkOk_by (N := ["_law_script", "_law_feed_here", "_law_count", "_law_image", "_law_table", "_law_n", "_law_kept", "_law_row", "_law_k", "_law_before", "_law_twin", "_law_choice", "_law_made", "_law_m", "_law_field", "_law_value"]) (sc := defScope s_law) (by decide +kernel)) (fun _ _ _ _ _ => pg_name (i := 7) sc_law.nd rfl (Or.inl rfl)) (fun _ _ _ _ _ => pts_nil) (fun _ _ _ _ _ => (pe_listof (K := K) (pv 7) T.b_list)))
      (pss_cons (ps_if (pt_not (pt_val (pe_call (ok_Lagrees T) hr5 rfl T.mg_Lagrees T.F_Lagrees.kp (b_Lagrees T) .nil pass0 (pa_cons (pv 3) (pa_cons (pv 4) (pa_cons (pv 2) pa_nil))))))
        (pss_one (ps_ret pe_bl))
        pss_nil)
      (pss_cons (ps_for PassesOwn.never rfl (pi_range1 rfl T.b_range (pa_cons (pe_op op_add pe_int (pe_call (ok_Lpick T) hr1 rfl T.mg_Lpick T.F_Lpick.kp (b_Lpick T) .nil pass0 (pa_cons (pv 1) (pa_cons pe_int pa_nil)))) pa_nil)) (pg_name (i := 8) sc_law.nd rfl (.inl rfl))
        (pss_cons (ps_setLc (i := 9) (own := [("_law_row", 7)]) (g := gName 7) (tt := tYes) rfl sc_law.nd rfl rfl (sw_true rfl rfl rfl (by decide +kernel)) (pi_list (pe_fld (pv 3) rfl)) (blkOk_by (N := ["_law_script", "_law_feed_here", "_law_count", "_law_image", "_law_table", "_law_n", "_law_kept", "_law_row", "_law_k", "_law_before", "_law_twin", "_law_choice", "_law_made", "_law_m", "_law_field", "_law_value"]) (sc := defScope s_law) (by decide +kernel)) (fun _ _ _ _ _ => pg_name (i := 7) sc_law.nd rfl (Or.inl rfl)) (fun _ _ _ _ _ => pts_nil) (fun _ _ _ _ _ => (pe_listof (K := K) (pv 7) T.b_list)))
        (pss_cons (ps_set (i := 10) sc_law.nd rfl (.inl rfl) (pe_meth0 (pv 3) T.cl_Image T.m_Image_twin (ok_twin T) hr3 (b_Image_twin T) .nil pass0))
        (pss_cons (ps_set (i := 11) sc_law.nd rfl (.inl rfl) (pe_call (ok_Lpick T) hr1 rfl T.mg_Lpick T.F_Lpick.kp (b_Lpick T) .nil pass0 (pa_cons (pv 1) (pa_cons pe_int pa_nil))))
        (pss_cons (ps_set (i := 5) sc_law.nd rfl (.inl rfl) (pe_op op_add pe_int (pe_call (ok_Lpick T) hr1 rfl T.mg_Lpick T.F_Lpick.kp (b_Lpick T) .nil pass0 (pa_cons (pv 1) (pa_cons (pe_op op_sub (pv 2) pe_int) pa_nil)))))
        (Evl.pss_cut (ps_if (pt_cmpR op_lt (pv 11) pe_int (nomark _))
          (pss_one (ps_if (pt_not (pt_val (pe_call (ok_Lmake T) hr rfl T.mg_Lmake T.F_Lmake.kp (b_Lmake T) .nil pass0 (pa_cons (pv 3) (pa_cons (pv 4) (pa_cons (pv 1) (pa_cons (pv 2) pa_nil)))))))
            (pss_one (ps_ret pe_bl))
            pss_nil))
          (pss_one (ps_if (pt_cmpR op_lt (pv 11) pe_int (nomark _))
            (pss_cons (ps_if (pt_cmpR op_notN (pe_call (ok_unmake_node T) hr3 rfl T.mg_unmake_node T.F_unmake_node.kp (b_unmake_node T) .nil pass0 (pa_cons (pv 3) (pa_cons (pv 5) pa_nil))) pe_non (nomark _))
              (pss_one (ps_ret pe_bl))
              pss_nil)
            (pss_one (ps_asg (pe_lst (pa_cons pe_int (pa_cons pe_int (pa_cons pe_int (pa_cons pe_int (pa_cons pe_int (pa_cons pe_int (pa_cons pe_int (pa_cons (pe_ix ix_list (pe_ix ix_list (pv 4) (pv 5) (fun _ _ => rfl)) pe_int (fun _ _ => rfl)) pa_nil))))))))) (pg_sub (pv 4) (pv 5) set_list))))
            (pss_cons (ps_setLc (i := 12) (own := [("_law_m", 13)]) (g := gName 13) (tt := _) rfl sc_law.nd rfl rfl (sw_true rfl rfl rfl (by decide +kernel)) (pi_range2 rfl T.b_range (pa_cons pe_int (pa_cons (pe_op op_add (pv 2) pe_int) pa_nil))) (blkOk_by (N := ["_law_script", "_law_feed_here", "_law_count", "_law_image", "_law_table", "_law_n", "_law_kept", "_law_row", "_law_k", "_law_before", "_law_twin", "_law_choice", "_law_made", "_law_m", "_law_field", "_law_value"]) (sc := defScope s_law) (by decide +kernel)) (fun _ _ _ _ _ => pg_name (i := 13) sc_law.nd rfl (Or.inl rfl)) (fun _ _ _ _ _ => pts_one (pt_cmpR op_ne (pe_ixK (K := K) (pe_ixK (K := K) (pv 4) (pv 13) (fun _ _ => rfl)) pe_int (fun _ _ => rfl)) pe_int (nomark _))) (fun _ _ _ _ _ => (pv 13)))
            (pss_cons (ps_set (i := 13) sc_law.nd rfl (.inl rfl) (pe_ix ix_list (pv 12) (pe_op op_mod (pe_callTy call_int1 rfl T.b_int (by decide +kernel) (pa_cons (pv 5) pa_nil)) (pe_callB call_len_seq rfl T.b_len (by decide +kernel) (pa_cons (pv 12) pa_nil))) (fun _ _ => rfl)))
            (pss_cons (ps_set (i := 14) sc_law.nd rfl (.inl rfl) (pe_op op_add pe_int (pe_call (ok_Lpick T) hr1 rfl T.mg_Lpick T.F_Lpick.kp (b_Lpick T) .nil pass0 (pa_cons (pv 1) (pa_cons pe_int pa_nil)))))
            (pss_cons (ps_set (i := 15) sc_law.nd rfl (.inl rfl) (pe_call (ok_Lpick T) hr1 rfl T.mg_Lpick T.F_Lpick.kp (b_Lpick T) .nil pass0 (pa_cons (pv 1) (pa_cons pe_int pa_nil))))
            (pss_cons (ps_if (pt_cmpR op_notN (pe_call (ok_put_node_cell T) hr2 rfl T.mg_put_node_cell T.F_put_node_cell.kp (b_put_node_cell T) .nil pass0 (pa_cons (pv 3) (pa_cons (pv 13) (pa_cons (pv 14) (pa_cons (pv 15) pa_nil))))) pe_non (nomark _))
              (pss_one (ps_ret pe_bl))
              pss_nil)
            (pss_cons (ps_set (i := 7) sc_law.nd rfl (.inl rfl) (pe_ix ix_list (pv 4) (pv 13) (fun _ _ => rfl)))
            (pss_one (ps_asg (pv 15) (pg_sub (pv 7) (pv 14) set_list))))))))))))
        (pss_one (ps_if (PW.pt (pw_or (pt_not (pt_val (pe_call (ok_Lagrees T) hr5 rfl T.mg_Lagrees T.F_Lagrees.kp (b_Lagrees T) .nil pass0 (pa_cons (pv 3) (pa_cons (pv 4) (pa_cons (pv 2) pa_nil)))))) (pw_or (pt_not (pt_val (pe_call (ok_Lothers T) hr1 rfl T.mg_Lothers T.F_Lothers.kp (b_Lothers T) .nil pass0 (pa_cons (pv 3) (pa_cons (pv 6) (pa_cons (pv 2) pa_nil)))))) (pw_or1 (pt_cmpR (op_neD hr.units) (pe_fld (pv 10) rfl) (pv 9) (nomark _))))))
          (pss_one (ps_ret pe_bl))
          pss_nil))))))))
      (pss_one (ps_ret pe_bl)))))))))), ?_⟩
    -- the feed, the number of nodes
    refine ⟨_, rfl, a, ns, rfl, hS, hlen, fun H1 fa fs S1 nfa efa lfs => ?_⟩
    refine ⟨_, rfl, fa, fs, 6, rfl, efa, by decide, fun r f1 r0 r6 fl1 => ?_⟩
    refine ⟨_, _, rfl, rfl, ?_⟩
    obtain ⟨n, en, n1, n2⟩ : ∃ n : Nat, 2 + r = n ∧ 2 ≤ n ∧ n ≤ 7 := ⟨(2 + r).toNat, by omega, by omega, by omega⟩
    dsimp only
    rw [en]
    have e24 : (24 : Int).toNat = 24 := rfl
    -- Plan(24, nodes=.., slots=30), Image.fresh
    refine ⟨_, rfl, rfl, rfl, fun px pdx npx npdx ned => ?_⟩
    refine ⟨px, pdx, 24, n, 30, rfl, upd_same, by decide, by decide, by omega, by omega, by decide, by decide, (by show 2 ≤ (24 : Int) - (5 + (n : Int)); omega), rfl, ?_⟩
    have Pl : PlanAt T.C_Plan (upd (upd (upd (upd H1 fa (.lst (f1.map V.int))) pdx (.own px)) px (.ins T.C_Plan pdx [])) px (.ins T.C_Plan pdx (planF 24 (n : Int) 30))) px 24 (n : Int) 30 :=
      ⟨⟨pdx, upd_same⟩, by decide, by decide, by omega, by omega, by decide, by decide, (by show 2 ≤ (24 : Int) - (5 + (n : Int)); omega)⟩
    have Fp : (upd (upd (upd (upd H1 fa (.lst (f1.map V.int))) pdx (.own px)) px (.ins T.C_Plan pdx [])) px (.ins T.C_Plan pdx (planF 24 (n : Int) 30))) fa = some (.lst (f1.map V.int)) := by
      have a1 : fa ≠ px := unn' npx
      have a2 : fa ≠ pdx := unn' npdx
      rw [upd_ne a1, upd_ne a1, upd_ne a2, upd_same]
    generalize upd (upd (upd (upd H1 fa (.lst (f1.map V.int))) pdx (.own px)) px (.ins T.C_Plan pdx [])) px (.ins T.C_Plan pdx (planF 24 (n : Int) 30)) = H2 at Pl Fp ⊢
    refine ⟨px, 24, n, 30, rfl, Pl, fun H3 im A S3 nim I3 N3 eA => ?_⟩
    have F3 := S3 _ _ Fp
    have hfa : ∀ y, H2 y = none → y ≠ fa := fun y e => (ne_of_none Fp e).symm
    -- the table
    refine ⟨_, rfl, _, _, rfl, rfl, _, rfl, by omega, by omega, fun ta hta => ?_⟩
    refine lc_range (lo := 0) (n := ((n : Int) + 1).toNat) (fun i H' => ∃ qs, NewGrid H3 H' ta qs (List.replicate i z8)) ⟨[], NewGrid.start (Same.refl _) hta hta⟩ ?_ ?_
    · rintro i H' hi ⟨qs, G⟩
      refine ⟨rfl, ?_⟩
      refine yes_ ?_
      refine ⟨(by show 8 ≤ sizeLine; decide), fun q hq => ?_⟩
      refine ⟨_, by rw [upd_ne (ne_of_none G.grid.out hq)]; exact G.grid.out, ?_, qs ++ [q], ?_⟩
      · rw [List.length_map, G.grid.len, List.length_replicate]
        exact small1000 (by omega)
      · rw [List.replicate_succ']
        exact G.snoc (same_upd hq) hq upd_same
    rintro H4 ⟨ts0, G4⟩
    rw [show ((n : Int) + 1).toNat = n + 1 by omega] at G4
    have I4 := I3.keep G4.same
    -- _law_table[1] = ..
    refine ⟨(by show 8 ≤ sizeLine; decide), fun p hp => ?_⟩
    have S5' := same_upd (o := .lst [.int 2, .int 1, .int 0, .int 0, .int 0, .int 0, .int 0, .int 1]) hp
    have G5 := G4.grid.swap (i := 1) (m := root8) S5' hp upd_same
    refine ⟨_, rfl, ta, _, _, 1, rfl, rfl, S5' _ _ G4.grid.out, ixN_nat rfl (by rw [List.length_map, G4.grid.len, List.length_replicate]; omega), ?_⟩
    have I5 := (I4.keep S5').otherL (xs := (ts0.map V.ref).set 1 (V.ref p)) (S5' _ _ G4.grid.out) (ne_of_none I3.gr.out hta).symm (ne_of_none I3.ho hta).symm (ne_of_none I3.st hta).symm (I3.fresh_n hta).2.2.2.2.2
    have nfta : fa ≠ ta := ne_of_none F3 hta
    have F5 : (upd (upd H4 p (.lst [.int 2, .int 1, .int 0, .int 0, .int 0, .int 0, .int 0, .int 1])) ta (.lst ((ts0.map V.ref).set 1 (V.ref p)))) fa = some (.lst (f1.map V.int)) := by
      rw [upd_ne nfta]
      exact S5' _ _ (G4.same _ _ F3)
    change Grid (upd (upd H4 p (.lst [.int 2, .int 1, .int 0, .int 0, .int 0, .int 0, .int 0, .int 1])) ta (.lst ((ts0.map V.ref).set 1 (V.ref p)))) _ _ _ at G5
    generalize upd (upd H4 p (.lst [.int 2, .int 1, .int 0, .int 0, .int 0, .int 0, .int 0, .int 1])) ta (.lst ((ts0.map V.ref).set 1 (V.ref p))) = H5 at G5 I5 F5 ⊢
    have hts : ∀ q ∈ ts0.set 1 p, H3 q = none := fun q hq => by
      rcases mem_set_of hq with z | z
      · rw [z]; exact G4.same.free hp
      · exact G4.fresh q z
    have X5 : S5 T.C_Image T.C_Plan H5 im A (ofV 24 (n : Int) (freshM 24 (n : Int)) (24 : Int).toNat) n 30 ta (ts0.set 1 p) ((List.replicate (n + 1) z8).set 1 root8) fa f1 :=
      { I := I5, GT := G5, R := tab0 n1 n2, hT := (by rw [List.length_set, List.length_replicate]; omega), F := F5,
        a1 := (ne_of_none I3.gr.out hta).symm, a2 := (ne_of_none I3.ho hta).symm, a3 := (ne_of_none I3.st hta).symm, a4 := (I3.fresh_n hta).2.2.2.2.2,
        b1 := (hfa _ N3.ca).symm, b2 := (hfa _ N3.ho).symm, b3 := (hfa _ N3.st).symm, b4 := fun z => hfa _ (N3.rs _ z) rfl, b5 := nfta, b6 := fun z => (by rw [hts _ z] at F3; cases F3),
        c1 := fun q hq => ⟨(ne_of_none I3.gr.out (hts q hq)).symm, (ne_of_none I3.ho (hts q hq)).symm, (ne_of_none I3.st (hts q hq)).symm, (I3.fresh_n (hts q hq)).2.2.2.2.2⟩,
        rt := root0 n1 n2 }
    generalize ofV 24 (n : Int) (freshM 24 (n : Int)) (24 : Int).toNat = v0 at X5
    -- _law_kept
    have lcgrid : ∀ (H6 : Hp) (v : IV) (D : Addr), ImgAt T.C_Image T.C_Plan H6 im A v 24 n 30 → H6 D = none → ∀ (Qd : Hp → Prop), (∀ H7 qs, NewGrid H6 H7 D qs v.M → Qd H7) → True := fun _ _ _ _ _ _ _ => trivial
    refine ⟨_, rfl, im, _, _, _, _, rfl, X5.I.ob, T.cl_Image, T.na_Image_cells, rfl, A.ca, rfl, ⟨_, .of X5.I.gr.out⟩, fun ka hka => ?_⟩
    refine lc_list (K := K) (a := A.ca) (xs := A.rs.map V.ref) (fun i H' => ∃ qs, NewGrid H5 H' ka qs (v0.M.take i))
      ⟨[], NewGrid.start (Same.refl _) hka hka⟩ (fun i H' _ ⟨qs, G⟩ => .of (G.same _ _ X5.I.gr.out)) ?_ ?_
    · rintro i y H' hi ⟨qs, G⟩
      have hil : i < A.rs.length := by
        have := (List.getElem?_eq_some_iff.mp hi).1
        rw [List.length_map] at this
        exact this
      rw [List.getElem?_map, List.getElem?_eq_getElem hil] at hi
      have hi : V.ref A.rs[i] = y := Option.some.inj hi
      subst hi
      have hiR : i < v0.M.length := by rw [← X5.I.gr.len]; exact hil
      have hrow := G.same _ _ (X5.I.gr.row i A.rs[i] v0.M[i] (List.getElem?_eq_getElem hil) (List.getElem?_eq_getElem hiR))
      have d0 := X5.I.d0
      refine ⟨rfl, ?_⟩
      refine yes_ ?_
      refine ⟨_, rfl, A.rs[i], _, rfl, .inl (.of hrow), fun q hq => ?_⟩
      refine ⟨_, by rw [upd_ne (ne_of_none G.grid.out hq)]; exact G.grid.out, ?_, qs ++ [q], ?_⟩
      · rw [List.length_map, G.grid.len, List.length_take]
        exact small1000 (by omega)
      · rw [List.take_succ, List.getElem?_eq_getElem hiR]
        exact G.snoc (same_upd hq) hq upd_same
    rintro H6 ⟨ks, G6⟩
    rw [List.length_map, X5.I.gr.len, List.take_length] at G6
    have X6 := X5.same G6.same
    have V6 : Inv5 T.C_Image T.C_Plan H6 im A n 30 ta fa ka ks v0.M v0 (ts0.set 1 p) ((List.replicate (n + 1) z8).set 1 root8) f1 :=
      ⟨X6, Oth.refl, G6.grid, X5.apart hka, fun q hq => X5.apart (G6.fresh q hq)⟩
    -- the first look
    refine ⟨_, rfl, _, rfl, _, rfl, im, A, v0, n, 30, ta, _, _, rfl, X6.I, X6.GT, X6.R, X6.hT, fun H7 S7 => ⟨_, rfl, iteF ?_⟩⟩
    have V7 : Inv5 T.C_Image T.C_Plan H7 im A n 30 ta fa ka ks v0.M v0 (ts0.set 1 p) ((List.replicate (n + 1) z8).set 1 root8) f1 :=
      ⟨X6.same S7, V6.O, V6.G.same S7, V6.x1, V6.x2⟩
    -- the loop
    refine ⟨_, rfl, fa, f1, 30, rfl, V7.S.F, by decide, fun r2 f2 r20 r21 fl2 => ?_⟩
    have V8 : Inv5 T.C_Image T.C_Plan (upd H7 fa (.lst (f2.map V.int))) im A n 30 ta fa ka ks v0.M v0 (ts0.set 1 p) ((List.replicate (n + 1) z8).set 1 root8) f2 :=
      ⟨V7.S.feed f2, V7.O, V7.G.other (fun z => V7.x1 (by rw [← z]; simp)) (fun z => V7.x2 fa z (by simp)), V7.x1, V7.x2⟩
    refine ⟨_, _, rfl, rfl, _, rfl, by omega, by omega, for_range (lo := 0) (n := (1 + r2).toNat) (fun i σ H' => ∃ (v : IV) (ts : List Addr) (Tb : List (List Int)) (fs : List Int) (u5 u7 u8 u9 u10 u11 u12 u13 u14 u15 : Option V), σ = [some (.ref a), some (.ref fa), some (.int n), some (.ref im), some (.ref ta), u5, some (.ref ka), u7, u8, u9, u10, u11, u12, u13, u14, u15] ∧ Inv5 T.C_Image T.C_Plan H' im A n 30 ta fa ka ks v0.M v ts Tb fs)
      ⟨v0, _, _, f2, _, _, _, _, _, _, _, _, _, _, rfl, V8⟩ ?_ ?_⟩
    · rintro i σ H' hi ⟨v, ts, Tb, fs, u5, u7, u8, u9, u10, u11, u12, u13, u14, u15, rfl, Z⟩
      have nI := Z.S.I.pl.n2
      -- _law_before
      refine ⟨_, rfl, im, _, _, _, _, rfl, Z.S.I.ob, T.cl_Image, T.na_Image_cells, rfl, A.ca, rfl, ⟨_, .of Z.S.I.gr.out⟩, fun D hD => ?_⟩
      refine lc_list (K := K) (a := A.ca) (xs := A.rs.map V.ref) (fun i H2 => ∃ qs, NewGrid H' H2 D qs (v.M.take i))
        ⟨[], NewGrid.start (Same.refl _) hD hD⟩ (fun i H2 _ ⟨qs, G⟩ => .of (G.same _ _ Z.S.I.gr.out)) ?_ ?_
      · rintro i y H2 hi ⟨qs, G⟩
        have hil : i < A.rs.length := by
          have := (List.getElem?_eq_some_iff.mp hi).1
          rw [List.length_map] at this
          exact this
        rw [List.getElem?_map, List.getElem?_eq_getElem hil] at hi
        have hi : V.ref A.rs[i] = y := Option.some.inj hi
        subst hi
        have hiR : i < v.M.length := by rw [← Z.S.I.gr.len]; exact hil
        have hrow := G.same _ _ (Z.S.I.gr.row i A.rs[i] v.M[i] (List.getElem?_eq_getElem hil) (List.getElem?_eq_getElem hiR))
        have d0 := Z.S.I.d0
        refine ⟨rfl, ?_⟩
        refine yes_ ?_
        refine ⟨_, rfl, A.rs[i], _, rfl, .inl (.of hrow), fun q hq => ?_⟩
        refine ⟨_, by rw [upd_ne (ne_of_none G.grid.out hq)]; exact G.grid.out, ?_, qs ++ [q], ?_⟩
        · rw [List.length_map, G.grid.len, List.length_take]
          exact small1000 (by omega)
        · rw [List.take_succ, List.getElem?_eq_getElem hiR]
          exact G.snoc (same_upd hq) hq upd_same
      rintro H1 ⟨qs, G1⟩
      rw [List.length_map, Z.S.I.gr.len, List.take_length] at G1
      -- _law_twin
      refine ⟨_, rfl, im, _, _, rfl, (Z.S.I.keep G1.same).ob, rfl, im, A, v, 24, n, 30, rfl, Z.S.I.keep G1.same, fun H2 it B S2 nit I2 N2 eB1 eB2 => ?_⟩
      have Z2 : Inv5 T.C_Image T.C_Plan H2 im A n 30 ta fa ka ks v0.M v ts Tb fs := ⟨Z.S.same (G1.same.trans S2), Z.O, Z.G.same (G1.same.trans S2), Z.x1, Z.x2⟩
      have G2 := G1.grid.same S2
      have dD : D ∉ ta :: fa :: (A.rs ++ ts) := Z.S.apart G1.freshD
      have dq : ∀ q ∈ qs, q ∉ ta :: fa :: (A.rs ++ ts) := fun q hq => Z.S.apart (G1.fresh q hq)
      have X1 := Z.S.same G1.same
      have dit : it ∉ ta :: fa :: (A.rs ++ ts) := X1.apart nit
      have dca : B.ca ∉ ta :: fa :: (A.rs ++ ts) := X1.apart N2.ca
      have drs : ∀ q ∈ B.rs, q ∉ ta :: fa :: (A.rs ++ ts) := fun q hq => X1.apart (N2.rs q hq)
      -- the two picks
      refine ⟨_, rfl, fa, fs, 8, rfl, Z2.S.F, by decide, fun ch fs1 ch0 ch8 lf1 => ?_⟩
      refine ⟨_, rfl, _, rfl, _, _, rfl, rfl, fa, fs1, (n : Int) - 1, rfl, upd_same, by omega, fun pn fs2 pn0 pn1 lf2 => ?_⟩
      rw [upd_upd]
      refine ⟨_, _, rfl, rfl, ?_⟩
      have Z3 : Inv5 T.C_Image T.C_Plan (upd H2 fa (.lst (fs2.map V.int))) im A n 30 ta fa ka ks v0.M v ts Tb fs2 :=
        ⟨Z2.S.feed fs2, Z2.O, Z2.G.other (fun z => Z2.x1 (by rw [← z]; simp)) (fun z => Z2.x2 fa z (by simp)), Z2.x1, Z2.x2⟩
      have k3 : Kp (ta :: fa :: (A.rs ++ ts)) H2 (upd H2 fa (.lst (fs2.map V.int))) := Kp.refl.own (by simp)
      generalize upd H2 fa (.lst (fs2.map V.int)) = H3 at Z3 k3 ⊢
      obtain ⟨m, em, m1, m2⟩ : ∃ m : Nat, 2 + pn = m ∧ 2 ≤ m ∧ m ≤ n := ⟨(2 + pn).toNat, by omega, by omega, by omega⟩
      dsimp only
      rw [em]
      -- what every way leaves
      have fin : ∀ H4, Stp T.C_Image T.C_Plan H3 im A v n 30 ta ts fa H4 → (∃ v' ts' Tb' fs', Inv5 T.C_Image T.C_Plan H4 im A n 30 ta fa ka ks v0.M v' ts' Tb' fs') ∧ Grid H4 D qs v.M ∧ Grid H4 B.ca B.rs v.M ∧ H4 it = some (.ins T.C_Image B.dx (imgF B v)) := fun H4 st => by
        obtain ⟨v', ts', Tb', fs', V', K'⟩ := Z3.step (Same.refl _) st
        have k4 := k3.trans K'
        refine ⟨⟨v', ts', Tb', fs', V'⟩, G2.keep fun x o hx e => k4 _ _ e ?_, I2.gr.keep fun x o hx e => k4 _ _ e ?_, k4 _ _ I2.ob dit⟩
        · rcases hx with rfl | hx
          · exact dD
          · exact dq x hx
        · rcases hx with rfl | hx
          · exact dca
          · exact drs x hx
      have hT := Z3.S.hT
      -- a table's row and the image's
      have rowOf : ∀ j : Nat, 1 ≤ j → j ≤ n → ∃ row qr, Tb[j]? = some row ∧ v.M[nrow 24 (j : Int)]? = some row ∧ row.length = 8 ∧ ts[j]? = some qr ∧ H3 qr = some (.lst (row.map V.int)) := fun j j1 j2 => by
        obtain ⟨r, row, e1, e2, e3, e4⟩ := Z3.S.I.node (m := (j : Int)) (by omega) (by omega)
        have : Tb[j]? = some row := by rw [Z3.S.R j j1 (by omega), ← nrow24n j1]; exact e2
        obtain ⟨qr, q1, q2, _⟩ := Z3.S.GT.get this
        exact ⟨row, qr, this, e2, e3, q1, q2⟩
      refine ⟨fun σ' H4 => ∃ (u5 u7 u8 u11 u12 u13 u14 u15 : Option V), σ' = [some (.ref a), some (.ref fa), some (.int n), some (.ref im), some (.ref ta), u5, some (.ref ka), u7, u8, some (.ref D), some (.ref it), u11, u12, u13, u14, u15] ∧ Stp T.C_Image T.C_Plan H3 im A v n 30 ta ts fa H4, ?_, ?_⟩
      · refine ⟨_, rfl, _, _, rfl, rfl, _, rfl, ite2 (fun c1 => ?_) (fun c1 => ?_)⟩
        · -- a node is made
          refine ⟨_, rfl, _, rfl, _, rfl, _, rfl, im, A, v, n, 30, ta, ts, Tb, fa, fs2, rfl, Z3.S, fun H4 st => ⟨_, rfl, iteF ?_⟩⟩
          exact ⟨_, _, _, _, _, _, _, _, rfl, st⟩
        · refine ⟨_, rfl, _, _, rfl, rfl, _, rfl, ite2 (fun c2 => ?_) (fun c2 => ?_)⟩
          · -- a node is unmade
            obtain ⟨row, qr, t1, t2, t3, t4, t5⟩ := rowOf m (by omega) m2
            refine ⟨_, rfl, _, rfl, im, A, v, 24, n, 30, m, rfl, Z3.S.I, by omega, by omega, fun H4 I4 k4 => ?_⟩
            refine ⟨rfl, _, rfl, iteNS rfl ?_⟩
            have e7 : cellAt v.M (nrow 24 (m : Int)) 7 = row[7]'(by omega) := cellAt_of t2 (List.getElem?_eq_getElem (by omega))
            rw [e7] at I4
            have tsn : ∀ q ∈ ts, q ∉ A.rs := fun q hq => (Z3.S.c1 q hq).2.2.2
            have G4 : Grid H4 ta ts Tb := Z3.S.GT.keep fun x o hx e => k4 _ _ e (by
              rcases hx with rfl | hx
              · exact Z3.S.a4
              · exact tsn x hx)
            have F4 := k4 _ _ Z3.S.F Z3.S.b4
            refine ⟨_, rfl, _, rfl, ta, _, _, .ref qr, rfl, rfl, .of G4.out, at_of (j := m) rfl (by rw [List.getElem?_map, t4]; rfl), qr, _, _, _, rfl, rfl, .of (k4 _ _ t5 (tsn _ (List.mem_of_getElem? t4))), at_of (j := 7) rfl (by rw [List.getElem?_map, List.getElem?_eq_getElem (show 7 < row.length by omega)]; rfl), (by show 8 ≤ sizeLine; decide), fun p hp => ?_⟩
            have S4 := same_upd (o := .lst [.int 0, .int 0, .int 0, .int 0, .int 0, .int 0, .int 0, .int (row[7]'(by omega))]) hp
            have G5 := G4.swap (i := m) (m := [0, 0, 0, 0, 0, 0, 0, row[7]'(by omega)]) S4 hp upd_same
            refine ⟨_, rfl, _, rfl, ta, _, _, m, rfl, rfl, S4 _ _ G4.out, ixN_nat rfl (by rw [List.length_map, G4.len]; omega), ?_⟩
            have I5 := (I4.keep S4).otherL (xs := (ts.map V.ref).set m (V.ref p)) (S4 _ _ G4.out) Z3.S.a1 Z3.S.a2 Z3.S.a3 Z3.S.a4
            have F5 : (upd (upd H4 p (.lst [.int 0, .int 0, .int 0, .int 0, .int 0, .int 0, .int 0, .int (row[7]'(by omega))])) ta (.lst ((ts.map V.ref).set m (V.ref p)))) fa = some (.lst (fs2.map V.int)) := by
              rw [upd_ne Z3.S.b5]
              exact S4 _ _ F4
            have K5 : Kp (ta :: fa :: (A.rs ++ ts)) H3 (upd (upd H4 p (.lst [.int 0, .int 0, .int 0, .int 0, .int 0, .int 0, .int 0, .int (row[7]'(by omega))])) ta (.lst ((ts.map V.ref).set m (V.ref p)))) := ((k4.mono fun x hx => by simp [hx]).same S4).own (by simp)
            have hp3 : H3 p = none := Kp.free (S := ta :: fa :: (A.rs ++ ts)) (k4.mono fun x hx => by simp [hx]) (fun z => by
              simp only [List.mem_cons, List.mem_append] at z
              rcases z with z | z | z | z
              · rw [z, G4.out] at hp; cases hp
              · rw [z, F4] at hp; cases hp
              · obtain ⟨o, y⟩ := I4.gr.held z; rw [hp] at y; cases y
              · obtain ⟨o, y⟩ := G4.held z; rw [hp] at y; cases y) hp
            have hts : ∀ x ∈ ts.set m p, x ∈ ts ∨ H3 x = none := fun x hx => by
              rcases mem_set_of hx with z1 | z1
              · subst z1; exact .inr hp3
              · exact .inl z1
            refine ⟨_, _, _, _, _, _, _, _, rfl, _, _, _, fs2, Z3.S.node (by omega) (by omega) I5 G5 F5 hts ?_, ?_, K5, hts⟩
            · rw [cellAt_set_ne (by rw [nrow24n (by omega)]; omega)]
              exact Z3.S.rt
            · dsimp only
              rw [nrow24n (by omega)]
              exact Oth.set (by omega) (by omega)
          · -- a cell of a made node
            refine ⟨_, rfl, _, _, rfl, rfl, 1, (n : Int) + 1, rfl, ⟨by omega, by omega, by omega, by omega⟩, fun L hL => ?_⟩
            refine lc_range (lo := 1) (n := ((n : Int) + 1 - 1).toNat) (fun i H4 => Same H3 H4 ∧ H4 L = some (.lst ((madeTo 24 v.M i).map V.int))) ⟨same_upd hL, upd_same⟩ ?_ ?_
            · rintro i H4 hi ⟨S4, e⟩
              obtain ⟨row, qr, t1, t2, t3, t4, t5⟩ := rowOf (i + 1) (by omega) (by omega)
              have h8 : 0 < row.length := by omega
              have hc : cellAt v.M (nrow 24 ((i : Int) + 1)) 0 = row[0] := by
                rw [show (i : Int) + 1 = ((i + 1 : Nat) : Int) by omega]
                exact cellAt_of t2 (List.getElem?_eq_getElem h8)
              refine ⟨rfl, ?_⟩
              refine ⟨_, rfl, _, rfl, ta, _, _, .ref qr, rfl, rfl, .of (S4 _ _ Z3.S.GT.out), at_of (j := i + 1) (by omega) (by rw [List.getElem?_map, t4]; rfl), qr, _, _, _, rfl, rfl, .of (S4 _ _ t5), at_of (j := 0) rfl (by rw [List.getElem?_map, List.getElem?_eq_getElem h8]; rfl), rfl, _, rfl, ?_⟩
              rw [dec_iv]
              by_cases hk : row[0] = 0
              · rw [hk]
                refine iteF ⟨S4, ?_⟩
                unfold madeTo
                rw [hc, if_pos hk, List.append_nil]
                exact e
              · rw [decide_eq_false hk]
                refine iteT ⟨_, rfl, _, e, ?_, fun y o z => ?_, ?_⟩
                · rw [List.length_map]
                  have := madeTo_len (b := 24) (M := v.M) i
                  exact small1000 (by omega)
                · rw [upd_ne (ne_of_none z hL)]
                  exact S4 _ _ z
                · rw [upd_same]
                  show _ = some (HO.lst (((madeTo 24 v.M i) ++ (if cellAt v.M (nrow 24 (i + 1)) 0 = 0 then [] else [(i : Int) + 1])).map V.int))
                  rw [hc, if_neg hk, List.map_append, show (1 : Int) + i = i + 1 by omega]
                  rfl
            rintro H4 ⟨S4, e⟩
            rw [show ((n : Int) + 1 - 1).toNat = n by omega] at e
            have X4 := Z3.S.same S4
            have ne := madeTo_ne Z3.S.rt (i := n) (by omega)
            have lpos : 0 < (madeTo 24 v.M n).length := List.length_pos_iff.mpr ne
            -- which
            have jb : 0 ≤ (m : Int) % ((madeTo 24 v.M n).length : Int) ∧ (m : Int) % ((madeTo 24 v.M n).length : Int) < ((madeTo 24 v.M n).length : Int) := ⟨Int.emod_nonneg _ (by omega), Int.emod_lt_of_pos _ (by omega)⟩
            obtain ⟨j, ej, jl⟩ : ∃ j : Nat, (m : Int) % ((madeTo 24 v.M n).length : Int) = j ∧ j < (madeTo 24 v.M n).length := ⟨((m : Int) % ((madeTo 24 v.M n).length : Int)).toNat, by omega, by omega⟩
            have lm : (((madeTo 24 v.M n).map V.int).length : Int) = ((madeTo 24 v.M n).length : Int) := by rw [List.length_map]
            refine ⟨_, rfl, _, rfl, .inl ⟨_, rfl, _, rfl, L, _, rfl, .inl (.of e), _, _, rfl, rfl, (by show (0 : Int) < _; rw [lm]; omega), L, _, _, .int ((madeTo 24 v.M n)[j]), rfl, rfl, .of e, at_of (j := j) (by rw [lm]; exact ej) (by rw [List.getElem?_map, List.getElem?_eq_getElem jl]; rfl), ?_⟩⟩
            have hmem := madeTo_mem (List.getElem_mem jl)
            obtain ⟨q, eq, q1, q2⟩ : ∃ q : Nat, (madeTo 24 v.M n)[j] = q ∧ 1 ≤ q ∧ q ≤ n := ⟨((madeTo 24 v.M n)[j]).toNat, by omega, by omega, by omega⟩
            rw [eq]
            obtain ⟨row, qr, t1, t2, t3, t4, t5⟩ := rowOf q q1 q2
            -- field and value
            refine ⟨_, rfl, fa, fs2, 3, rfl, X4.F, by decide, fun pf fs3 pf0 pf3 lf3 => ?_⟩
            refine ⟨_, _, rfl, rfl, ?_⟩
            refine ⟨_, rfl, fa, fs3, 1000, rfl, upd_same, by decide, fun x fs4 x0 x1 lf4 => ?_⟩
            rw [upd_upd]
            have X5 := X4.feed fs4
            have k5 : Kp (ta :: fa :: (A.rs ++ ts)) H3 (upd H4 fa (.lst (fs4.map V.int))) := (Kp.of S4).own (by simp)
            have qr4 : (upd H4 fa (.lst (fs4.map V.int))) qr = some (.lst (row.map V.int)) := by
              rw [upd_ne (fun z => Z3.S.b6 (by rw [← z]; exact List.mem_of_getElem? t4))]
              exact S4 _ _ t5
            generalize upd H4 fa (.lst (fs4.map V.int)) = H5 at X5 k5 qr4 ⊢
            obtain ⟨f, ef, f1', f2'⟩ : ∃ f : Nat, 1 + pf = f ∧ 1 ≤ f ∧ f ≤ 3 := ⟨(1 + pf).toNat, by omega, by omega, by omega⟩
            dsimp only
            rw [ef]
            refine ⟨_, rfl, _, rfl, _, rfl, _, rfl, im, A, v, 24, n, 30, q, f, x, rfl, X5.I, by omega, by omega, by omega, by omega, fun H6 I6 k6 => ?_⟩
            refine ⟨rfl, _, rfl, iteNS rfl ?_⟩
            have tsn : ∀ y ∈ ts, y ∉ A.rs := fun y hy => (Z3.S.c1 y hy).2.2.2
            have G6 : Grid H6 ta ts Tb := X5.GT.keep fun y o hy z => k6 _ _ z (by
              rcases hy with rfl | hy
              · exact Z3.S.a4
              · exact tsn y hy)
            have F6 := k6 _ _ X5.F X5.b4
            have qin := List.mem_of_getElem? t4
            refine ⟨_, rfl, _, rfl, ta, _, _, .ref qr, rfl, rfl, .of G6.out, at_of (j := q) rfl (by rw [List.getElem?_map, t4]; rfl), ?_⟩
            refine ⟨_, rfl, _, rfl, _, rfl, qr, _, _, f, rfl, rfl, k6 _ _ qr4 (tsn _ qin), ixN_nat rfl (by rw [List.length_map]; omega), ?_⟩
            rw [set_map_int row f x]
            have hq := Z3.S.c1 qr qin
            have I7 := I6.otherL (xs := (row.set f x).map V.int) (k6 _ _ qr4 (tsn _ qin)) hq.1 hq.2.1 hq.2.2.1 hq.2.2.2
            have G7 := G6.put (m := row.set f x) t4
            have nf : fa ≠ qr := fun z => Z3.S.b6 (by rw [z]; exact qin)
            have F7 : (upd H6 qr (.lst ((row.set f x).map V.int))) fa = some (.lst (fs4.map V.int)) := by
              rw [upd_ne nf]
              exact F6
            have K7 : Kp (ta :: fa :: (A.rs ++ ts)) H3 (upd H6 qr (.lst ((row.set f x).map V.int))) := (k5.trans (k6.mono fun y hy => by simp [hy])).own (by simp [qin])
            have eM : setC v.M (nrow 24 (q : Int)) (f : Int).toNat x = v.M.set (nrow 24 (q : Int)) (row.set f x) := by
              unfold setC
              rw [t2]
              rfl
            rw [eM] at I7
            refine ⟨_, _, _, _, _, _, _, _, rfl, _, _, _, fs4, X5.node (by omega) (by omega) I7 G7 F7 (fun y hy => .inl hy) ?_, ?_, K7, fun y hy => .inl hy⟩
            · by_cases e1 : nrow 24 (q : Int) = 5
              · have t2' := t2
                rw [e1] at t2' ⊢
                rw [cellAt_of (List.getElem?_set_self (List.getElem?_eq_some_iff.mp t2').1) (x := row[0]'(by omega)) (by rw [List.getElem?_set_ne (by omega), List.getElem?_eq_getElem])]
                have := Z3.S.rt
                rw [cellAt_of t2' (List.getElem?_eq_getElem (by omega))] at this
                exact this
              · rw [cellAt_set_ne e1]
                exact Z3.S.rt
            · dsimp only
              rw [nrow24n (by omega)]
              exact Oth.set (by omega) (by omega)
      · rintro σ' H4 ⟨u5, u7, u8, u11, u12, u13, u14, u15, rfl, st⟩
        obtain ⟨⟨v', ts', Tb', fs', V'⟩, GD, GB, Eit⟩ := fin H4 st
        refine ⟨_, rfl, _, rfl, _, rfl, im, A, v', n, 30, ta, ts', Tb', rfl, V'.S.I, V'.S.GT, V'.S.R, V'.S.hT, fun H5 S5' => ⟨_, rfl, iteF ?_⟩⟩
        refine ⟨_, rfl, _, rfl, _, rfl, im, A, v', n, 30, ka, ks, v0.M, rfl, V'.S.I.keep S5', V'.G.same S5', V'.O, _, rfl, iteF ?_⟩
        refine ⟨_, rfl, it, _, _, _, _, rfl, S5' _ _ Eit, T.cl_Image, T.na_Image_cells, rfl, _, rfl, dG v.M, dG v.M, dpG (GB.same S5'), dpG (GD.same S5'), shG _, shG _, _, rfl, ?_⟩
        rw [eqG]
        exact iteF ⟨v', ts', Tb', fs', _, _, _, _, _, _, _, _, _, _, rfl, V'.S.same S5', V'.O, V'.G.same S5', V'.x1, V'.x2⟩
    · rintro σ H' ⟨v, ts, Tb, fs, u5, u7, u8, u9, u10, u11, u12, u13, u14, u15, rfl, Z⟩
      exact k H'
end
end K05

namespace K05
open PySem PySem.Spec PyProof.Rows L2 Rg
theorem law_binds {K : PySem.W.Frag} {mg : Str → Option Value} (T : Tx K mg) (s : Shared) (v : Value) : BindsTo s T.fd_law ⟨[v], []⟩ [("_law_script", v)] := by
  obtain ⟨oc, od, kV, doc, pm, an, cdv, ct, osl, e, lk, hcd⟩ := T.F_law.ex
  rw [e]
  exact .of_eq rfl
theorem fin_F {P : Program} {w : World} {K : PySem.W.Frag} {mg : Str → Option Value} {fa : Addr} (z : Nonempty (Tx K mg)) (hmg : mg "law" = some (.ref fa)) :
    ∃ fd : FuncData, (∀ (s : Shared) (u : Value), BindsTo s fd ⟨[u], []⟩ [("_law_script", u)]) ∧ ∀ base : Heap, K.In base → base.Ns mainGlobals mg → FnOk P w K mg base CX0 7 fa fd ["_law_script"] (sp_law K) := by
  obtain ⟨T⟩ := z
  have e : T.f_law = fa := Value.ref.inj (Option.some.inj (T.mg_law.symm.trans hmg))
  subst e
  exact ⟨T.fd_law, fun s v => law_binds T s v, fun base _ _ => ok_law T⟩
theorem all_mk {w : World} {K : PySem.W.Frag} {h : Heap} {mg : Str → Option Value} (X : K.In h) (G : h.Ns mainGlobals mg)
    {a_node_cell : Addr}
    {od_node_cell an_node_cell : Option Addr} {sl_node_cell : Array (Option Value)} {oc_node_cell kV_node_cell dc_node_cell pm_node_cell cd_node_cell ct_node_cell : Value}
    (l_node_cell : K.lookup a_node_cell = some ⟨oc_node_cell, od_node_cell, .func (PySem.W.fnOf "node_cell" "node_cell" (defArgs s_node_cell) (defBody s_node_cell) (defScope s_node_cell) .none kV_node_cell dc_node_cell pm_node_cell an_node_cell cd_node_cell ct_node_cell), sl_node_cell⟩)
    (c_node_cell : PySem.W.codeIn K cd_node_cell "node_cell" = true)
    (k_node_cell : PySem.W.keepIn K (.ref a_node_cell) = true)
    (g_node_cell : PySem.W.nsIn K mainGlobals "node_cell" = some (some (.ref a_node_cell)))
    {a_put_node_cell : Addr}
    {od_put_node_cell an_put_node_cell : Option Addr} {sl_put_node_cell : Array (Option Value)} {oc_put_node_cell kV_put_node_cell dc_put_node_cell pm_put_node_cell cd_put_node_cell ct_put_node_cell : Value}
    (l_put_node_cell : K.lookup a_put_node_cell = some ⟨oc_put_node_cell, od_put_node_cell, .func (PySem.W.fnOf "put_node_cell" "put_node_cell" (defArgs s_put_node_cell) (defBody s_put_node_cell) (defScope s_put_node_cell) .none kV_put_node_cell dc_put_node_cell pm_put_node_cell an_put_node_cell cd_put_node_cell ct_put_node_cell), sl_put_node_cell⟩)
    (c_put_node_cell : PySem.W.codeIn K cd_put_node_cell "put_node_cell" = true)
    (k_put_node_cell : PySem.W.keepIn K (.ref a_put_node_cell) = true)
    (g_put_node_cell : PySem.W.nsIn K mainGlobals "put_node_cell" = some (some (.ref a_put_node_cell)))
    {a_is_made : Addr}
    {od_is_made an_is_made : Option Addr} {sl_is_made : Array (Option Value)} {oc_is_made kV_is_made dc_is_made pm_is_made cd_is_made ct_is_made : Value}
    (l_is_made : K.lookup a_is_made = some ⟨oc_is_made, od_is_made, .func (PySem.W.fnOf "is_made" "is_made" (defArgs s_is_made) (defBody s_is_made) (defScope s_is_made) .none kV_is_made dc_is_made pm_is_made an_is_made cd_is_made ct_is_made), sl_is_made⟩)
    (c_is_made : PySem.W.codeIn K cd_is_made "is_made" = true)
    (k_is_made : PySem.W.keepIn K (.ref a_is_made) = true)
    (g_is_made : PySem.W.nsIn K mainGlobals "is_made" = some (some (.ref a_is_made)))
    {a_made_nodes : Addr}
    {od_made_nodes an_made_nodes : Option Addr} {sl_made_nodes : Array (Option Value)} {oc_made_nodes kV_made_nodes dc_made_nodes pm_made_nodes cd_made_nodes ct_made_nodes : Value}
    (l_made_nodes : K.lookup a_made_nodes = some ⟨oc_made_nodes, od_made_nodes, .func (PySem.W.fnOf "made_nodes" "made_nodes" (defArgs s_made_nodes) (defBody s_made_nodes) (defScope s_made_nodes) .none kV_made_nodes dc_made_nodes pm_made_nodes an_made_nodes cd_made_nodes ct_made_nodes), sl_made_nodes⟩)
    (c_made_nodes : PySem.W.codeIn K cd_made_nodes "made_nodes" = true)
    (k_made_nodes : PySem.W.keepIn K (.ref a_made_nodes) = true)
    (g_made_nodes : PySem.W.nsIn K mainGlobals "made_nodes" = some (some (.ref a_made_nodes)))
    {a_make_node : Addr}
    {od_make_node an_make_node : Option Addr} {sl_make_node : Array (Option Value)} {oc_make_node kV_make_node dc_make_node pm_make_node cd_make_node ct_make_node : Value}
    (l_make_node : K.lookup a_make_node = some ⟨oc_make_node, od_make_node, .func (PySem.W.fnOf "make_node" "make_node" (defArgs s_make_node) (defBody s_make_node) (defScope s_make_node) .none kV_make_node dc_make_node pm_make_node an_make_node cd_make_node ct_make_node), sl_make_node⟩)
    (c_make_node : PySem.W.codeIn K cd_make_node "make_node" = true)
    (k_make_node : PySem.W.keepIn K (.ref a_make_node) = true)
    (g_make_node : PySem.W.nsIn K mainGlobals "make_node" = some (some (.ref a_make_node)))
    {a_unmake_node : Addr}
    {od_unmake_node an_unmake_node : Option Addr} {sl_unmake_node : Array (Option Value)} {oc_unmake_node kV_unmake_node dc_unmake_node pm_unmake_node cd_unmake_node ct_unmake_node : Value}
    (l_unmake_node : K.lookup a_unmake_node = some ⟨oc_unmake_node, od_unmake_node, .func (PySem.W.fnOf "unmake_node" "unmake_node" (defArgs s_unmake_node) (defBody s_unmake_node) (defScope s_unmake_node) .none kV_unmake_node dc_unmake_node pm_unmake_node an_unmake_node cd_unmake_node ct_unmake_node), sl_unmake_node⟩)
    (c_unmake_node : PySem.W.codeIn K cd_unmake_node "unmake_node" = true)
    (k_unmake_node : PySem.W.keepIn K (.ref a_unmake_node) = true)
    (g_unmake_node : PySem.W.nsIn K mainGlobals "unmake_node" = some (some (.ref a_unmake_node)))
    {a_Lfeed : Addr}
    {od_Lfeed an_Lfeed : Option Addr} {sl_Lfeed : Array (Option Value)} {oc_Lfeed kV_Lfeed dc_Lfeed pm_Lfeed cd_Lfeed ct_Lfeed : Value}
    (l_Lfeed : K.lookup a_Lfeed = some ⟨oc_Lfeed, od_Lfeed, .func (PySem.W.fnOf "_law_feed" "_law_feed" (defArgs s_Lfeed) (defBody s_Lfeed) (defScope s_Lfeed) .none kV_Lfeed dc_Lfeed pm_Lfeed an_Lfeed cd_Lfeed ct_Lfeed), sl_Lfeed⟩)
    (c_Lfeed : PySem.W.codeIn K cd_Lfeed "_law_feed" = true)
    (k_Lfeed : PySem.W.keepIn K (.ref a_Lfeed) = true)
    (g_Lfeed : PySem.W.nsIn K mainGlobals "_law_feed" = some (some (.ref a_Lfeed)))
    {a_Lpick : Addr}
    {od_Lpick an_Lpick : Option Addr} {sl_Lpick : Array (Option Value)} {oc_Lpick kV_Lpick dc_Lpick pm_Lpick cd_Lpick ct_Lpick : Value}
    (l_Lpick : K.lookup a_Lpick = some ⟨oc_Lpick, od_Lpick, .func (PySem.W.fnOf "_law_pick" "_law_pick" (defArgs s_Lpick) (defBody s_Lpick) (defScope s_Lpick) .none kV_Lpick dc_Lpick pm_Lpick an_Lpick cd_Lpick ct_Lpick), sl_Lpick⟩)
    (c_Lpick : PySem.W.codeIn K cd_Lpick "_law_pick" = true)
    (k_Lpick : PySem.W.keepIn K (.ref a_Lpick) = true)
    (g_Lpick : PySem.W.nsIn K mainGlobals "_law_pick" = some (some (.ref a_Lpick)))
    {a_Linteger : Addr}
    {od_Linteger an_Linteger : Option Addr} {sl_Linteger : Array (Option Value)} {oc_Linteger kV_Linteger dc_Linteger pm_Linteger cd_Linteger ct_Linteger : Value}
    (l_Linteger : K.lookup a_Linteger = some ⟨oc_Linteger, od_Linteger, .func (PySem.W.fnOf "_law_integer" "_law_integer" (defArgs s_Linteger) (defBody s_Linteger) (defScope s_Linteger) .none kV_Linteger dc_Linteger pm_Linteger an_Linteger cd_Linteger ct_Linteger), sl_Linteger⟩)
    (c_Linteger : PySem.W.codeIn K cd_Linteger "_law_integer" = true)
    (k_Linteger : PySem.W.keepIn K (.ref a_Linteger) = true)
    (g_Linteger : PySem.W.nsIn K mainGlobals "_law_integer" = some (some (.ref a_Linteger)))
    {a_Lagrees : Addr}
    {od_Lagrees an_Lagrees : Option Addr} {sl_Lagrees : Array (Option Value)} {oc_Lagrees kV_Lagrees dc_Lagrees pm_Lagrees cd_Lagrees ct_Lagrees : Value}
    (l_Lagrees : K.lookup a_Lagrees = some ⟨oc_Lagrees, od_Lagrees, .func (PySem.W.fnOf "_law_agrees" "_law_agrees" (defArgs s_Lagrees) (defBody s_Lagrees) (defScope s_Lagrees) .none kV_Lagrees dc_Lagrees pm_Lagrees an_Lagrees cd_Lagrees ct_Lagrees), sl_Lagrees⟩)
    (c_Lagrees : PySem.W.codeIn K cd_Lagrees "_law_agrees" = true)
    (k_Lagrees : PySem.W.keepIn K (.ref a_Lagrees) = true)
    (g_Lagrees : PySem.W.nsIn K mainGlobals "_law_agrees" = some (some (.ref a_Lagrees)))
    {a_Lothers : Addr}
    {od_Lothers an_Lothers : Option Addr} {sl_Lothers : Array (Option Value)} {oc_Lothers kV_Lothers dc_Lothers pm_Lothers cd_Lothers ct_Lothers : Value}
    (l_Lothers : K.lookup a_Lothers = some ⟨oc_Lothers, od_Lothers, .func (PySem.W.fnOf "_law_others" "_law_others" (defArgs s_Lothers) (defBody s_Lothers) (defScope s_Lothers) .none kV_Lothers dc_Lothers pm_Lothers an_Lothers cd_Lothers ct_Lothers), sl_Lothers⟩)
    (c_Lothers : PySem.W.codeIn K cd_Lothers "_law_others" = true)
    (k_Lothers : PySem.W.keepIn K (.ref a_Lothers) = true)
    (g_Lothers : PySem.W.nsIn K mainGlobals "_law_others" = some (some (.ref a_Lothers)))
    {a_Lfull : Addr}
    {od_Lfull an_Lfull : Option Addr} {sl_Lfull : Array (Option Value)} {oc_Lfull kV_Lfull dc_Lfull pm_Lfull cd_Lfull ct_Lfull : Value}
    (l_Lfull : K.lookup a_Lfull = some ⟨oc_Lfull, od_Lfull, .func (PySem.W.fnOf "_law_full" "_law_full" (defArgs s_Lfull) (defBody s_Lfull) (defScope s_Lfull) .none kV_Lfull dc_Lfull pm_Lfull an_Lfull cd_Lfull ct_Lfull), sl_Lfull⟩)
    (c_Lfull : PySem.W.codeIn K cd_Lfull "_law_full" = true)
    (k_Lfull : PySem.W.keepIn K (.ref a_Lfull) = true)
    (g_Lfull : PySem.W.nsIn K mainGlobals "_law_full" = some (some (.ref a_Lfull)))
    {a_Lmake : Addr}
    {od_Lmake an_Lmake : Option Addr} {sl_Lmake : Array (Option Value)} {oc_Lmake kV_Lmake dc_Lmake pm_Lmake cd_Lmake ct_Lmake : Value}
    (l_Lmake : K.lookup a_Lmake = some ⟨oc_Lmake, od_Lmake, .func (PySem.W.fnOf "_law_make" "_law_make" (defArgs s_Lmake) (defBody s_Lmake) (defScope s_Lmake) .none kV_Lmake dc_Lmake pm_Lmake an_Lmake cd_Lmake ct_Lmake), sl_Lmake⟩)
    (c_Lmake : PySem.W.codeIn K cd_Lmake "_law_make" = true)
    (k_Lmake : PySem.W.keepIn K (.ref a_Lmake) = true)
    (g_Lmake : PySem.W.nsIn K mainGlobals "_law_make" = some (some (.ref a_Lmake)))
    {a_law : Addr}
    {od_law an_law : Option Addr} {sl_law : Array (Option Value)} {oc_law kV_law dc_law pm_law cd_law ct_law : Value}
    (l_law : K.lookup a_law = some ⟨oc_law, od_law, .func (PySem.W.fnOf "law" "law" (defArgs s_law) (defBody s_law) (defScope s_law) .none kV_law dc_law pm_law an_law cd_law ct_law), sl_law⟩)
    (c_law : PySem.W.codeIn K cd_law "law" = true)
    (k_law : PySem.W.keepIn K (.ref a_law) = true)
    (g_law : PySem.W.nsIn K mainGlobals "law" = some (some (.ref a_law)))
    {a_Plan___init__ : Addr}
    {od_Plan___init__ an_Plan___init__ : Option Addr} {sl_Plan___init__ : Array (Option Value)} {oc_Plan___init__ kV_Plan___init__ dc_Plan___init__ pm_Plan___init__ cd_Plan___init__ ct_Plan___init__ : Value}
    (l_Plan___init__ : K.lookup a_Plan___init__ = some ⟨oc_Plan___init__, od_Plan___init__, .func (PySem.W.fnOf "__init__" "Plan.__init__" (defArgs s_Plan___init__) (defBody s_Plan___init__) (defScope s_Plan___init__) .none kV_Plan___init__ dc_Plan___init__ pm_Plan___init__ an_Plan___init__ cd_Plan___init__ ct_Plan___init__), sl_Plan___init__⟩)
    (c_Plan___init__ : PySem.W.codeIn K cd_Plan___init__ "Plan.__init__" = true)
    (k_Plan___init__ : PySem.W.keepIn K (.ref a_Plan___init__) = true)
    {a_Plan_map_place : Addr}
    {od_Plan_map_place an_Plan_map_place : Option Addr} {sl_Plan_map_place : Array (Option Value)} {oc_Plan_map_place kV_Plan_map_place dc_Plan_map_place pm_Plan_map_place cd_Plan_map_place ct_Plan_map_place : Value}
    (l_Plan_map_place : K.lookup a_Plan_map_place = some ⟨oc_Plan_map_place, od_Plan_map_place, .func (PySem.W.fnOf "map_place" "Plan.map_place" (defArgs s_Plan_map_place) (defBody s_Plan_map_place) (defScope s_Plan_map_place) .none kV_Plan_map_place dc_Plan_map_place pm_Plan_map_place an_Plan_map_place cd_Plan_map_place ct_Plan_map_place), sl_Plan_map_place⟩)
    (c_Plan_map_place : PySem.W.codeIn K cd_Plan_map_place "Plan.map_place" = true)
    (k_Plan_map_place : PySem.W.keepIn K (.ref a_Plan_map_place) = true)
    {a_Plan_node_block : Addr}
    {od_Plan_node_block an_Plan_node_block : Option Addr} {sl_Plan_node_block : Array (Option Value)} {oc_Plan_node_block kV_Plan_node_block dc_Plan_node_block pm_Plan_node_block cd_Plan_node_block ct_Plan_node_block : Value}
    (l_Plan_node_block : K.lookup a_Plan_node_block = some ⟨oc_Plan_node_block, od_Plan_node_block, .func (PySem.W.fnOf "node_block" "Plan.node_block" (defArgs s_Plan_node_block) (defBody s_Plan_node_block) (defScope s_Plan_node_block) .none kV_Plan_node_block dc_Plan_node_block pm_Plan_node_block an_Plan_node_block cd_Plan_node_block ct_Plan_node_block), sl_Plan_node_block⟩)
    (c_Plan_node_block : PySem.W.codeIn K cd_Plan_node_block "Plan.node_block" = true)
    (k_Plan_node_block : PySem.W.keepIn K (.ref a_Plan_node_block) = true)
    {a_Image___init__ : Addr}
    {od_Image___init__ an_Image___init__ : Option Addr} {sl_Image___init__ : Array (Option Value)} {oc_Image___init__ kV_Image___init__ dc_Image___init__ pm_Image___init__ cd_Image___init__ ct_Image___init__ : Value}
    (l_Image___init__ : K.lookup a_Image___init__ = some ⟨oc_Image___init__, od_Image___init__, .func (PySem.W.fnOf "__init__" "Image.__init__" (defArgs s_Image___init__) (defBody s_Image___init__) (defScope s_Image___init__) .none kV_Image___init__ dc_Image___init__ pm_Image___init__ an_Image___init__ cd_Image___init__ ct_Image___init__), sl_Image___init__⟩)
    (c_Image___init__ : PySem.W.codeIn K cd_Image___init__ "Image.__init__" = true)
    (k_Image___init__ : PySem.W.keepIn K (.ref a_Image___init__) = true)
    {a_Image_twin : Addr}
    {od_Image_twin an_Image_twin : Option Addr} {sl_Image_twin : Array (Option Value)} {oc_Image_twin kV_Image_twin dc_Image_twin pm_Image_twin cd_Image_twin ct_Image_twin : Value}
    (l_Image_twin : K.lookup a_Image_twin = some ⟨oc_Image_twin, od_Image_twin, .func (PySem.W.fnOf "twin" "Image.twin" (defArgs s_Image_twin) (defBody s_Image_twin) (defScope s_Image_twin) .none kV_Image_twin dc_Image_twin pm_Image_twin an_Image_twin cd_Image_twin ct_Image_twin), sl_Image_twin⟩)
    (c_Image_twin : PySem.W.codeIn K cd_Image_twin "Image.twin" = true)
    (k_Image_twin : PySem.W.keepIn K (.ref a_Image_twin) = true)
    {a_Image_kind : Addr}
    {od_Image_kind an_Image_kind : Option Addr} {sl_Image_kind : Array (Option Value)} {oc_Image_kind kV_Image_kind dc_Image_kind pm_Image_kind cd_Image_kind ct_Image_kind : Value}
    (l_Image_kind : K.lookup a_Image_kind = some ⟨oc_Image_kind, od_Image_kind, .func (PySem.W.fnOf "kind" "Image.kind" (defArgs s_Image_kind) (defBody s_Image_kind) (defScope s_Image_kind) .none kV_Image_kind dc_Image_kind pm_Image_kind an_Image_kind cd_Image_kind ct_Image_kind), sl_Image_kind⟩)
    (c_Image_kind : PySem.W.codeIn K cd_Image_kind "Image.kind" = true)
    (k_Image_kind : PySem.W.keepIn K (.ref a_Image_kind) = true)
    {a_Image_fresh : Addr}
    {od_Image_fresh an_Image_fresh : Option Addr} {sl_Image_fresh : Array (Option Value)} {oc_Image_fresh kV_Image_fresh dc_Image_fresh pm_Image_fresh cd_Image_fresh ct_Image_fresh : Value}
    (l_Image_fresh : K.lookup a_Image_fresh = some ⟨oc_Image_fresh, od_Image_fresh, .func (PySem.W.fnOf "fresh" "Image.fresh" (defArgs s_Image_fresh) (defBody s_Image_fresh) (defScope s_Image_fresh) .none kV_Image_fresh dc_Image_fresh pm_Image_fresh an_Image_fresh cd_Image_fresh ct_Image_fresh), sl_Image_fresh⟩)
    (c_Image_fresh : PySem.W.codeIn K cd_Image_fresh "Image.fresh" = true)
    (k_Image_fresh : PySem.W.keepIn K (.ref a_Image_fresh) = true)
    {a_Image_of_cells : Addr}
    {od_Image_of_cells an_Image_of_cells : Option Addr} {sl_Image_of_cells : Array (Option Value)} {oc_Image_of_cells kV_Image_of_cells dc_Image_of_cells pm_Image_of_cells cd_Image_of_cells ct_Image_of_cells : Value}
    (l_Image_of_cells : K.lookup a_Image_of_cells = some ⟨oc_Image_of_cells, od_Image_of_cells, .func (PySem.W.fnOf "of_cells" "Image.of_cells" (defArgs s_Image_of_cells) (defBody s_Image_of_cells) (defScope s_Image_of_cells) .none kV_Image_of_cells dc_Image_of_cells pm_Image_of_cells an_Image_of_cells cd_Image_of_cells ct_Image_of_cells), sl_Image_of_cells⟩)
    (c_Image_of_cells : PySem.W.codeIn K cd_Image_of_cells "Image.of_cells" = true)
    (k_Image_of_cells : PySem.W.keepIn K (.ref a_Image_of_cells) = true)
    {aC_Plan : Addr}
    (g_Plan : PySem.W.nsIn K mainGlobals "Plan" = some (some (.ref aC_Plan)))
    (pg_Plan : PySem.W.plainGet K aC_Plan Str.empty = true)
    (hd_Plan : PySem.W.hasDictIn K aC_Plan = true)
    (po_Plan : PySem.W.plainOver K aC_Plan = true)
    (sa_Plan : PySem.W.findIn K (.ref aC_Plan) "__setattr__" = some (some (.builtin "object.__setattr__")))
    (n_Plan_blocks : PySem.W.findIn K (.ref aC_Plan) "blocks" = some none)
    (n_Plan_nodes : PySem.W.findIn K (.ref aC_Plan) "nodes" = some none)
    (n_Plan_slots : PySem.W.findIn K (.ref aC_Plan) "slots" = some none)
    (n_Plan_maps : PySem.W.findIn K (.ref aC_Plan) "maps" = some none)
    (n_Plan_first_node : PySem.W.findIn K (.ref aC_Plan) "first_node" = some none)
    (n_Plan_first_data : PySem.W.findIn K (.ref aC_Plan) "first_data" = some none)
    (mk1_Plan : PySem.W.makesIn K aC_Plan = true)
    (mk2_Plan : PySem.W.findIn K (.ref aC_Plan) "__init__" = some (some (.ref a_Plan___init__)))
    (mk3_Plan : PySem.W.isFn K (.ref a_Plan___init__) = true)
    (mk4_Plan : PySem.W.keepIn K (.ref aC_Plan) = true)
    {mcv_Plan : Value}
    (tp_Plan : PySem.W.typeIn K (.ref aC_Plan) = some mcv_Plan)
    (rd_Plan : PySem.W.readsIn K aC_Plan mcv_Plan = true)
    (ga_Plan : PySem.W.specialIn K (.ref aC_Plan) "__getattribute__" = some (some (.builtin "type.__getattribute__")))
    {tv_Plan_WIDTH : Tok}
    (v_Plan_WIDTH : PySem.W.findCls K (.ref aC_Plan) mcv_Plan "WIDTH" = some (.val (.int 8 tv_Plan_WIDTH)))
    {tv_Plan_FREE : Tok}
    (v_Plan_FREE : PySem.W.findCls K (.ref aC_Plan) mcv_Plan "FREE" = some (.val (.int 0 tv_Plan_FREE)))
    {tv_Plan_LOGGED : Tok}
    (v_Plan_LOGGED : PySem.W.findCls K (.ref aC_Plan) mcv_Plan "LOGGED" = some (.val (.int 1 tv_Plan_LOGGED)))
    {tv_Plan_PLAIN : Tok}
    (v_Plan_PLAIN : PySem.W.findCls K (.ref aC_Plan) mcv_Plan "PLAIN" = some (.val (.int 2 tv_Plan_PLAIN)))
    {tc_Plan_WIDTH : Tok}
    (o_Plan_WIDTH : PySem.W.findIn K (.ref aC_Plan) "WIDTH" = some (some (.int 8 tc_Plan_WIDTH)))
    (og_Plan_WIDTH : PySem.W.specialIn K (.int 8 tc_Plan_WIDTH) "__get__" = some none)
    {aC_Image : Addr}
    (g_Image : PySem.W.nsIn K mainGlobals "Image" = some (some (.ref aC_Image)))
    (pg_Image : PySem.W.plainGet K aC_Image Str.empty = true)
    (hd_Image : PySem.W.hasDictIn K aC_Image = true)
    (po_Image : PySem.W.plainOver K aC_Image = true)
    (sa_Image : PySem.W.findIn K (.ref aC_Image) "__setattr__" = some (some (.builtin "object.__setattr__")))
    (n_Image_plan : PySem.W.findIn K (.ref aC_Image) "plan" = some none)
    (n_Image_cells : PySem.W.findIn K (.ref aC_Image) "cells" = some none)
    (n_Image_holdings : PySem.W.findIn K (.ref aC_Image) "holdings" = some none)
    (n_Image_stamps : PySem.W.findIn K (.ref aC_Image) "stamps" = some none)
    (n_Image_handles : PySem.W.findIn K (.ref aC_Image) "handles" = some none)
    (n_Image_serial : PySem.W.findIn K (.ref aC_Image) "serial" = some none)
    (n_Image_wish : PySem.W.findIn K (.ref aC_Image) "wish" = some none)
    (n_Image_barred : PySem.W.findIn K (.ref aC_Image) "barred" = some none)
    (mk1_Image : PySem.W.makesIn K aC_Image = true)
    (mk2_Image : PySem.W.findIn K (.ref aC_Image) "__init__" = some (some (.ref a_Image___init__)))
    (mk3_Image : PySem.W.isFn K (.ref a_Image___init__) = true)
    (mk4_Image : PySem.W.keepIn K (.ref aC_Image) = true)
    {mcv_Image : Value}
    (tp_Image : PySem.W.typeIn K (.ref aC_Image) = some mcv_Image)
    (rd_Image : PySem.W.readsIn K aC_Image mcv_Image = true)
    (ga_Image : PySem.W.specialIn K (.ref aC_Image) "__getattribute__" = some (some (.builtin "type.__getattribute__")))
    (m1_Plan_map_place : PySem.W.findIn K (.ref aC_Plan) "map_place" = some (some (.ref a_Plan_map_place)))
    (m2_Plan_map_place : PySem.W.isFn K (.ref a_Plan_map_place) = true)
    (m1_Plan_node_block : PySem.W.findIn K (.ref aC_Plan) "node_block" = some (some (.ref a_Plan_node_block)))
    (m2_Plan_node_block : PySem.W.isFn K (.ref a_Plan_node_block) = true)
    (m1_Image_twin : PySem.W.findIn K (.ref aC_Image) "twin" = some (some (.ref a_Image_twin)))
    (m2_Image_twin : PySem.W.isFn K (.ref a_Image_twin) = true)
    (m1_Image_kind : PySem.W.findIn K (.ref aC_Image) "kind" = some (some (.ref a_Image_kind)))
    (m2_Image_kind : PySem.W.isFn K (.ref a_Image_kind) = true)
    {sp_Image_fresh : Addr} {sr_Image_fresh : List Value}
    (s1_Image_fresh : PySem.W.findCls K (.ref aC_Image) mcv_Image "fresh" = some (.get (.builtin "staticmethod.__get__") (.ref sp_Image_fresh) .none (.ref aC_Image)))
    (s2_Image_fresh : PySem.W.recIn K sp_Image_fresh "staticmethod" = some (.ref a_Image_fresh :: sr_Image_fresh))
    {sp_Image_of_cells : Addr} {sr_Image_of_cells : List Value}
    (s1_Image_of_cells : PySem.W.findCls K (.ref aC_Image) mcv_Image "of_cells" = some (.get (.builtin "staticmethod.__get__") (.ref sp_Image_of_cells) .none (.ref aC_Image)))
    (s2_Image_of_cells : PySem.W.recIn K sp_Image_of_cells "staticmethod" = some (.ref a_Image_of_cells :: sr_Image_of_cells))
    {aC_Refused : Addr}
    (g_Refused : PySem.W.nsIn K mainGlobals "Refused" = some (some (.ref aC_Refused)))
    (be1_Refused : PySem.W.subIn K (.ref aC_Refused) (.type "BaseException") = some true)
    (te1_Refused : PySem.W.typeIn K (.ref aC_Refused) = some (.type "type"))
    (ie1_Refused : PySem.W.isClsIn K aC_Refused = true)
    {aC_NodesFull : Addr}
    (g_NodesFull : PySem.W.nsIn K mainGlobals "NodesFull" = some (some (.ref aC_NodesFull)))
    (be1_NodesFull : PySem.W.subIn K (.ref aC_NodesFull) (.type "BaseException") = some true)
    (te1_NodesFull : PySem.W.typeIn K (.ref aC_NodesFull) = some (.type "type"))
    (ie1_NodesFull : PySem.W.isClsIn K aC_NodesFull = true)
    (xe1_NodesFull : PySem.W.excIn K aC_NodesFull [.type "ValueError", .type "Exception", .type "BaseException", .type "object"] "ValueError.__new__" = true)
    (ke1_NodesFull : PySem.W.keepIn K (.ref aC_NodesFull) = true)
    (ec1_NodesFull : PySem.W.findIn K (.ref aC_NodesFull) "__getattribute__" = some (some (.builtin "BaseException.__getattribute__")))
    (ec2_NodesFull : PySem.W.findIn K (.ref aC_NodesFull) "__getattr__" = some none)
    (ec4_NodesFull : PySem.W.hasDictIn K aC_NodesFull = true)
    (ec5_NodesFull : PySem.W.findIn K (.ref aC_NodesFull) "__class__" = some (some (.builtin "object.__class__")))
    (ec6_NodesFull : PySem.W.specialIn K (.builtin "object.__class__") "__get__" = some (some (.builtin "getset_descriptor.__get__")))
    (ec7_NodesFull : PySem.W.takesIn K (.builtin "object.__class__") = some true)
    (ec8_NodesFull : PySem.W.mroIn K aC_NodesFull (.type "object") = some true)
    (sb_NodesFull_Refused : PySem.W.subIn K (.ref aC_NodesFull) (.ref aC_Refused) = some true)
    {t_ROOT : Tok}
    (gc_ROOT : PySem.W.nsIn K mainGlobals "ROOT" = some (some (.int 1 t_ROOT)))
    {t_KIND : Tok}
    (gc_KIND : PySem.W.nsIn K mainGlobals "KIND" = some (some (.int 0 t_KIND)))
    {t_LINKS : Tok}
    (gc_LINKS : PySem.W.nsIn K mainGlobals "LINKS" = some (some (.int 1 t_LINKS)))
    {t_OWNER : Tok}
    (gc_OWNER : PySem.W.nsIn K mainGlobals "OWNER" = some (some (.int 3 t_OWNER)))
    {t_MAKING : Tok}
    (gc_MAKING : PySem.W.nsIn K mainGlobals "MAKING" = some (some (.int 7 t_MAKING)))
    {t_UNMADE : Tok}
    (gc_UNMADE : PySem.W.nsIn K mainGlobals "UNMADE" = some (some (.int 0 t_UNMADE)))
    {t_FOLDER : Tok}
    (gc_FOLDER : PySem.W.nsIn K mainGlobals "FOLDER" = some (some (.int 2 t_FOLDER)))
    {t_LEAST_BLOCKS : Tok}
    (gc_LEAST_BLOCKS : PySem.W.nsIn K mainGlobals "LEAST_BLOCKS" = some (some (.int 8 t_LEAST_BLOCKS)))
    {t_MOST_BLOCKS : Tok}
    (gc_MOST_BLOCKS : PySem.W.nsIn K mainGlobals "MOST_BLOCKS" = some (some (.int 64 t_MOST_BLOCKS)))
    {t_LEAST_NODES : Tok}
    (gc_LEAST_NODES : PySem.W.nsIn K mainGlobals "LEAST_NODES" = some (some (.int 2 t_LEAST_NODES)))
    {t_MOST_NODES : Tok}
    (gc_MOST_NODES : PySem.W.nsIn K mainGlobals "MOST_NODES" = some (some (.int 16 t_MOST_NODES)))
    {t_MOST_SLOTS : Tok}
    (gc_MOST_SLOTS : PySem.W.nsIn K mainGlobals "MOST_SLOTS" = some (some (.int 200 t_MOST_SLOTS)))
    {t_LEAST_DATA : Tok}
    (gc_LEAST_DATA : PySem.W.nsIn K mainGlobals "LEAST_DATA" = some (some (.int 2 t_LEAST_DATA)))
    {t_FIRST_MAP : Tok}
    (gc_FIRST_MAP : PySem.W.nsIn K mainGlobals "FIRST_MAP" = some (some (.int 2 t_FIRST_MAP)))
    (nb_abs : PySem.W.nsIn K mainGlobals "abs" = some none)
    (nb_int : PySem.W.nsIn K mainGlobals "int" = some none)
    (nb_len : PySem.W.nsIn K mainGlobals "len" = some none)
    (nb_range : PySem.W.nsIn K mainGlobals "range" = some none)
    (nb_isinstance : PySem.W.nsIn K mainGlobals "isinstance" = some none)
    (nb_bool : PySem.W.nsIn K mainGlobals "bool" = some none)
    (nb_list : PySem.W.nsIn K mainGlobals "list" = some none)
    (nb_dict : PySem.W.nsIn K mainGlobals "dict" = some none)
    : Nonempty (Tx K mg) := ⟨{
      f_node_cell := a_node_cell,
      fd_node_cell := PySem.W.fnOf "node_cell" "node_cell" (defArgs s_node_cell) (defBody s_node_cell) (defScope s_node_cell) .none kV_node_cell dc_node_cell pm_node_cell an_node_cell cd_node_cell ct_node_cell,
      F_node_cell := fun_mk (st := s_node_cell) l_node_cell c_node_cell k_node_cell,
      mg_node_cell := PySem.W.mg_of X G g_node_cell,
      f_put_node_cell := a_put_node_cell,
      fd_put_node_cell := PySem.W.fnOf "put_node_cell" "put_node_cell" (defArgs s_put_node_cell) (defBody s_put_node_cell) (defScope s_put_node_cell) .none kV_put_node_cell dc_put_node_cell pm_put_node_cell an_put_node_cell cd_put_node_cell ct_put_node_cell,
      F_put_node_cell := fun_mk (st := s_put_node_cell) l_put_node_cell c_put_node_cell k_put_node_cell,
      mg_put_node_cell := PySem.W.mg_of X G g_put_node_cell,
      f_is_made := a_is_made,
      fd_is_made := PySem.W.fnOf "is_made" "is_made" (defArgs s_is_made) (defBody s_is_made) (defScope s_is_made) .none kV_is_made dc_is_made pm_is_made an_is_made cd_is_made ct_is_made,
      F_is_made := fun_mk (st := s_is_made) l_is_made c_is_made k_is_made,
      mg_is_made := PySem.W.mg_of X G g_is_made,
      f_made_nodes := a_made_nodes,
      fd_made_nodes := PySem.W.fnOf "made_nodes" "made_nodes" (defArgs s_made_nodes) (defBody s_made_nodes) (defScope s_made_nodes) .none kV_made_nodes dc_made_nodes pm_made_nodes an_made_nodes cd_made_nodes ct_made_nodes,
      F_made_nodes := fun_mk (st := s_made_nodes) l_made_nodes c_made_nodes k_made_nodes,
      mg_made_nodes := PySem.W.mg_of X G g_made_nodes,
      f_make_node := a_make_node,
      fd_make_node := PySem.W.fnOf "make_node" "make_node" (defArgs s_make_node) (defBody s_make_node) (defScope s_make_node) .none kV_make_node dc_make_node pm_make_node an_make_node cd_make_node ct_make_node,
      F_make_node := fun_mk (st := s_make_node) l_make_node c_make_node k_make_node,
      mg_make_node := PySem.W.mg_of X G g_make_node,
      f_unmake_node := a_unmake_node,
      fd_unmake_node := PySem.W.fnOf "unmake_node" "unmake_node" (defArgs s_unmake_node) (defBody s_unmake_node) (defScope s_unmake_node) .none kV_unmake_node dc_unmake_node pm_unmake_node an_unmake_node cd_unmake_node ct_unmake_node,
      F_unmake_node := fun_mk (st := s_unmake_node) l_unmake_node c_unmake_node k_unmake_node,
      mg_unmake_node := PySem.W.mg_of X G g_unmake_node,
      f_Lfeed := a_Lfeed,
      fd_Lfeed := PySem.W.fnOf "_law_feed" "_law_feed" (defArgs s_Lfeed) (defBody s_Lfeed) (defScope s_Lfeed) .none kV_Lfeed dc_Lfeed pm_Lfeed an_Lfeed cd_Lfeed ct_Lfeed,
      F_Lfeed := fun_mk (st := s_Lfeed) l_Lfeed c_Lfeed k_Lfeed,
      mg_Lfeed := PySem.W.mg_of X G g_Lfeed,
      f_Lpick := a_Lpick,
      fd_Lpick := PySem.W.fnOf "_law_pick" "_law_pick" (defArgs s_Lpick) (defBody s_Lpick) (defScope s_Lpick) .none kV_Lpick dc_Lpick pm_Lpick an_Lpick cd_Lpick ct_Lpick,
      F_Lpick := fun_mk (st := s_Lpick) l_Lpick c_Lpick k_Lpick,
      mg_Lpick := PySem.W.mg_of X G g_Lpick,
      f_Linteger := a_Linteger,
      fd_Linteger := PySem.W.fnOf "_law_integer" "_law_integer" (defArgs s_Linteger) (defBody s_Linteger) (defScope s_Linteger) .none kV_Linteger dc_Linteger pm_Linteger an_Linteger cd_Linteger ct_Linteger,
      F_Linteger := fun_mk (st := s_Linteger) l_Linteger c_Linteger k_Linteger,
      mg_Linteger := PySem.W.mg_of X G g_Linteger,
      f_Lagrees := a_Lagrees,
      fd_Lagrees := PySem.W.fnOf "_law_agrees" "_law_agrees" (defArgs s_Lagrees) (defBody s_Lagrees) (defScope s_Lagrees) .none kV_Lagrees dc_Lagrees pm_Lagrees an_Lagrees cd_Lagrees ct_Lagrees,
      F_Lagrees := fun_mk (st := s_Lagrees) l_Lagrees c_Lagrees k_Lagrees,
      mg_Lagrees := PySem.W.mg_of X G g_Lagrees,
      f_Lothers := a_Lothers,
      fd_Lothers := PySem.W.fnOf "_law_others" "_law_others" (defArgs s_Lothers) (defBody s_Lothers) (defScope s_Lothers) .none kV_Lothers dc_Lothers pm_Lothers an_Lothers cd_Lothers ct_Lothers,
      F_Lothers := fun_mk (st := s_Lothers) l_Lothers c_Lothers k_Lothers,
      mg_Lothers := PySem.W.mg_of X G g_Lothers,
      f_Lfull := a_Lfull,
      fd_Lfull := PySem.W.fnOf "_law_full" "_law_full" (defArgs s_Lfull) (defBody s_Lfull) (defScope s_Lfull) .none kV_Lfull dc_Lfull pm_Lfull an_Lfull cd_Lfull ct_Lfull,
      F_Lfull := fun_mk (st := s_Lfull) l_Lfull c_Lfull k_Lfull,
      mg_Lfull := PySem.W.mg_of X G g_Lfull,
      f_Lmake := a_Lmake,
      fd_Lmake := PySem.W.fnOf "_law_make" "_law_make" (defArgs s_Lmake) (defBody s_Lmake) (defScope s_Lmake) .none kV_Lmake dc_Lmake pm_Lmake an_Lmake cd_Lmake ct_Lmake,
      F_Lmake := fun_mk (st := s_Lmake) l_Lmake c_Lmake k_Lmake,
      mg_Lmake := PySem.W.mg_of X G g_Lmake,
      f_law := a_law,
      fd_law := PySem.W.fnOf "law" "law" (defArgs s_law) (defBody s_law) (defScope s_law) .none kV_law dc_law pm_law an_law cd_law ct_law,
      F_law := fun_mk (st := s_law) l_law c_law k_law,
      mg_law := PySem.W.mg_of X G g_law,
      f_Plan___init__ := a_Plan___init__,
      fd_Plan___init__ := PySem.W.fnOf "__init__" "Plan.__init__" (defArgs s_Plan___init__) (defBody s_Plan___init__) (defScope s_Plan___init__) .none kV_Plan___init__ dc_Plan___init__ pm_Plan___init__ an_Plan___init__ cd_Plan___init__ ct_Plan___init__,
      F_Plan___init__ := fun_mk (st := s_Plan___init__) l_Plan___init__ c_Plan___init__ k_Plan___init__,
      f_Plan_map_place := a_Plan_map_place,
      fd_Plan_map_place := PySem.W.fnOf "map_place" "Plan.map_place" (defArgs s_Plan_map_place) (defBody s_Plan_map_place) (defScope s_Plan_map_place) .none kV_Plan_map_place dc_Plan_map_place pm_Plan_map_place an_Plan_map_place cd_Plan_map_place ct_Plan_map_place,
      F_Plan_map_place := fun_mk (st := s_Plan_map_place) l_Plan_map_place c_Plan_map_place k_Plan_map_place,
      f_Plan_node_block := a_Plan_node_block,
      fd_Plan_node_block := PySem.W.fnOf "node_block" "Plan.node_block" (defArgs s_Plan_node_block) (defBody s_Plan_node_block) (defScope s_Plan_node_block) .none kV_Plan_node_block dc_Plan_node_block pm_Plan_node_block an_Plan_node_block cd_Plan_node_block ct_Plan_node_block,
      F_Plan_node_block := fun_mk (st := s_Plan_node_block) l_Plan_node_block c_Plan_node_block k_Plan_node_block,
      f_Image___init__ := a_Image___init__,
      fd_Image___init__ := PySem.W.fnOf "__init__" "Image.__init__" (defArgs s_Image___init__) (defBody s_Image___init__) (defScope s_Image___init__) .none kV_Image___init__ dc_Image___init__ pm_Image___init__ an_Image___init__ cd_Image___init__ ct_Image___init__,
      F_Image___init__ := fun_mk (st := s_Image___init__) l_Image___init__ c_Image___init__ k_Image___init__,
      f_Image_twin := a_Image_twin,
      fd_Image_twin := PySem.W.fnOf "twin" "Image.twin" (defArgs s_Image_twin) (defBody s_Image_twin) (defScope s_Image_twin) .none kV_Image_twin dc_Image_twin pm_Image_twin an_Image_twin cd_Image_twin ct_Image_twin,
      F_Image_twin := fun_mk (st := s_Image_twin) l_Image_twin c_Image_twin k_Image_twin,
      f_Image_kind := a_Image_kind,
      fd_Image_kind := PySem.W.fnOf "kind" "Image.kind" (defArgs s_Image_kind) (defBody s_Image_kind) (defScope s_Image_kind) .none kV_Image_kind dc_Image_kind pm_Image_kind an_Image_kind cd_Image_kind ct_Image_kind,
      F_Image_kind := fun_mk (st := s_Image_kind) l_Image_kind c_Image_kind k_Image_kind,
      f_Image_fresh := a_Image_fresh,
      fd_Image_fresh := PySem.W.fnOf "fresh" "Image.fresh" (defArgs s_Image_fresh) (defBody s_Image_fresh) (defScope s_Image_fresh) .none kV_Image_fresh dc_Image_fresh pm_Image_fresh an_Image_fresh cd_Image_fresh ct_Image_fresh,
      F_Image_fresh := fun_mk (st := s_Image_fresh) l_Image_fresh c_Image_fresh k_Image_fresh,
      f_Image_of_cells := a_Image_of_cells,
      fd_Image_of_cells := PySem.W.fnOf "of_cells" "Image.of_cells" (defArgs s_Image_of_cells) (defBody s_Image_of_cells) (defScope s_Image_of_cells) .none kV_Image_of_cells dc_Image_of_cells pm_Image_of_cells an_Image_of_cells cd_Image_of_cells ct_Image_of_cells,
      F_Image_of_cells := fun_mk (st := s_Image_of_cells) l_Image_of_cells c_Image_of_cells k_Image_of_cells,
      C_Plan := aC_Plan,
      mg_Plan := PySem.W.mg_of X G g_Plan,
      cl_Plan := ⟨pg_Plan, hd_Plan, po_Plan, sa_Plan⟩,
      na_Plan_blocks := n_Plan_blocks,
      na_Plan_nodes := n_Plan_nodes,
      na_Plan_slots := n_Plan_slots,
      na_Plan_maps := n_Plan_maps,
      na_Plan_first_node := n_Plan_first_node,
      na_Plan_first_data := n_Plan_first_data,
      mk_Plan := ⟨mk1_Plan, mk2_Plan, mk3_Plan, mk4_Plan⟩,
      mc_Plan := mcv_Plan,
      cr_Plan := ⟨rd_Plan, ga_Plan⟩,
      cv_Plan_WIDTH := ⟨_, v_Plan_WIDTH, ⟨_, rfl⟩⟩,
      cv_Plan_FREE := ⟨_, v_Plan_FREE, ⟨_, rfl⟩⟩,
      cv_Plan_LOGGED := ⟨_, v_Plan_LOGGED, ⟨_, rfl⟩⟩,
      cv_Plan_PLAIN := ⟨_, v_Plan_PLAIN, ⟨_, rfl⟩⟩,
      con_Plan_WIDTH := ⟨_, o_Plan_WIDTH, ⟨_, rfl⟩, og_Plan_WIDTH, by decide +kernel⟩,
      C_Image := aC_Image,
      mg_Image := PySem.W.mg_of X G g_Image,
      cl_Image := ⟨pg_Image, hd_Image, po_Image, sa_Image⟩,
      na_Image_plan := n_Image_plan,
      na_Image_cells := n_Image_cells,
      na_Image_holdings := n_Image_holdings,
      na_Image_stamps := n_Image_stamps,
      na_Image_handles := n_Image_handles,
      na_Image_serial := n_Image_serial,
      na_Image_wish := n_Image_wish,
      na_Image_barred := n_Image_barred,
      mk_Image := ⟨mk1_Image, mk2_Image, mk3_Image, mk4_Image⟩,
      mc_Image := mcv_Image,
      cr_Image := ⟨rd_Image, ga_Image⟩,
      m_Plan_map_place := ⟨m1_Plan_map_place, m2_Plan_map_place, k_Plan_map_place⟩,
      m_Plan_node_block := ⟨m1_Plan_node_block, m2_Plan_node_block, k_Plan_node_block⟩,
      m_Image_twin := ⟨m1_Image_twin, m2_Image_twin, k_Image_twin⟩,
      m_Image_kind := ⟨m1_Image_kind, m2_Image_kind, k_Image_kind⟩,
      sm_Image_fresh := ⟨_, s1_Image_fresh, ⟨_, s2_Image_fresh⟩, k_Image_fresh⟩,
      sm_Image_of_cells := ⟨_, s1_Image_of_cells, ⟨_, s2_Image_of_cells⟩, k_Image_of_cells⟩,
      C_Refused := aC_Refused,
      mg_Refused := PySem.W.mg_of X G g_Refused,
      be_Refused := be1_Refused,
      te_Refused := te1_Refused,
      ie_Refused := ie1_Refused,
      C_NodesFull := aC_NodesFull,
      mg_NodesFull := PySem.W.mg_of X G g_NodesFull,
      be_NodesFull := be1_NodesFull,
      te_NodesFull := te1_NodesFull,
      ie_NodesFull := ie1_NodesFull,
      xe_NodesFull := xe1_NodesFull,
      ke_NodesFull := ke1_NodesFull,
      ec_NodesFull := ⟨ec1_NodesFull, ec2_NodesFull, be1_NodesFull, ec4_NodesFull, ec5_NodesFull, ec6_NodesFull, ec7_NodesFull, ec8_NodesFull⟩,
      sub_NodesFull_Refused := sb_NodesFull_Refused,
      c_ROOT := ⟨_, PySem.W.mg_of X G gc_ROOT⟩,
      c_KIND := ⟨_, PySem.W.mg_of X G gc_KIND⟩,
      c_LINKS := ⟨_, PySem.W.mg_of X G gc_LINKS⟩,
      c_OWNER := ⟨_, PySem.W.mg_of X G gc_OWNER⟩,
      c_MAKING := ⟨_, PySem.W.mg_of X G gc_MAKING⟩,
      c_UNMADE := ⟨_, PySem.W.mg_of X G gc_UNMADE⟩,
      c_FOLDER := ⟨_, PySem.W.mg_of X G gc_FOLDER⟩,
      c_LEAST_BLOCKS := ⟨_, PySem.W.mg_of X G gc_LEAST_BLOCKS⟩,
      c_MOST_BLOCKS := ⟨_, PySem.W.mg_of X G gc_MOST_BLOCKS⟩,
      c_LEAST_NODES := ⟨_, PySem.W.mg_of X G gc_LEAST_NODES⟩,
      c_MOST_NODES := ⟨_, PySem.W.mg_of X G gc_MOST_NODES⟩,
      c_MOST_SLOTS := ⟨_, PySem.W.mg_of X G gc_MOST_SLOTS⟩,
      c_LEAST_DATA := ⟨_, PySem.W.mg_of X G gc_LEAST_DATA⟩,
      c_FIRST_MAP := ⟨_, PySem.W.mg_of X G gc_FIRST_MAP⟩,
      b_abs := PySem.W.mg_none_of X G nb_abs,
      b_int := PySem.W.mg_none_of X G nb_int,
      b_len := PySem.W.mg_none_of X G nb_len,
      b_range := PySem.W.mg_none_of X G nb_range,
      b_isinstance := PySem.W.mg_none_of X G nb_isinstance,
      b_bool := PySem.W.mg_none_of X G nb_bool,
      b_list := PySem.W.mg_none_of X G nb_list,
      b_dict := PySem.W.mg_none_of X G nb_dict
    }⟩
end K05
open PySem PySem.W PyProof.Rows
set_option maxRecDepth 100000 in
set_option maxHeartbeats 0 in
theorem PySem.Challenge.cw_lotsandties_k05_nodes_holds : PySem.Challenge.rw_lotsandties_k05_nodes.Holds := by
  w_on; o_law; k_head; (case hw => w_witness2)
  k_fill
  refine L2.walk_of (l := PySem.Challenge.rw_lotsandties_k05_nodes) (n := 63) (k := 7) (x := "_law_script") (CX := fun _ => L2.CX0) (sp := fun w => K05.sp_law _) rfl (by decide) rfl ⟨rfl, by decide, by decide⟩ (fun w h Y => PySem.W.kIn_of Y) ?F (fun _ _ a ns hl _ hS => ⟨a, ns, rfl, hS, hl, fun _ => rfl⟩) (fun _ _ _ _ _ h => h)
  case F =>
    intro w mg fa h KX G hmg
    refine K05.fin_F ?_ hmg
    refine' K05.all_mk (w := w) KX G ?l_node_cell ?c_node_cell ?k_node_cell ?g_node_cell ?l_put_node_cell ?c_put_node_cell ?k_put_node_cell ?g_put_node_cell ?l_is_made ?c_is_made ?k_is_made ?g_is_made ?l_made_nodes ?c_made_nodes ?k_made_nodes ?g_made_nodes ?l_make_node ?c_make_node ?k_make_node ?g_make_node ?l_unmake_node ?c_unmake_node ?k_unmake_node ?g_unmake_node ?l_Lfeed ?c_Lfeed ?k_Lfeed ?g_Lfeed ?l_Lpick ?c_Lpick ?k_Lpick ?g_Lpick ?l_Linteger ?c_Linteger ?k_Linteger ?g_Linteger ?l_Lagrees ?c_Lagrees ?k_Lagrees ?g_Lagrees ?l_Lothers ?c_Lothers ?k_Lothers ?g_Lothers ?l_Lfull ?c_Lfull ?k_Lfull ?g_Lfull ?l_Lmake ?c_Lmake ?k_Lmake ?g_Lmake ?l_law ?c_law ?k_law ?g_law ?l_Plan___init__ ?c_Plan___init__ ?k_Plan___init__ ?l_Plan_map_place ?c_Plan_map_place ?k_Plan_map_place ?l_Plan_node_block ?c_Plan_node_block ?k_Plan_node_block ?l_Image___init__ ?c_Image___init__ ?k_Image___init__ ?l_Image_twin ?c_Image_twin ?k_Image_twin ?l_Image_kind ?c_Image_kind ?k_Image_kind ?l_Image_fresh ?c_Image_fresh ?k_Image_fresh ?l_Image_of_cells ?c_Image_of_cells ?k_Image_of_cells ?g_Plan ?pg_Plan ?hd_Plan ?po_Plan ?sa_Plan ?n_Plan_blocks ?n_Plan_nodes ?n_Plan_slots ?n_Plan_maps ?n_Plan_first_node ?n_Plan_first_data ?mk1_Plan ?mk2_Plan ?mk3_Plan ?mk4_Plan ?tp_Plan ?rd_Plan ?ga_Plan ?v_Plan_WIDTH ?v_Plan_FREE ?v_Plan_LOGGED ?v_Plan_PLAIN ?o_Plan_WIDTH ?og_Plan_WIDTH ?g_Image ?pg_Image ?hd_Image ?po_Image ?sa_Image ?n_Image_plan ?n_Image_cells ?n_Image_holdings ?n_Image_stamps ?n_Image_handles ?n_Image_serial ?n_Image_wish ?n_Image_barred ?mk1_Image ?mk2_Image ?mk3_Image ?mk4_Image ?tp_Image ?rd_Image ?ga_Image ?m1_Plan_map_place ?m2_Plan_map_place ?m1_Plan_node_block ?m2_Plan_node_block ?m1_Image_twin ?m2_Image_twin ?m1_Image_kind ?m2_Image_kind ?s1_Image_fresh ?s2_Image_fresh ?s1_Image_of_cells ?s2_Image_of_cells ?g_Refused ?be1_Refused ?te1_Refused ?ie1_Refused ?g_NodesFull ?be1_NodesFull ?te1_NodesFull ?ie1_NodesFull ?xe1_NodesFull ?ke1_NodesFull ?ec1_NodesFull ?ec2_NodesFull ?ec4_NodesFull ?ec5_NodesFull ?ec6_NodesFull ?ec7_NodesFull ?ec8_NodesFull ?sb_NodesFull_Refused ?gc_ROOT ?gc_KIND ?gc_LINKS ?gc_OWNER ?gc_MAKING ?gc_UNMADE ?gc_FOLDER ?gc_LEAST_BLOCKS ?gc_MOST_BLOCKS ?gc_LEAST_NODES ?gc_MOST_NODES ?gc_MOST_SLOTS ?gc_LEAST_DATA ?gc_FIRST_MAP ?nb_abs ?nb_int ?nb_len ?nb_range ?nb_isinstance ?nb_bool ?nb_list ?nb_dict
    (case g_node_cell => k_is)
    (case g_put_node_cell => k_is)
    (case g_is_made => k_is)
    (case g_made_nodes => k_is)
    (case g_make_node => k_is)
    (case g_unmake_node => k_is)
    (case g_Lfeed => k_is)
    (case g_Lpick => k_is)
    (case g_Linteger => k_is)
    (case g_Lagrees => k_is)
    (case g_Lothers => k_is)
    (case g_Lfull => k_is)
    (case g_Lmake => k_is)
    (case g_law => k_is)
    (case g_Plan => k_is)
    (case g_Image => k_is)
    (case g_Refused => k_is)
    (case g_NodesFull => k_is)
    (case tp_Plan => k_is)
    (case tp_Image => k_is)
    (case mk2_Plan => k_is)
    (case mk2_Image => k_is)
    (case m1_Plan_map_place => k_is)
    (case m1_Plan_node_block => k_is)
    (case m1_Image_twin => k_is)
    (case m1_Image_kind => k_is)
    (case s1_Image_fresh => k_is)
    (case s1_Image_of_cells => k_is)
    (case s2_Image_fresh => k_is)
    (case s2_Image_of_cells => k_is)
    (case l_node_cell => k_is)
    (case c_node_cell => k_is)
    (case k_node_cell => k_is)
    (case l_put_node_cell => k_is)
    (case c_put_node_cell => k_is)
    (case k_put_node_cell => k_is)
    (case l_is_made => k_is)
    (case c_is_made => k_is)
    (case k_is_made => k_is)
    (case l_made_nodes => k_is)
    (case c_made_nodes => k_is)
    (case k_made_nodes => k_is)
    (case l_make_node => k_is)
    (case c_make_node => k_is)
    (case k_make_node => k_is)
    (case l_unmake_node => k_is)
    (case c_unmake_node => k_is)
    (case k_unmake_node => k_is)
    (case l_Lfeed => k_is)
    (case c_Lfeed => k_is)
    (case k_Lfeed => k_is)
    (case l_Lpick => k_is)
    (case c_Lpick => k_is)
    (case k_Lpick => k_is)
    (case l_Linteger => k_is)
    (case c_Linteger => k_is)
    (case k_Linteger => k_is)
    (case l_Lagrees => k_is)
    (case c_Lagrees => k_is)
    (case k_Lagrees => k_is)
    (case l_Lothers => k_is)
    (case c_Lothers => k_is)
    (case k_Lothers => k_is)
    (case l_Lfull => k_is)
    (case c_Lfull => k_is)
    (case k_Lfull => k_is)
    (case l_Lmake => k_is)
    (case c_Lmake => k_is)
    (case k_Lmake => k_is)
    (case l_law => k_is)
    (case c_law => k_is)
    (case k_law => k_is)
    (case l_Plan___init__ => k_is)
    (case c_Plan___init__ => k_is)
    (case k_Plan___init__ => k_is)
    (case l_Plan_map_place => k_is)
    (case c_Plan_map_place => k_is)
    (case k_Plan_map_place => k_is)
    (case l_Plan_node_block => k_is)
    (case c_Plan_node_block => k_is)
    (case k_Plan_node_block => k_is)
    (case l_Image___init__ => k_is)
    (case c_Image___init__ => k_is)
    (case k_Image___init__ => k_is)
    (case l_Image_twin => k_is)
    (case c_Image_twin => k_is)
    (case k_Image_twin => k_is)
    (case l_Image_kind => k_is)
    (case c_Image_kind => k_is)
    (case k_Image_kind => k_is)
    (case l_Image_fresh => k_is)
    (case c_Image_fresh => k_is)
    (case k_Image_fresh => k_is)
    (case l_Image_of_cells => k_is)
    (case c_Image_of_cells => k_is)
    (case k_Image_of_cells => k_is)
    (case pg_Plan => k_is)
    (case hd_Plan => k_is)
    (case po_Plan => k_is)
    (case sa_Plan => k_is)
    (case n_Plan_blocks => k_is)
    (case n_Plan_nodes => k_is)
    (case n_Plan_slots => k_is)
    (case n_Plan_maps => k_is)
    (case n_Plan_first_node => k_is)
    (case n_Plan_first_data => k_is)
    (case mk1_Plan => k_is)
    (case mk3_Plan => k_is)
    (case mk4_Plan => k_is)
    (case rd_Plan => k_is)
    (case ga_Plan => k_is)
    (case v_Plan_WIDTH => k_is)
    (case v_Plan_FREE => k_is)
    (case v_Plan_LOGGED => k_is)
    (case v_Plan_PLAIN => k_is)
    (case o_Plan_WIDTH => k_is)
    (case og_Plan_WIDTH => k_is)
    (case pg_Image => k_is)
    (case hd_Image => k_is)
    (case po_Image => k_is)
    (case sa_Image => k_is)
    (case n_Image_plan => k_is)
    (case n_Image_cells => k_is)
    (case n_Image_holdings => k_is)
    (case n_Image_stamps => k_is)
    (case n_Image_handles => k_is)
    (case n_Image_serial => k_is)
    (case n_Image_wish => k_is)
    (case n_Image_barred => k_is)
    (case mk1_Image => k_is)
    (case mk3_Image => k_is)
    (case mk4_Image => k_is)
    (case rd_Image => k_is)
    (case ga_Image => k_is)
    (case m2_Plan_map_place => k_is)
    (case m2_Plan_node_block => k_is)
    (case m2_Image_twin => k_is)
    (case m2_Image_kind => k_is)
    (case be1_Refused => k_is)
    (case te1_Refused => k_is)
    (case ie1_Refused => k_is)
    (case be1_NodesFull => k_is)
    (case te1_NodesFull => k_is)
    (case ie1_NodesFull => k_is)
    (case xe1_NodesFull => first | k_exc | k_is)
    (case ke1_NodesFull => k_is)
    (case ec1_NodesFull => k_is)
    (case ec2_NodesFull => k_is)
    (case ec4_NodesFull => k_is)
    (case ec5_NodesFull => k_is)
    (case ec6_NodesFull => k_is)
    (case ec7_NodesFull => k_is)
    (case ec8_NodesFull => k_is)
    (case sb_NodesFull_Refused => first | rfl | k_is)
    (case gc_ROOT => k_is)
    (case gc_KIND => k_is)
    (case gc_LINKS => k_is)
    (case gc_OWNER => k_is)
    (case gc_MAKING => k_is)
    (case gc_UNMADE => k_is)
    (case gc_FOLDER => k_is)
    (case gc_LEAST_BLOCKS => k_is)
    (case gc_MOST_BLOCKS => k_is)
    (case gc_LEAST_NODES => k_is)
    (case gc_MOST_NODES => k_is)
    (case gc_MOST_SLOTS => k_is)
    (case gc_LEAST_DATA => k_is)
    (case gc_FIRST_MAP => k_is)
    (case nb_abs => k_is)
    (case nb_int => k_is)
    (case nb_len => k_is)
    (case nb_range => k_is)
    (case nb_isinstance => k_is)
    (case nb_bool => k_is)
    (case nb_list => k_is)
    (case nb_dict => k_is)


