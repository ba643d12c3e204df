import PyProof.Rows.All
import Wide.All
import OpenK.AllK
import Wide.FinOn
import HandS.ForMost
import HandS.Zip
import HandS.SortInts
import HandS.IsInst
import HandS.TupAny
import HandS.AnyAll
import HandS.Conv
import HandS.Small
import HandS.Walk
import KE.SortData
import HandS.Star
import HandS.SetFor
import HandS.Strs
import HandS.Style
import PySem.Challenge.RW_villagelines_k12_touch_and_join
set_option Elab.async false
set_option linter.all false
set_option maxRecDepth 100000
namespace G
open PySem PySem.Spec PyProof.Rows L2

/-- plain data -/
inductive D where
  | non | bl (b : Bool) | int (i : Int) | str (x : Str) | lst (ds : List D) | tup (ds : List D) | obj (C : Addr) (ns : List Str) (ds : List D)

mutual
inductive Rep (K : PySem.W.Frag) (H : Hp) : V → D → Prop
  | non : Rep K H .non .non
  | bl (b : Bool) : Rep K H (.bl b) (.bl b)
  | int (i : Int) : Rep K H (.int i) (.int i)
  | str (x : Str) : Rep K H (.str x) (.str x)
  | lst {a : Addr} {vs : List V} {ds : List D} : H a = some (.lst vs) → Reps K H vs ds → Rep K H (.ref a) (.lst ds)
  | tup {a : Addr} {vs : List V} {ds : List D} : SqT K H a vs → Reps K H vs ds → Rep K H (.ref a) (.tup ds)
  | obj {a C dx : Addr} {ns : List Str} {vs : List V} {ds : List D} : H a = some (.ins C dx (ns.zip vs)) → ns.length = vs.length → Reps K H vs ds → Rep K H (.ref a) (.obj C ns ds)
inductive Reps (K : PySem.W.Frag) (H : Hp) : List V → List D → Prop
  | nil : Reps K H [] []
  | cons {v : V} {d : D} {vs : List V} {ds : List D} : Rep K H v d → Reps K H vs ds → Reps K H (v :: vs) (d :: ds)
end

theorem same_sqT {K : PySem.W.Frag} {H H' : Hp} {a : Addr} {xs : List V} (e : Same H H') (h : SqT K H a xs) : SqT K H' a xs := by
  rcases h with (h | ⟨o, h⟩) | h
  · exact .inl (.inl (e _ _ h))
  · exact .inl (.inr ⟨o, e _ _ h⟩)
  · exact .inr h

mutual
theorem Rep.mono {K : PySem.W.Frag} {H H' : Hp} (e : Same H H') : ∀ {v : V} {d : D}, Rep K H v d → Rep K H' v d
  | _, _, .non => .non
  | _, _, .bl b => .bl b
  | _, _, .int i => .int i
  | _, _, .str x => .str x
  | _, _, .lst h r => .lst (e _ _ h) (Reps.mono e r)
  | _, _, .tup h r => .tup (same_sqT e h) (Reps.mono e r)
  | _, _, .obj h l r => .obj (e _ _ h) l (Reps.mono e r)
theorem Reps.mono {K : PySem.W.Frag} {H H' : Hp} (e : Same H H') : ∀ {vs : List V} {ds : List D}, Reps K H vs ds → Reps K H' vs ds
  | _, _, .nil => .nil
  | _, _, .cons h r => .cons (Rep.mono e h) (Reps.mono e r)
end
section
variable {K : PySem.W.Frag} {H H' : Hp}
theorem Reps.length : ∀ {vs : List V} {ds : List D}, Reps K H vs ds → vs.length = ds.length
  | _, _, .nil => rfl
  | _, _, .cons _ r => congrArg (· + 1) (Reps.length r)
theorem Reps.get : ∀ {vs : List V} {ds : List D} {i : Nat} {d : D}, Reps K H vs ds → ds[i]? = some d → ∃ v, vs[i]? = some v ∧ Rep K H v d
  | _, _, _, _, .nil, e => by simp at e
  | _, _, 0, _, .cons h _, e => by
    have e' := Option.some.inj e
    subst e'
    exact ⟨_, rfl, h⟩
  | _, _, i + 1, _, .cons _ r, e => Reps.get (i := i) r e
theorem Reps.append : ∀ {vs ws : List V} {ds es : List D}, Reps K H vs ds → Reps K H ws es → Reps K H (vs ++ ws) (ds ++ es)
  | _, _, _, _, .nil, q => q
  | _, _, _, _, .cons h r, q => .cons h (Reps.append r q)
theorem Reps.take : ∀ {vs : List V} {ds : List D} (n : Nat), Reps K H vs ds → Reps K H (vs.take n) (ds.take n)
  | _, _, 0, _ => .nil
  | _, _, _ + 1, .nil => .nil
  | _, _, n + 1, .cons h r => .cons h (Reps.take n r)
theorem Reps.drop : ∀ {vs : List V} {ds : List D} (n : Nat), Reps K H vs ds → Reps K H (vs.drop n) (ds.drop n)
  | _, _, 0, r => r
  | _, _, _ + 1, .nil => .nil
  | _, _, n + 1, .cons _ r => Reps.drop n r
theorem Reps.set {v : V} {d : D} (h : Rep K H v d) : ∀ {vs : List V} {ds : List D} (n : Nat), Reps K H vs ds → Reps K H (vs.set n v) (ds.set n d)
  | _, _, _, .nil => .nil
  | _, _, 0, .cons _ r => .cons h r
  | _, _, n + 1, .cons q r => .cons q (Reps.set h n r)
theorem Reps.ints : ∀ {vs : List V} {ns : List Int}, Reps K H vs (ns.map D.int) → vs = ns.map V.int
  | [], [], .nil => rfl
  | v :: vs, n :: ns, .cons h r => by
    have e := Reps.ints r
    cases h
    rw [e]; rfl
theorem Reps.bls : ∀ {vs : List V} {ns : List Bool}, Reps K H vs (ns.map D.bl) → vs = ns.map V.bl
  | [], [], .nil => rfl
  | v :: vs, n :: ns, .cons h r => by
    have e := Reps.bls r
    cases h
    rw [e]; rfl
theorem Reps.of_ints : ∀ (ns : List Int), Reps K H (ns.map V.int) (ns.map D.int)
  | [] => .nil
  | n :: ns => .cons (.int n) (Reps.of_ints ns)
end

/-! ### masks -/
open Classical in
noncomputable def msk (A : Addr → Prop) (H : Hp) : Hp := fun b => if A b then none else H b
section
variable {A B : Addr → Prop} {H H' : Hp} {a : Addr} {o : HO}
theorem msk_in (h : A a) : msk A H a = none := by unfold msk; rw [if_pos h]
theorem msk_out (h : ¬ A a) : msk A H a = H a := by unfold msk; rw [if_neg h]
theorem msk_of (h : msk A H a = some o) : ¬ A a ∧ H a = some o := by
  by_cases c : A a
  · rw [msk_in c] at h; cases h
  · rw [msk_out c] at h; exact ⟨c, h⟩
theorem msk_le : Same (msk A H) H := fun b o e => (msk_of e).2
theorem msk_same (e : Same H H') : Same (msk A H) (msk A H') := fun b o q => by
  obtain ⟨n, q⟩ := msk_of q
  rw [msk_out n]; exact e b o q
theorem msk_sub (h : ∀ b, B b → A b) : Same (msk A H) (msk B H) := fun b o q => by
  obtain ⟨n, q⟩ := msk_of q
  rw [msk_out fun z => n (h b z)]; exact q
theorem msk_upd (h : A a) : msk A (upd H a o) = msk A H := by
  funext b
  by_cases c : A b
  · rw [msk_in c, msk_in c]
  · rw [msk_out c, msk_out c, upd_ne fun e => c (by rw [e]; exact h)]
theorem same_new (h : H a = none) (o : HO) : Same H (upd H a o) := fun b u q => by rw [upd_ne (ne_of_none q h)]; exact q
end

/-! ### what the slots hold -/
/-- lists of lists that are one's own: some that nobody reads any more; or what they hold -/
inductive Jk where
  | junk (n m : Nat) | tre (dss : List (List Int))
inductive Sl where
  | no | val (d : D) | own (ds : List D) | scr (ns : List Int) | jnk (k : Jk)
def SlOk (K : PySem.W.Frag) (A : Addr → Prop) (H : Hp) : Sl → Option (Option V) → Prop
  | .no, _ => True
  | .val d, o => ∃ v, o = some (some v) ∧ Rep K (msk A H) v d
  | .own ds, o => ∃ a vs, o = some (some (.ref a)) ∧ H a = some (.lst vs) ∧ Reps K (msk A H) vs ds
  | .scr ns, o => ∃ a, o = some (some (.ref a)) ∧ SqL K (msk A H) a (ns.map V.int)
  | .jnk (.junk _ _), _ => True
  | .jnk (.tre dss), o => ∃ v, o = some (some v) ∧ Rep K H v (.lst (dss.map fun ns => D.lst (ns.map D.int)))
theorem slok_jnk {K : PySem.W.Frag} {A A' : Addr → Prop} {H H' : Hp} {k : Jk} {o : Option (Option V)} (s : Same H H') (h : SlOk K A H (.jnk k) o) : SlOk K A' H' (.jnk k) o := by
  cases k with
  | junk => trivial
  | tre dss => obtain ⟨v, e, r⟩ := h; exact ⟨v, e, r.mono s⟩
structure SX (K : PySem.W.Frag) (A : Addr → Prop) (Γ : List Sl) (σ : L2.St) (H : Hp) : Prop where
  len : σ.length = Γ.length
  dom : ∀ b, A b → H b ≠ none
  sl : ∀ (i : Nat) (s : Sl), Γ[i]? = some s → SlOk K A H s σ[i]?
section
variable {K : PySem.W.Frag} {A : Addr → Prop} {Γ : List Sl} {σ : L2.St} {H H' : Hp}
theorem dom_mono (e : Same H H') (h : ∀ b, A b → H b ≠ none) : ∀ b, A b → H' b ≠ none := fun b q z => by
  cases c : H b with
  | none => exact h b q c
  | some o => rw [e b o c] at z; cases z
theorem SX.mono (e : Same H H') (S : SX K A Γ σ H) : SX K A Γ σ H' := ⟨S.len, dom_mono e S.dom, fun i s q => by
  have z := S.sl i s q
  cases s with
  | no => trivial
  | val d => obtain ⟨v, e1, r⟩ := z; exact ⟨v, e1, r.mono (msk_same e)⟩
  | own ds => obtain ⟨a, vs, e1, e2, r⟩ := z; exact ⟨a, vs, e1, e _ _ e2, r.mono (msk_same e)⟩
  | scr ns => obtain ⟨a, e1, r⟩ := z; exact ⟨a, e1, (msk_same e).seq r⟩
  | jnk k => exact slok_jnk e z⟩
end

/-! ### expressions -/
section
variable {X : Cx}
theorem impE {e : Expr} {t t' : TE} (h : PE X e t) (i : ∀ σ H Q, t' σ H Q → t σ H Q) : PE X e t' := ⟨fun pins s σ H Q I q => h.run pins s σ H Q I (i σ H Q q)⟩
theorem PE_some {e : Expr} {ι : Type} {t : ι → TE} (h : ∀ i, PE X e (t i)) : PE X e (fun σ H Q => ∃ i, t i σ H Q) := ⟨fun pins s σ H Q I ⟨i, q⟩ => (h i).run pins s σ H Q I q⟩
theorem PE_somep {e : Expr} {p : Prop} {t : TE} (h : p → PE X e t) : PE X e (fun σ H Q => p ∧ t σ H Q) := ⟨fun pins s σ H Q I ⟨i, q⟩ => (h i).run pins s σ H Q I q⟩
theorem impT {e : Expr} {t t' : TT} (h : PT X e t) (i : ∀ σ H Q, t' σ H Q → t σ H Q) : PT X e t' := ⟨fun pins s σ H Q I q => h.run pins s σ H Q I (i σ H Q q)⟩
theorem PT_some {e : Expr} {ι : Type} {t : ι → TT} (h : ∀ i, PT X e (t i)) : PT X e (fun σ H Q => ∃ i, t i σ H Q) := ⟨fun pins s σ H Q I ⟨i, q⟩ => (h i).run pins s σ H Q I q⟩
theorem impA {e : List Expr} {t t' : TA} (h : PA X e t) (i : ∀ σ H Q, t' σ H Q → t σ H Q) : PA X e t' := ⟨fun pos pins s σ H Q I q => h.run pos pins s σ H Q I (i σ H Q q)⟩
/-- e is worth d -/
def tD (K : PySem.W.Frag) (A : Addr → Prop) (Γ : List Sl) (d : D) : TE := fun σ H Q => SX K A Γ σ H ∧ ∀ v H', Same H H' → Rep K (msk A H') v d → Q v H'
abbrev DE (X : Cx) (Γ : List Sl) (e : Expr) (d : D) : Prop := ∀ A, PE X e (tD X.K A Γ d)
/-- the list that e is: its items -/
def tS (K : PySem.W.Frag) (A : Addr → Prop) (Γ : List Sl) (ds : List D) : TE := fun σ H Q => SX K A Γ σ H ∧ ∀ a vs H', Same H H' → H' a = some (.lst vs) → Reps K (msk A H') vs ds → Q (.ref a) H'
abbrev DS (X : Cx) (Γ : List Sl) (e : Expr) (ds : List D) : Prop := ∀ A, PE X e (tS X.K A Γ ds)
def tT (K : PySem.W.Frag) (A : Addr → Prop) (Γ : List Sl) (ds : List D) : TE := fun σ H Q => SX K A Γ σ H ∧ ∀ a vs H', Same H H' → SqT K H' a vs → Reps K (msk A H') vs ds → Q (.ref a) H'
abbrev DT (X : Cx) (Γ : List Sl) (e : Expr) (ds : List D) : Prop := ∀ A, PE X e (tT X.K A Γ ds)
/-- a test -/
def tTst (K : PySem.W.Frag) (A : Addr → Prop) (Γ : List Sl) (b : Bool) : TT := fun σ H Q => SX K A Γ σ H ∧ ∀ H', Same H H' → Q b H'
abbrev DB (X : Cx) (Γ : List Sl) (e : Expr) (b : Bool) : Prop := ∀ A, PT X e (tTst X.K A Γ b)
/-- arguments -/
def tDs (K : PySem.W.Frag) (A : Addr → Prop) (Γ : List Sl) (ds : List D) : TA := fun σ H Q => SX K A Γ σ H ∧ ∀ vs H', Same H H' → Reps K (msk A H') vs ds → Q vs H'
abbrev DEs (X : Cx) (Γ : List Sl) (es : List Expr) (ds : List D) : Prop := ∀ A, PA X es (tDs X.K A Γ ds)

variable {Γ : List Sl} {e a b : Expr} {pos : Pos}
theorem de_var (i : Nat) {x : Str} {d : D} {pos : Pos} (h : Γ[i]? = some (.val d) := by rfl) (hN : X.N[i]? = some x := by rfl) (hv : Vis X.env.scope x := by first | exact Or.inl rfl | exact Or.inr (Or.inl rfl) | exact Or.inr (Or.inr rfl))
    (hd : (x == ("__debug__" : Str)) = false := by decide) (hcd : (x == ("__classdict__" : Str)) = false := by decide) : DE X Γ (.Name x pos) d := fun A =>
  impE (pv i hN hv hd hcd) fun σ H Q ⟨S, q⟩ => by
    obtain ⟨v, e, r⟩ := S.sl i _ h
    exact ⟨v, e, q v H (Same.refl H) r⟩
theorem ds_own (i : Nat) {x : Str} {ds : List D} {pos : Pos} (h : Γ[i]? = some (.own ds) := by rfl) (hN : X.N[i]? = some x := by rfl) (hv : Vis X.env.scope x := by first | exact Or.inl rfl | exact Or.inr (Or.inl rfl) | exact Or.inr (Or.inr rfl))
    (hd : (x == ("__debug__" : Str)) = false := by decide) (hcd : (x == ("__classdict__" : Str)) = false := by decide) : DS X Γ (.Name x pos) ds := fun A =>
  impE (pv i hN hv hd hcd) fun σ H Q ⟨S, q⟩ => by
    obtain ⟨a, vs, e, e2, r⟩ := S.sl i _ h
    exact ⟨_, e, q a vs H (Same.refl H) e2 r⟩
theorem de_con {v : V} {d : D} (h : PE X e (tC v)) (r : ∀ K H, Rep K H v d) : DE X Γ e d := fun A => impE h fun σ H Q ⟨S, q⟩ => q v H (Same.refl H) (r _ _)
theorem de_int {i j pos} : DE X Γ (.Constant (.int i) j pos) (.int i) := de_con pe_int fun _ _ => .int i
theorem de_bl {i j pos} : DE X Γ (.Constant (.bool i) j pos) (.bl i) := de_con pe_bl fun _ _ => .bl i
theorem de_non {j pos} : DE X Γ (.Constant .none j pos) .non := de_con pe_non fun _ _ => .non
theorem de_str {x j pos} : DE X Γ (.Constant (.str x) j pos) (.str x) := de_con pe_str fun _ _ => .str x
theorem des_nil : DEs X Γ [] [] := fun A => impA pa_nil fun σ H Q ⟨S, q⟩ => q [] H (Same.refl H) .nil
theorem ds_of {ds : List D} (h : DE X Γ e (.lst ds)) : DS X Γ e ds := fun A => impE (h A) fun σ H Q ⟨S, q⟩ => ⟨S, fun v H' s r => by
  cases r with
  | lst h r => exact q _ _ H' s (msk_le _ _ h) r⟩
theorem dt_of {ds : List D} (h : DE X Γ e (.tup ds)) : DT X Γ e ds := fun A => impE (h A) fun σ H Q ⟨S, q⟩ => ⟨S, fun v H' s r => by
  cases r with
  | tup h r => exact q _ _ H' s (same_sqT msk_le h) r⟩
end
end G
set_option Elab.async false
set_option linter.all false
set_option maxRecDepth 100000
namespace G
open PySem PySem.Spec PyProof.Rows L2
section
variable {K : PySem.W.Frag} {A : Addr → Prop} {H H' : Hp} {p : Addr} {vs : List V} {ds : List D}
theorem notA (dom : ∀ b, A b → H b ≠ none) (h : H p = none) : ¬ A p := fun z => dom p z h
theorem rep_new_lst (dom : ∀ b, A b → H b ≠ none) (h : H p = none) (r : Reps K (msk A H) vs ds) : Rep K (msk A (upd H p (.lst vs))) (.ref p) (.lst ds) :=
  .lst (by rw [msk_out (notA dom h), upd_same]) (r.mono (msk_same (same_new h _)))
theorem rep_new_tup (dom : ∀ b, A b → H b ≠ none) (h : H p = none) (r : Reps K (msk A H) vs ds) : Rep K (msk A (upd H p (.tup vs))) (.ref p) (.tup ds) :=
  .tup (.of (by rw [msk_out (notA dom h), upd_same])) (r.mono (msk_same (same_new h _)))
end
/-- a value's meaning, as what an operation must give -/
def Gv (K : PySem.W.Frag) (A : Addr → Prop) (H : Hp) (d : D) (Q : VK) : Prop := ∀ v H', Same H H' → Rep K (msk A H') v d → Q v H'
section
variable {X : Cx} {Γ : List Sl} {e a b : Expr} {pos : Pos} {es : List Expr} {d da db : D} {ds : List D}
theorem des_cons (h : DE X Γ e d) (t : DEs X Γ es ds) (hs : starEach (e :: es) X.env = (false, eval e X.env) :: starEach es X.env := by rfl) : DEs X Γ (e :: es) (d :: ds) := fun A =>
  impA (pa_cons (h A) (t A) hs) fun σ H Q ⟨S, q⟩ => ⟨S, fun v H1 s1 r1 => ⟨S.mono s1, fun vs H2 s2 r2 => q (v :: vs) H2 (s1.trans s2) (.cons (r1.mono (msk_same s2)) r2)⟩⟩
theorem de_lst (h : DEs X Γ es ds) (hl : ds.length ≤ sizeLine := by first | decide | (simp only [List.length_cons, List.length_nil, List.length_map]; decide)) : DE X Γ (.List es pos) (.lst ds) := fun A =>
  impE (pe_lst (h A)) fun σ H Q ⟨S, q⟩ => ⟨S, fun vs H1 s1 r1 => ⟨by rw [r1.length]; exact hl, fun p hp => q _ _ (s1.trans (same_new hp _)) (rep_new_lst (dom_mono s1 S.dom) hp r1)⟩⟩
theorem de_tup {x1} (h : DEs X Γ es ds) (hl : ds.length ≤ sizeLine := by first | decide | (simp only [List.length_cons, List.length_nil, List.length_map]; decide)) : DE X Γ (.Tuple es x1 pos) (.tup ds) := fun A =>
  impE (pe_tup (h A)) fun σ H Q ⟨S, q⟩ => ⟨S, fun vs H1 s1 r1 => ⟨by rw [r1.length]; exact hl, fun p hp => q _ _ (s1.trans (same_new hp _)) (rep_new_tup (dom_mono s1 S.dom) hp r1)⟩⟩

/-! ### operators -/
/-- the operation f takes da, db to d -/
structure OK2 (X : Cx) (f : Value → Value → Sem Value) (da db d : D) : Prop where
  ex : ∃ r : R2, OpR X f r ∧ ∀ A x y H Q, (∀ b, A b → H b ≠ none) → Rep X.K (msk A H) x da → Rep X.K (msk A H) y db → Gv X.K A H d Q → r x y H Q
theorem de_op {op : Operator} (o : OK2 X (binaryOp op) da db d) (ha : DE X Γ a da) (hb : DE X Γ b db) : DE X Γ (.BinOp a op b pos) d := fun A => by
  obtain ⟨r, ho, k⟩ := o.ex
  refine impE (pe_op ho (ha A) (hb A)) fun σ H Q ⟨S, q⟩ => ⟨S, fun x H1 s1 r1 => ⟨S.mono s1, fun y H2 s2 r2 => ?_⟩⟩
  exact k A x y H2 Q (dom_mono (s1.trans s2) S.dom) (r1.mono (msk_same s2)) r2 fun v H' s3 r3 => q v H' ((s1.trans s2).trans s3) r3
theorem de_cmp {op : CmpOp} (o : OK2 X (compareOp op) da db d) (ha : DE X Γ a da) (hb : DE X Γ b db) (hm : behindInMarks op b = false := by first | exact nobehind _ (by decide) (by decide) | rfl) : DE X Γ (.Compare a [op] [b] pos) d := fun A => by
  obtain ⟨r, ho, k⟩ := o.ex
  refine impE (pe_cmpR ho (ha A) (hb A) hm) fun σ H Q ⟨S, q⟩ => ⟨S, fun x H1 s1 r1 => ⟨S.mono s1, fun y H2 s2 r2 => ?_⟩⟩
  exact k A x y H2 Q (dom_mono (s1.trans s2) S.dom) (r1.mono (msk_same s2)) r2 fun v H' s3 r3 => q v H' ((s1.trans s2).trans s3) r3
theorem db_cmp {op : CmpOp} {c : Bool} (o : OK2 X (compareOp op) da db (.bl c)) (ha : DE X Γ a da) (hb : DE X Γ b db) (hm : behindInMarks op b = false := by first | exact nobehind _ (by decide) (by decide) | rfl) : DB X Γ (.Compare a [op] [b] pos) c := fun A => by
  obtain ⟨r, ho, k⟩ := o.ex
  refine impT (pt_cmpR ho (ha A) (hb A) hm) fun σ H Q ⟨S, q⟩ => ⟨S, fun x H1 s1 r1 => ⟨S.mono s1, fun y H2 s2 r2 => ?_⟩⟩
  refine k A x y H2 _ (dom_mono (s1.trans s2) S.dom) (r1.mono (msk_same s2)) r2 fun v H' s3 r3 => ?_
  cases r3
  exact ⟨_, rfl, q H' ((s1.trans s2).trans s3)⟩
theorem db_val {c : Bool} (h : DE X Γ e (.bl c)) (he : ∀ whole, isTrue e X.env whole = (do let v ← whole; standAt e.pos; holding [v] (truthy v)) := by intro _; rfl) : DB X Γ e c := fun A =>
  impT (pt_val (h A) he) fun σ H Q ⟨S, q⟩ => ⟨S, fun v H1 s1 r1 => by cases r1; exact ⟨_, rfl, q H1 s1⟩⟩
theorem ok_ii {f : Value → Value → Sem Value} {g : Int → Int → V} {i j : Int} (ho : OpR X f (rI0 g)) (r : ∀ K H, Rep K H (g i j) d) : OK2 X f (.int i) (.int j) d :=
  ⟨_, ho, fun A x y H Q _ rx ry q => by cases rx; cases ry; exact ⟨i, j, rfl, rfl, q _ H (Same.refl H) (r _ _)⟩⟩
theorem ok_iiC {f : Value → Value → Sem Value} {C : Int → Int → Prop} {g : Int → Int → V} {i j : Int} (ho : OpR X f (rI C g)) (c : C i j) (r : ∀ K H, Rep K H (g i j) d) : OK2 X f (.int i) (.int j) d :=
  ⟨_, ho, fun A x y H Q _ rx ry q => by cases rx; cases ry; exact ⟨i, j, rfl, rfl, c, q _ H (Same.refl H) (r _ _)⟩⟩
variable {i j : Int}
theorem ok_add : OK2 X (binaryOp .Add) (.int i) (.int j) (.int (i + j)) := ok_ii op_add fun _ _ => .int _
theorem ok_sub : OK2 X (binaryOp .Sub) (.int i) (.int j) (.int (i - j)) := ok_ii op_sub fun _ _ => .int _
theorem ok_mul (c : CMul i j) : OK2 X (binaryOp .Mult) (.int i) (.int j) (.int (i * j)) := ok_iiC op_mul c fun _ _ => .int _
theorem ok_mod (c : 0 < j) : OK2 X (binaryOp .Mod) (.int i) (.int j) (.int (i % j)) := ok_iiC op_mod c fun _ _ => .int _
theorem ok_fdiv (c : CDiv i j) : OK2 X (binaryOp .FloorDiv) (.int i) (.int j) (.int (i / j)) := ok_iiC op_fdiv c fun _ _ => .int _
theorem ok_pow (c : CPow i j) : OK2 X (binaryOp .Pow) (.int i) (.int j) (.int (i ^ j.toNat)) := ok_iiC op_pow c fun _ _ => .int _
theorem ok_lt : OK2 X (compareOp .Lt) (.int i) (.int j) (.bl (decide (i < j))) := ok_ii op_lt fun _ _ => .bl _
theorem ok_le : OK2 X (compareOp .LtE) (.int i) (.int j) (.bl (decide (i ≤ j))) := ok_ii op_le fun _ _ => .bl _
theorem ok_gt : OK2 X (compareOp .Gt) (.int i) (.int j) (.bl (decide (j < i))) := ok_ii op_gt fun _ _ => .bl _
theorem ok_ge : OK2 X (compareOp .GtE) (.int i) (.int j) (.bl (decide (j ≤ i))) := ok_ii op_ge fun _ _ => .bl _
theorem ok_eqI : OK2 X (compareOp .Eq) (.int i) (.int j) (.bl (decide (i = j))) :=
  ⟨_, op_eq, fun A x y H Q _ rx ry q => by cases rx; cases ry; exact ⟨rfl, q _ H (Same.refl H) (by rw [dec_int, Bool.beq_eq_decide_eq]; exact .bl _)⟩⟩
theorem ok_neI : OK2 X (compareOp .NotEq) (.int i) (.int j) (.bl (!decide (i = j))) :=
  ⟨_, op_ne, fun A x y H Q _ rx ry q => by cases rx; cases ry; exact ⟨rfl, q _ H (Same.refl H) (by rw [dec_int, Bool.beq_eq_decide_eq]; exact .bl _)⟩⟩
theorem ok_eqS {x y : Str} : OK2 X (compareOp .Eq) (.str x) (.str y) (.bl (decide (x = y))) :=
  ⟨_, op_eq, fun A a b H Q _ rx ry q => by cases rx; cases ry; exact ⟨rfl, q _ H (Same.refl H) (by rw [dec_str, Bool.beq_eq_decide_eq]; exact .bl _)⟩⟩
/-- d is None -/
def isNon : D → Bool | .non => true | _ => false
theorem ok_isN : OK2 X (compareOp .Is) d .non (.bl (isNon d)) :=
  ⟨_, op_isN, fun A x y H Q _ rx ry q => by cases ry; exact ⟨rfl, q _ H (Same.refl H) (by cases rx <;> exact .bl _)⟩⟩
theorem ok_notN : OK2 X (compareOp .IsNot) d .non (.bl (!isNon d)) :=
  ⟨_, op_notN, fun A x y H Q _ rx ry q => by cases ry; exact ⟨rfl, q _ H (Same.refl H) (by cases rx <;> exact .bl _)⟩⟩
theorem inV_ints {i : Int} : ∀ {ns : List Int}, inV (.int i) (ns.map V.int) = decide (i ∈ ns)
  | [] => rfl
  | n :: ns => by
    show (eqV (.int n) (.int i) || inV (.int i) (ns.map V.int)) = _
    rw [inV_ints (ns := ns)]
    by_cases h : n = i
    · subst h; simp [eqV]
    · have h' : ¬ i = n := fun z => h z.symm
      simp [eqV, h, h']
theorem flat_ints : ∀ {ns : List Int}, (ns.map V.int).all flatV = true
  | [] => rfl
  | n :: ns => flat_ints (ns := ns)
theorem ok_inL {ns : List Int} : OK2 X (compareOp .In) (.int i) (.lst (ns.map .int)) (.bl (decide (i ∈ ns))) :=
  ⟨_, op_in_seq, fun A x y H Q _ rx ry q => by
    cases rx
    cases ry with
    | lst h r =>
      have e := r.ints
      subst e
      exact ⟨_, _, rfl, .inl (.of (msk_le _ _ h)), rfl, flat_ints, q _ H (Same.refl H) (by rw [inV_ints]; exact .bl _)⟩⟩
theorem ok_notinL {ns : List Int} : OK2 X (compareOp .NotIn) (.int i) (.lst (ns.map .int)) (.bl (!decide (i ∈ ns))) :=
  ⟨_, op_notIn_seq, fun A x y H Q _ rx ry q => by
    cases rx
    cases ry with
    | lst h r =>
      have e := r.ints
      subst e
      exact ⟨_, _, rfl, .inl (.of (msk_le _ _ h)), rfl, flat_ints, q _ H (Same.refl H) (by rw [inV_ints]; exact .bl _)⟩⟩
theorem ok_inT {ns : List Int} : OK2 X (compareOp .In) (.int i) (.tup (ns.map .int)) (.bl (decide (i ∈ ns))) :=
  ⟨_, op_in_seq, fun A x y H Q _ rx ry q => by
    cases rx
    cases ry with
    | tup h r =>
      have e := r.ints
      subst e
      exact ⟨_, _, rfl, .inr (same_sqT msk_le h), rfl, flat_ints, q _ H (Same.refl H) (by rw [inV_ints]; exact .bl _)⟩⟩
theorem ok_notinT {ns : List Int} : OK2 X (compareOp .NotIn) (.int i) (.tup (ns.map .int)) (.bl (!decide (i ∈ ns))) :=
  ⟨_, op_notIn_seq, fun A x y H Q _ rx ry q => by
    cases rx
    cases ry with
    | tup h r =>
      have e := r.ints
      subst e
      exact ⟨_, _, rfl, .inr (same_sqT msk_le h), rfl, flat_ints, q _ H (Same.refl H) (by rw [inV_ints]; exact .bl _)⟩⟩
theorem ok_cat {as bs : List D} (h : as.length + bs.length ≤ sizeLine) : OK2 X (binaryOp .Add) (.lst as) (.lst bs) (.lst (as ++ bs)) :=
  ⟨_, op_cat, fun A x y H Q dom rx ry q => by
    cases rx with
    | lst h1 r1 =>
      cases ry with
      | lst h2 r2 =>
        refine ⟨_, _, _, _, rfl, rfl, msk_le _ _ h1, msk_le _ _ h2, by rw [r1.length, r2.length]; exact h, fun p hp => ?_⟩
        exact q _ _ (same_new hp _) (rep_new_lst dom hp (r1.append r2))⟩
theorem de_neg (h : DE X Γ e (.int i)) : DE X Γ (.UnaryOp .USub e pos) (.int (-i)) := fun A =>
  impE (pe_un un_neg (h A)) fun σ H Q ⟨S, q⟩ => ⟨S, fun v H1 s1 r1 => by cases r1; exact ⟨_, rfl, q _ H1 s1 (.int _)⟩⟩

/-! ### and, or, not, .. if .. else -/
variable {c1 c2 : Bool} {rest : List Expr}
theorem de_not (h : DE X Γ e (.bl c1)) : DE X Γ (.UnaryOp .Not e pos) (.bl (!c1)) := fun A =>
  impE (pe_not (h A)) fun σ H Q ⟨S, q⟩ => ⟨S, fun v H1 s1 r1 => by cases r1; exact ⟨_, rfl, q _ H1 s1 (.bl _)⟩⟩
theorem de_and (ha : DE X Γ a (.bl c1)) (hb : c1 = true → DE X Γ (.BoolOp .And (b :: rest) pos) (.bl c2)) : DE X Γ (.BoolOp .And (a :: b :: rest) pos) (.bl (c1 && c2)) := fun A =>
  impE (pe_and (ha A) (PE_somep fun h => hb h A)) fun σ H Q ⟨S, q⟩ => ⟨S, fun v H1 s1 r1 => by
    cases r1
    refine ⟨c1, rfl, ?_⟩
    cases c1 with
    | true => exact iteT ⟨rfl, S.mono s1, fun v H2 s2 r2 => q v H2 (s1.trans s2) r2⟩
    | false => exact iteF (q _ H1 s1 (.bl _))⟩
theorem de_or (ha : DE X Γ a (.bl c1)) (hb : c1 = false → DE X Γ (.BoolOp .Or (b :: rest) pos) (.bl c2)) : DE X Γ (.BoolOp .Or (a :: b :: rest) pos) (.bl (c1 || c2)) := fun A =>
  impE (pe_or (ha A) (PE_somep fun h => hb h A)) fun σ H Q ⟨S, q⟩ => ⟨S, fun v H1 s1 r1 => by
    cases r1
    refine ⟨c1, rfl, ?_⟩
    cases c1 with
    | true => exact iteT (q _ H1 s1 (.bl _))
    | false => exact iteF ⟨rfl, S.mono s1, fun v H2 s2 r2 => q v H2 (s1.trans s2) r2⟩⟩
theorem de_one {op} (h : DE X Γ a d) : DE X Γ (.BoolOp op [a] pos) d := fun A => pe_one (h A)
theorem db_not (h : DB X Γ e c1) : DB X Γ (.UnaryOp .Not e pos) (!c1) := fun A => impT (pt_not (h A)) fun σ H Q ⟨S, q⟩ => ⟨S, fun H1 s1 => q H1 s1⟩
abbrev DW (X : Cx) (Γ : List Sl) (e : Expr) (b : Bool) : Prop := ∀ A, PW X e (tTst X.K A Γ b)
theorem impW {e : Expr} {t t' : TT} (h : PW X e t) (i : ∀ σ H Q, t' σ H Q → t σ H Q) : PW X e t' := ⟨fun whole pins s σ H Q I q => h.run whole pins s σ H Q I (i σ H Q q)⟩
theorem PW_somep {e : Expr} {p : Prop} {t : TT} (h : p → PW X e t) : PW X e (fun σ H Q => p ∧ t σ H Q) := ⟨fun whole pins s σ H Q I ⟨i, q⟩ => (h i).run whole pins s σ H Q I q⟩
theorem db_of (h : DW X Γ e c1) : DB X Γ e c1 := fun A => (h A).pt
theorem dw_and1 (h : DB X Γ a c1) : DW X Γ (.BoolOp .And [a] pos) c1 := fun A => pw_and1 (h A)
theorem dw_or1 (h : DB X Γ a c1) : DW X Γ (.BoolOp .Or [a] pos) c1 := fun A => pw_or1 (h A)
theorem dw_and (ha : DB X Γ a c1) (hb : c1 = true → DW X Γ (.BoolOp .And (b :: rest) pos) c2) : DW X Γ (.BoolOp .And (a :: b :: rest) pos) (c1 && c2) := fun A =>
  impW (pw_and (ha A) (PW_somep fun h => hb h A)) fun σ H Q ⟨S, q⟩ => ⟨S, fun H1 s1 => by
    cases c1 with
    | true => exact iteT ⟨rfl, S.mono s1, fun H2 s2 => q H2 (s1.trans s2)⟩
    | false => exact iteF (q H1 s1)⟩
theorem dw_or (ha : DB X Γ a c1) (hb : c1 = false → DW X Γ (.BoolOp .Or (b :: rest) pos) c2) : DW X Γ (.BoolOp .Or (a :: b :: rest) pos) (c1 || c2) := fun A =>
  impW (pw_or (ha A) (PW_somep fun h => hb h A)) fun σ H Q ⟨S, q⟩ => ⟨S, fun H1 s1 => by
    cases c1 with
    | true => exact iteT (q H1 s1)
    | false => exact iteF ⟨rfl, S.mono s1, fun H2 s2 => q H2 (s1.trans s2)⟩⟩
theorem de_if {c : Expr} {d1 d2 : D} (hc : DB X Γ c c1) (ha : c1 = true → DE X Γ a d1) (hb : c1 = false → DE X Γ b d2) : DE X Γ (.IfExp c a b pos) (if c1 then d1 else d2) := fun A =>
  impE (pe_ifExp (hc A) (PE_somep fun h => ha h A) (PE_somep fun h => hb h A)) fun σ H Q ⟨S, q⟩ => ⟨S, fun H1 s1 => by
    cases c1 with
    | true => exact iteT ⟨rfl, S.mono s1, fun v H2 s2 r2 => q v H2 (s1.trans s2) r2⟩
    | false => exact iteF ⟨rfl, S.mono s1, fun v H2 s2 r2 => q v H2 (s1.trans s2) r2⟩⟩

/-! ### items, slices -/
theorem reps_atI {K : PySem.W.Frag} {H : Hp} {vs : List V} {ds : List D} (r : Reps K H vs ds) (h : atI ds i = some d) : ∃ v, atI vs i = some v ∧ Rep K H v d := by
  unfold atI at h ⊢
  rw [r.length]
  cases e : ixN ds.length i with
  | none => rw [e] at h; cases h
  | some k => rw [e] at h; exact r.get h
theorem de_ixL (h : atI ds i = some d) (ha : DS X Γ a ds) (hb : DE X Γ b (.int i)) (hs : PlainIx b := by exact fun _ _ => rfl) : DE X Γ (.Subscript a b pos) d := fun A =>
  impE (pe_ix ix_list (ha A) (hb A) hs) fun σ H Q ⟨S, q⟩ => ⟨S, fun l vs H1 s1 e1 r1 => ⟨S.mono s1, fun y H2 s2 r2 => by
    cases r2
    obtain ⟨v, e, r⟩ := reps_atI (r1.mono (msk_same s2)) h
    exact ⟨_, _, _, _, rfl, rfl, .of (s2 _ _ e1), e, q v H2 (s1.trans s2) r⟩⟩⟩
theorem de_ixT (h : atI ds i = some d) (ha : DT X Γ a ds) (hb : DE X Γ b (.int i)) (hs : PlainIx b := by exact fun _ _ => rfl) : DE X Γ (.Subscript a b pos) d := fun A =>
  impE (pe_ix ix_tup (ha A) (hb A) hs) fun σ H Q ⟨S, q⟩ => ⟨S, fun l vs H1 s1 e1 r1 => ⟨S.mono s1, fun y H2 s2 r2 => by
    cases r2
    obtain ⟨v, e, r⟩ := reps_atI (r1.mono (msk_same s2)) h
    exact ⟨_, _, _, _, rfl, rfl, same_sqT s2 e1, e, q v H2 (s1.trans s2) r⟩⟩⟩
/-- a slice's part -/
def tO (K : PySem.W.Frag) (A : Addr → Prop) (Γ : List Sl) (o : Option Int) : TO := fun σ H Q => SX K A Γ σ H ∧ ∀ H', Same H H' → Q o H'
abbrev DO (X : Cx) (Γ : List Sl) (e : Option Expr) (o : Option Int) : Prop := ∀ A, PO X e (tO X.K A Γ o)
theorem impO {e : Option Expr} {t t' : TO} (h : PO X e t) (i : ∀ σ H Q, t' σ H Q → t σ H Q) : PO X e t' := ⟨fun pins s σ H Q I q => h.run pins s σ H Q I (i σ H Q q)⟩
theorem do_none : DO X Γ none none := fun A => impO po_none fun σ H Q ⟨S, q⟩ => q H (Same.refl H)
theorem do_some (h : DE X Γ e (.int i)) : DO X Γ (some e) (some i) := fun A => impO (po_some (h A)) fun σ H Q ⟨S, q⟩ => ⟨S, fun v H1 s1 r1 => by cases r1; exact ⟨_, rfl, q H1 s1⟩⟩
def cutG {α : Type} (xs : List α) (lo hi : Option Int) : List α := (xs.drop (HT.sIx xs.length 0 lo)).take (HT.sIx xs.length xs.length hi - HT.sIx xs.length 0 lo)
theorem reps_cut {K : PySem.W.Frag} {H : Hp} {vs : List V} {ds : List D} (r : Reps K H vs ds) (lo hi : Option Int) : Reps K H (cutV vs lo hi) (cutG ds lo hi) := by
  unfold cutV cutG
  rw [r.length]
  exact (r.drop _).take _
theorem cutG_from {α : Type} (xs : List α) {k : Int} (h : 0 ≤ k) : cutG xs (some k) none = xs.drop k.toNat := by
  obtain ⟨n, rfl⟩ := Int.eq_ofNat_of_zero_le h
  unfold cutG
  rw [HT.sIx_nat, HT.sIx_none]
  show List.take (xs.length - min n xs.length) (List.drop (min n xs.length) xs) = List.drop n xs
  by_cases c : n ≤ xs.length
  · rw [Nat.min_eq_left c, ← List.length_drop, List.take_length]
  · rw [Nat.min_eq_right (by omega), Nat.sub_self, List.take_zero, List.drop_eq_nil_of_le (by omega)]
theorem cutG_to {α : Type} (xs : List α) {k : Int} (h : 0 ≤ k) : cutG xs none (some k) = xs.take k.toNat := by
  obtain ⟨n, rfl⟩ := Int.eq_ofNat_of_zero_le h
  unfold cutG
  rw [HT.sIx_nat, HT.sIx_none, List.drop_zero, Nat.sub_zero]
  show List.take (min n xs.length) xs = List.take n xs
  rw [← List.take_eq_take_min]
theorem cutG_map {α β : Type} (f : α → β) (xs : List α) (lo hi : Option Int) : cutG (xs.map f) lo hi = (cutG xs lo hi).map f := by
  unfold cutG
  rw [List.length_map, List.map_take, List.map_drop]
theorem de_slL {lo hi : Option Expr} {l h : Option Int} {p2} (ha : DS X Γ a ds) (hl : DO X Γ lo l) (hh : DO X Γ hi h) : DE X Γ (.Subscript a (.Slice lo hi none p2) pos) (.lst (cutG ds l h)) := fun A =>
  impE (pe_slice sl_list (ha A) (hl A) (hh A)) fun σ H Q ⟨S, q⟩ => ⟨S, fun p vs H1 s1 e1 r1 => ⟨S.mono s1, fun H2 s2 => ⟨S.mono (s1.trans s2), fun H3 s3 =>
    ⟨p, vs, rfl, .of (s3 _ _ (s2 _ _ e1)), fun q' hq => q _ _ (((s1.trans s2).trans s3).trans (same_new hq _)) (rep_new_lst (dom_mono ((s1.trans s2).trans s3) S.dom) hq (reps_cut (r1.mono (msk_same (s2.trans s3))) l h))⟩⟩⟩⟩
end
end G
set_option Elab.async false
set_option linter.all false
set_option maxRecDepth 100000
namespace G
open PySem PySem.Spec PyProof.Rows L2
/-! ### calls of built-ins -/
structure OKC (X : Cx) (f : Value) (das : List D) (d : D) : Prop where
  ex : ∃ r : List V → Hp → VK → Prop, CallR X f r ∧ ∀ A xs H Q, (∀ b, A b → H b ≠ none) → Reps X.K (msk A H) xs das → Gv X.K A H d Q → r xs H Q
section
variable {X : Cx} {Γ : List Sl} {e a b : Expr} {p pos : Pos} {es : List Expr} {d da db : D} {ds das : List D} {x : Str}
theorem de_callB {id : String} (o : OKC X (.builtin id) das d) (hm : X.mg x = none) (h : DEs X Γ (e :: es) das) (hv : bootBuiltins x = some (.builtin id) := by decide +kernel) (hg : Gl X x := by rfl) (hn : x ≠ "__name__" := by decide) (hdb : (x == ("__debug__" : Str)) = false := by decide)
    (he : starEach (e :: es) X.env = (false, eval e X.env) :: starEach es X.env := by rfl) (hpl : (backTo pos (starEach es X.env)).any (·.1) = false := by rfl) : DE X Γ (.Call (.Name x p) (e :: es) [] pos) d := fun A => by
  obtain ⟨r, ho, k⟩ := o.ex
  refine impE (pe_callB ho hg hm hv (h A) hn hdb he hpl) fun σ H Q ⟨S, q⟩ => ⟨S, fun xs H1 s1 r1 => ?_⟩
  exact k A xs H1 Q (dom_mono s1 S.dom) r1 fun v H' s3 r3 => q v H' (s1.trans s3) r3
theorem de_callTy {T : String} (o : OKC X (.type T) das d) (hm : X.mg x = none) (h : DEs X Γ (e :: es) das) (hv : bootBuiltins x = some (.type T) := by decide +kernel) (hg : Gl X x := by rfl) (hn : x ≠ "__name__" := by decide) (hdb : (x == ("__debug__" : Str)) = false := by decide)
    (he : starEach (e :: es) X.env = (false, eval e X.env) :: starEach es X.env := by rfl) (hpl : (backTo pos (starEach es X.env)).any (·.1) = false := by rfl) : DE X Γ (.Call (.Name x p) (e :: es) [] pos) d := fun A => by
  obtain ⟨r, ho, k⟩ := o.ex
  refine impE (pe_callTy ho hg hm hv (h A) hn hdb he hpl) fun σ H Q ⟨S, q⟩ => ⟨S, fun xs H1 s1 r1 => ?_⟩
  exact k A xs H1 Q (dom_mono s1 S.dom) r1 fun v H' s3 r3 => q v H' (s1.trans s3) r3
theorem reps1 {K : PySem.W.Frag} {H : Hp} {xs : List V} (r : Reps K H xs [d]) : ∃ x, xs = [x] ∧ Rep K H x d := by
  cases r with
  | cons h r => cases r; exact ⟨_, rfl, h⟩
theorem reps2 {K : PySem.W.Frag} {H : Hp} {xs : List V} (r : Reps K H xs [da, db]) : ∃ x y, xs = [x, y] ∧ Rep K H x da ∧ Rep K H y db := by
  cases r with
  | cons h r => obtain ⟨y, rfl, q⟩ := reps1 r; exact ⟨_, _, rfl, h, q⟩
variable {i j : Int} {ns : List Int}
theorem okc_len : OKC X (.builtin "len") [.lst ds] (.int ds.length) :=
  ⟨_, call_len_seq, fun A xs H Q dom r q => by
    obtain ⟨x, rfl, rr⟩ := reps1 r
    cases rr with
    | lst h r => exact ⟨_, _, rfl, .inl (.of (msk_le _ _ h)), q _ H (Same.refl H) (by rw [r.length]; exact .int _)⟩⟩
theorem okc_lenT : OKC X (.builtin "len") [.tup ds] (.int ds.length) :=
  ⟨_, call_len_seq, fun A xs H Q dom r q => by
    obtain ⟨x, rfl, rr⟩ := reps1 r
    cases rr with
    | tup h r => exact ⟨_, _, rfl, .inr (same_sqT msk_le h), q _ H (Same.refl H) (by rw [r.length]; exact .int _)⟩⟩
theorem okc_list : OKC X (.type "list") [.lst ds] (.lst ds) :=
  ⟨_, call_list_of, fun A xs H Q dom r q => by
    obtain ⟨x, rfl, rr⟩ := reps1 r
    cases rr with
    | lst h r => exact ⟨_, _, rfl, .inl (.of (msk_le _ _ h)), fun l hl => q _ _ (same_new hl _) (rep_new_lst dom hl r)⟩⟩
theorem okc_listT : OKC X (.type "list") [.tup ds] (.lst ds) :=
  ⟨_, call_list_of, fun A xs H Q dom r q => by
    obtain ⟨x, rfl, rr⟩ := reps1 r
    cases rr with
    | tup h r => exact ⟨_, _, rfl, .inr (same_sqT msk_le h), fun l hl => q _ _ (same_new hl _) (rep_new_lst dom hl r)⟩⟩
theorem okc_tuple : OKC X (.type "tuple") [.lst ds] (.tup ds) :=
  ⟨_, call_tuple_of, fun A xs H Q dom r q => by
    obtain ⟨x, rfl, rr⟩ := reps1 r
    cases rr with
    | lst h r => exact ⟨_, _, rfl, .inl ⟨.of (msk_le _ _ h), fun l hl => q _ _ (same_new hl _) (rep_new_tup dom hl r)⟩⟩⟩
theorem okc_tupleT : OKC X (.type "tuple") [.tup ds] (.tup ds) :=
  ⟨_, call_tuple_of, fun A xs H Q dom r q => by
    obtain ⟨x, rfl, rr⟩ := reps1 r
    cases rr with
    | tup h r => exact ⟨_, _, rfl, .inr ⟨same_sqT msk_le h, q _ H (Same.refl H) (.tup h r)⟩⟩⟩
theorem okc_int : OKC X (.type "int") [.int i] (.int i) :=
  ⟨_, call_int1, fun A xs H Q dom r q => by
    obtain ⟨x, rfl, rr⟩ := reps1 r
    cases rr
    exact .inl ⟨_, rfl, q _ H (Same.refl H) (.int _)⟩⟩
theorem okc_intB {c : Bool} : OKC X (.type "int") [.bl c] (.int (if c then 1 else 0)) :=
  ⟨_, call_int1, fun A xs H Q dom r q => by
    obtain ⟨x, rfl, rr⟩ := reps1 r
    cases rr
    exact .inr ⟨_, rfl, q _ H (Same.refl H) (.int _)⟩⟩
theorem okc_abs : OKC X (.builtin "abs") [.int i] (.int (if i < 0 then -i else i)) :=
  ⟨_, call_abs, fun A xs H Q dom r q => by
    obtain ⟨x, rfl, rr⟩ := reps1 r
    cases rr
    exact ⟨_, rfl, q _ H (Same.refl H) (.int _)⟩⟩
theorem okc_max2 (hc : X.calm = true) : OKC X (.builtin "max") [.int i, .int j] (.int (if j > i then j else i)) :=
  ⟨_, call_max2 hc, fun A xs H Q dom r q => by
    obtain ⟨x, y, rfl, rr, r2⟩ := reps2 r
    cases rr; cases r2
    exact ⟨_, _, rfl, q _ H (Same.refl H) (.int _)⟩⟩
theorem okc_min2 (hc : X.calm = true) : OKC X (.builtin "min") [.int i, .int j] (.int (if j < i then j else i)) :=
  ⟨_, call_min2 hc, fun A xs H Q dom r q => by
    obtain ⟨x, y, rfl, rr, r2⟩ := reps2 r
    cases rr; cases r2
    exact ⟨_, _, rfl, q _ H (Same.refl H) (.int _)⟩⟩
theorem okc_sum (hc : X.calm = true) : OKC X (.builtin "sum") [.lst (ns.map .int)] (.int ns.sum) :=
  ⟨_, cr_sum hc, fun A xs H Q dom r q => by
    obtain ⟨x, rfl, rr⟩ := reps1 r
    cases rr with
    | lst h r =>
      have e := r.ints
      subst e
      exact ⟨_, _, rfl, .of (msk_le _ _ h), q _ H (Same.refl H) (.int _)⟩⟩
def maxI : List Int → Int
  | [] => 0
  | [x] => x
  | x :: y :: r => max x (maxI (y :: r))
def minI : List Int → Int
  | [] => 0
  | [x] => x
  | x :: y :: r => min x (minI (y :: r))
theorem maxI_ge : ∀ {ns : List Int} {y : Int}, y ∈ ns → y ≤ maxI ns
  | [x], y, h => by simp at h; subst h; exact Int.le_refl _
  | x :: z :: r, y, h => by
    show y ≤ max x (maxI (z :: r))
    rcases List.mem_cons.mp h with rfl | h
    · omega
    · have := maxI_ge h
      omega
theorem maxI_mem : ∀ {ns : List Int}, 0 < ns.length → maxI ns ∈ ns
  | [x], _ => by simp [maxI]
  | x :: z :: r, _ => by
    show max x (maxI (z :: r)) ∈ _
    have := maxI_mem (ns := z :: r) (by simp)
    by_cases c : x ≤ maxI (z :: r)
    · rw [Int.max_eq_right c]; exact List.mem_cons_of_mem _ this
    · rw [Int.max_eq_left (by omega)]; exact List.mem_cons_self
theorem minI_le : ∀ {ns : List Int} {y : Int}, y ∈ ns → minI ns ≤ y
  | [x], y, h => by simp at h; subst h; exact Int.le_refl _
  | x :: z :: r, y, h => by
    show min x (minI (z :: r)) ≤ y
    rcases List.mem_cons.mp h with rfl | h
    · omega
    · have := minI_le h
      omega
theorem minI_mem : ∀ {ns : List Int}, 0 < ns.length → minI ns ∈ ns
  | [x], _ => by simp [minI]
  | x :: z :: r, _ => by
    show min x (minI (z :: r)) ∈ _
    have := minI_mem (ns := z :: r) (by simp)
    by_cases c : x ≤ minI (z :: r)
    · rw [Int.min_eq_left c]; exact List.mem_cons_self
    · rw [Int.min_eq_right (by omega)]; exact List.mem_cons_of_mem _ this
theorem okc_maxL (hc : X.calm = true) (h0 : 0 < ns.length) : OKC X (.builtin "max") [.lst (ns.map .int)] (.int (maxI ns)) :=
  ⟨_, cr_max hc, fun A xs H Q dom r q => by
    obtain ⟨x, rfl, rr⟩ := reps1 r
    cases rr with
    | lst h r =>
      have e := r.ints
      subst e
      refine ⟨_, _, rfl, .of (msk_le _ _ h), h0, fun m h1 h2 => ?_⟩
      have e : m = maxI ns := Int.le_antisymm (maxI_ge h1) (h2 _ (maxI_mem h0))
      exact q _ H (Same.refl H) (by rw [e]; exact .int _)⟩
theorem okc_minL (hc : X.calm = true) (h0 : 0 < ns.length) : OKC X (.builtin "min") [.lst (ns.map .int)] (.int (minI ns)) :=
  ⟨_, cr_min hc, fun A xs H Q dom r q => by
    obtain ⟨x, rfl, rr⟩ := reps1 r
    cases rr with
    | lst h r =>
      have e := r.ints
      subst e
      refine ⟨_, _, rfl, .of (msk_le _ _ h), h0, fun m h1 h2 => ?_⟩
      have e : m = minI ns := Int.le_antisymm (h2 _ (minI_mem h0)) (minI_le h1)
      exact q _ H (Same.refl H) (by rw [e]; exact .int _)⟩
theorem okc_any {bs : List Bool} (hc : X.calm = true) : OKC X (.builtin "any") [.lst (bs.map .bl)] (.bl (bs.any id)) :=
  ⟨_, cr_any hc, fun A xs H Q dom r q => by
    obtain ⟨x, rfl, rr⟩ := reps1 r
    cases rr with
    | lst h r =>
      have e := r.bls
      subst e
      exact ⟨_, _, rfl, .of (msk_le _ _ h), q _ H (Same.refl H) (.bl _)⟩⟩
theorem okc_all {bs : List Bool} (hc : X.calm = true) : OKC X (.builtin "all") [.lst (bs.map .bl)] (.bl (bs.all id)) :=
  ⟨_, cr_all hc, fun A xs H Q dom r q => by
    obtain ⟨x, rfl, rr⟩ := reps1 r
    cases rr with
    | lst h r =>
      have e := r.bls
      subst e
      exact ⟨_, _, rfl, .of (msk_le _ _ h), q _ H (Same.refl H) (.bl _)⟩⟩
/-- sorted -/
def srt (ns : List Int) : List Int := ns.mergeSort (fun a b => decide (a ≤ b))
theorem srt_perm (ns : List Int) : (srt ns).Perm ns := List.mergeSort_perm _ _
theorem srt_sorted (ns : List Int) : (srt ns).Pairwise (· ≤ ·) := by
  have h := List.pairwise_mergeSort (le := fun a b : Int => decide (a ≤ b)) (by intro a b c; simp; omega) (by intro a b; simp; omega) ns
  exact h.imp (by simp)
theorem srt_eq {ns ms : List Int} (h1 : ms.Perm ns) (h2 : ms.Pairwise (· ≤ ·)) : ms = srt ns := PySem.W.ksm_same (h1.trans (srt_perm ns).symm) h2 (srt_sorted ns)
theorem srt_of {ns : List Int} (h2 : ns.Pairwise (· ≤ ·)) : srt ns = ns := (srt_eq (List.Perm.refl ns) h2).symm
theorem okc_sorted : OKC X (.builtin "sorted") [.lst (ns.map .int)] (.lst ((srt ns).map .int)) :=
  ⟨_, cr_sortedI, fun A xs H Q dom r q => by
    obtain ⟨x, rfl, rr⟩ := reps1 r
    cases rr with
    | lst h r =>
      have e := r.ints
      subst e
      refine ⟨_, _, rfl, .of (msk_le _ _ h), fun ms p h1 h2 hp => ?_⟩
      rw [srt_eq h1 h2]
      exact q _ _ (same_new hp _) (rep_new_lst dom hp (.of_ints _))⟩
end

/-! ### walks -/
theorem wipe_get : ∀ (vs : List Nat) (σ : L2.St) (i : Nat), (wipe σ vs)[i]? = if i ∈ vs then (if i < σ.length then some none else none) else σ[i]? := by
  intro vs
  induction vs with
  | nil => intro σ i; simp [wipe]
  | cons v vs ih =>
    intro σ i
    unfold wipe
    by_cases c : v = i
    · subst c
      by_cases c2 : v < σ.length
      · rw [List.getElem?_set_self (by rw [wipe_length]; exact c2)]; simp [c2]
      · rw [List.getElem?_eq_none (by rw [List.length_set, wipe_length]; omega)]; simp [c2]
    · rw [List.getElem?_set_ne c, ih]
      have c' : ¬ i = v := fun z => c z.symm
      simp [c']
theorem wipe_ext {σ σ' : L2.St} {vs : List Nat} (hl : σ'.length = σ.length) (h : ∀ i : Nat, i ∉ vs → σ'[i]? = σ[i]?) : wipe σ' vs = wipe σ vs := by
  refine List.ext_getElem? fun i => ?_
  rw [wipe_get, wipe_get, hl]
  by_cases c : i ∈ vs
  · simp [c]
  · simp [c, h i c]
theorem wipe_idem {σ : L2.St} {vs : List Nat} : wipe (wipe σ vs) vs = wipe σ vs := wipe_ext (wipe_length σ vs) fun i h => by rw [wipe_get]; simp [h]
def wipeG (Γ : List Sl) : List Nat → List Sl
  | [] => Γ
  | v :: vs => (wipeG Γ vs).set v .no
theorem sx_wipe {K : PySem.W.Frag} {A : Addr → Prop} {Γ : List Sl} {σ : L2.St} {H : Hp} (S : SX K A Γ σ H) : ∀ vs : List Nat, SX K A (wipeG Γ vs) (wipe σ vs) H
  | [] => S
  | v :: vs => by
    have ih := sx_wipe S vs
    refine ⟨by unfold wipe wipeG; rw [List.length_set, List.length_set, ih.len], ih.dom, fun i s e => ?_⟩
    unfold wipeG at e
    by_cases c : v = i
    · subst c
      by_cases c2 : v < (wipeG Γ vs).length
      · rw [List.getElem?_set_self c2] at e; cases e; trivial
      · rw [List.getElem?_eq_none (by rw [List.length_set]; omega)] at e; cases e
    · rw [List.getElem?_set_ne c] at e
      have q := ih.sl i s e
      unfold wipe
      rw [List.getElem?_set_ne c]
      exact q
theorem sx_set {K : PySem.W.Frag} {A : Addr → Prop} {Γ : List Sl} {σ : L2.St} {H : Hp} (S : SX K A Γ σ H) {i : Nat} {v : V} {d : D} (r : Rep K (msk A H) v d) : SX K A (Γ.set i (.val d)) (σ.set i (some v)) H :=
  ⟨by rw [List.length_set, List.length_set, S.len], S.dom, fun j s e => by
    by_cases c : i = j
    · subst c
      by_cases c2 : i < Γ.length
      · rw [List.getElem?_set_self c2] at e; cases e
        exact ⟨v, List.getElem?_set_self (by rw [S.len]; exact c2), r⟩
      · rw [List.getElem?_eq_none (by rw [List.length_set]; omega)] at e; cases e
    · rw [List.getElem?_set_ne c] at e ⊢
      exact S.sl j s e⟩

/-- the walk over its: behind the target's assignment the state is bd a Γ; js the target's slots -/
structure DI (X : Cx) (Γ : List Sl) (tg iter : Expr) (g : TG) {α : Type} (its : List α) (js : List Nat) (bd : α → List Sl → List Sl) : Prop where
  far : ∀ a Γ (i : Nat), i ∉ js → (bd a Γ)[i]? = Γ[i]?
  near : ∀ a Γ (i : Nat), i ∈ js → ∀ s, (bd a Γ)[i]? = some s → ∃ d, s = .val d
  ex : ∀ A, ∃ wi, PI X tg iter wi ∧ ∀ σ H R, SX X.K A Γ σ H →
    (∀ J H1 G Y, Same H H1 → Walk J its.length G Y → (∀ A2 H2, Same (msk A H1) (msk A2 H2) → G H2) →
      (∀ A2 H2 i x H3 Γ2 σ2 k a, Same (msk A H1) (msk A2 H2) → its[i]? = some a → Y i H2 x H3 → SX X.K A2 Γ2 σ2 H2 →
        (∀ σ3 H4, Same H2 H4 → SX X.K A2 (bd a Γ2) σ3 H4 → σ3.length = σ2.length → (∀ i : Nat, i ∉ js → σ3[i]? = σ2[i]?) → k σ3 H4) → g x σ2 H3 k) → R J H1) → wi σ H R
section
variable {X : Cx} {Γ : List Sl} {tg iter e : Expr} {p pos : Pos} {x : Str} {α : Type}
theorem set_far {Γ : List Sl} {i j : Nat} {s : Sl} (h : j ∉ [i]) : (Γ.set i s)[j]? = Γ[j]? := List.getElem?_set_ne fun z => h (by simp [z])
theorem set_near {Γ : List Sl} {i j : Nat} {d : D} (h : j ∈ [i]) : ∀ s, (Γ.set i (.val d))[j]? = some s → ∃ d, s = .val d := by
  have e : j = i := by simpa using h
  subst e
  intro s z
  by_cases c : j < Γ.length
  · rw [List.getElem?_set_self c] at z; cases z; exact ⟨_, rfl⟩
  · rw [List.getElem?_eq_none (by rw [List.length_set]; omega)] at z; cases z
theorem di_list (i : Nat) {xs : List α} {en : α → D} (h : DE X Γ iter (.lst (xs.map en))) : DI X Γ tg iter (gName i) xs [i] (fun a Γ => Γ.set i (.val (en a))) :=
  ⟨fun _ _ _ => set_far, fun _ _ _ => set_near, fun A => ⟨_, pi_list (h A), fun σ H R S w => ⟨S, fun v H1 s1 r1 => by
    cases r1 with
    | @lst a vs _ h1 r1 =>
      have hl : vs.length = xs.length := by rw [r1.length, List.length_map]
      refine ⟨a, rfl, ⟨_, .of (msk_le _ _ h1)⟩, w _ H1 (fun H => SqL X.K H a vs) (YAt vs) s1 (by rw [← hl]; exact walk_list) (fun A2 H2 s => .of (msk_le _ _ (s _ _ h1))) ?_⟩
      rintro A2 H2 i' x H3 Γ2 σ2 k a' s e1 ⟨rfl, ey⟩ S2 kk
      obtain ⟨v, ev, rv⟩ := r1.get (i := i') (d := en a') (by rw [List.getElem?_map, e1]; rfl)
      rw [ev] at ey; cases ey
      exact kk _ _ (Same.refl _) (sx_set S2 (rv.mono s)) (List.length_set ..) fun j hj => List.getElem?_set_ne fun z => hj (by simp [z])⟩⟩⟩
theorem di_tup (i : Nat) {xs : List α} {en : α → D} (h : DE X Γ iter (.tup (xs.map en))) : DI X Γ tg iter (gName i) xs [i] (fun a Γ => Γ.set i (.val (en a))) :=
  ⟨fun _ _ _ => set_far, fun _ _ _ => set_near, fun A => ⟨_, pi_tup (h A), fun σ H R S w => ⟨S, fun v H1 s1 r1 => by
    cases r1 with
    | @tup a vs _ h1 r1 =>
      have hl : vs.length = xs.length := by rw [r1.length, List.length_map]
      refine ⟨a, rfl, ⟨_, same_sqT msk_le h1⟩, w _ H1 (fun H => SqT X.K H a vs) (YAt vs) s1 (by rw [← hl]; exact walk_tup) (fun A2 H2 s => same_sqT msk_le (same_sqT s h1)) ?_⟩
      rintro A2 H2 i' x H3 Γ2 σ2 k a' s e1 ⟨rfl, ey⟩ S2 kk
      obtain ⟨v, ev, rv⟩ := r1.get (i := i') (d := en a') (by rw [List.getElem?_map, e1]; rfl)
      rw [ev] at ey; cases ey
      exact kk _ _ (Same.refl _) (sx_set S2 (rv.mono s)) (List.length_set ..) fun j hj => List.getElem?_set_ne fun z => hj (by simp [z])⟩⟩⟩
theorem di_range (i : Nat) {n : Int} (hm : X.mg "range" = none) (h : DE X Γ e (.int n)) (hn : -(2 ^ 62) ≤ n ∧ n < 2 ^ 62) (hg : Gl X "range" := by rfl) (hs : starEach [e] X.env = [(false, eval e X.env)] := by rfl)
    (hs2 : starEach (e :: []) X.env = (false, eval e X.env) :: starEach [] X.env := by rfl) :
    DI X Γ tg (.Call (.Name "range" p) [e] [] pos) (gName i) (List.range n.toNat) [i] (fun (a : Nat) Γ => Γ.set i (.val (.int a))) :=
  ⟨fun _ _ _ => set_far, fun _ _ _ => set_near, fun A => ⟨_, pi_range1 hg hm (des_cons h des_nil hs2 A) hs, fun σ H R S w => ⟨S, fun vs H1 s1 r1 => by
    obtain ⟨x, rfl, rr⟩ := reps1 r1
    cases rr
    refine ⟨n, rfl, hn.1, hn.2, w _ H1 (fun _ => True) (YFn fun i => .int (0 + i)) s1 (by rw [List.length_range]; exact walk_range) (fun _ _ _ => trivial) ?_⟩
    rintro A2 H2 i' x H3 Γ2 σ2 k a' s e1 ⟨rfl, rfl⟩ S2 kk
    have e2 : a' = i' := by
      have := List.getElem?_eq_some_iff.mp e1
      obtain ⟨h, h2⟩ := this
      rw [List.getElem_range] at h2
      exact h2.symm
    subst e2
    refine kk _ _ (Same.refl _) (sx_set S2 ?_) (List.length_set ..) fun j hj => List.getElem?_set_ne fun z => hj (by simp [z])
    have e0 : (0 : Int) + (a' : Int) = a' := Int.zero_add _
    show Rep X.K _ (.int (0 + (a' : Int))) _
    rw [e0]
    exact .int _⟩⟩⟩

/-! ### comprehensions -/
variable {elt : Expr} {ifs : List Expr} {scope : Scope} {own : List (Str × Nat)} {g : TG} {its : List α} {js : List Nat} {bd : α → List Sl → List Sl}
theorem take_more {α : Type} {l : List α} {i : Nat} {x : α} (h : l[i]? = some x) : l.take (i + 1) = l.take i ++ [x] := by
  rw [List.take_add_one, h]; rfl
/-- a new list, apart from all else -/
def tF (K : PySem.W.Frag) (A : Addr → Prop) (Γ : List Sl) (ds : List D) : TE := fun σ H Q => SX K A Γ σ H ∧ ∀ a vs H', Same H H' → H a = none → H' a = some (.lst vs) → Reps K (msk (fun b => A b ∨ b = a) H') vs ds → Q (.ref a) H'
theorem tF_of {K : PySem.W.Frag} {A : Addr → Prop} {Γ : List Sl} {ds : List D} {σ : L2.St} {H : Hp} {Q : VK} (h : tD K A Γ (.lst ds) σ H Q) : tF K A Γ ds σ H Q :=
  ⟨h.1, fun a vs H' s n e r => h.2 _ H' s (.lst (by rw [msk_out (notA h.1.dom n)]; exact e) (r.mono (msk_sub fun b z => .inl z)))⟩
abbrev DF (X : Cx) (Γ : List Sl) (e : Expr) (ds : List D) : Prop := ∀ A, PE X e (tF X.K A Γ ds)
theorem de_f {ds : List D} (h : DF X Γ e ds) : DE X Γ e (.lst ds) := fun A => impE (h A) fun _ _ _ => tF_of
theorem df_lst {es : List Expr} {ds : List D} (h : DEs X Γ es ds) (hl : ds.length ≤ sizeLine := by first | decide | (simp only [List.length_cons, List.length_nil, List.length_map]; decide)) : DF X Γ (.List es pos) ds := fun A =>
  impE (pe_lst (h A)) fun σ H Q ⟨S, q⟩ => ⟨S, fun vs H1 s1 r1 => ⟨by rw [r1.length]; exact hl, fun p hp => q p vs _ (s1.trans (same_new hp _)) (s1.free hp) upd_same
    (by
      rw [msk_upd (.inr rfl)]
      refine r1.mono fun b o e => ?_
      obtain ⟨n, e⟩ := msk_of e
      rw [msk_out]
      · exact e
      · rintro (z | rfl)
        · exact n z
        · rw [hp] at e; cases e)⟩⟩
theorem lc_sem {tt : TT} {pr : α → Bool} {f : α → D} (di : DI X Γ tg iter g its js bd) (hj : ∀ j ∈ js, j ∈ own.map (·.2))
    (htk : ∀ a ∈ its, ∀ A2 σ H Q, SX X.K A2 (bd a (wipeG Γ (own.map (·.2)))) σ H → (∀ H', Same H H' → Q (pr a) H') → tt σ H Q)
    (he : ∀ a ∈ its, pr a = true → ∀ (s : Shared) (H : Hp) (C : Addr) (cl : List (Str × Addr)) (fp : List Addr), DE (X.blk s H scope (compEnvC scope cl C X.env) fp) (bd a (wipeG Γ (own.map (·.2)))) elt (f a))
    (hl : its.length ≤ sizeLine) (A : Addr → Prop) : ∃ wi te, PI X tg iter wi ∧ (∀ (s : Shared) (H : Hp) (C : Addr) (cl : List (Str × Addr)) (fp : List Addr), PE (X.blk s H scope (compEnvC scope cl C X.env) fp) elt te) ∧
      ∀ σ H Q, tF X.K A Γ ((its.filter pr).map f) σ H Q → tLc wi g tt te (own.map (·.2)) σ H Q := by
  obtain ⟨wi, hi, hw⟩ := di.ex A
  let te : TE := fun σ H Q => ∃ (a : α) (A2 : Addr → Prop), (a ∈ its ∧ pr a = true) ∧ tD X.K A2 (bd a (wipeG Γ (own.map (·.2)))) (f a) σ H Q
  refine ⟨wi, te, hi, fun s H C cl fp => PE_some fun a => PE_some fun A2 => PE_somep fun h => he a h.1 h.2 s H C cl fp A2, fun σ H Q ⟨S, q⟩ => ?_⟩
  refine hw σ H _ S fun J H1 G Y s1 wk gk yk D hD => ?_
  -- the mask with the new list
  have nAD : ¬ A D := notA (dom_mono s1 S.dom) hD
  have key : ∀ {H2 : Hp}, Same H1 H2 → Same (msk A H1) (msk (fun b => A b ∨ b = D) H2) := fun {H2} s b o e => by
    obtain ⟨n, e⟩ := msk_of e
    rw [msk_out]
    · exact s b o e
    · rintro (z | z)
      · exact n z
      · subst z; rw [hD] at e; cases e
  refine lc_it (g := g) (tt := tt) (te := te) (vs := own.map (·.2)) (σ := σ) (Qd := fun H => Q (.ref D) H) wk (fun i H2 => ∃ acc, H2 D = some (.lst acc) ∧ acc.length ≤ i ∧ Same H1 H2 ∧ Reps X.K (msk (fun b => A b ∨ b = D) H2) acc (((its.take i).filter pr).map f)) ⟨[], upd_same, Nat.le_refl _, same_new hD _, .nil⟩
    (fun i H2 hi ⟨acc, _, _, s2, _⟩ => gk _ H2 (key s2)) ?_ ?_
  · rintro i x H2 H3 hi ⟨acc, eD, hal, s2, ra⟩ y
    obtain ⟨a, ea⟩ : ∃ a, its[i]? = some a := ⟨_, List.getElem?_eq_getElem hi⟩
    have am : a ∈ its := List.mem_of_getElem? ea
    have S2 : SX X.K (fun b => A b ∨ b = D) (wipeG Γ (own.map (·.2))) (wipe σ (own.map (·.2))) H2 := by
      have S1 := sx_wipe (S.mono s1) (own.map (·.2))
      refine ⟨S1.len, ?_, fun j s e => ?_⟩
      · rintro b (z | rfl)
        · exact dom_mono s2 S1.dom b z
        · rw [eD]; simp
      · have z := S1.sl j s e
        cases s with
        | no => trivial
        | val d => obtain ⟨v, e1, r⟩ := z; exact ⟨v, e1, r.mono (key s2)⟩
        | own ds => obtain ⟨b, vs, e1, e2, r⟩ := z; exact ⟨b, vs, e1, s2 _ _ e2, r.mono (key s2)⟩
        | scr ns => obtain ⟨b, e1, r⟩ := z; exact ⟨b, e1, (key s2).seq r⟩
        | jnk k => exact slok_jnk s2 z
    refine yk _ H2 i x H3 _ _ _ a (key s2) ea y S2 fun σ3 H4 s4 S4 hl4 far => ⟨(wipe_ext hl4 fun j hj' => far j fun z => hj' (hj j z)).trans wipe_idem, ?_⟩
    refine htk a am _ σ3 H4 _ S4 fun H5 s5 => ?_
    have s25 : Same H2 H5 := s4.trans s5
    by_cases c : pr a = true
    · rw [c]
      refine iteT ⟨a, _, ⟨am, c⟩, S4.mono s5, fun v H6 s6 r6 => ⟨acc, s6 _ _ (s25 _ _ eD), Nat.lt_of_le_of_lt hal (Nat.lt_of_lt_of_le hi hl), acc ++ [v], upd_same, by simp; omega, ?_, ?_⟩⟩
      · intro b o e
        rw [upd_ne (ne_of_none e hD)]
        exact s6 _ _ (s25 _ _ (s2 _ _ e))
      · rw [msk_upd (.inr rfl), take_more ea, List.filter_append, List.map_append]
        refine (ra.mono (msk_same (s25.trans s6))).append ?_
        simp only [List.filter_cons, c, if_true, List.filter_nil, List.map_cons, List.map_nil]
        exact .cons r6 .nil
    · rw [Bool.eq_false_iff.mpr c]
      refine iteF ⟨acc, s25 _ _ eD, by omega, s2.trans s25, ?_⟩
      rw [take_more ea, List.filter_append, List.map_append]
      simp only [List.filter_cons, Bool.eq_false_iff.mpr c, Bool.false_eq_true, if_false, List.filter_nil, List.map_nil, List.append_nil]
      exact ra.mono (msk_same s25)
  · rintro H2 ⟨acc, eD, _, s2, ra⟩
    rw [List.take_length] at ra
    exact q D acc H2 (s1.trans s2) (s1.free hD) eD ra
theorem de_lc0 {tt : TT} {pr : α → Bool} {f : α → D} (hc : X.calm = true) (hN : X.N.Nodup) (di : DI X Γ tg iter g its js bd) (ok : BlkOk X.N X.env.scope scope own) (hj : ∀ j ∈ js, j ∈ own.map (·.2))
    (hg : ∀ (s : Shared) (H : Hp) (C : Addr) (cl : List (Str × Addr)) (fp : List Addr), PG (X.blk s H scope (compEnvC scope cl C X.env) fp) tg g)
    (ht : ∀ (s : Shared) (H : Hp) (C : Addr) (cl : List (Str × Addr)) (fp : List Addr), PTs (X.blk s H scope (compEnvC scope cl C X.env) fp) ifs tt)
    (htk : ∀ a ∈ its, ∀ A2 σ H Q, SX X.K A2 (bd a (wipeG Γ (own.map (·.2)))) σ H → (∀ H', Same H H' → Q (pr a) H') → tt σ H Q)
    (he : ∀ a ∈ its, pr a = true → ∀ (s : Shared) (H : Hp) (C : Addr) (cl : List (Str × Addr)) (fp : List Addr), DE (X.blk s H scope (compEnvC scope cl C X.env) fp) (bd a (wipeG Γ (own.map (·.2)))) elt (f a))
    (hl : its.length ≤ sizeLine) (hs : ∀ x, foldedSetIterable iter X.env x = pure x := by intro _; rfl) : DF X Γ (.ListComp elt [⟨tg, iter, ifs, 0⟩] scope pos) ((its.filter pr).map f) := fun A => by
  obtain ⟨wi, te, hi, hp, k⟩ := lc_sem (elt := elt) (scope := scope) di hj htk he hl A
  exact impE (pe_lc hc hN hi ok hg ht hp hs) k
/-- [elt for tg in iter] -/
theorem df_lc {f : α → D} (hc : X.calm = true) (hN : X.N.Nodup) (di : DI X Γ tg iter g its js bd) (ok : BlkOk X.N X.env.scope scope own) (hj : ∀ j ∈ js, j ∈ own.map (·.2))
    (hg : ∀ (s : Shared) (H : Hp) (C : Addr) (cl : List (Str × Addr)) (fp : List Addr), PG (X.blk s H scope (compEnvC scope cl C X.env) fp) tg g)
    (he : ∀ a ∈ its, ∀ (s : Shared) (H : Hp) (C : Addr) (cl : List (Str × Addr)) (fp : List Addr), DE (X.blk s H scope (compEnvC scope cl C X.env) fp) (bd a (wipeG Γ (own.map (·.2)))) elt (f a))
    (hl : its.length ≤ sizeLine) (hs : ∀ x, foldedSetIterable iter X.env x = pure x := by intro _; rfl) : DF X Γ (.ListComp elt [⟨tg, iter, [], 0⟩] scope pos) (its.map f) := fun A => by
  have h := de_lc0 (pos := pos) (tt := tYes) (pr := fun _ => true) (f := f) hc hN di ok hj hg (fun _ _ _ _ _ => pts_nil) (fun a _ A2 σ H Q _ k => k H (Same.refl H)) (fun a ha _ => he a ha) hl hs A
  rw [show its.filter (fun _ => true) = its from List.filter_eq_self.mpr fun _ _ => rfl] at h
  exact h
/-- [elt for tg in iter if c] -/
theorem df_lcIf {c : Expr} {pr : α → Bool} {f : α → D} (hc : X.calm = true) (hN : X.N.Nodup) (di : DI X Γ tg iter g its js bd) (ok : BlkOk X.N X.env.scope scope own) (hj : ∀ j ∈ js, j ∈ own.map (·.2))
    (hg : ∀ (s : Shared) (H : Hp) (C : Addr) (cl : List (Str × Addr)) (fp : List Addr), PG (X.blk s H scope (compEnvC scope cl C X.env) fp) tg g)
    (ht : ∀ a ∈ its, ∀ (s : Shared) (H : Hp) (C : Addr) (cl : List (Str × Addr)) (fp : List Addr), DB (X.blk s H scope (compEnvC scope cl C X.env) fp) (bd a (wipeG Γ (own.map (·.2)))) c (pr a))
    (he : ∀ a ∈ its, pr a = true → ∀ (s : Shared) (H : Hp) (C : Addr) (cl : List (Str × Addr)) (fp : List Addr), DE (X.blk s H scope (compEnvC scope cl C X.env) fp) (bd a (wipeG Γ (own.map (·.2)))) elt (f a))
    (hl : its.length ≤ sizeLine) (hs : ∀ x, foldedSetIterable iter X.env x = pure x := by intro _; rfl) : DF X Γ (.ListComp elt [⟨tg, iter, [c], 0⟩] scope pos) ((its.filter pr).map f) :=
  de_lc0 (tt := fun σ H Q => ∃ (a : α) (A2 : Addr → Prop), a ∈ its ∧ tTst X.K A2 (bd a (wipeG Γ (own.map (·.2)))) (pr a) σ H Q) hc hN di ok hj hg
    (fun s H C cl fp => pts_one ⟨fun pins s' σ H' Q I ⟨a, A2, ha, q⟩ => (ht a ha s H C cl fp A2).run pins s' σ H' Q I q⟩) (fun a ha A2 σ H Q S k => ⟨a, A2, ha, S, k⟩) he hl hs
end
end G
set_option Elab.async false
set_option linter.all false
set_option maxRecDepth 100000
namespace G
open PySem PySem.Spec PyProof.Rows L2
/-! ### statements -/
structure Rt where
  r : Nat → Addr
  J : Addr → Prop
instance : CoeFun Rt (fun _ => Nat → Addr) := ⟨Rt.r⟩
def Aof (A0 : Addr → Prop) (Γ : List Sl) (r : Rt) : Addr → Prop := fun b => A0 b ∨ r.J b ∨ ∃ (i : Nat) (ds : List D), Γ[i]? = some (.own ds) ∧ r i = b
/-- such lists, their addresses in J -/
def Jnk (J : Addr → Prop) (H : Hp) : Jk → Option (Option V) → Prop
  | .junk n m, o => ∃ (a : Addr) (vs : List V), o = some (some (.ref a)) ∧ J a ∧ H a = some (.lst vs) ∧ vs.length = n ∧ ∀ v ∈ vs, ∃ (b : Addr) (ws : List V), v = .ref b ∧ J b ∧ H b = some (.lst ws) ∧ ws.length ≤ m ∧ b ≠ a
  | .tre dss, o => ∃ (a : Addr) (bs : List (Addr × List Int)), o = some (some (.ref a)) ∧ J a ∧ H a = some (.lst (bs.map fun b => V.ref b.1)) ∧ bs.map (·.2) = dss ∧ ∀ b ∈ bs, J b.1 ∧ H b.1 = some (.lst (b.2.map V.int))
theorem Jnk.mono {J : Addr → Prop} {H H' : Hp} {k : Jk} {o : Option (Option V)} (h : Jnk J H k o) (s : ∀ b u, J b → H b = some u → H' b = some u) : Jnk J H' k o := by
  cases k with
  | junk n m =>
    obtain ⟨a, vs, e, j, e2, l, k⟩ := h
    refine ⟨a, vs, e, j, s _ _ j e2, l, fun v hv => ?_⟩
    obtain ⟨b, ws, f1, f2, f3, f4⟩ := k v hv
    exact ⟨b, ws, f1, f2, s _ _ f2 f3, f4⟩
  | tre dss =>
    obtain ⟨a, bs, e, j, e2, l, k⟩ := h
    exact ⟨a, bs, e, j, s _ _ j e2, l, fun b hb => ⟨(k b hb).1, s _ _ (k b hb).1 (k b hb).2⟩⟩
theorem rows_rep {K : PySem.W.Frag} {H : Hp} : ∀ {bs : List (Addr × List Int)}, (∀ b ∈ bs, H b.1 = some (.lst (b.2.map V.int))) → Reps K H (bs.map fun b => V.ref b.1) ((bs.map (·.2)).map fun ns => D.lst (ns.map D.int))
  | [], _ => .nil
  | b :: bs, h => .cons (.lst (h b List.mem_cons_self) (.of_ints _)) (rows_rep fun c hc => h c (List.mem_cons_of_mem _ hc))
theorem Jnk.slok {K : PySem.W.Frag} {A : Addr → Prop} {J : Addr → Prop} {H : Hp} {k : Jk} {o : Option (Option V)} (h : Jnk J H k o) : SlOk K A H (.jnk k) o := by
  cases k with
  | junk => trivial
  | tre dss =>
    obtain ⟨a, bs, e, j, e2, l, k⟩ := h
    refine ⟨_, e, ?_⟩
    rw [← l]
    exact .lst e2 (rows_rep fun b hb => (k b hb).2)
structure Bs where
  h : Hp
  p : Addr
structure SR (K : PySem.W.Frag) (A0 : Addr → Prop) (B : Bs) (Γ : List Sl) (σ : L2.St) (H : Hp) (r : Rt) : Prop where
  sx : SX K (Aof A0 Γ r) Γ σ H
  base : Same B.h H
  dom0 : ∀ b, A0 b → B.h b ≠ none
  own : ∀ (i : Nat) ds, Γ[i]? = some (.own ds) → σ[i]? = some (some (.ref (r i))) ∧ B.h (r i) = none
  inj : ∀ (i j : Nat) ds es, Γ[i]? = some (.own ds) → Γ[j]? = some (.own es) → r i = r j → i = j
  pin : ∀ ds, Γ[0]? = some (.own ds) → r 0 = B.p
  jd : ∀ b, r.J b → B.h b = none ∧ H b ≠ none
  jo : ∀ (i : Nat) ds, Γ[i]? = some (.own ds) → ¬ r.J (r i)
  jk : ∀ (i : Nat) n, Γ[i]? = some (.jnk n) → Jnk r.J H n σ[i]?
inductive Out where
  | nx (Γ : List Sl) | rt (d : D) | bk (Γ : List Sl) | ct (Γ : List Sl)
def OutOk (K : PySem.W.Frag) (A0 : Addr → Prop) (B : Bs) (E : Ends) : Out → Prop
  | .nx Γ => ∀ σ H r, SR K A0 B Γ σ H r → E.nx σ H
  | .rt d => ∀ v H, Same B.h H → Rep K (msk A0 H) v d → E.rt v H
  | .bk Γ => ∀ σ H r, SR K A0 B Γ σ H r → E.bk σ H
  | .ct Γ => ∀ σ H r, SR K A0 B Γ σ H r → E.ct σ H
def tSt (K : PySem.W.Frag) (A0 : Addr → Prop) (Γ : List Sl) (o : Out) : TS := fun E σ H => ∃ B r, SR K A0 B Γ σ H r ∧ OutOk K A0 B E o
abbrev DSt (X : Cx) (Γ : List Sl) (st : Stmt) (o : Out) : Prop := ∀ A0, PS X st (tSt X.K A0 Γ o)
abbrev DSs (X : Cx) (Γ : List Sl) (sts : List Stmt) (o : Out) : Prop := ∀ A0, PSs X sts (tSt X.K A0 Γ o)
theorem impS {X : Cx} {st : Stmt} {t t' : TS} (h : PS X st t) (i : ∀ E σ H, t' E σ H → t E σ H) : PS X st t' := ⟨fun pins s σ H E I q => h.run pins s σ H E I (i E σ H q)⟩
theorem impSs {X : Cx} {st : List Stmt} {t t' : TS} (h : PSs X st t) (i : ∀ E σ H, t' E σ H → t E σ H) : PSs X st t' := ⟨fun pins s σ H E I q => h.run pins s σ H E I (i E σ H q)⟩
theorem PS_somep {X : Cx} {st : Stmt} {p : Prop} {t : TS} (h : p → PS X st t) : PS X st (fun E σ H => p ∧ t E σ H) := ⟨fun pins s σ H E I ⟨i, q⟩ => (h i).run pins s σ H E I q⟩
theorem PSs_somep {X : Cx} {st : List Stmt} {p : Prop} {t : TS} (h : p → PSs X st t) : PSs X st (fun E σ H => p ∧ t E σ H) := ⟨fun pins s σ H E I ⟨i, q⟩ => (h i).run pins s σ H E I q⟩
theorem PSs_some {X : Cx} {st : List Stmt} {ι : Type} {t : ι → TS} (h : ∀ i, PSs X st (t i)) : PSs X st (fun E σ H => ∃ i, t i E σ H) := ⟨fun pins s σ H E I ⟨i, q⟩ => (h i).run pins s σ H E I q⟩
section
variable {K : PySem.W.Frag} {A0 : Addr → Prop} {B : Bs} {Γ : List Sl} {σ : L2.St} {H H' : Hp} {r : Rt}
theorem SR.mono (S : SR K A0 B Γ σ H r) (s : Same H H') : SR K A0 B Γ σ H' r := ⟨S.sx.mono s, S.base.trans s, S.dom0, S.own, S.inj, S.pin, fun b j => ⟨(S.jd b j).1, fun z => (S.jd b j).2 (s.free z)⟩, S.jo, fun i n e => (S.jk i n e).mono fun b u _ => s b u⟩
theorem SX.sub {A A' : Addr → Prop} (S : SX K A Γ σ H) (h : ∀ b, A' b → A b) : SX K A' Γ σ H := ⟨S.len, fun b z => S.dom b (h b z), fun i s e => by
  have q := S.sl i s e
  cases s with
  | no => trivial
  | val d => obtain ⟨v, e1, r⟩ := q; exact ⟨v, e1, r.mono (msk_sub h)⟩
  | own ds => obtain ⟨a, vs, e1, e2, r⟩ := q; exact ⟨a, vs, e1, e2, r.mono (msk_sub h)⟩
  | scr ns => obtain ⟨a, e1, r⟩ := q; exact ⟨a, e1, (msk_sub h).seq r⟩
  | jnk k => exact slok_jnk (Same.refl H) q⟩
theorem set_val_own {Γ : List Sl} {i j : Nat} {d : D} {ds : List D} (h : (Γ.set i (.val d))[j]? = some (.own ds)) : j ≠ i ∧ Γ[j]? = some (.own ds) := by
  by_cases c : i = j
  · subst c
    by_cases c2 : i < Γ.length
    · rw [List.getElem?_set_self c2] at h; cases h
    · rw [List.getElem?_eq_none (by rw [List.length_set]; omega)] at h; cases h
  · rw [List.getElem?_set_ne c] at h
    exact ⟨fun z => c z.symm, h⟩
theorem set_val_jnk {Γ : List Sl} {i j : Nat} {d : D} {n : Jk} (h : (Γ.set i (.val d))[j]? = some (.jnk n)) : j ≠ i ∧ Γ[j]? = some (.jnk n) := by
  by_cases c : i = j
  · subst c
    by_cases c2 : i < Γ.length
    · rw [List.getElem?_set_self c2] at h; cases h
    · rw [List.getElem?_eq_none (by rw [List.length_set]; omega)] at h; cases h
  · rw [List.getElem?_set_ne c] at h
    exact ⟨fun z => c z.symm, h⟩
theorem SR.setv (S : SR K A0 B Γ σ H r) {i : Nat} {v : V} {d : D} (q : Rep K (msk (Aof A0 Γ r) H) v d) : SR K A0 B (Γ.set i (.val d)) (σ.set i (some v)) H r := by
  have sub : ∀ b, Aof A0 (Γ.set i (.val d)) r b → Aof A0 Γ r b := fun b z => by
    rcases z with z | z | ⟨j, ds, e, z⟩
    · exact .inl z
    · exact .inr (.inl z)
    · exact .inr (.inr ⟨j, ds, (set_val_own e).2, z⟩)
  refine ⟨(sx_set S.sx q).sub sub, S.base, S.dom0, fun j ds e => ?_, fun j k ds es e1 e2 => S.inj j k ds es (set_val_own e1).2 (set_val_own e2).2, fun ds e => S.pin ds (set_val_own e).2, S.jd, fun j ds e => S.jo j ds (set_val_own e).2, fun j n e => by
    obtain ⟨h1, h2⟩ := set_val_jnk e
    rw [List.getElem?_set_ne (Ne.symm h1)]
    exact S.jk j n h2⟩
  obtain ⟨n, e⟩ := set_val_own e
  rw [List.getElem?_set_ne (Ne.symm n)]
  exact S.own j ds e
/-- a state that says less -/
def WkS (s' s : Sl) : Prop := s = .no ∨ s = s' ∨ ∃ ds, s' = .own ds ∧ s = .val (.lst ds)
def Wk (Γ Γ' : List Sl) : Prop := Γ'.length = Γ.length ∧ ∀ (i : Nat) s, Γ'[i]? = some s → ∃ s', Γ[i]? = some s' ∧ WkS s' s
theorem SR.weak {Γ' : List Sl} (S : SR K A0 B Γ σ H r) (w : Wk Γ Γ') : SR K A0 B Γ' σ H r := by
  have ow : ∀ (j : Nat) ds, Γ'[j]? = some (.own ds) → Γ[j]? = some (.own ds) := fun j ds e => by
    obtain ⟨s', e', h | h | ⟨es, _, h⟩⟩ := w.2 j _ e
    · cases h
    · rw [e', h]
    · cases h
  have sub : ∀ b, Aof A0 Γ' r b → Aof A0 Γ r b := fun b z => by
    rcases z with z | z | ⟨j, ds, e, z⟩
    · exact .inl z
    · exact .inr (.inl z)
    · exact .inr (.inr ⟨j, ds, ow j ds e, z⟩)
  refine ⟨⟨S.sx.len.trans w.1.symm, fun b z => S.sx.dom b (sub b z), fun j s e => ?_⟩, S.base, S.dom0, fun j ds e => S.own j ds (ow j ds e), fun j k ds es e1 e2 => S.inj j k ds es (ow j ds e1) (ow k es e2), fun ds e => S.pin ds (ow 0 ds e), S.jd, fun j ds e => S.jo j ds (ow j ds e), fun j n e => ?_⟩
  rotate_left
  · obtain ⟨s', e', h | h | ⟨es, _, h⟩⟩ := w.2 j _ e
    · cases h
    · rw [← h] at e'; exact S.jk j n e'
    · cases h
  have S2 := S.sx.sub sub
  obtain ⟨s', e', h | h | ⟨ds, h1, h2⟩⟩ := w.2 j s e
  · subst h; trivial
  · subst h; exact S2.sl j s e'
  · subst h1; subst h2
    obtain ⟨a, vs, e1, e2, q⟩ := S2.sl j _ e'
    obtain ⟨e3, e4⟩ := S.own j ds e'
    rw [e3] at e1; cases e1
    refine ⟨_, e3, .lst ?_ q⟩
    rw [msk_out]
    · exact e2
    · rintro (z | z | ⟨k, es, e5, z⟩)
      · exact S.dom0 _ z e4
      · exact S.jo j ds e' z
      · have : k = j := S.inj k j _ _ (ow k es e5) e' z
        subst this
        rw [e] at e5; cases e5
theorem out_weak {E : Ends} {Γ' : List Sl} (w : Wk Γ Γ') (h : OutOk K A0 B E (.nx Γ')) : OutOk K A0 B E (.nx Γ) := fun σ H r S => h σ H r (S.weak w)
end
section
variable {X : Cx} {Γ Γ1 : List Sl} {st : Stmt} {sts a b : List Stmt} {o o1 o2 : Out} {e c : Expr} {pos : Pos} {d : D} {ds : List D} {cb : Bool} {x : Str}
theorem dss_nil : DSs X Γ [] (.nx Γ) := fun A0 => impSs pss_nil fun E σ H ⟨B, r, S, k⟩ => k σ H r S
theorem dss_cons (h1 : DSt X Γ st (.nx Γ1)) (h2 : DSs X Γ1 sts o) : DSs X Γ (st :: sts) o := fun A0 =>
  impSs (pss_cons (h1 A0) (h2 A0)) fun E σ H ⟨B, r, S, k⟩ => ⟨B, r, S, fun σ' H' r' S' => ⟨B, r', S', k⟩⟩
theorem dss_one (h1 : DSt X Γ st o) : DSs X Γ [st] o := fun A0 => pss_one (h1 A0)
theorem dss_weak (w : Wk Γ Γ1) (h : DSs X Γ1 sts o) : DSs X Γ sts o := fun A0 => impSs (h A0) fun E σ H ⟨B, r, S, k⟩ => ⟨B, r, S.weak w, k⟩
theorem dss_post (w : Wk Γ1 Γ2) (h : DSs X Γ sts (.nx Γ1)) : DSs X Γ sts (.nx Γ2) := fun A0 => impSs (h A0) fun E σ H ⟨B, r, S, k⟩ => ⟨B, r, S, out_weak w k⟩
theorem dst_ret (h : DE X Γ e d) : DSt X Γ (.Return (some e) pos) (.rt d) := fun A0 =>
  ⟨fun pins s σ H E I ⟨B, r, S, k⟩ => (ps_ret (pos := pos) (h (Aof A0 Γ r))).run pins s σ H E I ⟨S.sx, fun v H1 s1 r1 => k v H1 (S.base.trans s1) (r1.mono (msk_sub fun b z => .inl z))⟩⟩
theorem dst_retN : DSt X Γ (.Return none pos) (.rt .non) := fun A0 => impS ps_retN fun E σ H ⟨B, r, S, k⟩ => k _ H S.base .non
theorem dst_pass : DSt X Γ (.Pass pos) (.nx Γ) := fun A0 => impS ps_pass fun E σ H ⟨B, r, S, k⟩ => k σ H r S
theorem dst_cont : DSt X Γ (.Continue pos) (.ct Γ) := fun A0 => impS ps_continue fun E σ H ⟨B, r, S, k⟩ => k σ H r S
theorem dst_break : DSt X Γ (.Break pos) (.bk Γ) := fun A0 => impS ps_break fun E σ H ⟨B, r, S, k⟩ => k σ H r S
theorem dst_set (i : Nat) {pos' : Pos} (h : DE X Γ e d) (hN : X.N.Nodup) (hi : X.N[i]? = some x := by rfl) (hx : Loc X.env.scope x := by first | exact Or.inl rfl | exact Or.inr rfl) (hs : swapsWith e (some (.Name x pos')) pos.line X.env = pure false := by rfl)
    (hf : X.fn x = true ∨ X.env.scope.names.lookup x = some .local := by first | exact .inl rfl | exact .inr rfl) : DSt X Γ (.Assign [.Name x pos'] e pos) (.nx (Γ.set i (.val d))) := fun A0 =>
  ⟨fun pins s σ H E I ⟨B, r, S, k⟩ => (ps_set hN hi hx (h (Aof A0 Γ r)) hs hf).run pins s σ H E I ⟨S.sx, fun v H1 s1 r1 => k _ H1 r ((S.mono s1).setv r1)⟩⟩
/-- a new list of one's own in slot i -/
theorem SR.seto {i : Nat} (hi0 : i ≠ 0) {K : PySem.W.Frag} {A0 : Addr → Prop} {B : Bs} {Γ : List Sl} {σ : L2.St} {H H' : Hp} {r : Rt} (S : SR K A0 B Γ σ H r) {p : Addr} {vs : List V} (s : Same H H') (n : H p = none) (e : H' p = some (.lst vs)) (q : Reps K (msk (fun b => Aof A0 Γ r b ∨ b = p) H') vs ds) :
    SR K A0 B (Γ.set i (.own ds)) (σ.set i (some (.ref p))) H' ⟨fun j => if j = i then p else r j, r.J⟩ := by
  have hp : ∀ (j : Nat) es, Γ[j]? = some (.own es) → r j ≠ p := fun j es e1 z => by
    obtain ⟨a, vs, e2, e3, _⟩ := S.sx.sl j _ e1
    rw [(S.own j es e1).1] at e2; cases e2
    rw [z, n] at e3; cases e3
  have nA : ¬ Aof A0 Γ r p := notA S.sx.dom n
  have old : ∀ (j : Nat) s, j ≠ i → (Γ.set i (.own ds))[j]? = some s → Γ[j]? = some s := fun j s h z => by rw [List.getElem?_set_ne (Ne.symm h)] at z; exact z
  have sub : ∀ b, Aof A0 (Γ.set i (.own ds)) ⟨fun j => if j = i then p else r j, r.J⟩ b → (Aof A0 Γ r b ∨ b = p) := fun b z => by
    rcases z with z | z | ⟨j, es, e1, z⟩
    · exact .inl (.inl z)
    · exact .inl (.inr (.inl z))
    · have z : (if j = i then p else r j) = b := z
      by_cases c : j = i
      · rw [if_pos c] at z; exact .inr z.symm
      · rw [if_neg c] at z; exact .inl (.inr (.inr ⟨j, es, old j _ c e1, z⟩))
  have key : Same (msk (Aof A0 Γ r) H) (msk (fun b => Aof A0 Γ r b ∨ b = p) H') := fun b o z => by
    obtain ⟨n1, z⟩ := msk_of z
    rw [msk_out]
    · exact s b o z
    · rintro (y | rfl)
      · exact n1 y
      · rw [n] at z; cases z
  refine ⟨⟨by rw [List.length_set, List.length_set]; exact S.sx.len, fun b z => ?_, fun j s' e1 => ?_⟩, S.base.trans s, S.dom0, fun j es e1 => ?_, fun j k es fs e1 e2 e3 => ?_, fun es e1 => by show (if 0 = i then p else r 0) = _; rw [if_neg (Ne.symm hi0)]; exact S.pin es (old 0 _ (Ne.symm hi0) e1),
    fun b j => ⟨(S.jd b j).1, fun z => (S.jd b j).2 (s.free z)⟩, fun j es e1 jj => ?_, fun j n' e1 => ?_⟩
  rotate_right 2
  · have jj : r.J (if j = i then p else r j) := jj
    by_cases c : j = i
    · rw [if_pos c] at jj; exact (S.jd p jj).2 n
    · rw [if_neg c] at jj; exact S.jo j es (old j _ c e1) jj
  · by_cases c : j = i
    · subst c
      by_cases c2 : j < Γ.length
      · rw [List.getElem?_set_self c2] at e1; cases e1
      · rw [List.getElem?_eq_none (by rw [List.length_set]; omega)] at e1; cases e1
    · rw [List.getElem?_set_ne (Ne.symm c)]
      exact (S.jk j n' (old j _ c e1)).mono fun b u _ => s b u
  · rcases sub b z with z | rfl
    · exact dom_mono s S.sx.dom b z
    · rw [e]; simp
  · by_cases c : j = i
    · subst c
      by_cases c2 : j < Γ.length
      · rw [List.getElem?_set_self c2] at e1; cases e1
        exact ⟨p, vs, List.getElem?_set_self (by rw [S.sx.len]; exact c2), e, q.mono (msk_sub sub)⟩
      · rw [List.getElem?_eq_none (by rw [List.length_set]; omega)] at e1; cases e1
    · have e2 := old j _ c e1
      have z := S.sx.sl j _ e2
      rw [List.getElem?_set_ne (Ne.symm c)]
      cases s' with
      | no => trivial
      | val d => obtain ⟨v, e3, r⟩ := z; exact ⟨v, e3, r.mono (key.trans (msk_sub sub))⟩
      | own fs => obtain ⟨b, ws, e3, e4, r⟩ := z; exact ⟨b, ws, e3, s _ _ e4, r.mono (key.trans (msk_sub sub))⟩
      | scr ns => obtain ⟨b, e3, r⟩ := z; exact ⟨b, e3, (key.trans (msk_sub sub)).seq r⟩
      | jnk k => exact slok_jnk s z
  · by_cases c : j = i
    · subst c
      by_cases c2 : j < Γ.length
      · show _ = some (some (V.ref (if j = j then p else r j))) ∧ B.h (if j = j then p else r j) = none
        rw [if_pos rfl]
        refine ⟨List.getElem?_set_self (by rw [S.sx.len]; exact c2), S.base.free n⟩
      · rw [List.getElem?_eq_none (by rw [List.length_set]; omega)] at e1; cases e1
    · show _ = some (some (V.ref (if j = i then p else r j))) ∧ B.h (if j = i then p else r j) = none
      rw [if_neg c, List.getElem?_set_ne (Ne.symm c)]
      exact S.own j es (old j _ c e1)
  · have e3 : (if j = i then p else r j) = (if k = i then p else r k) := e3
    by_cases c1 : j = i
    · by_cases c2 : k = i
      · rw [c1, c2]
      · simp only [if_pos c1, if_neg c2] at e3
        exact absurd e3.symm (hp k fs (old k _ c2 e2))
    · by_cases c2 : k = i
      · simp only [if_neg c1, if_pos c2] at e3
        exact absurd e3 (hp j es (old j _ c1 e1))
      · simp only [if_neg c1, if_neg c2] at e3
        exact S.inj j k es fs (old j _ c1 e1) (old k _ c2 e2) e3
theorem dst_own (i : Nat) {pos' : Pos} (h : DF X Γ e ds) (hN : X.N.Nodup) (hi0 : i ≠ 0 := by decide) (hi : X.N[i]? = some x := by rfl) (hx : Loc X.env.scope x := by first | exact Or.inl rfl | exact Or.inr rfl) (hs : swapsWith e (some (.Name x pos')) pos.line X.env = pure false := by rfl)
    (hf : X.fn x = true ∨ X.env.scope.names.lookup x = some .local := by first | exact .inl rfl | exact .inr rfl) : DSt X Γ (.Assign [.Name x pos'] e pos) (.nx (Γ.set i (.own ds))) := fun A0 =>
  ⟨fun pins s σ H E I ⟨B, r, S, k⟩ => (ps_set hN hi hx (h (Aof A0 Γ r)) hs hf).run pins s σ H E I ⟨S.sx, fun p vs H1 s1 n1 e1 r1 => k _ H1 _ (S.seto hi0 s1 n1 e1 r1)⟩⟩
/-- the list of one's own in slot i is changed -/
theorem SR.mut {K : PySem.W.Frag} {A0 : Addr → Prop} {B : Bs} {Γ : List Sl} {σ : L2.St} {H : Hp} {r : Rt} (S : SR K A0 B Γ σ H r) {i : Nat} {ds : List D} (hi : Γ[i]? = some (.own ds)) {vs : List V} {ds' : List D} (q : Reps K (msk (Aof A0 Γ r) H) vs ds') :
    SR K A0 B (Γ.set i (.own ds')) σ (upd H (r i) (.lst vs)) r := by
  have il : i < Γ.length := (List.getElem?_eq_some_iff.mp hi).1
  have ain : Aof A0 Γ r (r i) := .inr (.inr ⟨i, ds, hi, rfl⟩)
  have ow : ∀ (j : Nat) es, (Γ.set i (.own ds'))[j]? = some (.own es) → ∃ fs, Γ[j]? = some (.own fs) := fun j es z => by
    by_cases c : i = j
    · subst c; exact ⟨ds, hi⟩
    · rw [List.getElem?_set_ne c] at z; exact ⟨es, z⟩
  have sub : ∀ b, Aof A0 (Γ.set i (.own ds')) r b → Aof A0 Γ r b := fun b z => by
    rcases z with z | z | ⟨j, es, e1, z⟩
    · exact .inl z
    · exact .inr (.inl z)
    · obtain ⟨fs, e2⟩ := ow j es e1; exact .inr (.inr ⟨j, fs, e2, z⟩)
  have mm : Same (msk (Aof A0 Γ r) H) (msk (Aof A0 (Γ.set i (.own ds')) r) (upd H (r i) (.lst vs))) := by
    have e : msk (Aof A0 Γ r) (upd H (r i) (.lst vs)) = msk (Aof A0 Γ r) H := msk_upd ain
    rw [← e]
    exact msk_sub sub
  refine ⟨⟨by rw [List.length_set]; exact S.sx.len, fun b z => ?_, fun j s e => ?_⟩, fun b o z => ?_, S.dom0, fun j es e => ?_, fun j k es fs e1 e2 e3 => ?_, fun es e => (ow 0 es e).elim fun fs e' => S.pin fs e', fun b j => ⟨(S.jd b j).1, fun z => ?_⟩, fun j es e => (ow j es e).elim fun fs e' => S.jo j fs e', fun j n e => ?_⟩
  rotate_right 2
  · by_cases c : b = r i
    · rw [c, upd_same] at z; cases z
    · rw [upd_ne c] at z; exact (S.jd b j).2 z
  · have e' : Γ[j]? = some (.jnk n) := by
      by_cases c : i = j
      · subst c; rw [List.getElem?_set_self il] at e; cases e
      · rw [List.getElem?_set_ne c] at e; exact e
    exact (S.jk j n e').mono fun b u jb q => by rw [upd_ne fun y => S.jo i ds hi (by rw [← y]; exact jb)]; exact q
  · by_cases c : b = r i
    · subst c; rw [upd_same]; simp
    · rw [upd_ne c]; exact S.sx.dom b (sub b z)
  · by_cases c : i = j
    · subst c
      rw [List.getElem?_set_self il] at e; cases e
      exact ⟨r i, vs, (S.own i ds hi).1, upd_same, q.mono mm⟩
    · rw [List.getElem?_set_ne c] at e
      have z := S.sx.sl j s e
      cases s with
      | no => trivial
      | val d => obtain ⟨v, e1, r⟩ := z; exact ⟨v, e1, r.mono mm⟩
      | own fs =>
        obtain ⟨b, ws, e1, e2, q2⟩ := z
        rw [(S.own j fs e).1] at e1; cases e1
        exact ⟨r j, ws, (S.own j fs e).1, by rw [upd_ne fun z => c (S.inj j i _ _ e hi z).symm]; exact e2, q2.mono mm⟩
      | scr ns => obtain ⟨b, e1, r⟩ := z; exact ⟨b, e1, mm.seq r⟩
      | jnk k => exact ((S.jk j k e).mono fun b u jb q => by rw [upd_ne fun y => S.jo i ds hi (by rw [← y]; exact jb)]; exact q).slok
  · rw [upd_ne fun y => by rw [y, (S.own i ds hi).2] at z; cases z]
    exact S.base b o z
  · obtain ⟨fs, e2⟩ := ow j es e
    exact S.own j fs e2
  · obtain ⟨f1, e1⟩ := ow j es e1
    obtain ⟨f2, e2⟩ := ow k fs e2
    exact S.inj j k f1 f2 e1 e2 e3
theorem dst_append (i : Nat) {pos' p2 p3 cpos : Pos} (h : DE X Γ e d) (hz : ds.length < sizeLine) (hi : Γ[i]? = some (.own ds) := by rfl) (hN : X.N[i]? = some x := by rfl) (hv : Vis X.env.scope x := by first | exact Or.inl rfl | exact Or.inr (Or.inl rfl) | exact Or.inr (Or.inr rfl))
    (hd : (x == ("__debug__" : Str)) = false := by decide) (hcd : (x == ("__classdict__" : Str)) = false := by decide)
    (he : starEach (e :: []) X.env = (false, eval e X.env) :: starEach [] X.env := by rfl)
    (hbase : attributeBase (.Name x pos') "append" X.env (eval (.Name x pos') X.env) = eval (.Name x pos') X.env := by rfl)
    (hfew : ((backTo cpos (starEach (e :: []) X.env)).all (fun x => !x.1) && (backToKw cpos (keywordEach [] X.env)).all (fun x => x.1.isSome)
      && decide ((e :: []).length + ([] : List Keyword).length + (if ([] : List Keyword).isEmpty then 0 else 1) < 30)) = true := by rfl)
    (hline : (p2.endLine == cpos.line) = true := by rfl) (hplain : (backTo cpos (starEach [] X.env)).any (·.1) = false := by rfl)
    (hs : swapsWith (.Call (.Attribute (.Name x pos') "append" p2) [e] [] cpos) none p3.line X.env = pure false := by rfl) :
    DSt X Γ (.Expr (.Call (.Attribute (.Name x pos') "append" p2) [e] [] cpos) p3) (.nx (Γ.set i (.own (ds ++ [d])))) := fun A0 =>
  ⟨fun pins s σ H E I ⟨B, r, S, k⟩ => (ps_expr (pos := p3) (pe_bm (cpos := cpos) (apos := p2) PySem.F.plainAttrs_list PySem.F.slot_list_append PySem.F.type_list_append mt_append (pv i hN hv hd hcd) (pa_cons (h (Aof A0 Γ r)) pa_nil he) hbase hfew hline he hplain) hs).run pins s σ H E I (by
    obtain ⟨e1, e2⟩ := S.own i ds hi
    obtain ⟨a, vs, e3, e4, q⟩ := S.sx.sl i _ hi
    rw [e1] at e3; cases e3
    refine ⟨_, e1, Or.inl ⟨rfl, _, .of e4⟩, S.sx, fun v H1 s1 r1 => ⟨_, _, _, rfl, rfl, s1 _ _ e4, by rw [q.length]; exact hz, ?_⟩⟩
    exact k _ _ r ((S.mono s1).mut hi ((q.mono (msk_same s1)).append (.cons r1 .nil))))⟩
theorem dst_if (hc : DB X Γ c cb) (ha : cb = true → DSs X Γ a o1) (hb : cb = false → DSs X Γ b o2) : DSt X Γ (.If c a b pos) (if cb then o1 else o2) := fun A0 =>
  ⟨fun pins s σ H E I ⟨B, r, S, k⟩ => (ps_if (pos := pos) (hc (Aof A0 Γ r)) (PSs_somep fun h => ha h A0) (PSs_somep fun h => hb h A0)).run pins s σ H E I ⟨S.sx, fun H1 s1 => by
    cases cb with
    | true => exact iteT ⟨rfl, B, r, S.mono s1, k⟩
    | false => exact iteF ⟨rfl, B, r, S.mono s1, k⟩⟩⟩
/-- both branches go on in the same state -/
theorem dst_ifj (hc : DB X Γ c cb) (ha : cb = true → DSs X Γ a o) (hb : cb = false → DSs X Γ b o) : DSt X Γ (.If c a b pos) o := fun A0 => by
  have h := dst_if (pos := pos) hc ha hb A0
  cases cb <;> exact h
/-- if c: return .. -/
theorem dss_guard (hc : DB X Γ c cb) (ha : cb = true → DSs X Γ a (.rt d)) (hr : cb = false → DSs X Γ sts o) : DSs X Γ (.If c a [] pos :: sts) (if cb then .rt d else o) := fun A0 => by
  cases cb with
  | true => 
    have h := dst_if (b := []) (pos := pos) (o2 := .nx Γ) hc ha (fun z => nomatch z) A0
    exact impSs (pss_cons h (u := fun _ _ _ => False) ⟨fun _ _ _ _ _ _ q => q.elim⟩) fun E σ H ⟨B, r, S, k⟩ => ⟨B, r, S, k⟩
  | false =>
    exact dss_cons (dst_if (pos := pos) (o1 := .rt d) hc (fun z => nomatch z) fun _ => dss_nil) (hr rfl) A0
theorem dss_rt (h : DSt X Γ st (.rt d)) : DSs X Γ (st :: sts) (.rt d) := fun A0 => by
  exact impSs (pss_cons (h A0) (u := fun _ _ _ => False) ⟨fun _ _ _ _ _ _ q => q.elim⟩) fun E σ H ⟨B, r, S, k⟩ => ⟨B, r, S, k⟩
theorem wk_nil : Wk [] [] := ⟨rfl, fun i s e => by simp at e⟩
theorem wk_cons {s s' : Sl} {Γ Γ' : List Sl} (h : WkS s' s) (w : Wk Γ Γ') : Wk (s' :: Γ) (s :: Γ') := ⟨congrArg (· + 1) w.1, fun i t e => by
  cases i with
  | zero => cases e; exact ⟨s', rfl, h⟩
  | succ i => exact w.2 i t e⟩
theorem wk_refl : ∀ {Γ : List Sl}, Wk Γ Γ := ⟨rfl, fun i s e => ⟨s, e, .inr (.inl rfl)⟩⟩
theorem wks_no {s : Sl} : WkS s .no := .inl rfl
theorem wks_id {s : Sl} : WkS s s := .inr (.inl rfl)
theorem wks_ow {ds : List D} : WkS (.own ds) (.val (.lst ds)) := .inr (.inr ⟨ds, rfl, rfl⟩)
theorem dss_gT (hc : DB X Γ c true) (ha : DSs X Γ a (.rt d)) : DSs X Γ (.If c a [] pos :: sts) (.rt d) := fun A0 => by
  have h := dss_guard (pos := pos) (sts := sts) (o := .rt d) hc (fun _ => ha) (fun z => nomatch z) A0
  exact h
theorem dss_gF (hc : DB X Γ c false) (hr : DSs X Γ sts o) : DSs X Γ (.If c a [] pos :: sts) o := fun A0 => by
  have h := dss_guard (a := a) (pos := pos) (d := .non) hc (fun z => nomatch z) (fun _ => hr) A0
  exact h
/-- the ways part here -/
theorem dss_ifs (hc : DB X Γ c cb) {Γ2 : List Sl} (ha : cb = true → DSs X Γ a (.nx Γ1)) (hb : cb = false → DSs X Γ b (.nx Γ2)) (hra : cb = true → DSs X Γ1 sts o1) (hrb : cb = false → DSs X Γ2 sts o2) : DSs X Γ (.If c a b pos :: sts) (if cb then o1 else o2) := fun A0 => by
  cases cb with
  | true => exact dss_cons (dst_ifj (pos := pos) hc ha fun z => nomatch z) (hra rfl) A0
  | false => exact dss_cons (dst_ifj (pos := pos) hc (fun z => nomatch z) hb) (hrb rfl) A0
end
end G
set_option Elab.async false
set_option linter.all false
set_option maxRecDepth 100000
namespace G
open PySem PySem.Spec PyProof.Rows L2
section
variable {X : Cx} {Γ Γ1 : List Sl} {st : Stmt} {sts a b body : List Stmt} {o o1 o2 : Out} {e c tg iter : Expr} {pos : Pos} {d : D} {ds : List D} {cb : Bool} {x : Str} {α β : Type} {g : TG} {its : List α} {js : List Nat} {bd : α → List Sl → List Sl}
/-- the base of a loop -/
noncomputable def rebase (Γ : List Sl) (r : Rt) (H : Hp) : Hp := msk (fun b => r.J b ∨ ∃ (i : Nat) (ds : List D), Γ[i]? = some (.own ds) ∧ r i = b) H
theorem SR.rebase {K : PySem.W.Frag} {A0 : Addr → Prop} {B : Bs} {Γ : List Sl} {σ : L2.St} {H : Hp} {r : Rt} (S : SR K A0 B Γ σ H r) : SR K A0 ⟨rebase Γ r H, B.p⟩ Γ σ H r ∧ Same B.h (rebase Γ r H) := by
  have sb : Same B.h (G.rebase Γ r H) := fun b o z => by
    unfold G.rebase
    rw [msk_out]
    · exact S.base b o z
    · rintro (j | ⟨i, ds, e, rfl⟩)
      · rw [(S.jd b j).1] at z; cases z
      · rw [(S.own i ds e).2] at z; cases z
  exact ⟨⟨S.sx, msk_le, fun b z => dom_mono sb S.dom0 b z, fun i ds e => ⟨(S.own i ds e).1, by show G.rebase Γ r H (r i) = none; unfold G.rebase; exact msk_in (.inr ⟨i, ds, e, rfl⟩)⟩, S.inj, S.pin, fun b j => ⟨by show G.rebase Γ r H b = none; unfold G.rebase; exact msk_in (.inl j), (S.jd b j).2⟩, S.jo, S.jk⟩, sb⟩
theorem SR.back {K : PySem.W.Frag} {A0 : Addr → Prop} {B : Bs} {B' : Hp} {Γ : List Sl} {σ : L2.St} {H : Hp} {r : Rt} (S : SR K A0 ⟨B', B.p⟩ Γ σ H r) (sb : Same B.h B') (hd : ∀ b, A0 b → B.h b ≠ none) : SR K A0 B Γ σ H r :=
  ⟨S.sx, sb.trans S.base, hd, fun i ds e => ⟨(S.own i ds e).1, sb.free (S.own i ds e).2⟩, S.inj, S.pin, fun b j => ⟨sb.free (S.jd b j).1, (S.jd b j).2⟩, S.jo, S.jk⟩
/-- the run of a loop that may be left by a return -/
def runE (q : β → α → Option D) (step : β → α → β) : List α → β → Sum D β
  | [], b => .inr b
  | x :: xs, b => match q b x with
    | some d => .inl d
    | none => runE q step xs (step b x)
def outE (Gf : β → List Sl) : Sum D β → Out
  | .inl d => .rt d
  | .inr b => .nx (Gf b)
theorem split_at {l : List α} {i : Nat} {x : α} (h : l[i]? = some x) : l = l.take i ++ x :: l.drop (i + 1) := by
  obtain ⟨h1, h2⟩ := List.getElem?_eq_some_iff.mp h
  subst h2
  rw [← List.drop_eq_getElem_cons h1, List.take_append_drop]
/-- for: the state Gf b turns by step; where q b a is some d the body returns d. The body's premise: what has been walked -/
theorem dst_forE (b0 : β) (Gf : β → List Sl) (q : β → α → Option D) (step : β → α → β) (hp : PassesOwn (model X.prog X.w) X.A X.env X.xe) (hc : X.calm = true) (di : DI X (Gf b0) tg iter g its js bd) (hg : PG X tg g)
    (hb : ∀ pre a post, its = pre ++ a :: post → ∀ b, runE q step pre b0 = .inr b → DSs X (bd a (Gf b)) body (match q b a with | some d => .rt d | none => .nx (Gf (step b a))))
    (hs : ∀ x, foldedSetIterable iter X.env x = pure x := by intro _; rfl) : DSt X (Gf b0) (.For tg iter body [] pos) (outE Gf (runE q step its b0)) := fun A0 => by
  have runA : ∀ (xs ys : List α) (b : β), runE q step (xs ++ ys) b = match runE q step xs b with | .inl d => .inl d | .inr b' => runE q step ys b' := by
    intro xs
    induction xs with
    | nil => intro ys b; rfl
    | cons x xs ih =>
      intro ys b
      show (match q b x with | some d => Sum.inl d | none => runE q step (xs ++ ys) (step b x)) = match (match q b x with | some d => Sum.inl d | none => runE q step xs (step b x)) with | .inl d => .inl d | .inr b' => runE q step ys b'
      cases q b x with
      | some d => rfl
      | none => exact ih ys _
  refine ⟨fun pins s σ H E I ⟨B, r, S, k⟩ => ?_⟩
  obtain ⟨wi, hi, hw⟩ := di.ex (Aof A0 (Gf b0) r)
  let tb : TS := fun E σ H => ∃ (pre : List α) (a : α) (post : List α) (b : β) (A0 : Addr → Prop), (its = pre ++ a :: post ∧ runE q step pre b0 = .inr b) ∧ tSt X.K A0 (bd a (Gf b)) (match q b a with | some d => .rt d | none => .nx (Gf (step b a))) E σ H
  have hbody : PSs X body tb := PSs_some fun pre => PSs_some fun a => PSs_some fun post => PSs_some fun b => PSs_some fun A0 => PSs_somep fun h => hb pre a post h.1 b h.2 A0
  refine (ps_for (pos := pos) hp hc hi hg hbody hs).run pins s σ H E I ?_
  refine hw σ H _ S.sx fun J H1 G Y s1 wk gk yk => ?_
  obtain ⟨S', sb⟩ := (S.mono s1).rebase
  have key : ∀ {Γ2 : List Sl} {σ2 : L2.St} {H2 : Hp} {r2 : Rt}, SR X.K A0 ⟨rebase (Gf b0) r H1, B.p⟩ Γ2 σ2 H2 r2 → Same (msk (Aof A0 (Gf b0) r) H1) (msk (Aof A0 Γ2 r2) H2) := fun {Γ2 σ2 H2 r2} S2 b o z => by
    obtain ⟨n, z⟩ := msk_of z
    have zb : rebase (Gf b0) r H1 b = some o := by
      unfold rebase
      rw [msk_out fun y => n (.inr y)]; exact z
    rw [msk_out]
    · exact S2.base b o zb
    · rintro (y | y | ⟨i, ds, e, rfl⟩)
      · exact n (.inl y)
      · have zz : rebase (Gf b0) r H1 b = none := (S2.jd b y).1
        rw [zz] at zb; cases zb
      · have zz : rebase (Gf b0) r H1 (r2 i) = none := (S2.own i ds e).2
        rw [zz] at zb; cases zb
  refine for_it wk (g := g) (tb := tb) (D := E) (fun i σ2 H2 => ∃ r2, match runE q step (its.take i) b0 with | .inr b => SR X.K A0 ⟨rebase (Gf b0) r H1, B.p⟩ (Gf b) σ2 H2 r2 | .inl _ => False) ⟨r, S'⟩ ?_ ?_ ?_
  · rintro i σ2 H2 hi2 ⟨r2, S2⟩
    split at S2
    · exact gk _ H2 (key S2)
    · exact S2.elim
  · rintro i x σ2 H2 H3 hi2 ⟨r2, S2⟩ y
    obtain ⟨a, ea⟩ : ∃ a, its[i]? = some a := ⟨_, List.getElem?_eq_getElem hi2⟩
    split at S2
    rotate_left
    · exact S2.elim
    rename_i b eb
    refine yk _ H2 i x H3 _ σ2 _ a (key S2) ea y S2.sx fun σ3 H4 s4 S4 hl4 far => ?_
    have ow : ∀ (j : Nat) ds, (bd a (Gf b))[j]? = some (.own ds) → j ∉ js ∧ (Gf b)[j]? = some (.own ds) := fun j ds z => by
      have nj : j ∉ js := fun y => (di.near a (Gf b) j y _ z).elim fun _ q => by cases q
      exact ⟨nj, by rw [← di.far a (Gf b) j nj]; exact z⟩
    have SS : SR X.K A0 ⟨rebase (Gf b0) r H1, B.p⟩ (bd a (Gf b)) σ3 H4 r2 := by
      refine ⟨S4.sub fun c z => ?_, S2.base.trans s4, S2.dom0, fun j ds z => ?_, fun j k ds es z1 z2 => S2.inj j k ds es (ow j ds z1).2 (ow k es z2).2, fun ds z => S2.pin ds (ow 0 ds z).2, fun c j => ⟨(S2.jd c j).1, fun y => (S2.jd c j).2 (s4.free y)⟩, fun j ds z => S2.jo j ds (ow j ds z).2, fun j n z => by
        have nj : j ∉ js := fun y => (di.near a _ j y _ z).elim fun _ q => by cases q
        rw [far j nj]
        exact (S2.jk j n (by rw [← di.far a _ j nj]; exact z)).mono fun c u _ => s4 c u⟩
      · rcases z with z | z | ⟨j, ds, z1, z2⟩
        · exact .inl z
        · exact .inr (.inl z)
        · exact .inr (.inr ⟨j, ds, (ow j ds z1).2, z2⟩)
      · obtain ⟨nj, z⟩ := ow j ds z
        rw [far j nj]
        exact S2.own j ds z
    refine ⟨its.take i, a, its.drop (i + 1), b, A0, ⟨split_at ea, eb⟩, _, r2, SS, ?_⟩
    have e2 : runE q step (its.take (i + 1)) b0 = (match q b a with | some d => Sum.inl d | none => Sum.inr (step b a)) := by
      rw [take_more ea, runA, eb]
      show (match q b a with | some d => Sum.inl d | none => runE q step [] (step b a)) = _
      cases q b a <;> rfl
    cases hq : q b a with
    | none =>
      intro σ5 H5 r5 S5
      refine ⟨r5, ?_⟩
      rw [e2, hq]
      exact S5
    | some d =>
      intro v H5 s5 r5
      have e3 : runE q step its b0 = .inl d := by
        have e4 := split_at ea
        rw [e4, runA, eb]
        show (match q b a with | some d => Sum.inl d | none => _) = _
        rw [hq]
      rw [e3] at k
      exact k v H5 (sb.trans s5) r5
  · rintro σ2 H2 ⟨r2, S2⟩
    rw [List.take_length] at S2
    cases er : runE q step its b0 with
    | inl d => rw [er] at S2; exact S2.elim
    | inr b =>
      rw [er] at S2 k
      exact k σ2 H2 r2 (S2.back sb S.dom0)
/-- .. without a return -/
theorem dst_for (b0 : β) (Gf : β → List Sl) (step : β → α → β) (hp : PassesOwn (model X.prog X.w) X.A X.env X.xe) (hc : X.calm = true) (di : DI X (Gf b0) tg iter g its js bd) (hg : PG X tg g)
    (hb : ∀ pre a post, its = pre ++ a :: post → DSs X (bd a (Gf (pre.foldl step b0))) body (.nx (Gf (step (pre.foldl step b0) a))))
    (hs : ∀ x, foldedSetIterable iter X.env x = pure x := by intro _; rfl) : DSt X (Gf b0) (.For tg iter body [] pos) (.nx (Gf (its.foldl step b0))) := by
  have run0 : ∀ (xs : List α) (b : β), runE (fun _ _ => none) step xs b = .inr (xs.foldl step b) := by
    intro xs
    induction xs with
    | nil => intro b; rfl
    | cons x xs ih => intro b; exact ih _
  have h := dst_forE (pos := pos) b0 Gf (fun _ _ => none) step hp hc di hg (fun pre a post e b eb => by
    rw [run0] at eb
    cases eb
    exact hb pre a post e) hs
  rw [run0] at h
  exact h
/-- own.extend(list) -/
theorem dst_extend (i : Nat) {es : List D} {pos' p2 p3 cpos : Pos} (h : DE X Γ e (.lst es)) (hz : ds.length + es.length ≤ sizeLine) (hi : Γ[i]? = some (.own ds) := by rfl) (hN : X.N[i]? = some x := by rfl) (hv : Vis X.env.scope x := by first | exact Or.inl rfl | exact Or.inr (Or.inl rfl) | exact Or.inr (Or.inr rfl))
    (hd : (x == ("__debug__" : Str)) = false := by decide) (hcd : (x == ("__classdict__" : Str)) = false := by decide)
    (he : starEach (e :: []) X.env = (false, eval e X.env) :: starEach [] X.env := by rfl)
    (hbase : attributeBase (.Name x pos') "extend" X.env (eval (.Name x pos') X.env) = eval (.Name x pos') X.env := by rfl)
    (hfew : ((backTo cpos (starEach (e :: []) X.env)).all (fun x => !x.1) && (backToKw cpos (keywordEach [] X.env)).all (fun x => x.1.isSome)
      && decide ((e :: []).length + ([] : List Keyword).length + (if ([] : List Keyword).isEmpty then 0 else 1) < 30)) = true := by rfl)
    (hline : (p2.endLine == cpos.line) = true := by rfl) (hplain : (backTo cpos (starEach [] X.env)).any (·.1) = false := by rfl)
    (hs : swapsWith (.Call (.Attribute (.Name x pos') "extend" p2) [e] [] cpos) none p3.line X.env = pure false := by rfl) :
    DSt X Γ (.Expr (.Call (.Attribute (.Name x pos') "extend" p2) [e] [] cpos) p3) (.nx (Γ.set i (.own (ds ++ es)))) := fun A0 =>
  ⟨fun pins s σ H E I ⟨B, r, S, k⟩ => (ps_expr (pos := p3) (pe_bm (cpos := cpos) (apos := p2) PySem.F.plainAttrs_list PySem.F.slot_list_extend PySem.F.type_list_extend mt_extend (pv i hN hv hd hcd) (pa_cons (h (Aof A0 Γ r)) pa_nil he) hbase hfew hline he hplain) hs).run pins s σ H E I (by
    obtain ⟨e1, e2⟩ := S.own i ds hi
    obtain ⟨a, vs, e3, e4, q⟩ := S.sx.sl i _ hi
    rw [e1] at e3; cases e3
    refine ⟨_, e1, Or.inl ⟨rfl, _, .of e4⟩, S.sx, fun v H1 s1 r1 => ?_⟩
    cases r1 with
    | lst h1 r1 =>
      refine ⟨_, _, _, _, rfl, rfl, s1 _ _ e4, msk_le _ _ h1, by rw [q.length, r1.length]; exact hz, ?_⟩
      exact k _ _ r ((S.mono s1).mut hi ((q.mono (msk_same s1)).append r1)))⟩
/-- own[k] = e -/
theorem dst_setitem (i : Nat) {kx : Expr} {n : Int} {j : Nat} {pos' p2 : Pos} (h : DE X Γ e d) (hk : DE X Γ kx (.int n)) (hj : ixN ds.length n = some j) (hi : Γ[i]? = some (.own ds) := by rfl) (hN : X.N[i]? = some x := by rfl) (hv : Vis X.env.scope x := by first | exact Or.inl rfl | exact Or.inr (Or.inl rfl) | exact Or.inr (Or.inr rfl))
    (hd : (x == ("__debug__" : Str)) = false := by decide) (hcd : (x == ("__classdict__" : Str)) = false := by decide)
    (ha : ∀ v, assign (.Subscript (.Name x pos') kx p2) X.env v = (do
      let ov ← holding [v] (eval (.Name x pos') X.env)
      let iv ← holding [v, ov] (eval kx X.env)
      standAt p2
      holding [v, ov, iv] (setItem ov iv v)
      release [v, ov, iv] []) := by intro _; rfl) (hs : swapsWithSole [.Subscript (.Name x pos') kx p2] e pos.line X.env = pure false := by rfl) (hw : swappedStores [.Subscript (.Name x pos') kx p2] e X.env = pure none := by rfl)
    (h1 : (assignEach [.Subscript (.Name x pos') kx p2] X.env).map (·.2) = [assign (.Subscript (.Name x pos') kx p2) X.env] := by rfl) : DSt X Γ (.Assign [.Subscript (.Name x pos') kx p2] e pos) (.nx (Γ.set i (.own (ds.set j d)))) := fun A0 =>
  ⟨fun pins s σ H E I ⟨B, r, S, k⟩ => (ps_asg (h (Aof A0 Γ r)) (pg_sub (pv i hN hv hd hcd) (hk (Aof A0 Γ r)) set_list ha) hs hw h1).run pins s σ H E I ⟨S.sx, fun v H1 s1 r1 => by
    obtain ⟨e1, e2⟩ := S.own i ds hi
    refine ⟨_, e1, S.sx.mono s1, fun w H2 s2 r2 => ?_⟩
    cases r2
    obtain ⟨a, vs, e3, e4, q⟩ := S.sx.sl i _ hi
    rw [e1] at e3; cases e3
    refine ⟨_, _, _, j, rfl, rfl, s2 _ _ (s1 _ _ e4), by rw [q.length]; exact hj, ?_⟩
    exact k _ _ r ((S.mono (s1.trans s2)).mut hi (Reps.set (r1.mono (msk_same s2)) j (q.mono (msk_same (s1.trans s2)))))⟩⟩

/-! ### defs -/
/-- for arguments ds the value d, where R ds d; what stood before stands -/
def spD (K : PySem.W.Frag) (R : List D → D → Prop) : Sp := fun vs H Q _ => ∃ ds A d, Reps K (msk A H) vs ds ∧ (∀ b, A b → H b ≠ none) ∧ R ds d ∧ ∀ v H', Same H H' → Rep K (msk A H') v d → Q v H'
def Out.res : Out → Option D
  | .rt d => some d
  | .nx _ => some .non
  | _ => none
theorem res_ite {c : Bool} {o1 o2 : Out} : (if c then o1 else o2).res = if c then o1.res else o2.res := by cases c <;> rfl
def Γ0 (N : List Str) (ds : List D) : List Sl := ds.map Sl.val ++ List.replicate (N.length - ds.length) .no
variable {P : Program} {w : World} {K : PySem.W.Frag} {mg : Str → Option Value} {base : Heap}
theorem fn_mk {R : List D → D → Prop} {y qual : Str} {fst : Stmt} {f : Addr} {fd : FuncData} {N ps : List Str} {k : Nat} (F : Fun K y qual fst f fd) (S : FnScope N ps (defScope fst)) (hl : ∀ ds d, R ds d → ds.length = ps.length)
    (hb : ∀ (cdv : Value) (A : Around) (outer : List Env) (s : Shared) (H : Hp) (E : XK), Room k (A.deeper (envOfC qual (defScope fst) s.heap.objs.size f cdv)) → ∀ ds d, R ds d →
      ∃ o : Out, DSs (cxOf CX0 P w K mg base N qual (defScope fst) f cdv A outer s H E).nox (Γ0 N ds) (defBody fst) o ∧ o.res = some d) : FnOk P w K mg base CX0 (k + 1) f fd ps (spD K R) := by
  refine F.ok S (fun vs H Q E ⟨ds, A, d, r, _, h, _⟩ => by rw [r.length]; exact hl ds d h) fun cdv A outer s H vs Q E hr ⟨ds, Am, d, r, dom, h, q⟩ => ?_
  obtain ⟨o, hs, ho⟩ := hb cdv A outer s H E hr ds d h
  refine ⟨_, hs Am, ⟨H, 0⟩, ⟨fun _ => 0, fun _ => False⟩, ⟨⟨?_, fun b z => ?_, fun i sl e => ?_⟩, Same.refl H, dom, fun i ds' e => ?_, fun i j ds' es e => ?_, fun _ _ => rfl, fun _ z => z.elim, fun _ _ _ z => z, fun i n e => ?_⟩, ?_⟩
  · unfold L2.start Γ0; simp [r.length]
  · rcases z with z | z | ⟨i, ds', e, _⟩
    · exact dom b z
    · exact z.elim
    · exfalso
      unfold Γ0 at e
      rw [List.getElem?_append] at e
      split at e
      · rw [List.getElem?_map] at e; cases h : ds[i]? <;> rw [h] at e <;> cases e
      · rw [List.getElem?_replicate] at e; split at e <;> cases e
  · unfold Γ0 at e
    have no : ∀ ds', sl ≠ .own ds' := fun ds' z => by
      subst z
      rw [List.getElem?_append] at e
      split at e
      · rw [List.getElem?_map] at e; cases h : ds[i]? <;> rw [h] at e <;> cases e
      · rw [List.getElem?_replicate] at e; split at e <;> cases e
    cases sl with
    | no => trivial
    | jnk k =>
      exfalso
      rw [List.getElem?_append] at e
      split at e
      · rw [List.getElem?_map] at e; cases h : ds[i]? <;> rw [h] at e <;> cases e
      · rw [List.getElem?_replicate] at e; split at e <;> cases e
    | scr ns =>
      exfalso
      rw [List.getElem?_append] at e
      split at e
      · rw [List.getElem?_map] at e; cases h : ds[i]? <;> rw [h] at e <;> cases e
      · rw [List.getElem?_replicate] at e; split at e <;> cases e
    | own ds' => exact absurd rfl (no ds')
    | val d' =>
      have r' : Reps K (msk (Aof Am (Γ0 N ds) ⟨fun _ => 0, fun _ => False⟩) H) vs ds := r.mono (msk_sub fun b z => by
        rcases z with z | z | ⟨i, ds', e, _⟩
        · exact z
        · exact z.elim
        · exfalso
          unfold Γ0 at e
          rw [List.getElem?_append] at e
          split at e
          · rw [List.getElem?_map] at e; cases h : ds[i]? <;> rw [h] at e <;> cases e
          · rw [List.getElem?_replicate] at e; split at e <;> cases e)
      rw [List.getElem?_append] at e
      split at e
      · rename_i hi
        rw [List.getElem?_map] at e
        cases h2 : ds[i]? with
        | none => rw [h2] at e; cases e
        | some d2 =>
          rw [h2] at e; cases e
          obtain ⟨v, e1, r1⟩ := r'.get h2
          refine ⟨v, ?_, r1⟩
          unfold L2.start
          rw [List.getElem?_append_left (by rw [List.length_map, r.length]; rw [List.length_map] at hi; exact hi), List.getElem?_map, e1]
          rfl
      · rw [List.getElem?_replicate] at e; split at e <;> cases e
  · exfalso
    unfold Γ0 at e
    rw [List.getElem?_append] at e
    split at e
    · rw [List.getElem?_map] at e; cases h : ds[i]? <;> rw [h] at e <;> cases e
    · rw [List.getElem?_replicate] at e; split at e <;> cases e
  · exfalso
    unfold Γ0 at e
    rw [List.getElem?_append] at e
    split at e
    · rw [List.getElem?_map] at e; cases h : ds[i]? <;> rw [h] at e <;> cases e
    · rw [List.getElem?_replicate] at e; split at e <;> cases e
  · exfalso
    unfold Γ0 at e
    rw [List.getElem?_append] at e
    split at e
    · rw [List.getElem?_map] at e; cases h : ds[i]? <;> rw [h] at e <;> cases e
    · rw [List.getElem?_replicate] at e; split at e <;> cases e
  · cases o with
    | rt d' => cases ho; exact q
    | nx Γ' => cases ho; exact fun σ H' r S => q .non H' S.base .non
    | bk Γ' => cases ho
    | ct Γ' => cases ho
theorem de_call {R : List D → D → Prop} {k : Nat} {f : Addr} {fd : FuncData} {ps : List Str} {p : Pos} {es : List Expr} (F : FnOk X.prog X.w X.K X.mg X.base CX0 k f fd ps (spD X.K R)) (hr : Room k X.A) (hm : X.mg x = some (.ref f)) (hk : PySem.W.keepIn X.K (.ref f) = true) (hb : Binds X.K fd ps [])
    (h : DEs X Γ (e :: es) ds) (hR : R ds d) (hg : Gl X x := by rfl) (hdb : (x == ("__debug__" : Str)) = false := by decide) (he : starEach (e :: es) X.env = (false, eval e X.env) :: starEach es X.env := by rfl) (hpl : (backTo pos (starEach es X.env)).any (·.1) = false := by rfl) : DE X Γ (.Call (.Name x p) (e :: es) [] pos) d := fun A =>
  impE (pe_call F hr hg hm hk hb .nil pass0 (h A) hdb he hpl) fun σ H Q ⟨S, q⟩ => ⟨S, fun vs H1 s1 r1 => ⟨ds, A, d, by rw [List.append_nil]; exact r1, dom_mono s1 S.dom, hR, fun v H2 s2 r2 => q v H2 (s1.trans s2) r2⟩⟩
end
end G
set_option Elab.async false
set_option linter.all false
set_option maxRecDepth 100000
namespace G
open PySem PySem.Spec PyProof.Rows L2
/-! ### typed data -/
abbrev eL {α : Type} (en : α → D) (xs : List α) : D := .lst (xs.map en)
abbrev eT {α : Type} (en : α → D) (xs : List α) : D := .tup (xs.map en)
abbrev eP {α β : Type} (e1 : α → D) (e2 : β → D) (p : α × β) : D := .tup [e1 p.1, e2 p.2]
abbrev eO {α : Type} (en : α → D) : Option α → D | none => .non | some x => en x
theorem small {n : Nat} (h : n ≤ 1000000) : n ≤ sizeLine := Nat.le_trans h (by decide)
theorem smallt {n : Nat} (h : n ≤ 1000000) : n < sizeLine := Nat.lt_of_le_of_lt h (by decide)
section
variable {X : Cx} {Γ : List Sl} {e a b c elt tg iter : Expr} {p pos : Pos} {es rest : List Expr} {d da db : D} {ds das : List D} {x : Str} {α β : Type} {en : α → D} {xs ys : List α} {i j : Int}
theorem ok_catE (h : xs.length + ys.length ≤ sizeLine) : OK2 X (binaryOp .Add) (eL en xs) (eL en ys) (eL en (xs ++ ys)) := by
  have q := ok_cat (X := X) (as := xs.map en) (bs := ys.map en) (by rw [List.length_map, List.length_map]; exact h)
  rw [← List.map_append] at q
  exact q
theorem okc_lenE : OKC X (.builtin "len") [eL en xs] (.int (xs.length : Int)) := by
  have q := okc_len (X := X) (ds := xs.map en)
  rw [List.length_map] at q
  exact q
theorem okc_lenTE : OKC X (.builtin "len") [eT en xs] (.int (xs.length : Int)) := by
  have q := okc_lenT (X := X) (ds := xs.map en)
  rw [List.length_map] at q
  exact q
theorem de_ifE {c1 : Bool} {u v : α} (hc : DB X Γ c c1) (ha : c1 = true → DE X Γ a (en u)) (hb : c1 = false → DE X Γ b (en v)) : DE X Γ (.IfExp c a b pos) (en (if c1 then u else v)) := fun A => by
  have h := de_if (pos := pos) hc ha hb A
  cases c1 <;> exact h
theorem atI_E [Inhabited α] (h0 : 0 ≤ i) (h : i < xs.length) : atI (xs.map en) i = some (en (xs.getD i.toNat default)) := by
  obtain ⟨n, rfl⟩ := Int.eq_ofNat_of_zero_le h0
  refine atI_nat ?_
  have h' : n < xs.length := by omega
  rw [List.getElem?_map, List.getElem?_eq_getElem h', Int.toNat_natCast, List.getD_eq_getElem?_getD, List.getElem?_eq_getElem h']
  rfl
theorem getD_all {α : Type} [Inhabited α] {xs : List α} {p : α → Prop} (h : ∀ x ∈ xs, p x) {n : Nat} (hn : n < xs.length) : p (xs.getD n default) := by
  rw [List.getD_eq_getElem?_getD, List.getElem?_eq_getElem hn]
  exact h _ (List.getElem_mem hn)
theorem de_ixE [Inhabited α] (h0 : 0 ≤ i) (h : i < xs.length) (ha : DE X Γ a (eL en xs)) (hb : DE X Γ b (.int i)) (hs : PlainIx b := by exact fun _ _ => rfl) : DE X Γ (.Subscript a b pos) (en (xs.getD i.toNat default)) :=
  de_ixL (atI_E h0 h) (ds_of ha) hb hs
theorem de_ixTE [Inhabited α] (h0 : 0 ≤ i) (h : i < xs.length) (ha : DE X Γ a (eT en xs)) (hb : DE X Γ b (.int i)) (hs : PlainIx b := by exact fun _ _ => rfl) : DE X Γ (.Subscript a b pos) (en (xs.getD i.toNat default)) :=
  de_ixT (atI_E h0 h) (dt_of ha) hb hs
theorem de_fromE {lo : Expr} {p2} (h0 : 0 ≤ i) (ha : DE X Γ a (eL en xs)) (hl : DE X Γ lo (.int i)) : DE X Γ (.Subscript a (.Slice (some lo) none none p2) pos) (eL en (xs.drop i.toNat)) := by
  have q := de_slL (pos := pos) (p2 := p2) (ds_of ha) (do_some hl) do_none
  rw [cutG_from _ h0, ← List.map_drop] at q
  exact q
theorem de_toE {hi : Expr} {p2} (h0 : 0 ≤ i) (ha : DE X Γ a (eL en xs)) (hl : DE X Γ hi (.int i)) : DE X Γ (.Subscript a (.Slice none (some hi) none p2) pos) (eL en (xs.take i.toNat)) := by
  have q := de_slL (pos := pos) (p2 := p2) (ds_of ha) do_none (do_some hl)
  rw [cutG_to _ h0, ← List.map_take] at q
  exact q
/-- a < b < c of ints and their like -/
theorem de_chain {op op' : CmpOp} {c1 c2 : Bool} {dc : D} (o : OK2 X (compareOp op) da db (.bl c1)) (o' : OK2 X (compareOp op') db dc (.bl c2)) (ha : DE X Γ a da) (hb : DE X Γ b db) (hc : DE X Γ c dc)
    (hm : lastMarks [op, op'] [b, c] = false := by with_unfolding_all rfl) : DE X Γ (.Compare a [op, op'] [b, c] pos) (.bl (c1 && c2)) := fun A => by
  obtain ⟨r, ho, k⟩ := o.ex
  obtain ⟨r', ho', k'⟩ := o'.ex
  refine impE (pe_chain ho ho' (ha A) (hb A) (hc A) hm) fun σ H Q ⟨S, q⟩ => ⟨S, fun x H1 s1 r1 => ⟨S.mono s1, fun y H2 s2 r2 => ?_⟩⟩
  refine k A x y H2 _ (dom_mono (s1.trans s2) S.dom) (r1.mono (msk_same s2)) r2 fun z H3 s3 r3 => ?_
  cases r3
  refine ⟨c1, rfl, ?_⟩
  have S3 := S.mono ((s1.trans s2).trans s3)
  cases c1 with
  | true =>
    refine iteT ⟨S3, fun w H4 s4 r4 => ?_⟩
    exact k' A y w H4 Q (dom_mono s4 S3.dom) (r2.mono (msk_same (s3.trans s4))) r4 fun v H' s5 r5 => q v H' ((((s1.trans s2).trans s3).trans s4).trans s5) r5
  | false => exact iteF (q _ H3 ((s1.trans s2).trans s3) (.bl _))

/-! ### walks over pairs -/
theorem set2_far {Γ : List Sl} {i j k : Nat} {s t : Sl} (h : k ∉ [i, j]) : ((Γ.set i s).set j t)[k]? = Γ[k]? := by
  simp at h
  rw [List.getElem?_set_ne fun z => h.2 z.symm, List.getElem?_set_ne fun z => h.1 z.symm]
theorem set2_near {Γ : List Sl} {i j k : Nat} {d1 d2 : D} (h : k ∈ [i, j]) : ∀ s, ((Γ.set i (.val d1)).set j (.val d2))[k]? = some s → ∃ d, s = .val d := by
  intro s z
  by_cases c : k = j
  · exact set_near (j := k) (i := j) (by simp [c]) s z
  · rw [List.getElem?_set_ne fun y => c y.symm] at z
    simp [c] at h
    exact set_near (j := k) (i := i) (by simp [h]) s z
abbrev gPair (K : PySem.W.Frag) (i j : Nat) : TG := gTup K 2 (gCons (gName i) (gCons (gName j) gNil))
theorem pair_step {K : PySem.W.Frag} {A2 : Addr → Prop} {H2 H3 : Hp} {Γ2 : List Sl} {σ2 : L2.St} {k : L2.St → Hp → Prop} {x : V} {i j : Nat} {T : Addr} {v1 v2 : V} {d1 d2 : D} (e1 : x = .ref T) (n : H2 T = none) (e2 : H3 = upd H2 T (.tup [v1, v2])) (S2 : SX K A2 Γ2 σ2 H2)
    (r1 : Rep K (msk A2 H2) v1 d1) (r2 : Rep K (msk A2 H2) v2 d2)
    (kk : ∀ σ3 H4, Same H2 H4 → SX K A2 ((Γ2.set i (.val d1)).set j (.val d2)) σ3 H4 → σ3.length = σ2.length → (∀ l : Nat, l ∉ [i, j] → σ3[l]? = σ2[l]?) → k σ3 H4) : gPair K i j x σ2 H3 k := by
  subst e1 e2
  have s := same_new (H := H2) n (.tup [v1, v2])
  refine ⟨T, [v1, v2], rfl, .of upd_same, rfl, v1, [v2], rfl, v2, [], rfl, rfl, ?_⟩
  refine kk _ _ s (sx_set (sx_set (S2.mono s) (r1.mono (msk_same s))) (r2.mono (msk_same s))) (by simp) fun l hl => ?_
  simp at hl
  rw [List.getElem?_set_ne fun z => hl.2 z.symm, List.getElem?_set_ne fun z => hl.1 z.symm]
theorem di_enum (i j : Nat) {elts : List Expr} {kk : Nat} {tpos : Pos} (hm : X.mg "enumerate" = none) (h : DE X Γ e (eL en xs)) (hg : Gl X "enumerate" := by rfl) (hs : starEach [e] X.env = [(false, eval e X.env)] := by rfl)
    (hs2 : starEach (e :: []) X.env = (false, eval e X.env) :: starEach [] X.env := by rfl) :
    DI X Γ (.Tuple elts kk tpos) (.Call (.Name "enumerate" p) [e] [] pos) (gPair X.K i j) xs.zipIdx [i, j] (fun (a : α × Nat) Γ => (Γ.set i (.val (.int a.2))).set j (.val (en a.1))) :=
  ⟨fun _ _ _ => set2_far, fun _ _ _ => set2_near, fun A => ⟨_, pi_enum hg hm (des_cons h des_nil hs2 A) hs, fun σ H R S w => ⟨S, fun vs H1 s1 r1 => by
    obtain ⟨v, rfl, rr⟩ := reps1 r1
    cases rr with
    | @lst l ws _ h1 r1 =>
      have hl : ws.length = xs.length := by rw [r1.length, List.length_map]
      refine ⟨l, ws, rfl, .of (msk_le _ _ h1), w _ H1 (fun H => SqL X.K H l ws) _ s1 (by rw [List.length_zipIdx, ← hl]; exact walk_enum) (fun A2 H2 s => .of (msk_le _ _ (s _ _ h1))) ?_⟩
      rintro A2 H2 i' x H3 Γ2 σ2 k a' s e1 ⟨T, v1, v2, f1, f2, f3, f4, f5⟩ S2 kk
      have e2 : xs[i']? = some a'.1 ∧ a'.2 = i' := by
        rw [List.getElem?_zipIdx] at e1
        cases q : xs[i']? with
        | none => rw [q] at e1; cases e1
        | some z => rw [q] at e1; cases e1; exact ⟨rfl, Nat.zero_add _⟩
      obtain ⟨v, ev, rv⟩ := r1.get (i := i') (d := en a'.1) (by rw [List.getElem?_map, e2.1]; rfl)
      have f5' : ws[i']? = some v2 := f5
      rw [ev] at f5'; cases f5'
      have f4' := Option.some.inj f4
      subst f4'
      refine pair_step f1 f2 f3 S2 (d1 := .int a'.2) ?_ (rv.mono s) kk
      rw [e2.2]; exact .int _⟩⟩⟩
theorem di_zip {γ : Type} {en2 : γ → D} {zs : List γ} (i j : Nat) {e2 : Expr} {elts : List Expr} {kk : Nat} {tpos : Pos} (hm : X.mg "zip" = none) (h : DE X Γ e (eL en xs)) (h2 : DE X Γ e2 (eL en2 zs)) (hg : Gl X "zip" := by rfl) (hs : starEach [e, e2] X.env = (false, eval e X.env) :: starEach [e2] X.env := by rfl)
    (hpl : (backTo pos (starEach [e2] X.env)).any (·.1) = false := by rfl) (hs2 : starEach (e :: [e2]) X.env = (false, eval e X.env) :: starEach [e2] X.env := by rfl) (hs3 : starEach (e2 :: []) X.env = (false, eval e2 X.env) :: starEach [] X.env := by rfl) :
    DI X Γ (.Tuple elts kk tpos) (.Call (.Name "zip" p) [e, e2] [] pos) (gPair X.K i j) (xs.zip zs) [i, j] (fun (a : α × γ) Γ => (Γ.set i (.val (en a.1))).set j (.val (en2 a.2))) :=
  ⟨fun _ _ _ => set2_far, fun _ _ _ => set2_near, fun A => ⟨_, pi_zip hg hm (des_cons h (des_cons h2 des_nil hs3) hs2 A) hs hpl, fun σ H R S w => ⟨S, fun vs H1 s1 r1 => by
    obtain ⟨v, v', rfl, rr, rr2⟩ := reps2 r1
    cases rr with
    | @lst l ws _ h1 q1 =>
      cases rr2 with
      | @lst l2 ws2 _ h2 q2 =>
        have hl : ws.length = xs.length := by rw [q1.length, List.length_map]
        have hl2 : ws2.length = zs.length := by rw [q2.length, List.length_map]
        refine ⟨l, l2, ws, ws2, rfl, .of (msk_le _ _ h1), .of (msk_le _ _ h2), w _ H1 (fun H => SqL X.K H l ws ∧ SqL X.K H l2 ws2) _ s1 (walk_zip (by rw [List.length_zip, hl, hl2])) (fun A2 H2 s => ⟨.of (msk_le _ _ (s _ _ h1)), .of (msk_le _ _ (s _ _ h2))⟩) ?_⟩
        rintro A2 H2 i' x H3 Γ2 σ2 k a' s e1 ⟨T, v1, v2, f1, f2, f3, f4, f5⟩ S2 kk
        rw [List.getElem?_zip_eq_some] at e1
        obtain ⟨v, ev, rv⟩ := q1.get (i := i') (d := en a'.1) (by rw [List.getElem?_map, e1.1]; rfl)
        obtain ⟨u, eu, ru⟩ := q2.get (i := i') (d := en2 a'.2) (by rw [List.getElem?_map, e1.2]; rfl)
        have f4' : ws[i']? = some v1 := f4
        have f5' : ws2[i']? = some v2 := f5
        rw [ev] at f4'; cases f4'
        rw [eu] at f5'; cases f5'
        exact pair_step f1 f2 f3 S2 (rv.mono s) (ru.mono s) kk⟩⟩⟩

/-! ### comprehensions, typed -/
variable {ifs : List Expr} {scope : Scope} {own : List (Str × Nat)} {g : TG} {its : List α} {js : List Nat} {bd : α → List Sl → List Sl}
theorem de_lcE {en2 : β → D} (f : α → β) (hc : X.calm = true) (hN : X.N.Nodup) (di : DI X Γ tg iter g its js bd) (ok : BlkOk X.N X.env.scope scope own) (hj : ∀ j ∈ js, j ∈ own.map (·.2))
    (hg : ∀ (s : Shared) (H : Hp) (C : Addr) (cl : List (Str × Addr)) (fp : List Addr), PG (X.blk s H scope (compEnvC scope cl C X.env) fp) tg g)
    (hl : its.length ≤ sizeLine)
    (he : ∀ a ∈ its, ∀ (s : Shared) (H : Hp) (C : Addr) (cl : List (Str × Addr)) (fp : List Addr), DE (X.blk s H scope (compEnvC scope cl C X.env) fp) (bd a (wipeG Γ (own.map (·.2)))) elt (en2 (f a)))
    (hs : ∀ x, foldedSetIterable iter X.env x = pure x := by intro _; rfl) : DF X Γ (.ListComp elt [⟨tg, iter, [], 0⟩] scope pos) ((its.map f).map en2) := by
  have q := df_lc (pos := pos) (f := fun a => en2 (f a)) hc hN di ok hj hg he hl hs
  rw [List.map_map]
  exact q
theorem de_lcIfE {c : Expr} {en2 : β → D} (pr : α → Bool) (f : α → β) (hc : X.calm = true) (hN : X.N.Nodup) (di : DI X Γ tg iter g its js bd) (ok : BlkOk X.N X.env.scope scope own) (hj : ∀ j ∈ js, j ∈ own.map (·.2))
    (hg : ∀ (s : Shared) (H : Hp) (C : Addr) (cl : List (Str × Addr)) (fp : List Addr), PG (X.blk s H scope (compEnvC scope cl C X.env) fp) tg g)
    (hl : its.length ≤ sizeLine)
    (ht : ∀ a ∈ its, ∀ (s : Shared) (H : Hp) (C : Addr) (cl : List (Str × Addr)) (fp : List Addr), DB (X.blk s H scope (compEnvC scope cl C X.env) fp) (bd a (wipeG Γ (own.map (·.2)))) c (pr a))
    (he : ∀ a ∈ its, pr a = true → ∀ (s : Shared) (H : Hp) (C : Addr) (cl : List (Str × Addr)) (fp : List Addr), DE (X.blk s H scope (compEnvC scope cl C X.env) fp) (bd a (wipeG Γ (own.map (·.2)))) elt (en2 (f a)))
    (hs : ∀ x, foldedSetIterable iter X.env x = pure x := by intro _; rfl) : DF X Γ (.ListComp elt [⟨tg, iter, [c], 0⟩] scope pos) (((its.filter pr).map f).map en2) := by
  have q := df_lcIf (pos := pos) (f := fun a => en2 (f a)) hc hN di ok hj hg ht he hl hs
  rw [List.map_map]
  exact q
end

/-! ### what a law has of a def, of the built-ins -/
structure Cal (P : Program) (w : World) (K : PySem.W.Frag) (mg : Str → Option Value) (base : Heap) (name : Str) (k : Nat) (ps : List Str) (R : List D → D → Prop) : Prop where
  ex : ∃ (f : Addr) (fd : FuncData), mg name = some (.ref f) ∧ PySem.W.keepIn K (.ref f) = true ∧ L2.Binds K fd ps [] ∧ FnOk P w K mg base CX0 k f fd ps (spD K R)
theorem de_callE {X : Cx} {Γ : List Sl} {e : Expr} {es : List Expr} {p pos : Pos} {x : Str} {k : Nat} {ps : List Str} {R : List D → D → Prop} {ds : List D} {d : D} (c : Cal X.prog X.w X.K X.mg X.base x k ps R) (hr : Room k X.A) (h : DEs X Γ (e :: es) ds) (hR : R ds d)
    (hg : Gl X x := by rfl) (hdb : (x == ("__debug__" : Str)) = false := by decide) (he : starEach (e :: es) X.env = (false, eval e X.env) :: starEach es X.env := by rfl) (hpl : (backTo pos (starEach es X.env)).any (·.1) = false := by rfl) : DE X Γ (.Call (.Name x p) (e :: es) [] pos) d := by
  obtain ⟨f, fd, h1, h2, h3, h4⟩ := c.ex
  exact de_call h4 hr h1 h2 h3 h hR hg hdb he hpl
structure Bt (mg : Str → Option Value) : Prop where
  len : mg "len" = none
  range : mg "range" = none
  sum : mg "sum" = none
  max : mg "max" = none
  min : mg "min" = none
  abs : mg "abs" = none
  int : mg "int" = none
  list : mg "list" = none
  tuple : mg "tuple" = none
  sorted : mg "sorted" = none
  any : mg "any" = none
  all : mg "all" = none
  enumerate : mg "enumerate" = none
  zip : mg "zip" = none
  isinstance : mg "isinstance" = none
  set : mg "set" = none
  str : mg "str" = none
  bool : mg "bool" = none
end G
set_option Elab.async false
set_option linter.all false
set_option maxRecDepth 100000
namespace G
open PySem PySem.Spec PyProof.Rows L2
/-! ### many ends: statements whose outcome a draw decides -/
def OutOkS (K : PySem.W.Frag) (A0 : Addr → Prop) (B : Bs) (E : Ends) (O : Out → Prop) : Prop := ∀ o, O o → OutOk K A0 B E o
/-- what is drawn from stands behind it: a pool -/
def PoolD (ds : List D) : Prop := ∃ (cells : List Int) (i d k s : Int), ds = [.lst (cells.map .int), .int i, .int d, .int k, .int s] ∧ (∀ x ∈ cells, 0 ≤ x) ∧ 0 ≤ i ∧ 0 ≤ d ∧ 0 ≤ k ∧ 0 ≤ s ∧ s < 1000000007
/-- ends with the pool in slot q still a pool -/
def rtP (q : Nat) (d : D) (K : PySem.W.Frag) (A0 : Addr → Prop) (B : Bs) (E : Ends) : Prop := ∀ v Γ σ H r ps, SR K A0 B Γ σ H r → Γ[q]? = some (.own ps) → PoolD ps → Rep K (msk (Aof A0 Γ r) H) v d → E.rt v H
/-- a block that draws: it ends by a return of a d of R, or goes on as Nx says -/
def tPl (K : PySem.W.Frag) (A0 : Addr → Prop) (Γ : List Sl) (q : Nat) (R : D → Prop) (Nx : List Sl → Prop) : TS := fun E σ H => ∃ B r, SR K A0 B Γ σ H r ∧ (∀ d, R d → rtP q d K A0 B E) ∧ (∀ Γ', Nx Γ' → OutOk K A0 B E (.nx Γ'))
abbrev DPs (X : Cx) (Γ : List Sl) (sts : List Stmt) (q : Nat) (R : D → Prop) (Nx : List Sl → Prop) : Prop := ∀ A0, PSs X sts (tPl X.K A0 Γ q R Nx)
abbrev DPt (X : Cx) (Γ : List Sl) (st : Stmt) (q : Nat) (R : D → Prop) (Nx : List Sl → Prop) : Prop := ∀ A0, PS X st (tPl X.K A0 Γ q R Nx)
/-- an expression that draws: some z of Pz; worth F z; the pool's slot q is then another pool -/
def tX (K : PySem.W.Frag) (A0 : Addr → Prop) (Γ : List Sl) (q : Nat) {ζ : Type} (Pz : ζ → Prop) (F : ζ → D) : TE := fun σ H Q => ∃ B r, SR K A0 B Γ σ H r ∧
  ∀ z ps v H', Pz z → PoolD ps → SR K A0 B (Γ.set q (.own ps)) σ H' r → Same (msk (Aof A0 Γ r) H) (msk (Aof A0 Γ r) H') → Rep K (msk (Aof A0 Γ r) H') v (F z) → Q v H'
abbrev DX (X : Cx) (Γ : List Sl) (e : Expr) (q : Nat) {ζ : Type} (Pz : ζ → Prop) (F : ζ → D) : Prop := ∀ A0, PE X e (tX X.K A0 Γ q Pz F)
def tXT (K : PySem.W.Frag) (A0 : Addr → Prop) (Γ : List Sl) (q : Nat) {ζ : Type} (Pz : ζ → Prop) (F : ζ → Bool) : TT := fun σ H Q => ∃ B r, SR K A0 B Γ σ H r ∧
  ∀ z ps H', Pz z → PoolD ps → SR K A0 B (Γ.set q (.own ps)) σ H' r → Q (F z) H'
abbrev DXB (X : Cx) (Γ : List Sl) (e : Expr) (q : Nat) {ζ : Type} (Pz : ζ → Prop) (F : ζ → Bool) : Prop := ∀ A0, PT X e (tXT X.K A0 Γ q Pz F)
section
variable {X : Cx} {Γ Γ1 : List Sl} {st : Stmt} {sts a b body : List Stmt} {e c e1 e2 : Expr} {pos : Pos} {d : D} {q : Nat} {R : D → Prop} {Nx Nx1 : List Sl → Prop} {ζ : Type} {Pz : ζ → Prop} {F : ζ → D} {x : Str} {cb : Bool} {ps : List D}
theorem aof_set {A0 : Addr → Prop} {Γ : List Sl} {r : Rt} {q : Nat} {ps ps' : List D} (h : Γ[q]? = some (.own ps)) : ∀ b, Aof A0 (Γ.set q (.own ps')) r b ↔ Aof A0 Γ r b := fun b => by
  have il : q < Γ.length := (List.getElem?_eq_some_iff.mp h).1
  constructor
  · rintro (z | z | ⟨i, ds, e, z⟩)
    · exact .inl z
    · exact .inr (.inl z)
    · by_cases c : q = i
      · subst c; exact .inr (.inr ⟨q, ps, h, z⟩)
      · rw [List.getElem?_set_ne c] at e; exact .inr (.inr ⟨i, ds, e, z⟩)
  · rintro (z | z | ⟨i, ds, e, z⟩)
    · exact .inl z
    · exact .inr (.inl z)
    · by_cases c : q = i
      · subst c; exact .inr (.inr ⟨q, ps', List.getElem?_set_self il, z⟩)
      · exact .inr (.inr ⟨i, ds, by rw [List.getElem?_set_ne c]; exact e, z⟩)
theorem msk_iff {A A' : Addr → Prop} {H : Hp} (h : ∀ b, A b ↔ A' b) : msk A H = msk A' H := by
  have e : A = A' := funext fun b => propext (h b)
  rw [e]
theorem set_self {Γ : List Sl} {q : Nat} {s : Sl} (h : Γ[q]? = some s) : Γ.set q s = Γ := by
  refine List.ext_getElem? fun i => ?_
  by_cases c : q = i
  · subst c
    rw [List.getElem?_set_self (List.getElem?_eq_some_iff.mp h).1, h]
  · rw [List.getElem?_set_ne c]
/-- what does not draw -/
theorem dx_of (h : DE X Γ e d) (hq : Γ[q]? = some (.own ps)) (hp : PoolD ps) : DX X Γ e q (fun _ : Unit => True) (fun _ => d) := fun A0 =>
  ⟨fun pins s σ H Q I ⟨B, r, S, k⟩ => (h (Aof A0 Γ r)).run pins s σ H Q I ⟨S.sx, fun v H1 s1 r1 => k () ps v H1 trivial hp (by rw [set_self hq]; exact S.mono s1) (msk_same s1) r1⟩⟩
theorem dx_imp {Pz' : ζ → Prop} (h : DX X Γ e q Pz F) (i : ∀ z, Pz z → Pz' z) : DX X Γ e q Pz' F := fun A0 => impE (h A0) fun σ H Q ⟨B, r, S, k⟩ => ⟨B, r, S, fun z ps v H' pz => k z ps v H' (i z pz)⟩
/-- op with a left side that does not draw -/
theorem dx_opL {op : Operator} {F2 : ζ → D} (hq : Γ[q]? = some (.own ps)) (ha : DE X Γ e1 d) (hb : DX X Γ e2 q Pz F) (o : ∀ z, Pz z → OK2 X (binaryOp op) d (F z) (F2 z)) : DX X Γ (.BinOp e1 op e2 pos) q Pz F2 := fun A0 =>
  ⟨fun pins s σ H Q I ⟨B, r, S, k⟩ => by
    refine wpAny_BinOp (bin (ha (Aof A0 Γ r)) (hb A0) (R := fun x y H2 => ∃ z ps, Pz z ∧ PoolD ps ∧ SR X.K A0 B (Γ.set q (.own ps)) σ H2 r ∧ Same (msk (Aof A0 Γ r) H) (msk (Aof A0 Γ r) H2) ∧ Rep X.K (msk (Aof A0 Γ r) H2) x d ∧ Rep X.K (msk (Aof A0 Γ r) H2) y (F z)) I ?_ fun v u s2 x y H2 I2 rx ry ⟨z, ps, pz, pp, S2, sm, r1, r2⟩ => ?_)
    · exact ⟨S.sx, fun x H1 s1 r1 => ⟨B, r, S.mono s1, fun z ps v H' pz pp S2 sm r2 => ⟨z, ps, pz, pp, S2, (msk_same s1).trans sm, r1.mono sm, r2⟩⟩⟩
    · obtain ⟨rr, ho, kk⟩ := (o z pz).ex
      refine ho pins s2 σ H2 x y v u Q I2 rx ry (kk _ x y H2 Q (fun b z => S2.sx.dom b ((aof_set hq b).mpr z)) r1 r2 fun v' H' s' r' => ?_)
      exact k z ps v' H' pz pp (S2.mono s') (sm.trans (msk_same s')) r'⟩
/-- a comparison with a right side that does not draw -/
theorem dxb_cmp {op : CmpOp} {FB : ζ → Bool} (hq : Γ[q]? = some (.own ps)) (ha : DX X Γ e1 q Pz F) (hb : ∀ ps, PoolD ps → DE X (Γ.set q (.own ps)) e2 d) (o : ∀ z, Pz z → OK2 X (compareOp op) (F z) d (.bl (FB z)))
    (hm : behindInMarks op e2 = false := by first | exact nobehind _ (by decide) (by decide) | rfl) : DXB X Γ (.Compare e1 [op] [e2] pos) q Pz FB := fun A0 => by
  -- the right side as one that does not draw, behind any pool
  let t2 : TE := fun σ H Q => ∃ (ps : List D) (A : Addr → Prop), PoolD ps ∧ tD X.K A (Γ.set q (.own ps)) d σ H Q
  have h2 : PE X e2 t2 := PE_some fun ps => PE_some fun A => PE_somep fun hp => hb ps hp A
  refine ⟨fun pins s σ H Q I ⟨B, r, S, k⟩ => ?_⟩
  -- the operator: any that fits what was drawn
  let rr : R2 := fun x y H2 Q2 => ∃ z ps, Pz z ∧ PoolD ps ∧ SR X.K A0 B (Γ.set q (.own ps)) σ H2 r ∧ Rep X.K (msk (Aof A0 Γ r) H2) x (F z) ∧ Rep X.K (msk (Aof A0 Γ r) H2) y d ∧ ∀ H', Same H2 H' → Q2 (.bl (FB z)) H'
  have hr : OpR X (compareOp op) rr := fun pins s2 σ2 H2 x y v u Q2 I2 rx ry ⟨z, ps, pz, pp, S2, r1, r2, kk⟩ => by
    obtain ⟨r3, ho, k3⟩ := (o z pz).ex
    refine ho pins s2 σ2 H2 x y v u Q2 I2 rx ry (k3 _ x y H2 Q2 (fun b z => S2.sx.dom b ((aof_set hq b).mpr z)) r1 r2 fun v' H' s' r' => ?_)
    cases r'
    exact kk H' s'
  refine (pt_cmpR (pos := pos) hr (ha A0) h2 hm).run pins s σ H Q I ⟨B, r, S, fun z ps v H1 pz pp S1 sm r1 => ⟨ps, Aof A0 (Γ.set q (.own ps)) r, pp, S1.sx, fun w H2 s2 r2 => ?_⟩⟩
  have e := msk_iff (H := H2) (aof_set (A0 := A0) (r := r) (ps' := ps) hq)
  rw [e] at r2
  exact ⟨z, ps, pz, pp, S1.mono s2, r1.mono (msk_same s2), r2, fun H' s3 => ⟨_, rfl, k z ps H' pz pp (S1.mono (s2.trans s3))⟩⟩

/-! ### statements that draw -/
theorem dps_nil (h : Nx Γ) : DPs X Γ [] q R Nx := fun A0 => impSs pss_nil fun E σ H ⟨B, r, S, _, k⟩ => k Γ h σ H r S
theorem dps_of {o : Out} (h : DSt X Γ st (.nx Γ1)) (hr : DPs X Γ1 sts q R Nx) : DPs X Γ (st :: sts) q R Nx := fun A0 =>
  impSs (pss_cons (h A0) (hr A0)) fun E σ H ⟨B, r, S, k⟩ => ⟨B, r, S, fun σ' H' r' S' => ⟨B, r', S', k⟩⟩
theorem dps_cons (h : DPt X Γ st q R Nx1) (hr : ∀ Γ1, Nx1 Γ1 → DPs X Γ1 sts q R Nx) : DPs X Γ (st :: sts) q R Nx := fun A0 => by
  have h2 : PSs X sts (fun E σ H => ∃ Γ1 : List Sl, Nx1 Γ1 ∧ tPl X.K A0 Γ1 q R Nx E σ H) := PSs_some fun Γ1 => PSs_somep fun h => hr Γ1 h A0
  exact impSs (pss_cons (h A0) h2) fun E σ H ⟨B, r, S, k1, k2⟩ => ⟨B, r, S, fun d hd => k1 d hd, fun Γ1 h1 σ' H' r' S' => ⟨Γ1, h1, B, r', S', k1, k2⟩⟩
theorem dps_weak (w : Wk Γ Γ1) (h : DPs X Γ1 sts q R Nx) : DPs X Γ sts q R Nx := fun A0 => impSs (h A0) fun E σ H ⟨B, r, S, k⟩ => ⟨B, r, S.weak w, k⟩
theorem dps_imp {R' : D → Prop} {Nx' : List Sl → Prop} (h : DPs X Γ sts q R Nx) (i : ∀ d, R d → R' d) (j : ∀ Γ, Nx Γ → Nx' Γ) : DPs X Γ sts q R' Nx' := fun A0 => impSs (h A0) fun E σ H ⟨B, r, S, k1, k2⟩ => ⟨B, r, S, fun d hd => k1 d (i d hd), fun Γ' h' => k2 Γ' (j Γ' h')⟩
theorem dps_ret (hq : Γ[q]? = some (.own ps)) (hp : PoolD ps) (h : DE X Γ e d) (hR : R d) : DPs X Γ (.Return (some e) pos :: sts) q R Nx := fun A0 => by
  have h1 : PS X (.Return (some e) pos) (tPl X.K A0 Γ q R (fun _ => False)) := ⟨fun pins s σ H E I ⟨B, r, S, k1, _⟩ => (ps_ret (pos := pos) (h (Aof A0 Γ r))).run pins s σ H E I ⟨S.sx, fun v H1 s1 r1 => k1 d hR v Γ σ H1 r ps (S.mono s1) hq hp r1⟩⟩
  exact impSs (pss_cons h1 (u := fun _ _ _ => False) ⟨fun _ _ _ _ _ _ q => q.elim⟩) fun E σ H ⟨B, r, S, k1, k2⟩ => ⟨B, r, S, k1, fun Γ' h' => h'.elim⟩
/-- return of what is drawn -/
theorem dps_retX (h : DX X Γ e q Pz F) (hR : ∀ z, Pz z → R (F z)) (hq : ∃ ps, Γ[q]? = some (.own ps)) : DPs X Γ (.Return (some e) pos :: sts) q R Nx := fun A0 => by
  have h1 : PS X (.Return (some e) pos) (tPl X.K A0 Γ q R (fun _ => False)) := ⟨fun pins s σ H E I ⟨B, r, S, k1, _⟩ => (ps_ret (pos := pos) (h A0)).run pins s σ H E I ⟨B, r, S, fun z ps v H1 pz pp S1 sm r1 => by
    obtain ⟨ps0, hq⟩ := hq
    refine k1 _ (hR z pz) v _ σ H1 r ps S1 (List.getElem?_set_self (List.getElem?_eq_some_iff.mp hq).1) pp ?_
    rw [msk_iff (aof_set hq)]
    exact r1⟩⟩
  exact impSs (pss_cons h1 (u := fun _ _ _ => False) ⟨fun _ _ _ _ _ _ q => q.elim⟩) fun E σ H ⟨B, r, S, k1, k2⟩ => ⟨B, r, S, k1, fun Γ' h' => h'.elim⟩
/-- name = what is drawn -/
theorem dps_set (i : Nat) {pos' : Pos} (hq : Γ[q]? = some (.own ps)) (h : DX X Γ e q Pz F) (k : ∀ z ps', Pz z → PoolD ps' → DPs X ((Γ.set q (.own ps')).set i (.val (F z))) sts q R Nx) (hN : X.N.Nodup) (hi : X.N[i]? = some x := by rfl) (hx : Loc X.env.scope x := by first | exact Or.inl rfl | exact Or.inr rfl)
    (hs : swapsWith e (some (.Name x pos')) pos.line X.env = pure false := by rfl) (hf : X.fn x = true ∨ X.env.scope.names.lookup x = some .local := by first | exact .inl rfl | exact .inr rfl) : DPs X Γ (.Assign [.Name x pos'] e pos :: sts) q R Nx := by
  refine dps_cons (Nx1 := fun Γ' => ∃ z ps', Pz z ∧ PoolD ps' ∧ Γ' = (Γ.set q (.own ps')).set i (.val (F z))) (fun A0 => ?_) ?_
  · refine ⟨fun pins s σ H E I ⟨B, r, S, k1, k2⟩ => (ps_set hN hi hx (h A0) hs hf).run pins s σ H E I ⟨B, r, S, fun z ps' v H1 pz pp S1 sm r1 => ?_⟩⟩
    exact k2 _ ⟨z, ps', pz, pp, rfl⟩ _ _ r (S1.setv (by rw [msk_iff (aof_set hq)]; exact r1))
  · rintro Γ' ⟨z, ps', pz, pp, rfl⟩
    exact k z ps' pz pp
/-- if of what is drawn -/
theorem dps_ifX {FB : ζ → Bool} (hq : Γ[q]? = some (.own ps)) (h : DXB X Γ c q Pz FB) (ha : ∀ z ps', Pz z → PoolD ps' → FB z = true → DPs X (Γ.set q (.own ps')) a q R Nx1) (hb : ∀ z ps', Pz z → PoolD ps' → FB z = false → DPs X (Γ.set q (.own ps')) b q R Nx1)
    (k : ∀ Γ1, Nx1 Γ1 → DPs X Γ1 sts q R Nx) : DPs X Γ (.If c a b pos :: sts) q R Nx := by
  refine dps_cons (Nx1 := Nx1) (fun A0 => ?_) k
  have h1 : PSs X a (fun E σ H => ∃ (z : ζ) (ps' : List D), (Pz z ∧ PoolD ps' ∧ FB z = true) ∧ tPl X.K A0 (Γ.set q (.own ps')) q R Nx1 E σ H) := PSs_some fun z => PSs_some fun ps' => PSs_somep fun g => ha z ps' g.1 g.2.1 g.2.2 A0
  have h2 : PSs X b (fun E σ H => ∃ (z : ζ) (ps' : List D), (Pz z ∧ PoolD ps' ∧ FB z = false) ∧ tPl X.K A0 (Γ.set q (.own ps')) q R Nx1 E σ H) := PSs_some fun z => PSs_some fun ps' => PSs_somep fun g => hb z ps' g.1 g.2.1 g.2.2 A0
  refine ⟨fun pins s σ H E I ⟨B, r, S, k1, k2⟩ => (ps_if (pos := pos) (h A0) h1 h2).run pins s σ H E I ⟨B, r, S, fun z ps' H' pz pp S1 => ?_⟩⟩
  cases hz : FB z with
  | true => exact iteT ⟨z, ps', ⟨pz, pp, hz⟩, B, r, S1, k1, k2⟩
  | false => exact iteF ⟨z, ps', ⟨pz, pp, hz⟩, B, r, S1, k1, k2⟩
/-- if of what does not draw -/
theorem dps_if (h : DB X Γ c cb) (ha : cb = true → DPs X Γ a q R Nx1) (hb : cb = false → DPs X Γ b q R Nx1) (k : ∀ Γ1, Nx1 Γ1 → DPs X Γ1 sts q R Nx) : DPs X Γ (.If c a b pos :: sts) q R Nx := by
  refine dps_cons (Nx1 := Nx1) (fun A0 => ?_) k
  refine ⟨fun pins s σ H E I ⟨B, r, S, k1, k2⟩ => (ps_if (pos := pos) (h (Aof A0 Γ r)) (PSs_somep fun h => ha h A0) (PSs_somep fun h => hb h A0)).run pins s σ H E I ⟨S.sx, fun H1 s1 => ?_⟩⟩
  cases cb with
  | true => exact iteT ⟨rfl, B, r, S.mono s1, k1, k2⟩
  | false => exact iteF ⟨rfl, B, r, S.mono s1, k1, k2⟩
/-- a loop whose turns draw: behind i turns the state is one of Iv i -/
theorem dps_for {α : Type} {g : TG} {its : List α} {js : List Nat} {bd : α → List Sl → List Sl} {tg iter : Expr} (Iv : Nat → List Sl → Prop) (hp : PassesOwn (model X.prog X.w) X.A X.env X.xe) (hc : X.calm = true) (h0 : Iv 0 Γ) (di : DI X Γ tg iter g its js bd) (hg : PG X tg g)
    (hb : ∀ (i : Nat) a Γ1, its[i]? = some a → Iv i Γ1 → DPs X (bd a Γ1) body q R (Iv (i + 1))) (k : ∀ Γ1, Iv its.length Γ1 → DPs X Γ1 sts q R Nx)
    (hs : ∀ x, foldedSetIterable iter X.env x = pure x := by intro _; rfl) : DPs X Γ (.For tg iter body [] pos :: sts) q R Nx := by
  refine dps_cons (Nx1 := Iv its.length) (fun A0 => ?_) k
  refine ⟨fun pins s σ H E I ⟨B, r, S, k1, k2⟩ => ?_⟩
  obtain ⟨wi, hi, hw⟩ := di.ex (Aof A0 Γ r)
  let tb : TS := fun E σ H => ∃ (i : Nat) (a : α) (Γ1 : List Sl), (its[i]? = some a ∧ Iv i Γ1) ∧ tPl X.K A0 (bd a Γ1) q R (Iv (i + 1)) E σ H
  have hbody : PSs X body tb := PSs_some fun i => PSs_some fun a => PSs_some fun Γ1 => PSs_somep fun h => hb i a Γ1 h.1 h.2 A0
  refine (ps_for (pos := pos) hp hc hi hg hbody hs).run pins s σ H E I ?_
  refine hw σ H _ S.sx fun J H1 G Y s1 wk gk yk => ?_
  obtain ⟨S', sb⟩ := (S.mono s1).rebase
  have key : ∀ {Γ2 : List Sl} {σ2 : L2.St} {H2 : Hp} {r2 : Rt}, SR X.K A0 ⟨rebase Γ r H1, B.p⟩ Γ2 σ2 H2 r2 → Same (msk (Aof A0 Γ r) H1) (msk (Aof A0 Γ2 r2) H2) := fun {Γ2 σ2 H2 r2} S2 b o z => by
    obtain ⟨n, z⟩ := msk_of z
    have zb : rebase Γ r H1 b = some o := by
      unfold rebase
      rw [msk_out fun y => n (.inr y)]; exact z
    rw [msk_out]
    · exact S2.base b o zb
    · rintro (y | y | ⟨i, ds, e, rfl⟩)
      · exact n (.inl y)
      · have zz : rebase Γ r H1 b = none := (S2.jd b y).1
        rw [zz] at zb; cases zb
      · have zz : rebase Γ r H1 (r2 i) = none := (S2.own i ds e).2
        rw [zz] at zb; cases zb
  refine for_it wk (g := g) (tb := tb) (D := E) (fun i σ2 H2 => ∃ Γ2 r2, Iv i Γ2 ∧ SR X.K A0 ⟨rebase Γ r H1, B.p⟩ Γ2 σ2 H2 r2) ⟨Γ, r, h0, S'⟩ ?_ ?_ ?_
  · rintro i σ2 H2 hi2 ⟨Γ2, r2, _, S2⟩
    exact gk _ H2 (key S2)
  · rintro i x σ2 H2 H3 hi2 ⟨Γ2, r2, iv, S2⟩ y
    obtain ⟨a, ea⟩ : ∃ a, its[i]? = some a := ⟨_, List.getElem?_eq_getElem hi2⟩
    refine yk _ H2 i x H3 _ σ2 _ a (key S2) ea y S2.sx fun σ3 H4 s4 S4 hl4 far => ?_
    have ow : ∀ (j : Nat) ds, (bd a Γ2)[j]? = some (.own ds) → j ∉ js ∧ Γ2[j]? = some (.own ds) := fun j ds z => by
      have nj : j ∉ js := fun y => (di.near a Γ2 j y _ z).elim fun _ q => by cases q
      exact ⟨nj, by rw [← di.far a Γ2 j nj]; exact z⟩
    have SS : SR X.K A0 ⟨rebase Γ r H1, B.p⟩ (bd a Γ2) σ3 H4 r2 := by
      refine ⟨S4.sub fun c z => ?_, S2.base.trans s4, S2.dom0, fun j ds z => ?_, fun j k ds es z1 z2 => S2.inj j k ds es (ow j ds z1).2 (ow k es z2).2, fun ds z => S2.pin ds (ow 0 ds z).2, fun c j => ⟨(S2.jd c j).1, fun y => (S2.jd c j).2 (s4.free y)⟩, fun j ds z => S2.jo j ds (ow j ds z).2, fun j n z => by
        have nj : j ∉ js := fun y => (di.near a _ j y _ z).elim fun _ q => by cases q
        rw [far j nj]
        exact (S2.jk j n (by rw [← di.far a _ j nj]; exact z)).mono fun c u _ => s4 c u⟩
      · rcases z with z | z | ⟨j, ds, z1, z2⟩
        · exact .inl z
        · exact .inr (.inl z)
        · exact .inr (.inr ⟨j, ds, (ow j ds z1).2, z2⟩)
      · obtain ⟨nj, z⟩ := ow j ds z
        rw [far j nj]
        exact S2.own j ds z
    refine ⟨i, a, Γ2, ⟨ea, iv⟩, _, r2, SS, fun d hd v Γ5 σ5 H5 r5 ps5 S5 hq5 pp5 rp5 => ?_, fun Γ5 iv5 σ5 H5 r5 S5 => ⟨Γ5, r5, iv5, S5⟩⟩
    exact k1 d hd v Γ5 σ5 H5 r5 ps5 (S5.back sb S.dom0) hq5 pp5 rp5
  · rintro σ2 H2 ⟨Γ2, r2, iv, S2⟩
    exact k2 Γ2 iv σ2 H2 r2 (S2.back sb S.dom0)

/-! ### defs that draw: the first argument is the pool -/
def SameEx (p : Addr) (H H' : Hp) : Prop := ∀ b o, b ≠ p → H b = some o → H' b = some o
def PoolAt (K : PySem.W.Frag) (A : Addr → Prop) (H : Hp) (p : Addr) : Prop := ∃ vs ps, H p = some (.lst vs) ∧ Reps K (msk (fun b => A b ∨ b = p) H) vs ps ∧ PoolD ps
/-- from the pool and ds: some d with R ds d; where Pre ds -/
def spP (K : PySem.W.Frag) (Pre : List D → Prop) (R : List D → D → Prop) : Sp := fun vs H Q _ => ∃ (p : Addr) (vs' : List V) (ds : List D) (A : Addr → Prop), vs = .ref p :: vs' ∧ PoolAt K A H p ∧ (∀ b, A b → H b ≠ none) ∧ ¬ A p ∧ Reps K (msk (fun b => A b ∨ b = p) H) vs' ds ∧ Pre ds ∧
  ∀ d v H', R ds d → SameEx p H H' → PoolAt K A H' p → Rep K (msk (fun b => A b ∨ b = p) H') v d → Q v H'
theorem SR.ex {K : PySem.W.Frag} {A0 : Addr → Prop} {B : Bs} {Γ : List Sl} {σ : L2.St} {H H' : Hp} {r : Rt} (S : SR K A0 B Γ σ H r) {i : Nat} {ds : List D} (hi : Γ[i]? = some (.own ds)) (sx : SameEx (r i) H H') {vs : List V} {ds' : List D} (e : H' (r i) = some (.lst vs)) (q : Reps K (msk (Aof A0 Γ r) H') vs ds') :
    SR K A0 B (Γ.set i (.own ds')) σ H' r ∧ Same (msk (Aof A0 Γ r) H) (msk (Aof A0 Γ r) H') := by
  have il : i < Γ.length := (List.getElem?_eq_some_iff.mp hi).1
  have ain : Aof A0 Γ r (r i) := .inr (.inr ⟨i, ds, hi, rfl⟩)
  have mm : Same (msk (Aof A0 Γ r) H) (msk (Aof A0 Γ r) H') := fun b o z => by
    obtain ⟨n, z⟩ := msk_of z
    rw [msk_out n]
    exact sx b o (fun y => n (by rw [y]; exact ain)) z
  have ea : Aof A0 (Γ.set i (.own ds')) r = Aof A0 Γ r := funext fun b => propext (aof_set hi b)
  have ow : ∀ (j : Nat) es, (Γ.set i (.own ds'))[j]? = some (.own es) → ∃ fs, Γ[j]? = some (.own fs) := fun j es z => by
    by_cases c : i = j
    · subst c; exact ⟨ds, hi⟩
    · rw [List.getElem?_set_ne c] at z; exact ⟨es, z⟩
  refine ⟨⟨⟨by rw [List.length_set]; exact S.sx.len, fun b z => ?_, fun j s e' => ?_⟩, fun b o z => ?_, S.dom0, fun j es e' => ?_, fun j k es fs e1 e2 e3 => ?_, fun es e' => (ow 0 es e').elim fun fs e2 => S.pin fs e2, fun b j => ⟨(S.jd b j).1, fun z => ?_⟩, fun j es e' => (ow j es e').elim fun fs e2 => S.jo j fs e2, fun j n e' => ?_⟩, mm⟩
  rotate_right 2
  · cases h : H b with
    | none => exact (S.jd b j).2 h
    | some u =>
      by_cases c : b = r i
      · rw [c, e] at z; cases z
      · rw [sx b u c h] at z; cases z
  · have e2 : Γ[j]? = some (.jnk n) := by
      by_cases c : i = j
      · subst c; rw [List.getElem?_set_self il] at e'; cases e'
      · rw [List.getElem?_set_ne c] at e'; exact e'
    exact (S.jk j n e2).mono fun b u jb z => sx b u (fun y => S.jo i ds hi (by rw [← y]; exact jb)) z
  · have z := (aof_set hi b).mp z
    by_cases c : b = r i
    · rw [c, e]; simp
    · intro y
      cases h : H b with
      | none => exact S.sx.dom b z h
      | some o => rw [sx b o c h] at y; cases y
  · rw [ea]
    by_cases c : i = j
    · subst c
      rw [List.getElem?_set_self il] at e'; cases e'
      exact ⟨r i, vs, (S.own i ds hi).1, e, q⟩
    · rw [List.getElem?_set_ne c] at e'
      have z := S.sx.sl j s e'
      cases s with
      | no => trivial
      | val d => obtain ⟨v, e1, r⟩ := z; exact ⟨v, e1, r.mono mm⟩
      | own fs =>
        obtain ⟨b, ws, e1, e2, q2⟩ := z
        rw [(S.own j fs e').1] at e1; cases e1
        exact ⟨r j, ws, (S.own j fs e').1, sx _ _ (fun z => c (S.inj j i _ _ e' hi z).symm) e2, q2.mono mm⟩
      | scr ns => obtain ⟨b, e1, r⟩ := z; exact ⟨b, e1, mm.seq r⟩
      | jnk k => exact ((S.jk j k e').mono fun b u jb z => sx b u (fun y => S.jo i ds hi (by rw [← y]; exact jb)) z).slok
  · exact sx b o (fun y => by rw [y, (S.own i ds hi).2] at z; cases z) (S.base b o z)
  · obtain ⟨fs, e2⟩ := ow j es e'
    exact S.own j fs e2
  · obtain ⟨f1, e1⟩ := ow j es e1
    obtain ⟨f2, e2⟩ := ow k fs e2
    exact S.inj j k f1 f2 e1 e2 e3
variable {P : Program} {w : World} {K : PySem.W.Frag} {mg : Str → Option Value} {base : Heap}
structure CalP (P : Program) (w : World) (K : PySem.W.Frag) (mg : Str → Option Value) (base : Heap) (name : Str) (k : Nat) (ps : List Str) (Pre : List D → Prop) (R : List D → D → Prop) : Prop where
  ex : ∃ (f : Addr) (fd : FuncData), mg name = some (.ref f) ∧ PySem.W.keepIn K (.ref f) = true ∧ L2.Binds K fd ps [] ∧ FnOk P w K mg base CX0 k f fd ps (spP K Pre R)
/-- f(pool, ..) -/
theorem dx_call {es : List Expr} {x px : Str} {p pp : Pos} {k : Nat} {pn : List Str} {Pre : List D → Prop} {R : List D → D → Prop} {ds : List D} {ps : List D} (c : CalP X.prog X.w X.K X.mg X.base x k pn Pre R) (hr : Room k X.A) (hq : Γ[q]? = some (.own ps)) (hp : PoolD ps) (h : DEs X Γ es ds) (hR : Pre ds)
    (hN : X.N[q]? = some px := by rfl) (hv : Vis X.env.scope px := by first | exact Or.inl rfl | exact Or.inr (Or.inl rfl) | exact Or.inr (Or.inr rfl)) (hd : (px == ("__debug__" : Str)) = false := by decide) (hcd : (px == ("__classdict__" : Str)) = false := by decide)
    (hg : Gl X x := by rfl) (hdb : (x == ("__debug__" : Str)) = false := by decide) (he : starEach (Expr.Name px pp :: es) X.env = (false, eval (Expr.Name px pp) X.env) :: starEach es X.env := by rfl) (hpl : (backTo pos (starEach es X.env)).any (·.1) = false := by rfl) :
    DX X Γ (.Call (.Name x p) (.Name px pp :: es) [] pos) q (R ds) id := fun A0 => by
  obtain ⟨f, fd, h1, h2, h3, h4⟩ := c.ex
  refine ⟨fun pins s σ H Q I ⟨B, r, S, k⟩ => (pe_call (pos := pos) h4 hr hg h1 h2 h3 .nil pass0 (pa_cons (pv q hN hv hd hcd) (h (Aof A0 Γ r)) he) hdb he hpl).run pins s σ H Q I ?_⟩
  obtain ⟨e1, e2⟩ := S.own q ps hq
  refine ⟨_, e1, S.sx, fun vs H1 s1 r1 => ?_⟩
  have S1 := S.mono s1
  obtain ⟨a, ws, e3, e4, rw⟩ := S1.sx.sl q _ hq
  rw [e1] at e3; cases e3
  have iff : ∀ b, ((Aof A0 Γ r b ∧ b ≠ r q) ∨ b = r q) ↔ Aof A0 Γ r b := fun b => by
    constructor
    · rintro (z | z)
      · exact z.1
      · subst z; exact .inr (.inr ⟨q, ps, hq, rfl⟩)
    · intro z
      by_cases c : b = r q
      · exact .inr c
      · exact .inl ⟨z, c⟩
  refine ⟨r q, vs, ds, fun b => Aof A0 Γ r b ∧ b ≠ r q, by rw [List.append_nil], ⟨ws, ps, e4, ?_, hp⟩, fun b z => S1.sx.dom b z.1, fun z => z.2 rfl, ?_, hR, fun d v H' hd sx pl rd => ?_⟩
  · rw [msk_iff iff]; exact rw
  · rw [msk_iff iff]; exact r1
  · obtain ⟨ws', ps', e5, r5, pp'⟩ := pl
    rw [msk_iff iff] at r5 rd
    obtain ⟨S2, mm⟩ := S1.ex hq sx e5 r5
    exact k d ps' v H' hd pp' S2 ((msk_same s1).trans mm) rd
def ΓP (N : List Str) (ps : List D) (ds : List D) : List Sl := .own ps :: (ds.map Sl.val ++ List.replicate (N.length - (ds.length + 1)) .no)
theorem fn_mkP {Pre : List D → Prop} {R : List D → D → Prop} {y qual : Str} {fst : Stmt} {f : Addr} {fd : FuncData} {N ps : List Str} {k : Nat} (F : Fun K y qual fst f fd) (S : FnScope N ps (defScope fst)) (hl : ∀ ds, Pre ds → ds.length + 1 = ps.length)
    (hb : ∀ (cdv : Value) (A : Around) (outer : List Env) (s : Shared) (H : Hp) (E : XK), Room k (A.deeper (envOfC qual (defScope fst) s.heap.objs.size f cdv)) → ∀ pl ds, PoolD pl → Pre ds →
      DPs (cxOf CX0 P w K mg base N qual (defScope fst) f cdv A outer s H E).nox (ΓP N pl ds) (defBody fst) 0 (R ds) (fun _ => False)) : FnOk P w K mg base CX0 (k + 1) f fd ps (spP K Pre R) := by
  refine F.ok S (fun vs H Q E ⟨p, vs', ds, A, e, _, _, _, r, h, _⟩ => by rw [e, List.length_cons, r.length]; exact hl ds h) fun cdv A outer s H vs Q E hr ⟨p, vs', ds, Am, e, ⟨ws, pl, e1, r1, pd⟩, dom, nA, r, h, q⟩ => ?_
  subst e
  have hs := hb cdv A outer s H E hr pl ds pd h
  have only : ∀ (i : Nat) es, (ΓP N pl ds)[i]? = some (.own es) → i = 0 ∧ es = pl := fun i es e => by
    cases i with
    | zero => cases e; exact ⟨rfl, rfl⟩
    | succ i =>
      exfalso
      have e' : (ds.map Sl.val ++ List.replicate (N.length - (ds.length + 1)) Sl.no)[i]? = some (.own es) := e
      rw [List.getElem?_append] at e'
      split at e'
      · rw [List.getElem?_map] at e'; cases h : ds[i]? <;> rw [h] at e' <;> cases e'
      · rw [List.getElem?_replicate] at e'; split at e' <;> cases e'
  have iff : ∀ b, Aof Am (ΓP N pl ds) ⟨fun _ => p, fun _ => False⟩ b ↔ (Am b ∨ b = p) := fun b => by
    constructor
    · rintro (z | z | ⟨i, es, _, z⟩)
      · exact .inl z
      · exact z.elim
      · exact .inr z.symm
    · rintro (z | z)
      · exact .inl z
      · exact .inr (.inr ⟨0, pl, rfl, z.symm⟩)
  refine ⟨_, hs Am, ⟨msk (fun b => b = p) H, p⟩, ⟨fun _ => p, fun _ => False⟩, ⟨⟨?_, fun b z => ?_, fun i sl e => ?_⟩, msk_le, fun b z => ?_, fun i es e => ?_, fun i j es fs e1 e2 _ => ?_, fun _ _ => rfl, fun _ z => z.elim, fun _ _ _ z => z, fun i n e => ?_⟩, fun d hd v Γ' σ' H' r' ps' S' hq' pp' rd => ?_, fun _ z => z.elim⟩
  · unfold L2.start ΓP; simp [r.length]
  · rcases (iff b).mp z with z | z
    · exact dom b z
    · rw [z, e1]; simp
  · rw [show Aof Am (ΓP N pl ds) ⟨fun _ => p, fun _ => False⟩ = (fun b => Am b ∨ b = p) from funext fun b => propext (iff b)]
    cases i with
    | zero => cases e; exact ⟨p, ws, rfl, e1, r1⟩
    | succ i =>
      cases sl with
      | no => trivial
      | jnk k =>
        exfalso
        have e' : (ds.map Sl.val ++ List.replicate (N.length - (ds.length + 1)) Sl.no)[i]? = some (.jnk k) := e
        rw [List.getElem?_append] at e'
        split at e'
        · rw [List.getElem?_map] at e'; cases h : ds[i]? <;> rw [h] at e' <;> cases e'
        · rw [List.getElem?_replicate] at e'; split at e' <;> cases e'
      | scr ns =>
        exfalso
        have e' : (ds.map Sl.val ++ List.replicate (N.length - (ds.length + 1)) Sl.no)[i]? = some (.scr ns) := e
        rw [List.getElem?_append] at e'
        split at e'
        · rw [List.getElem?_map] at e'; cases h : ds[i]? <;> rw [h] at e' <;> cases e'
        · rw [List.getElem?_replicate] at e'; split at e' <;> cases e'
      | own es => exact absurd (only _ es e).1 (by simp)
      | val d' =>
        have e' : (ds.map Sl.val ++ List.replicate (N.length - (ds.length + 1)) Sl.no)[i]? = some (.val d') := e
        rw [List.getElem?_append] at e'
        split at e'
        · rename_i hi
          rw [List.getElem?_map] at e'
          cases h2 : ds[i]? with
          | none => rw [h2] at e'; cases e'
          | some d2 =>
            rw [h2] at e'; cases e'
            obtain ⟨v, f1, f2⟩ := r.get h2
            refine ⟨v, ?_, f2⟩
            show (vs'.map some ++ List.replicate (N.length - (vs'.length + 1)) none)[i]? = _
            rw [List.getElem?_append_left (by rw [List.length_map, r.length]; rw [List.length_map] at hi; exact hi), List.getElem?_map, f1]
            rfl
        · rw [List.getElem?_replicate] at e'; split at e' <;> cases e'
  · intro y
    cases h : H b with
    | none => exact dom b z h
    | some o =>
      have y' : msk (fun b => b = p) H b = none := y
      rw [msk_out (fun y => nA (by rw [← y]; exact z)), h] at y'
      cases y'
  · obtain ⟨rfl, rfl⟩ := only i es e
    exact ⟨rfl, msk_in rfl⟩
  · rw [(only i es e1).1, (only j fs e2).1]
  · exfalso
    cases i with
    | zero => cases e
    | succ i =>
      have e' : (ds.map Sl.val ++ List.replicate (N.length - (ds.length + 1)) Sl.no)[i]? = some (.jnk n) := e
      rw [List.getElem?_append] at e'
      split at e'
      · rw [List.getElem?_map] at e'; cases h : ds[i]? <;> rw [h] at e' <;> cases e'
      · rw [List.getElem?_replicate] at e'; split at e' <;> cases e'
  · have ep : r' 0 = p := S'.pin ps' hq'
    obtain ⟨a, ws', f3, f4, f5⟩ := S'.sx.sl 0 _ hq'
    rw [(S'.own 0 ps' hq').1] at f3; cases f3
    have sub : ∀ b, (Am b ∨ b = p) → Aof Am Γ' r' b := fun b z => by
      rcases z with z | z
      · exact .inl z
      · exact .inr (.inr ⟨0, ps', hq', by rw [ep, z]⟩)
    refine q d v H' hd (fun b o nb e => S'.base b o (by show msk (fun b => b = p) H b = some o; rw [msk_out (A := fun b => b = p) nb]; exact e)) ⟨ws', ps', by rw [← ep]; exact f4, f5.mono (msk_sub sub), pp'⟩ (rd.mono (msk_sub sub))
end
end G
set_option Elab.async false
set_option linter.all false
set_option maxRecDepth 100000
namespace G
open PySem PySem.Spec PyProof.Rows L2
def isBlc (c : Bool) : D → Bool | .bl b => b == c | _ => false
section
variable {X : Cx} {Γ : List Sl} {d : D} {e : Expr} {p p2 pos : Pos}
def rIsAny : R2 := fun x y H Q => ∃ c : Bool, y = .bl c ∧ Q (.bl (decide (x = .bl c))) H
theorem op_isAny : OpR X (compareOp .Is) rIsAny := by
  intro pins s σ H x y v u Q I rx ry h
  obtain ⟨c, rfl, q⟩ := h
  cases (show u = Value.bool c from ry)
  cases x with
  | bl b =>
    cases (show v = Value.bool b from rx)
    exact is_bool (fin_bl I q (by cases b <;> cases c <;> rfl))
  | int i => obtain ⟨t, rfl⟩ := rx; exact wpAny_pure (fin_bl I q rfl)
  | str i => obtain ⟨t, rfl⟩ := rx; exact wpAny_pure (fin_bl I q rfl)
  | byt i => obtain ⟨t, rfl⟩ := rx; exact wpAny_pure (fin_bl I q rfl)
  | flt i => obtain ⟨t, rfl⟩ := rx; exact wpAny_pure (fin_bl I q rfl)
  | non => cases (show v = Value.none from rx); exact wpAny_pure (fin_bl I q rfl)
  | ref a => cases (show v = Value.ref a from rx); exact wpAny_pure (fin_bl I q rfl)
  | ty a => cases (show v = Value.type a from rx); exact wpAny_pure (fin_bl I q rfl)
theorem ok_isB {c : Bool} : OK2 X (compareOp .Is) d (.bl c) (.bl (isBlc c d)) :=
  ⟨_, op_isAny, fun A x y H Q _ rx ry q => by
    cases ry
    refine ⟨c, rfl, q _ H (Same.refl H) ?_⟩
    cases rx with
    | bl b => cases b <;> cases c <;> exact .bl _
    | _ => exact .bl _⟩
/-- d is of the built-in type T: the types that laws ask for -/
def isiT (T : String) : D → Option Bool
  | .non => kitB "NoneType" T | .bl _ => kitB "bool" T | .int _ => kitB "int" T | .str _ => kitB "str" T | .lst _ => kitB "list" T | .tup _ => kitB "tuple" T | .obj _ _ _ => none
theorem tyX_of {K : PySem.W.Frag} {H : Hp} {x : V} {T : String} {b : Bool} (r : Rep K H x d) (h : isiT T d = some b) : ∃ t, TyX K H x (.type t) ∧ kitB t T = some b := by
  cases r with
  | non => exact ⟨_, .base .non, h⟩
  | bl b => exact ⟨_, .base (.bl b), h⟩
  | int i => exact ⟨_, .base (.int i), h⟩
  | str i => exact ⟨_, .base (.str i), h⟩
  | lst e _ => exact ⟨_, .base (.lst e), h⟩
  | tup e _ =>
    rcases e with (e | ⟨o, e⟩) | ⟨o, its, n, e, c, _⟩
    · exact ⟨_, .base (.tup e), h⟩
    · exact ⟨_, .fTuple e, h⟩
    · exact ⟨_, .kTuple e c, h⟩
  | obj => cases h
theorem tyX_mono {K : PySem.W.Frag} {H H' : Hp} {x : V} {t : String} (s : Same H H') (h : TyX K H x (.type t)) (hne : True) : Rep K H x d → Rep K H' x d := fun r => r.mono s
theorem de_isi {T : Str} (Tn : String) {b : Bool} (hm : X.mg "isinstance" = none) (hmT : X.mg T = none) (h : DE X Γ e d) (hi : isiT Tn d = some b := by first | assumption | (dsimp only [isiT]; decide +kernel)) (hvT : bootBuiltins T = some (.type Tn) := by decide +kernel) (hgT : Gl X T := by rfl) (hg : Gl X "isinstance" := by rfl)
    (hnT : T ≠ "__name__" := by decide) (hdT : (T == ("__debug__" : Str)) = false := by decide)
    (he : starEach [e, Expr.Name T p2] X.env = (false, eval e X.env) :: starEach [Expr.Name T p2] X.env := by rfl) (he2 : starEach (Expr.Name T p2 :: []) X.env = (false, eval (Expr.Name T p2) X.env) :: starEach [] X.env := by rfl)
    (hpl : (backTo pos (starEach [Expr.Name T p2] X.env)).any (·.1) = false := by rfl) : DE X Γ (.Call (.Name "isinstance" p) [e, .Name T p2] [] pos) (.bl b) := fun A =>
  impE (pe_callB (pos := pos) call_isi hg hm PyProof.Rows.boot_isinstance (pa_cons (h A) (pa_cons (pe_bltn hgT hmT hvT (v := .ty Tn) rfl hnT hdT) pa_nil he2) he) (by decide) (by decide) he hpl) fun σ H Q ⟨S, q⟩ => ⟨S, fun v H1 s1 r1 => by
    obtain ⟨t, ht, hk⟩ := tyX_of (r1.mono msk_le) hi
    exact ⟨v, .ty Tn, .type t, .type Tn, b, rfl, .ty Tn, ht, kit_ty hk, q _ H1 s1 (.bl b)⟩⟩
end
/-! ### _law_same -/
mutual
/-- what the laws' own comparison answers -/
def same : D → D → Bool
  | g, .non => isNon g
  | g, .bl c => isBlc c g
  | .int i, .int j => decide (i = j)
  | _, .int _ => false
  | .str i, .str j => decide (i = j)
  | _, .str _ => false
  | .lst gs, .lst ds => sames gs ds
  | .tup gs, .tup ds => sames gs ds
  | _, _ => false
def sames : List D → List D → Bool
  | [], [] => true
  | g :: gs, d :: ds => same g d && sames gs ds
  | _, _ => false
end
mutual
/-- how deep, and that it is what the comparison knows: lists of at most a million items -/
def deep : Nat → D → Bool
  | _, .non => true | _, .bl _ => true | _, .int _ => true | _, .str _ => true
  | 0, .lst _ => false | 0, .tup _ => false
  | n + 1, .lst ds => decide (ds.length ≤ 1000000) && deeps n ds
  | n + 1, .tup ds => decide (ds.length ≤ 1000000) && deeps n ds
  | _, .obj _ _ _ => false
def deeps : Nat → List D → Bool
  | _, [] => true
  | n, d :: ds => deep n d && deeps n ds
end
theorem sames_len : ∀ {gs ds : List D}, gs.length ≠ ds.length → sames gs ds = false
  | [], [], h => absurd rfl h
  | [], _ :: _, _ => rfl
  | _ :: _, [], _ => rfl
  | g :: gs, d :: ds, h => by
    show (same g d && sames gs ds) = false
    rw [sames_len fun z => h (congrArg (· + 1) z), Bool.and_false]
theorem deeps_get {n : Nat} : ∀ {ds : List D} {i : Nat} {d : D}, deeps n ds = true → ds[i]? = some d → deep n d = true
  | d :: ds, 0, _, h, e => by
    cases e
    have h : (deep n d && deeps n ds) = true := h
    exact (Bool.and_eq_true _ _ ▸ h).1
  | d :: ds, i + 1, _, h, e => by
    have h : (deep n d && deeps n ds) = true := h
    exact deeps_get (i := i) (Bool.and_eq_true _ _ ▸ h).2 e
/-- all pairs below k are the same -/
theorem sames_all : ∀ {gs ds : List D}, gs.length = ds.length → (sames gs ds = true ↔ ∀ (i : Nat) g d, gs[i]? = some g → ds[i]? = some d → same g d = true)
  | [], [], _ => ⟨fun _ i g d e => by simp at e, fun _ => rfl⟩
  | g :: gs, d :: ds, h => by
    have ih := sames_all (gs := gs) (ds := ds) (Nat.succ.inj h)
    show (same g d && sames gs ds) = true ↔ _
    rw [Bool.and_eq_true, ih]
    constructor
    · rintro ⟨h1, h2⟩ i g' d' e1 e2
      cases i with
      | zero => cases e1; cases e2; exact h1
      | succ i => exact h2 i g' d' e1 e2
    · intro hh
      exact ⟨hh 0 g d rfl rfl, fun i g' d' e1 e2 => hh (i + 1) g' d' e1 e2⟩
mutual
theorem same_refl : ∀ (n : Nat) (d : D), deep n d = true → same d d = true
  | _, .non, _ => rfl
  | _, .bl c, _ => by simp [same, isBlc]
  | _, .int i, _ => by simp [same]
  | _, .str x, _ => by simp [same]
  | n + 1, .lst ds, h => by
    have h : (decide (ds.length ≤ 1000000) && deeps n ds) = true := h
    show sames ds ds = true
    exact sames_refl n ds (Bool.and_eq_true _ _ ▸ h).2
  | n + 1, .tup ds, h => by
    have h : (decide (ds.length ≤ 1000000) && deeps n ds) = true := h
    show sames ds ds = true
    exact sames_refl n ds (Bool.and_eq_true _ _ ▸ h).2
theorem sames_refl : ∀ (n : Nat) (ds : List D), deeps n ds = true → sames ds ds = true
  | _, [], _ => rfl
  | n, d :: ds, h => by
    have h : (deep n d && deeps n ds) = true := h
    have h' := (Bool.and_eq_true _ _ ▸ h)
    show (same d d && sames ds ds) = true
    rw [same_refl n d h'.1, sames_refl n ds h'.2]
    rfl
end
def R_same (n : Nat) (ds : List D) (d : D) : Prop := ∃ g du, deep n du = true ∧ (∃ m, deep m g = true) ∧ ds = [g, du] ∧ d = .bl (same g du)
theorem deep_get {m : Nat} {g : D} {gs : List D} {i : Nat} {d : D} (h : deep m g = true) (e : g = .lst gs ∨ g = .tup gs) (hi : gs[i]? = some d) : ∃ m', deep m' d = true := by
  rcases e with rfl | rfl
  all_goals
    cases m with
    | zero => cases h
    | succ m =>
      have h : (decide (gs.length ≤ 1000000) && deeps m gs) = true := h
      exact ⟨m, deeps_get (Bool.and_eq_true _ _ ▸ h).2 hi⟩
/-- the loop of the comparison -/
def loopR (gs ds : List D) : Bool := (List.range ds.length).all fun k => same (gs.getD k .non) (ds.getD k .non)
theorem loopR_eq {gs ds : List D} (h : gs.length = ds.length) : loopR gs ds = sames gs ds := by
  rw [Bool.eq_iff_iff, sames_all h]
  unfold loopR
  rw [List.all_eq_true]
  constructor
  · intro hh i g d e1 e2
    have hi := (List.getElem?_eq_some_iff.mp e2).1
    have := hh i (List.mem_range.mpr hi)
    rw [List.getD_eq_getElem?_getD, List.getD_eq_getElem?_getD, e1, e2] at this
    exact this
  · intro hh i hi
    have hi := List.mem_range.mp hi
    have hi2 : i < gs.length := by omega
    rw [List.getD_eq_getElem?_getD, List.getD_eq_getElem?_getD, List.getElem?_eq_getElem hi, List.getElem?_eq_getElem hi2]
    exact hh i _ _ (List.getElem?_eq_getElem hi2) (List.getElem?_eq_getElem hi)
theorem runE_search {α : Type} {c : α → Bool} : ∀ {xs : List α}, runE (fun (_ : Unit) a => if c a then none else some (D.bl false)) (fun _ _ => ()) xs () = if xs.all c then .inr () else .inl (.bl false)
  | [] => rfl
  | x :: xs => by
    show (match (if c x then none else some (D.bl false)) with | some d => Sum.inl d | none => runE (fun (_ : Unit) a => if c a then none else some (D.bl false)) (fun _ _ => ()) xs ()) = _
    cases h : c x with
    | true => simp [h, runE_search (xs := xs)]
    | false => simp [h]
end G
set_option Elab.async false
set_option linter.all false
set_option maxRecDepth 100000
namespace G
open PySem PySem.Spec PyProof.Rows L2
/-! ### sorted, of lists of lists of ints -/
abbrev srtB (bs : List (Addr × List Int)) : List (Addr × List Int) := bs.mergeSort (fun p q => decide (p.2 ≤ q.2))
def srtL (xs : List (List Int)) : List (List Int) := xs.mergeSort (fun p q => decide (p ≤ q))
def rSortedLL (K : PySem.W.Frag) : List V → Hp → VK → Prop := fun vs H Q => ∃ (a : Addr) (bs : List (Addr × List Int)), vs = [.ref a] ∧ SqL K H a (bs.map fun b => V.ref b.1) ∧ (∀ b ∈ bs, H b.1 = some (.lst (b.2.map V.int))) ∧
  ∀ p, H p = none → Q (.ref p) (upd H p (.lst ((srtB bs).map fun b => V.ref b.1)))
theorem vals_refs : ∀ {bs : List (Addr × List Int)} {us : List Value}, Vals (bs.map fun b => V.ref b.1) us → us = bs.map fun b => Value.ref b.1
  | [], _, .nil => rfl
  | b :: bs, u :: us, .cons r t => by
    have e : u = Value.ref b.1 := r
    rw [e, vals_refs t]; rfl
theorem refs_vals : ∀ (bs : List (Addr × List Int)), Vals (bs.map fun b => V.ref b.1) (bs.map fun b => Value.ref b.1)
  | [] => .nil
  | b :: bs => .cons (by exact rfl) (refs_vals bs)
theorem eachIs_refs : ∀ (bs : List (Addr × List Int)) {R : Value → (Addr × List Int) → Prop}, (∀ b ∈ bs, R (.ref b.1) b) → PySem.W.EachIs R (bs.map fun b => Value.ref b.1) bs
  | [], _, _ => .nil
  | b :: bs, R, h => .cons (h b List.mem_cons_self) (eachIs_refs bs fun c hc => h c (List.mem_cons_of_mem _ hc))
theorem eachIs_eq : ∀ {bs : List (Addr × List Int)} {us : List Value}, PySem.W.EachIs (fun u (b : Addr × List Int) => u = Value.ref b.1) us bs → us = bs.map fun b => Value.ref b.1
  | [], _, .nil => rfl
  | b :: bs, u :: us, .cons r t => by rw [r, eachIs_eq t]; rfl
theorem reads_ints {h : Heap} : ∀ {ns : List Int} {us : List Value}, Vals (ns.map V.int) us → ReadsAll h us (ns.map .int) []
  | [], _, .nil => .nil
  | n :: ns, u :: us, .cons r t => by
    obtain ⟨k, rfl⟩ := r
    exact .cons (as := []) (bs := []) (.int n k) (reads_ints t)
section
variable {X : Cx}
theorem cr_sortedLL (hu : X.A.units + 100 < cLine) : CallR X (.builtin "sorted") (rSortedLL X.K) := by
  intro pins s σ H vs us Q I r h
  obtain ⟨a, bs, rfl, hs, hb, q⟩ := h
  obtain ⟨its, rv, hl, hz⟩ := I.list hs
  obtain ⟨u, rfl, ru⟩ := vals1 r
  obtain rfl : u = Value.ref a := ru
  have eits := vals_refs rv
  subst eits
  have hlen : bs.length ≤ sizeLine := by rw [List.length_map] at hz; exact hz
  refine PySem.W.sorted_data (R := fun u (b : Addr × List Int) => u = Value.ref b.1) (enc := fun b : Addr × List Int => PyData.list (b.2.map .int)) (bs := bs) hl.isList (eachIs_refs bs fun b _ => rfl) (eachIs_refs bs fun b hb' => ?_) (.of fun b b' => ?_) (.others fun b => ⟨by simp, by simp⟩) hlen (fun b _ => ?_) fun out ho eo => ?_
  · obtain ⟨z, its2, n, r2, e⟩ := I.hok _ _ (hb b hb')
    exact ⟨_, .list e rfl rfl (by simpa using reads_ints r2)⟩
  · simp [PySem.W.alike, PySem.W.alike_ints]
  · have hd : (PyData.list (b.2.map .int)).depth = 1 := by simp [PyData.depth, PySem.W.depth_ints]
    show _ + 2 + (PyData.list (b.2.map .int)).depth < _
    omega
  · rw [PySem.W.dataLe_rows (fun b : Addr × List Int => b.2)] at eo
    have eout := eachIs_eq eo
    obtain ⟨c, hc⟩ := sortedAll_at s.heap (bs.map fun b => Value.ref b.1) (List.toArray out)
    have hf : H (s.heap.objs.size + 1) = none := I.hok.fresh (Nat.le_succ _)
    refine ⟨.ref (s.heap.objs.size + 1), _, I.laid (t' := s.toks) (o := .lst ((srtB bs).map fun b => V.ref b.1)) (fun b o => sortedAll_old) (Nat.le_succ _) ?_, rfl, q _ hf⟩
    refine ⟨by rw [List.length_map, List.length_mergeSort]; exact hlen, out, c, by rw [eout]; exact refs_vals _, hc⟩
theorem merge_map : ∀ (bs : List (Addr × List Int)), (srtB bs).map (·.2) = srtL (bs.map (·.2)) := fun bs => by
  unfold srtL
  rw [← List.map_mergeSort]
  intro a _ b _
  rfl
theorem reps_rows {K : PySem.W.Frag} {H : Hp} : ∀ {vs : List V} {xs : List (List Int)}, Reps K H vs (xs.map (eL D.int)) → ∃ bs : List (Addr × List Int), vs = (bs.map fun b => V.ref b.1) ∧ bs.map (·.2) = xs ∧ ∀ b ∈ bs, H b.1 = some (.lst (b.2.map V.int))
  | [], [], .nil => ⟨[], rfl, rfl, fun _ h => nomatch h⟩
  | v :: vs, x :: xs, .cons r t => by
    obtain ⟨bs, e1, e2, h⟩ := reps_rows t
    cases r with
    | @lst a ws _ h1 r1 =>
      have e := r1.ints
      subst e
      refine ⟨(a, x) :: bs, by rw [e1]; rfl, by rw [← e2]; rfl, fun b hb => ?_⟩
      rcases List.mem_cons.mp hb with rfl | hb
      · exact h1
      · exact h b hb
theorem rows_reps {K : PySem.W.Frag} {H : Hp} : ∀ {bs : List (Addr × List Int)}, (∀ b ∈ bs, H b.1 = some (.lst (b.2.map V.int))) → Reps K H (bs.map fun b => V.ref b.1) ((bs.map (·.2)).map (eL D.int))
  | [], _ => .nil
  | b :: bs, h => .cons (.lst (h b List.mem_cons_self) (.of_ints _)) (rows_reps fun c hc => h c (List.mem_cons_of_mem _ hc))
theorem okc_sortedLL {xs : List (List Int)} (hu : X.A.units + 100 < cLine) : OKC X (.builtin "sorted") [eL (eL D.int) xs] (eL (eL D.int) (srtL xs)) :=
  ⟨_, cr_sortedLL hu, fun A vs H Q dom r q => by
    obtain ⟨x, rfl, rr⟩ := reps1 r
    cases rr with
    | lst h r2 =>
      obtain ⟨bs, rfl, rfl, hb⟩ := reps_rows r2
      refine ⟨_, bs, rfl, .of (msk_le _ _ h), fun b hb' => msk_le _ _ (hb b hb'), fun p hp => ?_⟩
      rw [← merge_map] at q
      exact q _ _ (same_new hp _) (rep_new_lst dom hp (rows_reps fun b hb' => hb b ((List.mergeSort_perm _ _).mem_iff.mp hb')))⟩
end
end G
set_option Elab.async false
set_option linter.all false
set_option maxRecDepth 100000
namespace G
open PySem PySem.Spec PyProof.Rows L2
def rngI (n : Nat) : List Int := (List.range n).map fun (k : Nat) => (k : Int)
theorem rngI_len (n : Nat) : (rngI n).length = n := by unfold rngI; rw [List.length_map, List.length_range]
section
variable {X : Cx} {Γ Γ1 : List Sl} {e a b c elt tg iter : Expr} {p p2 pos : Pos} {es rest : List Expr} {d da db : D} {ds das : List D} {x : Str} {α β : Type} {en : α → D} {xs ys : List α} {i j : Int} {sts : List Stmt} {o : Out}
/-! ### list(range(n)), tuple(range(n)) -/
theorem rgV_reps {K : PySem.W.Frag} {H : Hp} (n : Int) : Reps K H (rgV 0 n) ((rngI n.toNat).map D.int) := by
  have e : rgV 0 n = (rngI n.toNat).map V.int := by
    unfold rgV rngI
    rw [List.map_map, Int.sub_zero]
    exact List.map_congr_left fun k _ => by show V.int (0 + (k : Int)) = V.int (k : Int); rw [Int.zero_add]
  rw [e]
  exact .of_ints _
theorem df_listRange (h : DE X Γ e (.int i)) (hz : 0 ≤ i ∧ i ≤ 16777216) (hm : X.mg "list" = none) (hm2 : X.mg "range" = none) (hc : X.calm = true := by rfl) (hg : Gl X "list" := by rfl) (hg2 : Gl X "range" := by rfl)
    (na : starEach [e] X.env = (false, eval e X.env) :: starEach [] X.env := by rfl) (na2 : starEach [Expr.Call (.Name "range" p2) [e] [] pos] X.env = (false, eval (Expr.Call (.Name "range" p2) [e] [] pos) X.env) :: starEach [] X.env := by rfl) :
    DF X Γ (.Call (.Name "list" p) [.Call (.Name "range" p2) [e] [] pos] [] pos') ((rngI i.toNat).map D.int) := fun A =>
  impE (pe_listRg hc hg hm (prg_1 hg2 hm2 (h A) na) na2) fun σ H Q ⟨S, q⟩ => ⟨S, fun v H1 s1 r1 => by
    cases r1
    refine ⟨i, rfl, .of_le (by omega) (by omega) (by omega) (by omega), fun p hp => q p _ _ (s1.trans (same_new hp _)) (s1.free hp) upd_same (rgV_reps i)⟩⟩
theorem de_tupRange (h : DE X Γ e (.int i)) (hz : 0 ≤ i ∧ i ≤ 16777216) (hm : X.mg "tuple" = none) (hm2 : X.mg "range" = none) (hc : X.calm = true := by rfl) (hg : Gl X "tuple" := by rfl) (hg2 : Gl X "range" := by rfl)
    (na : starEach [e] X.env = (false, eval e X.env) :: starEach [] X.env := by rfl) (na2 : starEach [Expr.Call (.Name "range" p2) [e] [] pos] X.env = (false, eval (Expr.Call (.Name "range" p2) [e] [] pos) X.env) :: starEach [] X.env := by rfl) :
    DE X Γ (.Call (.Name "tuple" p) [.Call (.Name "range" p2) [e] [] pos] [] pos') (eT D.int (rngI i.toNat)) := fun A =>
  impE (pe_tupRg hc hg hm (prg_1 hg2 hm2 (h A) na) na2) fun σ H Q ⟨S, q⟩ => ⟨S, fun v H1 s1 r1 => by
    cases r1
    refine ⟨i, rfl, .of_le (by omega) (by omega) (by omega) (by omega), fun p hp => q _ _ (s1.trans (same_new hp _)) (rep_new_tup (dom_mono s1 S.dom) hp (rgV_reps i))⟩⟩
/-! ### xs.index(v) of ints, of bools -/
theorem de_indexI {ns : List Int} {k : Nat} (ha : DE X Γ a (eL D.int ns)) (hb : DE X Γ b (.int i)) (h1 : ns[k]? = some i) (h2 : ∀ m : Nat, m < k → ns[m]? ≠ some i)
    (hbase : attributeBase a "index" X.env (eval a X.env) = eval a X.env := by rfl)
    (hfew : ((backTo pos (starEach (b :: []) X.env)).all (fun x => !x.1) && (backToKw pos (keywordEach [] X.env)).all (fun x => x.1.isSome)
      && decide ((b :: []).length + ([] : List Keyword).length + (if ([] : List Keyword).isEmpty then 0 else 1) < 30)) = true := by rfl)
    (hline : (p.endLine == pos.line) = true := by rfl) (he : starEach (b :: []) X.env = (false, eval b X.env) :: starEach [] X.env := by rfl) (hplain : (backTo pos (starEach [] X.env)).any (·.1) = false := by rfl) :
    DE X Γ (.Call (.Attribute a "index" p) [b] [] pos) (.int (k : Int)) := fun A =>
  impE (pe_bm PySem.F.plainAttrs_list PySem.F.slot_list_index PySem.F.type_list_index mt_index (ha A) (pa_cons (hb A) pa_nil he) hbase hfew hline he hplain) fun σ H Q ⟨S, q⟩ => ⟨S, fun v H1 s1 r1 => by
    cases r1 with
    | lst e1 r1 =>
      have er := r1.ints
      subst er
      refine ⟨Or.inl ⟨rfl, _, .of (msk_le _ _ e1)⟩, S.mono s1, fun w H2 s2 r2 => ?_⟩
      cases r2
      refine ⟨_, _, _, k, .int i, rfl, rfl, .of (s2 _ _ (msk_le _ _ e1)), rfl, flat_ints, by rw [List.getElem?_map, h1]; rfl, by simp [eqV], fun m z hm e3 => ?_, q _ H2 (s1.trans s2) (.int _)⟩
      rw [List.getElem?_map] at e3
      cases h : ns[m]? with
      | none => rw [h] at e3; cases e3
      | some n =>
        rw [h] at e3; cases e3
        have := h2 m hm
        rw [h] at this
        simp [eqV]
        intro z
        exact this (by rw [z])⟩
theorem flat_bls : ∀ {ns : List Bool}, (ns.map V.bl).all flatV = true
  | [] => rfl
  | n :: ns => flat_bls (ns := ns)
theorem de_indexB {ns : List Bool} {k : Nat} {c : Bool} (ha : DE X Γ a (eL D.bl ns)) (hb : DE X Γ b (.bl c)) (h1 : ns[k]? = some c) (h2 : ∀ m : Nat, m < k → ns[m]? ≠ some c)
    (hbase : attributeBase a "index" X.env (eval a X.env) = eval a X.env := by rfl)
    (hfew : ((backTo pos (starEach (b :: []) X.env)).all (fun x => !x.1) && (backToKw pos (keywordEach [] X.env)).all (fun x => x.1.isSome)
      && decide ((b :: []).length + ([] : List Keyword).length + (if ([] : List Keyword).isEmpty then 0 else 1) < 30)) = true := by rfl)
    (hline : (p.endLine == pos.line) = true := by rfl) (he : starEach (b :: []) X.env = (false, eval b X.env) :: starEach [] X.env := by rfl) (hplain : (backTo pos (starEach [] X.env)).any (·.1) = false := by rfl) :
    DE X Γ (.Call (.Attribute a "index" p) [b] [] pos) (.int (k : Int)) := fun A =>
  impE (pe_bm PySem.F.plainAttrs_list PySem.F.slot_list_index PySem.F.type_list_index mt_index (ha A) (pa_cons (hb A) pa_nil he) hbase hfew hline he hplain) fun σ H Q ⟨S, q⟩ => ⟨S, fun v H1 s1 r1 => by
    cases r1 with
    | lst e1 r1 =>
      have er := r1.bls
      subst er
      refine ⟨Or.inl ⟨rfl, _, .of (msk_le _ _ e1)⟩, S.mono s1, fun w H2 s2 r2 => ?_⟩
      cases r2
      refine ⟨_, _, _, k, .bl c, rfl, rfl, .of (s2 _ _ (msk_le _ _ e1)), rfl, flat_bls, by rw [List.getElem?_map, h1]; rfl, by simp [eqV], fun m z hm e3 => ?_, q _ H2 (s1.trans s2) (.int _)⟩
      rw [List.getElem?_map] at e3
      cases h : ns[m]? with
      | none => rw [h] at e3; cases e3
      | some n =>
        rw [h] at e3; cases e3
        have := h2 m hm
        rw [h] at this
        simp [eqV]
        intro z
        exact this (by rw [z])⟩
/-! ### arguments whatever they are, for a call that hands back no object -/
def tU (K : PySem.W.Frag) (A : Addr → Prop) (Γ : List Sl) (d : D) : TE := fun σ H Q => SX K A Γ σ H ∧ ∀ v H', Same H H' → Rep K H' v d → Q v H'
abbrev DU (X : Cx) (Γ : List Sl) (e : Expr) (d : D) : Prop := ∀ A, PE X e (tU X.K A Γ d)
def tUs (K : PySem.W.Frag) (A : Addr → Prop) (Γ : List Sl) (ds : List D) : TA := fun σ H Q => SX K A Γ σ H ∧ ∀ vs H', Same H H' → Reps K H' vs ds → Q vs H'
abbrev DUs (X : Cx) (Γ : List Sl) (es : List Expr) (ds : List D) : Prop := ∀ A, PA X es (tUs X.K A Γ ds)
theorem du_of (h : DE X Γ e d) : DU X Γ e d := fun A => impE (h A) fun σ H Q ⟨S, q⟩ => ⟨S, fun v H' s r => q v H' s (r.mono msk_le)⟩
theorem du_own (h : DS X Γ e ds) : DU X Γ e (.lst ds) := fun A => impE (h A) fun σ H Q ⟨S, q⟩ => ⟨S, fun a vs H' s e r => q _ H' s (.lst e (r.mono msk_le))⟩
theorem du_tre (i : Nat) {dss : List (List Int)} (h : Γ[i]? = some (.jnk (.tre dss)) := by rfl) (hN : X.N[i]? = some x := by rfl) (hv : Vis X.env.scope x := by first | exact Or.inl rfl | exact Or.inr (Or.inl rfl) | exact Or.inr (Or.inr rfl))
    (hd : (x == ("__debug__" : Str)) = false := by decide) (hcd : (x == ("__classdict__" : Str)) = false := by decide) : DU X Γ (.Name x pos) (eL (eL D.int) dss) := fun A =>
  impE (pv i hN hv hd hcd) fun σ H Q ⟨S, q⟩ => by
    obtain ⟨v, e, r⟩ := S.sl i _ h
    exact ⟨v, e, q v H (Same.refl H) r⟩
theorem dus_nil : DUs X Γ [] [] := fun A => impA pa_nil fun σ H Q ⟨S, q⟩ => q [] H (Same.refl H) .nil
theorem dus_cons (h : DU X Γ e d) (t : DUs X Γ es ds) (hs : starEach (e :: es) X.env = (false, eval e X.env) :: starEach es X.env := by rfl) : DUs X Γ (e :: es) (d :: ds) := fun A =>
  impA (pa_cons (h A) (t A) hs) fun σ H Q ⟨S, q⟩ => ⟨S, fun v H1 s1 r1 => ⟨S.mono s1, fun vs H2 s2 r2 => q (v :: vs) H2 (s1.trans s2) (.cons (r1.mono s2) r2)⟩⟩
/-- what is no object -/
def Sc : D → Prop | .lst _ => False | .tup _ => False | .obj _ _ _ => False | _ => True
theorem rep_sc {K : PySem.W.Frag} {H H' : Hp} {v : V} (h : Sc d) (r : Rep K H v d) : Rep K H' v d := by
  cases r with
  | non => exact .non
  | bl b => exact .bl b
  | int i => exact .int i
  | str i => exact .str i
  | lst => exact h.elim
  | tup => exact h.elim
  | obj => exact h.elim
theorem de_callS {k : Nat} {ps : List Str} {R : List D → D → Prop} (c : Cal X.prog X.w X.K X.mg X.base x k ps R) (hr : Room k X.A) (h : DUs X Γ (e :: es) ds) (hR : R ds d) (hsc : Sc d)
    (hg : Gl X x := by rfl) (hdb : (x == ("__debug__" : Str)) = false := by decide) (he : starEach (e :: es) X.env = (false, eval e X.env) :: starEach es X.env := by rfl) (hpl : (backTo pos (starEach es X.env)).any (·.1) = false := by rfl) : DE X Γ (.Call (.Name x p) (e :: es) [] pos) d := fun A => by
  obtain ⟨f, fd, h1, h2, h3, h4⟩ := c.ex
  refine impE (pe_call h4 hr hg h1 h2 h3 .nil pass0 (h A) hdb he hpl) fun σ H Q ⟨S, q⟩ => ⟨S, fun vs H1 s1 r1 => ⟨ds, fun _ => False, d, ?_, fun _ z => z.elim, hR, fun v H2 s2 r2 => q v H2 (s1.trans s2) (rep_sc hsc r2)⟩⟩
  rw [List.append_nil]
  have e : msk (fun _ => False) H1 = H1 := funext fun b => msk_out (fun z => z)
  rw [e]
  exact r1
/-! ### name = [..] -/
theorem dst_setLc (i : Nat) {elt tg iter : Expr} {ifs : List Expr} {scope : Scope} {own : List (Str × Nat)} {g : TG} {its : List α} {js : List Nat} {bd : α → List Sl → List Sl} {tt : TT} {pr : α → Bool} {f : α → D} {y : Str} {py spos : Pos}
    (hc : X.calm = true) (hN : X.N.Nodup) (di : DI X Γ tg iter g its js bd) (ok : BlkOk X.N X.env.scope scope own) (hj : ∀ j ∈ js, j ∈ own.map (·.2))
    (hg : ∀ (s : Shared) (H : Hp) (C : Addr) (cl : List (Str × Addr)) (fp : List Addr), PG (X.blk s H scope (compEnvC scope cl C X.env) fp) tg g)
    (ht : ∀ (s : Shared) (H : Hp) (C : Addr) (cl : List (Str × Addr)) (fp : List Addr), PTs (X.blk s H scope (compEnvC scope cl C X.env) fp) ifs tt)
    (htk : ∀ a ∈ its, ∀ A2 σ H Q, SX X.K A2 (bd a (wipeG Γ (own.map (·.2)))) σ H → (∀ H', Same H H' → Q (pr a) H') → tt σ H Q)
    (he : ∀ a ∈ its, pr a = true → ∀ (s : Shared) (H : Hp) (C : Addr) (cl : List (Str × Addr)) (fp : List Addr), DE (X.blk s H scope (compEnvC scope cl C X.env) fp) (bd a (wipeG Γ (own.map (·.2)))) elt (f a))
    (hl : its.length ≤ sizeLine) (hi0 : i ≠ 0 := by decide) (hi : X.N[i]? = some y := by rfl) (hyl : X.env.scope.names.lookup y = some .local := by rfl) (hsw : swapsWith (.ListComp elt [⟨tg, iter, ifs, 0⟩] scope pos) (some (.Name y py)) spos.line X.env = pure true := by rfl)
    (hs : ∀ x, foldedSetIterable iter X.env x = pure x := by intro _; rfl) : DSt X Γ (.Assign [.Name y py] (.ListComp elt [⟨tg, iter, ifs, 0⟩] scope pos) spos) (.nx (Γ.set i (.own ((its.filter pr).map f)))) := fun A0 =>
  ⟨fun pins s σ H E I ⟨B, r, S, k⟩ => by
    obtain ⟨wi, te, hi', hp, kk⟩ := lc_sem (elt := elt) (scope := scope) di hj htk he hl (Aof A0 Γ r)
    refine (ps_setLc (spos := spos) hc hN hi hyl hsw hi' ok hg ht hp hs).run pins s σ H E I ?_
    exact kk σ H _ ⟨S.sx, fun p vs H1 s1 n1 e1 r1 => k _ H1 _ (S.seto hi0 s1 n1 e1 r1)⟩⟩
end
end G
set_option Elab.async false
set_option linter.all false
set_option maxRecDepth 100000
namespace G
open PySem PySem.Spec PyProof.Rows L2
/-! ### new lists as results: of ints; of lists of ints -/
def FrI (H H' : Hp) (v : V) (ns : List Int) : Prop := ∃ a, v = .ref a ∧ H a = none ∧ H' a = some (.lst (ns.map V.int))
def FrT (H H' : Hp) (v : V) (dss : List (List Int)) : Prop := ∃ (a : Addr) (bs : List (Addr × List Int)), v = .ref a ∧ H a = none ∧ H' a = some (.lst (bs.map fun b => V.ref b.1)) ∧ bs.map (·.2) = dss ∧ ∀ b ∈ bs, H b.1 = none ∧ H' b.1 = some (.lst (b.2.map V.int))
structure FrOk {ρ : Type} (Fr : Hp → Hp → V → ρ → Prop) (en : ρ → D) : Prop where
  back : ∀ B H H' v z, Same B H → Fr H H' v z → Fr B H' v z
  rep : ∀ (K : PySem.W.Frag) A H H' v z, (∀ b, A b → H b ≠ none) → Fr H H' v z → Rep K (msk A H') v (en z)
theorem frI_ok : FrOk FrI (eL D.int) := ⟨fun B H H' v z s ⟨a, e, n, h⟩ => ⟨a, e, s.free n, h⟩, fun K A H H' v z dom ⟨a, e, n, h⟩ => by
  subst e
  exact .lst (by rw [msk_out (notA dom n)]; exact h) (.of_ints _)⟩
theorem frT_ok : FrOk FrT (eL (eL D.int)) := ⟨fun B H H' v z s ⟨a, bs, e, n, h, l, k⟩ => ⟨a, bs, e, s.free n, h, l, fun b hb => ⟨s.free (k b hb).1, (k b hb).2⟩⟩, fun K A H H' v z dom ⟨a, bs, e, n, h, l, k⟩ => by
  subst e l
  exact .lst (by rw [msk_out (notA dom n)]; exact h) (rows_reps fun b hb => by rw [msk_out (notA dom (k b hb).1)]; exact (k b hb).2)⟩
def tFr (K : PySem.W.Frag) (A : Addr → Prop) (Γ : List Sl) {ρ : Type} (Fr : Hp → Hp → V → ρ → Prop) (z : ρ) : TE := fun σ H Q => SX K A Γ σ H ∧ ∀ v H', Same H H' → Fr H H' v z → Q v H'
abbrev DN (X : Cx) (Γ : List Sl) (e : Expr) {ρ : Type} (Fr : Hp → Hp → V → ρ → Prop) (z : ρ) : Prop := ∀ A, PE X e (tFr X.K A Γ Fr z)
def spG (K : PySem.W.Frag) {ρ : Type} (Fr : Hp → Hp → V → ρ → Prop) (R : List D → ρ → Prop) : Sp := fun vs H Q _ => ∃ ds z, Reps K H vs ds ∧ R ds z ∧ ∀ v H', Same H H' → Fr H H' v z → Q v H'
def tGs (K : PySem.W.Frag) (Γ : List Sl) {ρ : Type} (Fr : Hp → Hp → V → ρ → Prop) (z : ρ) : TS := fun E σ H => ∃ B r, SR K (fun _ => False) B Γ σ H r ∧ ∀ v H', Same B.h H' → Fr B.h H' v z → E.rt v H'
abbrev DGs (X : Cx) (Γ : List Sl) (sts : List Stmt) {ρ : Type} (Fr : Hp → Hp → V → ρ → Prop) (z : ρ) : Prop := PSs X sts (tGs X.K Γ Fr z)
structure CalG (P : Program) (w : World) (K : PySem.W.Frag) (mg : Str → Option Value) (base : Heap) (name : Str) (k : Nat) (ps : List Str) {ρ : Type} (Fr : Hp → Hp → V → ρ → Prop) (R : List D → ρ → Prop) : Prop where
  ex : ∃ (f : Addr) (fd : FuncData), mg name = some (.ref f) ∧ PySem.W.keepIn K (.ref f) = true ∧ L2.Binds K fd ps [] ∧ FnOk P w K mg base CX0 k f fd ps (spG K Fr R)
section
variable {X : Cx} {Γ Γ1 : List Sl} {e a b c elt tg iter : Expr} {p p2 pos : Pos} {es rest : List Expr} {d da db : D} {ds das : List D} {x : Str} {α : Type} {i j : Int} {sts : List Stmt} {st : Stmt} {o : Out} {ρ : Type} {Fr : Hp → Hp → V → ρ → Prop} {z : ρ} {en : ρ → D}
theorem de_n (ok : FrOk Fr en) (h : DN X Γ e Fr z) : DE X Γ e (en z) := fun A => impE (h A) fun σ H Q ⟨S, q⟩ => ⟨S, fun v H' s f => q v H' s (ok.rep _ _ _ _ _ _ S.dom f)⟩
theorem dn_call {k : Nat} {ps : List Str} {R : List D → ρ → Prop} (c : CalG X.prog X.w X.K X.mg X.base x k ps Fr R) (hr : Room k X.A) (ok : FrOk Fr en) (h : DUs X Γ (e :: es) ds) (hR : R ds z)
    (hg : Gl X x := by rfl) (hdb : (x == ("__debug__" : Str)) = false := by decide) (he : starEach (e :: es) X.env = (false, eval e X.env) :: starEach es X.env := by rfl) (hpl : (backTo pos (starEach es X.env)).any (·.1) = false := by rfl) : DN X Γ (.Call (.Name x p) (e :: es) [] pos) Fr z := fun A => by
  obtain ⟨f, fd, h1, h2, h3, h4⟩ := c.ex
  exact impE (pe_call h4 hr hg h1 h2 h3 .nil pass0 (h A) hdb he hpl) fun σ H Q ⟨S, q⟩ => ⟨S, fun vs H1 s1 r1 => ⟨ds, z, by rw [List.append_nil]; exact r1, hR, fun v H2 s2 f2 => q v H2 (s1.trans s2) (ok.back _ _ _ _ _ s1 f2)⟩⟩
theorem dgs_cons (h : DSt X Γ st (.nx Γ1)) (hr : DGs X Γ1 sts Fr z) : DGs X Γ (st :: sts) Fr z :=
  impSs (pss_cons (h _) hr) fun E σ H ⟨B, r, S, k⟩ => ⟨B, r, S, fun σ' H' r' S' => ⟨B, r', S', k⟩⟩
theorem dgs_ret (ok : FrOk Fr en) (h : DN X Γ e Fr z) : DGs X Γ [.Return (some e) pos] Fr z :=
  pss_one ⟨fun pins s σ H E I ⟨B, r, S, k⟩ => (ps_ret (pos := pos) (h (Aof (fun _ => False) Γ r))).run pins s σ H E I ⟨S.sx, fun v H1 s1 f1 => k v H1 (S.base.trans s1) (ok.back _ _ _ _ _ S.base f1)⟩⟩
variable {P : Program} {w : World} {K : PySem.W.Frag} {mg : Str → Option Value} {base : Heap}
theorem fn_mkG {R : List D → ρ → Prop} {y qual : Str} {fst : Stmt} {f : Addr} {fd : FuncData} {N ps : List Str} {k : Nat} (F : Fun K y qual fst f fd) (S : FnScope N ps (defScope fst)) (hl : ∀ ds z, R ds z → ds.length = ps.length)
    (hb : ∀ (cdv : Value) (A : Around) (outer : List Env) (s : Shared) (H : Hp) (E : XK), Room k (A.deeper (envOfC qual (defScope fst) s.heap.objs.size f cdv)) → ∀ ds z, R ds z →
      DGs (cxOf CX0 P w K mg base N qual (defScope fst) f cdv A outer s H E).nox (Γ0 N ds) (defBody fst) Fr z) : FnOk P w K mg base CX0 (k + 1) f fd ps (spG K Fr R) := by
  refine F.ok S (fun vs H Q E ⟨ds, z, r, h, _⟩ => by rw [r.length]; exact hl ds z h) fun cdv A outer s H vs Q E hr ⟨ds, z, r, h, q⟩ => ?_
  have only : ∀ (i : Nat) sl, (Γ0 N ds)[i]? = some sl → sl = .no ∨ ∃ d, sl = .val d ∧ ds[i]? = some d := fun i sl e => by
    unfold Γ0 at e
    rw [List.getElem?_append] at e
    split at e
    · rw [List.getElem?_map] at e
      cases h : ds[i]? with
      | none => rw [h] at e; cases e
      | some d => rw [h] at e; cases e; exact .inr ⟨d, rfl, rfl⟩
    · rw [List.getElem?_replicate] at e
      split at e
      · cases e; exact .inl rfl
      · cases e
  have noown : ∀ (i : Nat) es, (Γ0 N ds)[i]? ≠ some (.own es) := fun i es e => by
    rcases only i _ e with h | ⟨d, h, _⟩ <;> cases h
  have eA : Aof (fun _ => False) (Γ0 N ds) ⟨fun _ => 0, fun _ => False⟩ = fun _ => False := funext fun b => propext ⟨fun z => by
    rcases z with z | z | ⟨i, es, e, _⟩
    · exact z
    · exact z
    · exact noown i es e, fun z => z.elim⟩
  have eM : msk (fun _ => False) H = H := funext fun b => msk_out fun z => z
  refine ⟨_, hb cdv A outer s H E hr ds z h, ⟨H, 0⟩, ⟨fun _ => 0, fun _ => False⟩, ⟨⟨?_, fun b z => ?_, fun i sl e => ?_⟩, Same.refl H, fun _ z => z.elim, fun i es e => absurd e (noown i es), fun i j es fs e _ _ => absurd e (noown i es), fun es e => absurd e (noown 0 es), fun _ z => z.elim, fun i es e => absurd e (noown i es), fun i n e => ?_⟩, q⟩
  · unfold L2.start Γ0; simp [r.length]
  · rw [eA] at z; exact z.elim
  · rcases only i sl e with rfl | ⟨d, rfl, hd⟩
    · trivial
    · obtain ⟨v, e1, r1⟩ := r.get hd
      refine ⟨v, ?_, by rw [eA, eM]; exact r1⟩
      unfold L2.start
      rw [List.getElem?_append_left (by rw [List.length_map]; exact (List.getElem?_eq_some_iff.mp e1).1), List.getElem?_map, e1]
      rfl
  · exfalso
    rcases only i _ e with h | ⟨d, h, _⟩ <;> cases h
/-- a new list of ints -/
theorem dn_i {ns : List Int} (h : DF X Γ e (ns.map D.int)) : DN X Γ e FrI ns := fun A => impE (h A) fun σ H Q ⟨S, q⟩ => ⟨S, fun a vs H' s n e1 r => by
  have er := r.ints
  subst er
  exact q _ H' s ⟨a, rfl, n, e1⟩⟩
theorem df_i {ns : List Int} (h : DN X Γ e FrI ns) : DF X Γ e (ns.map D.int) := fun A => impE (h A) fun σ H Q ⟨S, q⟩ => ⟨S, fun v H' s ⟨a, e1, n, e2⟩ => by
  subst e1
  exact q a _ H' s n e2 (.of_ints _)⟩
theorem dn_sorted {ns : List Int} (h : DE X Γ e (eL D.int ns)) (hm : X.mg "sorted" = none) (hg : Gl X "sorted" := by rfl) (he : starEach (e :: []) X.env = (false, eval e X.env) :: starEach [] X.env := by rfl) (hpl : (backTo pos (starEach [] X.env)).any (·.1) = false := by rfl) :
    DN X Γ (.Call (.Name "sorted" p) [e] [] pos) FrI (srt ns) := fun A =>
  impE (pe_callB cr_sortedI hg hm PyProof.Rows.boot_sorted (des_cons h des_nil he A) (by decide) (by decide) he hpl) fun σ H Q ⟨S, q⟩ => ⟨S, fun xs H1 s1 r1 => by
    obtain ⟨x, rfl, rr⟩ := reps1 r1
    cases rr with
    | lst h r =>
      have e := r.ints
      subst e
      refine ⟨_, _, rfl, .of (msk_le _ _ h), fun ms p h1 h2 hp => ?_⟩
      rw [srt_eq h1 h2]
      exact q _ _ (s1.trans (same_new hp _)) ⟨p, rfl, s1.free hp, upd_same⟩⟩
/-- sorted of a new list of lists -/
theorem dn_sortedT {dss : List (List Int)} (h : DN X Γ e FrT dss) (hu : X.A.units + 100 < cLine) (hm : X.mg "sorted" = none) (hg : Gl X "sorted" := by rfl) (he : starEach (e :: []) X.env = (false, eval e X.env) :: starEach [] X.env := by rfl) (hpl : (backTo pos (starEach [] X.env)).any (·.1) = false := by rfl) :
    DN X Γ (.Call (.Name "sorted" p) [e] [] pos) FrT (srtL dss) := fun A =>
  impE (pe_callB (cr_sortedLL hu) hg hm PyProof.Rows.boot_sorted (pa_cons (h A) pa_nil he) (by decide) (by decide) he hpl) fun σ H Q ⟨S, q⟩ => ⟨S, fun v H1 s1 ⟨a, bs, e1, n, e2, l, k⟩ => by
    subst e1 l
    refine ⟨a, bs, rfl, .of e2, fun b hb => (k b hb).2, fun p hp => ?_⟩
    refine q _ _ (s1.trans (same_new hp _)) ⟨p, srtB bs, rfl, s1.free hp, upd_same, merge_map bs, fun b hb => ?_⟩
    have hb' := (List.mergeSort_perm _ _).mem_iff.mp hb
    exact ⟨(k b hb').1, same_new hp _ _ _ (k b hb').2⟩⟩
/-- [new list of ints for tg in iter if ..] -/
theorem lcT_sem {ifs : List Expr} {scope : Scope} {own : List (Str × Nat)} {g : TG} {its : List α} {js : List Nat} {bd : α → List Sl → List Sl} {tt : TT} {pr : α → Bool} {f : α → List Int} (di : DI X Γ tg iter g its js bd) (hj : ∀ j ∈ js, j ∈ own.map (·.2))
    (htk : ∀ a ∈ its, ∀ A2 σ H Q, SX X.K A2 (bd a (wipeG Γ (own.map (·.2)))) σ H → (∀ H', Same H H' → Q (pr a) H') → tt σ H Q)
    (he : ∀ a ∈ its, pr a = true → ∀ (s : Shared) (H : Hp) (C : Addr) (cl : List (Str × Addr)) (fp : List Addr), DN (X.blk s H scope (compEnvC scope cl C X.env) fp) (bd a (wipeG Γ (own.map (·.2)))) elt FrI (f a))
    (hl : its.length ≤ sizeLine) (A : Addr → Prop) : ∃ wi te, PI X tg iter wi ∧ (∀ (s : Shared) (H : Hp) (C : Addr) (cl : List (Str × Addr)) (fp : List Addr), PE (X.blk s H scope (compEnvC scope cl C X.env) fp) elt te) ∧
      ∀ σ H Q, tFr X.K A Γ FrT ((its.filter pr).map f) σ H Q → tLc wi g tt te (own.map (·.2)) σ H Q := by
  obtain ⟨wi, hi, hw⟩ := di.ex A
  let te : TE := fun σ H Q => ∃ (a : α) (A2 : Addr → Prop), (a ∈ its ∧ pr a = true) ∧ tFr X.K A2 (bd a (wipeG Γ (own.map (·.2)))) FrI (f a) σ H Q
  refine ⟨wi, te, hi, fun s H C cl fp => PE_some fun a => PE_some fun A2 => PE_somep fun h => he a h.1 h.2 s H C cl fp A2, fun σ H Q ⟨S, q⟩ => ?_⟩
  refine hw σ H _ S fun J H1 G Y s1 wk gk yk D hD => ?_
  have key : ∀ {H2 : Hp}, Same H1 H2 → Same (msk A H1) (msk (fun b => A b ∨ b = D) H2) := fun {H2} s b o e => by
    obtain ⟨n, e⟩ := msk_of e
    rw [msk_out]
    · exact s b o e
    · rintro (z | z)
      · exact n z
      · subst z; rw [hD] at e; cases e
  refine lc_it (g := g) (tt := tt) (te := te) (vs := own.map (·.2)) (σ := σ) (Qd := fun H => Q (.ref D) H) wk (fun i H2 => ∃ bs : List (Addr × List Int), H2 D = some (.lst (bs.map fun b => V.ref b.1)) ∧ bs.length ≤ i ∧ Same H1 H2 ∧ (∀ b ∈ bs, H1 b.1 = none ∧ b.1 ≠ D ∧ H2 b.1 = some (.lst (b.2.map V.int))) ∧ bs.map (·.2) = ((its.take i).filter pr).map f) ⟨[], upd_same, Nat.le_refl _, same_new hD _, fun _ h => (nomatch h), rfl⟩
    (fun i H2 hi ⟨acc, _, _, s2, _⟩ => gk _ H2 (key s2)) ?_ ?_
  · rintro i x H2 H3 hi ⟨acc, eD, hal, s2, kb, ra⟩ y
    obtain ⟨a, ea⟩ : ∃ a, its[i]? = some a := ⟨_, List.getElem?_eq_getElem hi⟩
    have am : a ∈ its := List.mem_of_getElem? ea
    have S2 : SX X.K (fun b => A b ∨ b = D) (wipeG Γ (own.map (·.2))) (wipe σ (own.map (·.2))) H2 := by
      have S1 := sx_wipe (S.mono s1) (own.map (·.2))
      refine ⟨S1.len, ?_, fun j s e => ?_⟩
      · rintro b (z | rfl)
        · exact dom_mono s2 S1.dom b z
        · rw [eD]; simp
      · have z := S1.sl j s e
        cases s with
        | no => trivial
        | val d => obtain ⟨v, e1, r⟩ := z; exact ⟨v, e1, r.mono (key s2)⟩
        | own ds => obtain ⟨b, vs, e1, e2, r⟩ := z; exact ⟨b, vs, e1, s2 _ _ e2, r.mono (key s2)⟩
        | scr ns => obtain ⟨b, e1, r⟩ := z; exact ⟨b, e1, (key s2).seq r⟩
        | jnk k => exact slok_jnk s2 z
    refine yk _ H2 i x H3 _ _ _ a (key s2) ea y S2 fun σ3 H4 s4 S4 hl4 far => ⟨(wipe_ext hl4 fun j hj' => far j fun z => hj' (hj j z)).trans wipe_idem, ?_⟩
    refine htk a am _ σ3 H4 _ S4 fun H5 s5 => ?_
    have s25 : Same H2 H5 := s4.trans s5
    by_cases c : pr a = true
    · rw [c]
      refine iteT ⟨a, _, ⟨am, c⟩, S4.mono s5, fun v H6 s6 ⟨b, e1, nb, e2⟩ => ⟨acc.map fun b => V.ref b.1, s6 _ _ (s25 _ _ eD), by rw [List.length_map]; exact Nat.lt_of_le_of_lt hal (Nat.lt_of_lt_of_le hi hl), acc ++ [(b, f a)], ?_, by simp; omega, ?_, ?_, ?_⟩⟩
      · subst e1
        rw [upd_same, List.map_append]; rfl
      · intro b o e
        rw [upd_ne (ne_of_none e hD)]
        exact s6 _ _ (s25 _ _ (s2 _ _ e))
      · intro b' hb'
        have nbD : b ≠ D := fun z => by rw [z, s25 _ _ eD] at nb; cases nb
        rcases List.mem_append.mp hb' with h | h
        · obtain ⟨f1, f2, f3⟩ := kb b' h
          exact ⟨f1, f2, by rw [upd_ne f2]; exact s6 _ _ (s25 _ _ f3)⟩
        · have e := List.mem_singleton.mp h
          subst e
          exact ⟨s2.free (s25.free nb), nbD, by rw [upd_ne nbD]; exact e2⟩
      · rw [take_more ea, List.filter_append, List.map_append, List.map_append, ra]
        simp only [List.filter_cons, c, if_true, List.filter_nil, List.map_cons, List.map_nil]
    · rw [Bool.eq_false_iff.mpr c]
      refine iteF ⟨acc, s25 _ _ eD, by omega, s2.trans s25, fun b hb => ⟨(kb b hb).1, (kb b hb).2.1, s25 _ _ (kb b hb).2.2⟩, ?_⟩
      rw [take_more ea, List.filter_append, List.map_append, ra]
      simp only [List.filter_cons, Bool.eq_false_iff.mpr c, Bool.false_eq_true, if_false, List.filter_nil, List.map_nil, List.append_nil]
  · rintro H2 ⟨acc, eD, _, s2, kb, ra⟩
    rw [List.take_length] at ra
    exact q _ H2 (s1.trans s2) ⟨D, acc, rfl, s1.free hD, eD, ra, fun b hb => ⟨s1.free (kb b hb).1, (kb b hb).2.2⟩⟩
theorem dn_lcT {scope : Scope} {own : List (Str × Nat)} {g : TG} {its : List α} {js : List Nat} {bd : α → List Sl → List Sl} (f : α → List Int) (hc : X.calm = true) (hN : X.N.Nodup) (di : DI X Γ tg iter g its js bd) (ok : BlkOk X.N X.env.scope scope own) (hj : ∀ j ∈ js, j ∈ own.map (·.2))
    (hg : ∀ (s : Shared) (H : Hp) (C : Addr) (cl : List (Str × Addr)) (fp : List Addr), PG (X.blk s H scope (compEnvC scope cl C X.env) fp) tg g) (hl : its.length ≤ sizeLine)
    (he : ∀ a ∈ its, ∀ (s : Shared) (H : Hp) (C : Addr) (cl : List (Str × Addr)) (fp : List Addr), DN (X.blk s H scope (compEnvC scope cl C X.env) fp) (bd a (wipeG Γ (own.map (·.2)))) elt FrI (f a))
    (hs : ∀ x, foldedSetIterable iter X.env x = pure x := by intro _; rfl) : DN X Γ (.ListComp elt [⟨tg, iter, [], 0⟩] scope pos) FrT (its.map f) := fun A => by
  obtain ⟨wi, te, hi, hp, k⟩ := lcT_sem (ifs := []) (elt := elt) (scope := scope) (tt := tYes) (pr := fun _ => true) di hj (fun a _ A2 σ H Q _ k => k H (Same.refl H)) (fun a ha _ => he a ha) hl A
  rw [show its.filter (fun _ => true) = its from List.filter_eq_self.mpr fun _ _ => rfl] at k
  exact impE (pe_lc hc hN hi ok hg (fun _ _ _ _ _ => pts_nil) hp hs) k
end
end G
set_option Elab.async false
set_option linter.all false
set_option maxRecDepth 100000
namespace G
open PySem PySem.Spec PyProof.Rows L2
section
variable {K : PySem.W.Frag} {A0 : Addr → Prop} {B : Bs} {Γ : List Sl} {σ : L2.St} {H H' : Hp} {r : Rt}
/-- new addresses join the junk's; slot i (not the pool's) is then jnk k -/
theorem SR.setj (S : SR K A0 B Γ σ H r) {i : Nat} (hi0 : i ≠ 0) {a : Addr} {k : Jk} (N : Addr → Prop) (s : Same H H') (hN : ∀ b, N b → H b = none ∧ H' b ≠ none) (hj : Jnk (fun b => r.J b ∨ N b) H' k (some (some (.ref a)))) :
    SR K A0 B (Γ.set i (.jnk k)) (σ.set i (some (.ref a))) H' ⟨r.r, fun b => r.J b ∨ N b⟩ := by
  have old : ∀ (j : Nat) s, j ≠ i → (Γ.set i (.jnk k))[j]? = some s → Γ[j]? = some s := fun j s h z => by rw [List.getElem?_set_ne (Ne.symm h)] at z; exact z
  have own : ∀ (j : Nat) es, (Γ.set i (.jnk k))[j]? = some (.own es) → j ≠ i ∧ Γ[j]? = some (.own es) := fun j es z => by
    by_cases c : j = i
    · subst c
      by_cases c2 : j < Γ.length
      · rw [List.getElem?_set_self c2] at z; cases z
      · rw [List.getElem?_eq_none (by rw [List.length_set]; omega)] at z; cases z
    · exact ⟨c, old j _ c z⟩
  have sub : ∀ b, Aof A0 (Γ.set i (.jnk k)) ⟨r.r, fun b => r.J b ∨ N b⟩ b → (Aof A0 Γ r b ∨ N b) := fun b z => by
    rcases z with z | (z | z) | ⟨j, es, e1, z⟩
    · exact .inl (.inl z)
    · exact .inl (.inr (.inl z))
    · exact .inr z
    · exact .inl (.inr (.inr ⟨j, es, (own j es e1).2, z⟩))
  have key : Same (msk (Aof A0 Γ r) H) (msk (Aof A0 (Γ.set i (.jnk k)) ⟨r.r, fun b => r.J b ∨ N b⟩) H') := fun b o z => by
    obtain ⟨n1, z⟩ := msk_of z
    rw [msk_out]
    · exact s b o z
    · intro y
      rcases sub b y with y | y
      · exact n1 y
      · rw [(hN b y).1] at z; cases z
  refine ⟨⟨by rw [List.length_set, List.length_set]; exact S.sx.len, fun b z => ?_, fun j s' e1 => ?_⟩, S.base.trans s, S.dom0, fun j es e1 => ?_, fun j l es fs e1 e2 e3 => S.inj j l es fs (own j es e1).2 (own l fs e2).2 e3, fun es e1 => S.pin es (own 0 es e1).2, fun b j => ?_, fun j es e1 y => ?_, fun j n e1 => ?_⟩
  · rcases sub b z with z | z
    · exact dom_mono s S.sx.dom b z
    · exact (hN b z).2
  · by_cases c : j = i
    · subst c
      by_cases c2 : j < Γ.length
      · rw [List.getElem?_set_self c2] at e1; cases e1
        rw [List.getElem?_set_self (by rw [S.sx.len]; exact c2)]
        exact hj.slok
      · rw [List.getElem?_eq_none (by rw [List.length_set]; omega)] at e1; cases e1
    · have e2 := old j _ c e1
      have z := S.sx.sl j _ e2
      rw [List.getElem?_set_ne (Ne.symm c)]
      cases s' with
      | no => trivial
      | val d => obtain ⟨v, e3, r⟩ := z; exact ⟨v, e3, r.mono key⟩
      | own fs => obtain ⟨b, ws, e3, e4, r⟩ := z; exact ⟨b, ws, e3, s _ _ e4, r.mono key⟩
      | scr ns => obtain ⟨b, e3, r⟩ := z; exact ⟨b, e3, key.seq r⟩
      | jnk k => exact slok_jnk s z
  · obtain ⟨c, e1⟩ := own j es e1
    rw [List.getElem?_set_ne (Ne.symm c)]
    exact S.own j es e1
  · rcases j with j | j
    · exact ⟨(S.jd b j).1, fun z => (S.jd b j).2 (s.free z)⟩
    · exact ⟨S.base.free (hN b j).1, (hN b j).2⟩
  · obtain ⟨c, e1⟩ := own j es e1
    rcases y with y | y
    · exact S.jo j es e1 y
    · obtain ⟨b, ws, e3, e4, _⟩ := S.sx.sl j _ e1
      rw [(S.own j es e1).1] at e3; cases e3
      have y : N (r.r j) := y
      rw [(hN _ y).1] at e4; cases e4
  · by_cases c : j = i
    · subst c
      by_cases c2 : j < Γ.length
      · rw [List.getElem?_set_self c2] at e1; cases e1
        rw [List.getElem?_set_self (by rw [S.sx.len]; exact c2)]
        exact hj
      · rw [List.getElem?_eq_none (by rw [List.length_set]; omega)] at e1; cases e1
    · rw [List.getElem?_set_ne (Ne.symm c)]
      have q := (S.jk j n (old j _ c e1)).mono fun b u _ => s b u
      cases n with
      | junk n m =>
        obtain ⟨a, vs, e, j, e2, l, k⟩ := q
        exact ⟨a, vs, e, .inl j, e2, l, fun v hv => by obtain ⟨b, ws, f1, f2, f3⟩ := k v hv; exact ⟨b, ws, f1, .inl f2, f3⟩⟩
      | tre dss =>
        obtain ⟨a, bs, e, j, e2, l, k⟩ := q
        exact ⟨a, bs, e, .inl j, e2, l, fun b hb => ⟨.inl (k b hb).1, (k b hb).2⟩⟩
/-- only slot i is jnk -/
def soleJ : Nat → List Sl → Nat → Bool
  | _, [], _ => true
  | n, .jnk _ :: r, i => decide (n = i) && soleJ (n + 1) r i
  | n, _ :: r, i => soleJ (n + 1) r i
theorem soleJ_at : ∀ {Γ : List Sl} {n i : Nat} {j : Nat} {k : Jk}, soleJ n Γ i = true → Γ[j]? = some (.jnk k) → n + j = i
  | s :: r, n, i, 0, k, h, e => by
    cases e
    have h : (decide (n = i) && soleJ (n + 1) r i) = true := h
    exact of_decide_eq_true (Bool.and_eq_true _ _ ▸ h).1
  | s :: r, n, i, j + 1, k, h, e => by
    have h2 : soleJ (n + 1) r i = true := by
      cases s with
      | jnk k' =>
        have h : (decide (n = i) && soleJ (n + 1) r i) = true := h
        exact (Bool.and_eq_true _ _ ▸ h).2
      | _ => exact h
    have := soleJ_at (j := j) h2 e
    omega
/-- a list of the junk is changed -/
theorem SR.jmut (S : SR K A0 B Γ σ H r) {i : Nat} {k k' : Jk} (hi : Γ[i]? = some (.jnk k)) (hs : soleJ 0 Γ i = true) {b : Addr} (jb : r.J b) {ws : List V} (hj : Jnk r.J (upd H b (.lst ws)) k' σ[i]?) :
    SR K A0 B (Γ.set i (.jnk k')) σ (upd H b (.lst ws)) r := by
  have il : i < Γ.length := (List.getElem?_eq_some_iff.mp hi).1
  have old : ∀ (j : Nat) s, j ≠ i → (Γ.set i (.jnk k'))[j]? = some s → Γ[j]? = some s := fun j s h z => by rw [List.getElem?_set_ne (Ne.symm h)] at z; exact z
  have own : ∀ (j : Nat) es, (Γ.set i (.jnk k'))[j]? = some (.own es) → Γ[j]? = some (.own es) := fun j es z => by
    by_cases c : j = i
    · subst c; rw [List.getElem?_set_self il] at z; cases z
    · exact old j _ c z
  have ain : Aof A0 Γ r b := .inr (.inl jb)
  have sub : ∀ b, Aof A0 (Γ.set i (.jnk k')) r b → Aof A0 Γ r b := fun b z => by
    rcases z with z | z | ⟨j, es, e1, z⟩
    · exact .inl z
    · exact .inr (.inl z)
    · exact .inr (.inr ⟨j, es, own j es e1, z⟩)
  have mm : Same (msk (Aof A0 Γ r) H) (msk (Aof A0 (Γ.set i (.jnk k')) r) (upd H b (.lst ws))) := by
    have e : msk (Aof A0 Γ r) (upd H b (.lst ws)) = msk (Aof A0 Γ r) H := msk_upd ain
    rw [← e]
    exact msk_sub sub
  refine ⟨⟨by rw [List.length_set]; exact S.sx.len, fun c z => ?_, fun j s e => ?_⟩, fun c o z => ?_, S.dom0, fun j es e => S.own j es (own j es e), fun j l es fs e1 e2 e3 => S.inj j l es fs (own j es e1) (own l fs e2) e3, fun es e => S.pin es (own 0 es e), fun c j => ⟨(S.jd c j).1, fun z => ?_⟩, fun j es e => S.jo j es (own j es e), fun j n e => ?_⟩
  · by_cases c' : c = b
    · subst c'; rw [upd_same]; simp
    · rw [upd_ne c']; exact S.sx.dom c (sub c z)
  · by_cases c : j = i
    · subst c
      rw [List.getElem?_set_self il] at e; cases e
      exact hj.slok
    · have e2 := old j _ c e
      have z := S.sx.sl j s e2
      cases s with
      | no => trivial
      | val d => obtain ⟨v, e1, r⟩ := z; exact ⟨v, e1, r.mono mm⟩
      | own fs =>
        obtain ⟨a, vs, e1, e3, q2⟩ := z
        rw [(S.own j fs e2).1] at e1; cases e1
        exact ⟨r j, vs, (S.own j fs e2).1, by rw [upd_ne fun z => S.jo j fs e2 (by rw [z]; exact jb)]; exact e3, q2.mono mm⟩
      | scr ns => obtain ⟨a, e1, r⟩ := z; exact ⟨a, e1, mm.seq r⟩
      | jnk k2 => exact absurd (soleJ_at hs e2) (by omega)
  · rw [upd_ne fun y => by rw [y, (S.jd b jb).1] at z; cases z]
    exact S.base c o z
  · by_cases c' : c = b
    · subst c'; rw [upd_same] at z; cases z
    · rw [upd_ne c'] at z; exact (S.jd c j).2 z
  · by_cases c : j = i
    · subst c
      rw [List.getElem?_set_self il] at e; cases e
      exact hj
    · exact absurd (soleJ_at hs (old j _ c e)) (by omega)
/-- what the lists hold is forgotten -/
theorem SR.forget (S : SR K A0 B Γ σ H r) {i : Nat} {dss : List (List Int)} {n m : Nat} (hi : Γ[i]? = some (.jnk (.tre dss))) (hn : dss.length = n) (hm : ∀ ns ∈ dss, ns.length ≤ m) : SR K A0 B (Γ.set i (.jnk (.junk n m))) σ H r := by
  have il : i < Γ.length := (List.getElem?_eq_some_iff.mp hi).1
  have old : ∀ (j : Nat) s, j ≠ i → (Γ.set i (.jnk (.junk n m)))[j]? = some s → Γ[j]? = some s := fun j s h z => by rw [List.getElem?_set_ne (Ne.symm h)] at z; exact z
  have own : ∀ (j : Nat) es, (Γ.set i (.jnk (.junk n m)))[j]? = some (.own es) → Γ[j]? = some (.own es) := fun j es z => by
    by_cases c : j = i
    · subst c; rw [List.getElem?_set_self il] at z; cases z
    · exact old j _ c z
  have sub : ∀ b, Aof A0 (Γ.set i (.jnk (.junk n m))) r b → Aof A0 Γ r b := fun b z => by
    rcases z with z | z | ⟨j, es, e1, z⟩
    · exact .inl z
    · exact .inr (.inl z)
    · exact .inr (.inr ⟨j, es, own j es e1, z⟩)
  refine ⟨⟨by rw [List.length_set]; exact S.sx.len, fun c z => S.sx.dom c (sub c z), fun j s e => ?_⟩, S.base, S.dom0, fun j es e => S.own j es (own j es e), fun j l es fs e1 e2 e3 => S.inj j l es fs (own j es e1) (own l fs e2) e3, fun es e => S.pin es (own 0 es e), S.jd, fun j es e => S.jo j es (own j es e), fun j k e => ?_⟩
  · by_cases c : j = i
    · subst c
      rw [List.getElem?_set_self il] at e; cases e
      trivial
    · have S2 := S.sx.sub sub
      exact S2.sl j s (old j _ c e)
  · by_cases c : j = i
    · subst c
      rw [List.getElem?_set_self il] at e; cases e
      obtain ⟨a, bs, e1, j1, e2, l, k⟩ := S.jk j _ hi
      refine ⟨a, _, e1, j1, e2, by rw [List.length_map, ← hn, ← l, List.length_map], fun v hv => ?_⟩
      obtain ⟨b, hb, rfl⟩ := List.mem_map.mp hv
      refine ⟨b.1, _, rfl, (k b hb).1, (k b hb).2, ?_, fun z => ?_⟩
      · rw [List.length_map]
        exact hm _ (by rw [← l]; exact List.mem_map.mpr ⟨b, hb, rfl⟩)
      · have e3 := (k b hb).2
        rw [z, e2] at e3
        injection e3 with e3
        injection e3 with e3
        cases bs with
        | nil => cases hb
        | cons c cs =>
          cases h : b.2 with
          | nil => rw [h] at e3; cases e3
          | cons n ns => rw [h] at e3; cases e3
    · exact S.jk j k (old j _ c e)
end
section
variable {X : Cx} {Γ Γ1 : List Sl} {e a b c elt tg iter kx : Expr} {p p2 pos : Pos} {es rest : List Expr} {d da db : D} {ds das : List D} {x : Str} {α : Type} {i j : Int} {sts : List Stmt} {st : Stmt} {o : Out}
/-- name = a new list of lists -/
theorem dst_setT (i : Nat) {pos' : Pos} {dss : List (List Int)} (h : DN X Γ e FrT dss) (hN : X.N.Nodup) (hi0 : i ≠ 0 := by decide) (hi : X.N[i]? = some x := by rfl) (hx : Loc X.env.scope x := by first | exact Or.inl rfl | exact Or.inr rfl) (hs : swapsWith e (some (.Name x pos')) pos.line X.env = pure false := by rfl)
    (hf : X.fn x = true ∨ X.env.scope.names.lookup x = some .local := by first | exact .inl rfl | exact .inr rfl) : DSt X Γ (.Assign [.Name x pos'] e pos) (.nx (Γ.set i (.jnk (.tre dss)))) := fun A0 =>
  ⟨fun pins s σ H E I ⟨B, r, S, k⟩ => (ps_set hN hi hx (h (Aof A0 Γ r)) hs hf).run pins s σ H E I ⟨S.sx, fun v H1 s1 ⟨a, bs, e1, n, e2, l, kb⟩ => by
    subst e1
    refine k _ H1 _ (S.setj hi0 (a := a) (fun b => b = a ∨ ∃ c ∈ bs, c.1 = b) s1 (fun b hb => ?_) ⟨a, bs, rfl, .inr (.inl rfl), e2, l, fun b hb => ⟨.inr (.inr ⟨b, hb, rfl⟩), (kb b hb).2⟩⟩)
    rcases hb with rfl | ⟨c, hc, rfl⟩
    · exact ⟨n, by rw [e2]; simp⟩
    · exact ⟨(kb c hc).1, by rw [(kb c hc).2]; simp⟩⟩⟩
theorem dss_forget (i : Nat) {dss : List (List Int)} {n m : Nat} (hi : Γ[i]? = some (.jnk (.tre dss))) (hn : dss.length = n) (hm : ∀ ns ∈ dss, ns.length ≤ m) (h : DSs X (Γ.set i (.jnk (.junk n m))) sts o) : DSs X Γ sts o := fun A0 =>
  impSs (h A0) fun E σ H ⟨B, r, S, k⟩ => ⟨B, r, S.forget hi hn hm, k⟩
theorem atI_some {α : Type} {xs : List α} {i : Int} (h : (0 ≤ i ∧ i < xs.length) ∨ (i = -1 ∧ 0 < xs.length)) : ∃ v, atI xs i = some v ∧ v ∈ xs := by
  rcases h with ⟨h0, h1⟩ | ⟨rfl, h1⟩
  · obtain ⟨n, rfl⟩ := Int.eq_ofNat_of_zero_le h0
    have h : n < xs.length := by omega
    exact ⟨_, atI_nat (List.getElem?_eq_getElem h), List.getElem_mem h⟩
  · have hne : xs ≠ [] := fun z => by rw [z] at h1; simp at h1
    have e : xs = xs.dropLast ++ [xs.getLast hne] := (List.dropLast_concat_getLast hne).symm
    refine ⟨xs.getLast hne, ?_, List.getLast_mem hne⟩
    have q := atI_last xs.dropLast (xs.getLast hne)
    rw [← e] at q
    exact q
/-- junk[k].append(e) -/
theorem dst_jap (i : Nat) {n m : Nat} {z : Int} {pos' p1 p2 p3 cpos : Pos} (hk : DE X Γ kx (.int z)) (h : DE X Γ e d) (hz : (0 ≤ z ∧ z < n) ∨ (z = -1 ∧ 0 < n)) (hm : m < sizeLine) (hi : Γ[i]? = some (.jnk (.junk n m)) := by rfl) (hsj : soleJ 0 Γ i = true := by rfl) (hN : X.N[i]? = some x := by rfl) (hv : Vis X.env.scope x := by first | exact Or.inl rfl | exact Or.inr (Or.inl rfl) | exact Or.inr (Or.inr rfl))
    (hd : (x == ("__debug__" : Str)) = false := by decide) (hcd : (x == ("__classdict__" : Str)) = false := by decide) (hpx : PlainIx kx := by exact fun _ _ => rfl)
    (he : starEach (e :: []) X.env = (false, eval e X.env) :: starEach [] X.env := by rfl)
    (hbase : attributeBase (.Subscript (.Name x pos') kx p1) "append" X.env (eval (.Subscript (.Name x pos') kx p1) X.env) = eval (.Subscript (.Name x pos') kx p1) X.env := by rfl)
    (hfew : ((backTo cpos (starEach (e :: []) X.env)).all (fun x => !x.1) && (backToKw cpos (keywordEach [] X.env)).all (fun x => x.1.isSome)
      && decide ((e :: []).length + ([] : List Keyword).length + (if ([] : List Keyword).isEmpty then 0 else 1) < 30)) = true := by rfl)
    (hline : (p2.endLine == cpos.line) = true := by rfl) (hplain : (backTo cpos (starEach [] X.env)).any (·.1) = false := by rfl)
    (hs : swapsWith (.Call (.Attribute (.Subscript (.Name x pos') kx p1) "append" p2) [e] [] cpos) none p3.line X.env = pure false := by rfl) :
    DSt X Γ (.Expr (.Call (.Attribute (.Subscript (.Name x pos') kx p1) "append" p2) [e] [] cpos) p3) (.nx (Γ.set i (.jnk (.junk n (m + 1))))) := fun A0 =>
  ⟨fun pins s σ H E I ⟨B, r, S, k⟩ => (ps_expr (pos := p3) (pe_bm (cpos := cpos) (apos := p2) PySem.F.plainAttrs_list PySem.F.slot_list_append PySem.F.type_list_append mt_append (pe_ix (pos := p1) ix_list (pv i hN hv hd hcd) (hk (Aof A0 Γ r)) hpx) (pa_cons (h (Aof A0 Γ r)) pa_nil he) hbase hfew hline he hplain) hs).run pins s σ H E I (by
    obtain ⟨a, vs, e1, ja, e2, l, kb⟩ := S.jk i _ hi
    refine ⟨_, e1, S.sx, fun w H1 s1 r1 => ?_⟩
    cases r1
    obtain ⟨v, ev, mv⟩ := atI_some (xs := vs) (i := z) (by rw [l]; exact hz)
    obtain ⟨b, ws, rfl, jb, eb, lb, nba⟩ := kb v mv
    refine ⟨a, vs, z, .ref b, rfl, rfl, .of (s1 _ _ e2), ev, Or.inl ⟨rfl, _, .of (s1 _ _ eb)⟩, S.sx.mono s1, fun y H2 s2 r2 => ⟨b, ws, y, rfl, rfl, s2 _ _ (s1 _ _ eb), Nat.lt_of_le_of_lt lb hm, ?_⟩⟩
    have S2 := S.mono (s1.trans s2)
    refine k _ _ r (S2.jmut hi hsj jb (ws := ws ++ [y]) ?_)
    obtain ⟨a', vs', e1', ja', e2', l', kb'⟩ := S2.jk i _ hi
    rw [e1] at e1'; cases e1'
    have ev' : vs' = vs := by
      have q := (s1.trans s2) _ _ e2
      rw [q] at e2'; cases e2'; rfl
    subst ev'
    refine ⟨a, vs', e1, ja, by rw [upd_ne (Ne.symm nba)]; exact e2', l, fun v hv => ?_⟩
    obtain ⟨b2, ws2, f1, f2, f3, f4, f5⟩ := kb' v hv
    by_cases c2 : b2 = b
    · subst c2
      have : ws2 = ws := by
        have q := (s1.trans s2) _ _ eb
        rw [q] at f3; cases f3; rfl
      subst this
      exact ⟨b2, _, f1, f2, upd_same, by rw [List.length_append, List.length_singleton]; omega, f5⟩
    · exact ⟨b2, ws2, f1, f2, by rw [upd_ne c2]; exact f3, by omega, f5⟩)⟩
end
end G
set_option Elab.async false
set_option linter.all false
set_option maxRecDepth 100000
namespace G
open PySem PySem.Spec PyProof.Rows L2
section
variable {X : Cx} {Γ Γ1 : List Sl} {e a b c elt tg iter kx : Expr} {p p2 pos : Pos} {es rest : List Expr} {d da db : D} {ds das : List D} {x : Str} {α β : Type} {i j : Int} {sts : List Stmt} {st : Stmt} {o : Out}
/-- junk.append(a new list) -/
theorem dst_jap0 (i : Nat) {n m : Nat} {pos' p2 p3 cpos : Pos} (h : DF X Γ e ds) (hl : ds.length ≤ m) (hn : n < sizeLine) (hi : Γ[i]? = some (.jnk (.junk n m)) := by rfl) (hsj : soleJ 0 Γ i = true := by rfl) (hN : X.N[i]? = some x := by rfl) (hv : Vis X.env.scope x := by first | exact Or.inl rfl | exact Or.inr (Or.inl rfl) | exact Or.inr (Or.inr rfl))
    (hd : (x == ("__debug__" : Str)) = false := by decide) (hcd : (x == ("__classdict__" : Str)) = false := by decide)
    (he : starEach (e :: []) X.env = (false, eval e X.env) :: starEach [] X.env := by rfl)
    (hbase : attributeBase (.Name x pos') "append" X.env (eval (.Name x pos') X.env) = eval (.Name x pos') X.env := by rfl)
    (hfew : ((backTo cpos (starEach (e :: []) X.env)).all (fun x => !x.1) && (backToKw cpos (keywordEach [] X.env)).all (fun x => x.1.isSome)
      && decide ((e :: []).length + ([] : List Keyword).length + (if ([] : List Keyword).isEmpty then 0 else 1) < 30)) = true := by rfl)
    (hline : (p2.endLine == cpos.line) = true := by rfl) (hplain : (backTo cpos (starEach [] X.env)).any (·.1) = false := by rfl)
    (hs : swapsWith (.Call (.Attribute (.Name x pos') "append" p2) [e] [] cpos) none p3.line X.env = pure false := by rfl) :
    DSt X Γ (.Expr (.Call (.Attribute (.Name x pos') "append" p2) [e] [] cpos) p3) (.nx (Γ.set i (.jnk (.junk (n + 1) m)))) := fun A0 =>
  ⟨fun pins s σ H E I ⟨B, r, S, k⟩ => (ps_expr (pos := p3) (pe_bm (cpos := cpos) (apos := p2) PySem.F.plainAttrs_list PySem.F.slot_list_append PySem.F.type_list_append mt_append (pv i hN hv hd hcd) (pa_cons (h (Aof A0 Γ r)) pa_nil he) hbase hfew hline he hplain) hs).run pins s σ H E I (by
    obtain ⟨a, vs, e1, ja, e2, l, kb⟩ := S.jk i _ hi
    refine ⟨_, e1, Or.inl ⟨rfl, _, .of e2⟩, S.sx, fun p ws H1 s1 n1 f1 r1 => ⟨a, vs, .ref p, rfl, rfl, s1 _ _ e2, by rw [l]; exact hn, ?_⟩⟩
    have il : i < Γ.length := (List.getElem?_eq_some_iff.mp hi).1
    have eq0 : Γ.set i (.jnk (.junk n m)) = Γ := set_self hi
    -- the new list joins the junk
    have hne : i ≠ 0 ∨ i = 0 := by omega
    have S1 := S.mono s1
    have hpa : p ≠ a := fun z => by rw [z, e2] at n1; cases n1
    have S2 : SR X.K A0 B Γ σ H1 ⟨r.r, fun b => r.J b ∨ b = p⟩ := by
      have sub : ∀ b, Aof A0 Γ ⟨r.r, fun b => r.J b ∨ b = p⟩ b → (Aof A0 Γ r b ∨ b = p) := fun b z => by
        rcases z with z | (z | z) | z
        · exact .inl (.inl z)
        · exact .inl (.inr (.inl z))
        · exact .inr z
        · exact .inl (.inr (.inr z))
      have key : Same (msk (Aof A0 Γ r) H) (msk (Aof A0 Γ ⟨r.r, fun b => r.J b ∨ b = p⟩) H1) := fun b o z => by
        obtain ⟨m1, z⟩ := msk_of z
        rw [msk_out]
        · exact s1 b o z
        · intro y
          rcases sub b y with y | y
          · exact m1 y
          · rw [y, n1] at z; cases z
      refine ⟨⟨S.sx.len, fun b z => ?_, fun j s' q => ?_⟩, S1.base, S.dom0, S.own, S.inj, S.pin, fun b z => ?_, fun j es q z => ?_, fun j kk q => ?_⟩
      · rcases sub b z with z | z
        · exact S1.sx.dom b z
        · rw [z, f1]; simp
      · have z := S.sx.sl j s' q
        cases s' with
        | no => trivial
        | val d => obtain ⟨v, g1, r⟩ := z; exact ⟨v, g1, r.mono key⟩
        | own fs => obtain ⟨b, us, g1, g2, r⟩ := z; exact ⟨b, us, g1, s1 _ _ g2, r.mono key⟩
        | scr ns => obtain ⟨b, g1, r⟩ := z; exact ⟨b, g1, key.seq r⟩
        | jnk k2 => exact slok_jnk s1 z
      · rcases z with z | z
        · exact S1.jd b z
        · subst z; exact ⟨S.base.free n1, by rw [f1]; simp⟩
      · rcases z with z | z
        · exact S.jo j es q z
        · obtain ⟨b, us, g1, g2, _⟩ := S.sx.sl j _ q
          rw [(S.own j es q).1] at g1; cases g1
          rw [z, n1] at g2; cases g2
      · have q2 := S1.jk j kk q
        cases kk with
        | junk n m =>
          obtain ⟨a, vs, e, j, e2, l, k⟩ := q2
          exact ⟨a, vs, e, .inl j, e2, l, fun v hv => by obtain ⟨b, ws, g1, g2, g3⟩ := k v hv; exact ⟨b, ws, g1, .inl g2, g3⟩⟩
        | tre dss =>
          obtain ⟨a, bs, e, j, e2, l, k⟩ := q2
          exact ⟨a, bs, e, .inl j, e2, l, fun b hb => ⟨.inl (k b hb).1, (k b hb).2⟩⟩
    refine k _ _ _ (S2.jmut (k' := .junk (n + 1) m) hi hsj (b := a) (.inl ja) (ws := vs ++ [.ref p]) ⟨a, _, e1, .inl ja, upd_same, by rw [List.length_append, l]; rfl, fun v hv => ?_⟩)
    rcases List.mem_append.mp hv with hv | hv
    · obtain ⟨b, ws2, g1, g2, g3, g4, g5⟩ := kb v hv
      exact ⟨b, ws2, g1, .inl g2, by rw [upd_ne g5]; exact s1 _ _ g3, g4, g5⟩
    · have ev := List.mem_singleton.mp hv
      subst ev
      exact ⟨p, ws, rfl, .inr rfl, by rw [upd_ne hpa]; exact f1, by rw [r1.length]; exact hl, hpa⟩)⟩
/-- name = [new list of ints for ..] -/
theorem dst_setLcT (i : Nat) {elt tg iter : Expr} {ifs : List Expr} {scope : Scope} {own : List (Str × Nat)} {g : TG} {its : List α} {js : List Nat} {bd : α → List Sl → List Sl} {tt : TT} {pr : α → Bool} {f : α → List Int} {y : Str} {py spos : Pos}
    (hc : X.calm = true) (hN : X.N.Nodup) (di : DI X Γ tg iter g its js bd) (ok : BlkOk X.N X.env.scope scope own) (hj : ∀ j ∈ js, j ∈ own.map (·.2))
    (hg : ∀ (s : Shared) (H : Hp) (C : Addr) (cl : List (Str × Addr)) (fp : List Addr), PG (X.blk s H scope (compEnvC scope cl C X.env) fp) tg g)
    (ht : ∀ (s : Shared) (H : Hp) (C : Addr) (cl : List (Str × Addr)) (fp : List Addr), PTs (X.blk s H scope (compEnvC scope cl C X.env) fp) ifs tt)
    (htk : ∀ a ∈ its, ∀ A2 σ H Q, SX X.K A2 (bd a (wipeG Γ (own.map (·.2)))) σ H → (∀ H', Same H H' → Q (pr a) H') → tt σ H Q)
    (he : ∀ a ∈ its, pr a = true → ∀ (s : Shared) (H : Hp) (C : Addr) (cl : List (Str × Addr)) (fp : List Addr), DN (X.blk s H scope (compEnvC scope cl C X.env) fp) (bd a (wipeG Γ (own.map (·.2)))) elt FrI (f a))
    (hl : its.length ≤ sizeLine) (hi0 : i ≠ 0 := by decide) (hi : X.N[i]? = some y := by rfl) (hyl : X.env.scope.names.lookup y = some .local := by rfl) (hsw : swapsWith (.ListComp elt [⟨tg, iter, ifs, 0⟩] scope pos) (some (.Name y py)) spos.line X.env = pure true := by rfl)
    (hs : ∀ x, foldedSetIterable iter X.env x = pure x := by intro _; rfl) : DSt X Γ (.Assign [.Name y py] (.ListComp elt [⟨tg, iter, ifs, 0⟩] scope pos) spos) (.nx (Γ.set i (.jnk (.tre ((its.filter pr).map f))))) := fun A0 =>
  ⟨fun pins s σ H E I ⟨B, r, S, k⟩ => by
    obtain ⟨wi, te, hi', hp, kk⟩ := lcT_sem (ifs := ifs) (elt := elt) (scope := scope) di hj htk he hl (Aof A0 Γ r)
    refine (ps_setLc (spos := spos) hc hN hi hyl hsw hi' ok hg ht hp hs).run pins s σ H E I ?_
    refine kk σ H _ ⟨S.sx, fun v H1 s1 ⟨a, bs, e1, n, e2, l, kb⟩ => ?_⟩
    subst e1
    refine k _ H1 _ (S.setj hi0 (a := a) (fun b => b = a ∨ ∃ c ∈ bs, c.1 = b) s1 (fun b hb => ?_) ⟨a, bs, rfl, .inr (.inl rfl), e2, l, fun b hb => ⟨.inr (.inr ⟨b, hb, rfl⟩), (kb b hb).2⟩⟩)
    rcases hb with rfl | ⟨c, hc, rfl⟩
    · exact ⟨n, by rw [e2]; simp⟩
    · exact ⟨(kb c hc).1, by rw [(kb c hc).2]; simp⟩⟩
/-- return sorted([one's own, *one's own lists]) -/
theorem dgs_sortStar (i j : Nat) {ns : List Int} {dss : List (List Int)} {y : Str} {px py ps pl p4 : Pos} {k1 : Nat} (hi : Γ[i]? = some (.own (ns.map D.int)) := by rfl) (hj : Γ[j]? = some (.jnk (.tre dss)) := by rfl) (hu : X.A.units + 100 < cLine) (hm : X.mg "sorted" = none) (hz : dss.length + 1 ≤ sizeLine)
    (hN : X.N[i]? = some x := by rfl) (hv : Vis X.env.scope x := by first | exact Or.inl rfl | exact Or.inr (Or.inl rfl) | exact Or.inr (Or.inr rfl)) (hN2 : X.N[j]? = some y := by rfl) (hv2 : Vis X.env.scope y := by first | exact Or.inl rfl | exact Or.inr (Or.inl rfl) | exact Or.inr (Or.inr rfl))
    (hd : (x == ("__debug__" : Str)) = false := by decide) (hcd : (x == ("__classdict__" : Str)) = false := by decide) (hd2 : (y == ("__debug__" : Str)) = false := by decide) (hcd2 : (y == ("__classdict__" : Str)) = false := by decide)
    (hg : Gl X "sorted" := by rfl) (hs1 : starEach (Expr.Name x px :: [Expr.Starred (.Name y py) ps]) X.env = (false, eval (Expr.Name x px) X.env) :: starEach [Expr.Starred (.Name y py) ps] X.env := by rfl)
    (hs2 : starEach (Expr.Starred (.Name y py) ps :: []) X.env = (true, eval (Expr.Name y py) X.env) :: starEach [] X.env := by rfl)
    (he : starEach (Expr.List [Expr.Name x px, Expr.Starred (.Name y py) ps] pl :: []) X.env = (false, eval (Expr.List [Expr.Name x px, Expr.Starred (.Name y py) ps] pl) X.env) :: starEach [] X.env := by rfl) (hpl : (backTo p4 (starEach [] X.env)).any (·.1) = false := by rfl) :
    DGs X Γ [.Return (some (.Call (.Name "sorted" p) [.List [.Name x px, .Starred (.Name y py) ps] pl] [] p4)) pos] FrT (srtL (ns :: dss)) :=
  pss_one ⟨fun pins s σ H E I ⟨B, r, S, k⟩ => (ps_ret (pos := pos) (pe_callB (pos := p4) (cr_sortedLL hu) hg hm PyProof.Rows.boot_sorted (pa_cons (pe_lst (pos := pl) (pa_cons (pv i hN hv hd hcd) (StX.pa_star (pv j hN2 hv2 hd2 hcd2) pa_nil hs2) hs1)) pa_nil he) (by decide) (by decide) he hpl)).run pins s σ H E I (by
    obtain ⟨a1, vs1, e1, e2, r1⟩ := S.sx.sl i _ hi
    rw [(S.own i _ hi).1] at e1; cases e1
    have er := r1.ints
    subst er
    obtain ⟨a2, bs, f1, ja, f2, l, kb⟩ := S.jk j _ hj
    refine ⟨_, (S.own i _ hi).1, _, f1, a2, _, rfl, .inr (.of f2), ?_, fun q hq => ?_⟩
    · show (V.ref (r.r i) :: ((bs.map fun b => V.ref b.1) ++ [])).length ≤ sizeLine
      simp
      rw [← l, List.length_map] at hz
      exact hz
    have sq := same_new hq (.lst (V.ref (r.r i) :: ((bs.map fun b => V.ref b.1) ++ [])))
    refine ⟨q, (r.r i, ns) :: bs, rfl, .of (by rw [upd_same, List.append_nil]; rfl), fun b hb => ?_, fun p hp => ?_⟩
    · rcases List.mem_cons.mp hb with rfl | hb
      · exact sq _ _ e2
      · exact sq _ _ (kb b hb).2
    · refine k _ _ ((S.base.trans sq).trans (same_new hp _)) ⟨p, srtB ((r.r i, ns) :: bs), rfl, S.base.free (sq.free hp), upd_same, by rw [merge_map, List.map_cons, l], fun b hb => ?_⟩
      have hb' := (List.mergeSort_perm _ _).mem_iff.mp hb
      rcases List.mem_cons.mp hb' with rfl | hb'
      · exact ⟨(S.own i _ hi).2, same_new hp _ _ _ (sq _ _ e2)⟩
      · exact ⟨(S.jd _ (kb b hb').1).1, same_new hp _ _ _ (sq _ _ (kb b hb').2)⟩)⟩
end
end G
set_option Elab.async false
set_option linter.all false
set_option maxRecDepth 100000
namespace G
open PySem PySem.Spec PyProof.Rows L2
section
variable {X : Cx} {Γ Γ1 : List Sl} {e a b c elt tg iter iter1 kx : Expr} {p p2 pos : Pos} {es rest : List Expr} {d da db : D} {ds das : List D} {x : Str} {α β γ : Type} {i j : Int} {sts : List Stmt} {st : Stmt} {o : Out}
/-- [elt for tg in iter for y in iter1] -/
theorem df_lc2 {scope : Scope} {own : List (Str × Nat)} {g : TG} {its : List α} {js : List Nat} {bd : α → List Sl → List Sl} {en2 : β → D} {en3 : γ → D} (j : Nat) (ys : α → List β) (f : α → β → γ) {y : Str} {py : Pos} (hc : X.calm = true) (hN : X.N.Nodup) (di : DI X Γ tg iter g its js bd) (ok : BlkOk X.N X.env.scope scope own) (hj : ∀ j ∈ js, j ∈ own.map (·.2)) (hj2 : ∀ k ∈ [j], k ∈ own.map (·.2))
    (hg : ∀ (s : Shared) (H : Hp) (C : Addr) (cl : List (Str × Addr)) (fp : List Addr), PG (X.blk s H scope (compEnvC scope cl C X.env) fp) tg g)
    (hg1 : ∀ (s : Shared) (H : Hp) (C : Addr) (cl : List (Str × Addr)) (fp : List Addr), PG (X.blk s H scope (compEnvC scope cl C X.env) fp) (.Name y py) (gName j)) (hl : (its.flatMap ys).length ≤ sizeLine)
    (hi1 : ∀ a ∈ its, ∀ (s : Shared) (H : Hp) (C : Addr) (cl : List (Str × Addr)) (fp : List Addr), DE (X.blk s H scope (compEnvC scope cl C X.env) fp) (bd a (wipeG Γ (own.map (·.2)))) iter1 (eL en2 (ys a)))
    (he : ∀ a ∈ its, ∀ y ∈ ys a, ∀ (s : Shared) (H : Hp) (C : Addr) (cl : List (Str × Addr)) (fp : List Addr), DE (X.blk s H scope (compEnvC scope cl C X.env) fp) ((wipeG (bd a (wipeG Γ (own.map (·.2)))) [j]).set j (.val (en2 y))) elt (en3 (f a y)))
    (hs : ∀ x, foldedSetIterable iter X.env x = pure x := by intro _; rfl) (hs1 : ∀ env x, foldedSetIterable iter1 env x = pure x := by intro _ _; rfl) :
    DF X Γ (.ListComp elt [⟨tg, iter, [], 0⟩, ⟨.Name y py, iter1, [], 0⟩] scope pos) ((its.flatMap fun a => (ys a).map (f a)).map en3) := fun A => by
  obtain ⟨wi, hi, hw⟩ := di.ex A
  let te : TE := fun σ H Q => ∃ (a : α) (y : β) (A2 : Addr → Prop), (a ∈ its ∧ y ∈ ys a) ∧ tD X.K A2 ((wipeG (bd a (wipeG Γ (own.map (·.2)))) [j]).set j (.val (en2 y))) (en3 (f a y)) σ H Q
  let tl : TE := fun σ H Q => ∃ (a : α) (A2 : Addr → Prop), a ∈ its ∧ tD X.K A2 (bd a (wipeG Γ (own.map (·.2)))) (eL en2 (ys a)) σ H Q
  refine impE (pe_lc2 (vs1 := [j]) (tt := tYes) (tt1 := tYes) (te := te) (wi1 := iList X.K tl) hc hN hi ok hj2 hg (fun _ _ _ _ _ => pts_nil) (fun s H C cl fp => pi_list (PE_some fun a => PE_some fun A2 => PE_somep fun h => hi1 a h s H C cl fp A2)) hg1 (fun _ _ _ _ _ => pts_nil)
    (fun s H C cl fp => PE_some fun a => PE_some fun y => PE_some fun A2 => PE_somep fun h => he a h.1 y h.2 s H C cl fp A2) hs hs1) fun σ H Q ⟨S, q⟩ => ?_
  refine hw σ H _ S fun J H1 G Y s1 wk gk yk D hD => ?_
  have key : ∀ {H2 : Hp}, Same H1 H2 → Same (msk A H1) (msk (fun b => A b ∨ b = D) H2) := fun {H2} s b o e => by
    obtain ⟨n, e⟩ := msk_of e
    rw [msk_out]
    · exact s b o e
    · rintro (z | z)
      · exact n z
      · subst z; rw [hD] at e; cases e
  have nAD : ¬ A D := notA (dom_mono s1 S.dom) hD
  have lenle : ∀ (i : Nat) (a : α) (k : Nat), its[i]? = some a → k < (ys a).length → ((its.take i).flatMap fun a => (ys a).map (f a)).length + k < sizeLine := fun i a k ea hk => by
    have e0 : its = its.take i ++ a :: its.drop (i + 1) := split_at ea
    have e1 : (its.flatMap ys).length = ((its.take i).flatMap ys).length + ((ys a).length + ((its.drop (i + 1)).flatMap ys).length) := by
      conv => lhs; rw [e0]
      rw [List.flatMap_append, List.flatMap_cons, List.length_append, List.length_append]
    have e2 : ((its.take i).flatMap fun a => (ys a).map (f a)).length = ((its.take i).flatMap ys).length := by
      simp [List.length_flatMap]
    omega
  let Pv : Nat → Hp → Prop := fun i H2 => ∃ acc, H2 D = some (.lst acc) ∧ Same H1 H2 ∧ Reps X.K (msk (fun b => A b ∨ b = D) H2) acc (((its.take i).flatMap fun a => (ys a).map (f a)).map en3)
  refine ⟨fun i m H2 => m = its.length - i ∧ i ≤ its.length ∧ Pv i H2, ⟨its.length, by simp, Nat.zero_le _, [], upd_same, same_new hD _, .nil⟩, ?_⟩
  rintro i m H2 ⟨rfl, hile, acc, eD, s2, ra⟩
  have hG := gk _ H2 (key s2)
  by_cases hlt : i < its.length
  · refine .inr ⟨wk.goes i H2 hlt hG, Pv (i + 1), fun H' p' => ⟨its.length - (i + 1), by omega, rfl, hlt, p'⟩, fun x H3 yy => ?_⟩
    have y := wk.yields i H2 x H3 hlt hG yy
    obtain ⟨a, ea⟩ : ∃ a, its[i]? = some a := ⟨_, List.getElem?_eq_getElem hlt⟩
    have am : a ∈ its := List.mem_of_getElem? ea
    have S1 := sx_wipe (S.mono s1) (own.map (·.2))
    have out : ∀ (l : Nat) s, (bd a (wipeG Γ (own.map (·.2))))[l]? = some s → (∀ d, s ≠ .val d) → l ∉ js ∧ (wipeG Γ (own.map (·.2)))[l]? = some s := fun l s e h => by
      have nj : l ∉ js := fun y => (di.near a _ l y _ e).elim fun d z => h d z
      exact ⟨nj, by rw [← di.far a _ l nj]; exact e⟩
    have S2 : SX X.K (fun b => A b ∨ b = D) (wipeG Γ (own.map (·.2))) (wipe σ (own.map (·.2))) H2 := by
      refine ⟨S1.len, ?_, fun j s e => ?_⟩
      · rintro b (z | rfl)
        · exact dom_mono s2 S1.dom b z
        · rw [eD]; simp
      · have z := S1.sl j s e
        cases s with
        | no => trivial
        | val d => obtain ⟨v, e1, r⟩ := z; exact ⟨v, e1, r.mono (key s2)⟩
        | own ds => obtain ⟨b, vs, e1, e2, r⟩ := z; exact ⟨b, vs, e1, s2 _ _ e2, r.mono (key s2)⟩
        | scr ns => obtain ⟨b, e1, r⟩ := z; exact ⟨b, e1, (key s2).seq r⟩
        | jnk k => exact slok_jnk s2 z
    refine yk _ H2 i x H3 _ _ _ a (key s2) ea y S2 fun σ3 H4 s4 S4 hl4 far => ⟨(wipe_ext hl4 fun j hj' => far j fun z => hj' (hj j z)).trans wipe_idem, ?_⟩
    refine iteT (B := Pv (i + 1) H4) ⟨a, _, am, S4, fun v H5 s5 r5 => ?_⟩
    cases r5 with
    | @lst l ws _ h5 r5 =>
      have hlw : ws.length = (ys a).length := by rw [r5.length, List.length_map]
      refine ⟨l, rfl, ⟨ws, .of (msk_le _ _ h5)⟩, ?_⟩
      let Pw : Nat → Hp → Prop := fun k H6 => ∃ acc, H6 D = some (.lst acc) ∧ Same H1 H6 ∧ Same (msk (fun b => A b ∨ b = D) H5) (msk (fun b => A b ∨ b = D) H6) ∧ SX X.K (fun b => A b ∨ b = D) (bd a (wipeG Γ (own.map (·.2)))) σ3 H6 ∧
        Reps X.K (msk (fun b => A b ∨ b = D) H6) acc (((its.take i).flatMap fun a => (ys a).map (f a)).map en3 ++ (((ys a).take k).map (f a)).map en3)
      refine ⟨fun k m H6 => m = (ys a).length - k ∧ k ≤ (ys a).length ∧ Pw k H6, ⟨(ys a).length, by simp, Nat.zero_le _, acc, s5 _ _ (s4 _ _ eD), (s2.trans s4).trans s5, Same.refl _, S4.mono s5, by simpa using ra.mono (msk_same (s4.trans s5))⟩, ?_⟩
      rintro k m H6 ⟨rfl, hkle, acc6, eD6, s6, ms6, S6, ra6⟩
      have hl6 : SqL X.K H6 l ws := .of (msk_le _ _ (ms6 _ _ h5))
      by_cases hk : k < (ys a).length
      · refine .inr ⟨⟨ws, ws[k]'(by omega), hl6, List.getElem?_eq_getElem (by omega)⟩, Pw (k + 1), fun H' p' => ⟨(ys a).length - (k + 1), by omega, rfl, hk, p'⟩, fun x H7 yl => ?_⟩
        obtain ⟨rfl, yl⟩ := yl
        have ex := yl ws hl6
        obtain ⟨b, eb⟩ : ∃ b, (ys a)[k]? = some b := ⟨_, List.getElem?_eq_getElem hk⟩
        obtain ⟨v, ev, rv⟩ := r5.get (i := k) (d := en2 b) (by rw [List.getElem?_map, eb]; rfl)
        rw [ev] at ex; cases ex
        refine ⟨wipe_ext (by rw [List.length_set, wipe_length]) (fun l' hl' => by rw [List.getElem?_set_ne fun z => hl' (by simp [z])]; rw [wipe_get]; simp at hl'; simp [hl']), ?_⟩
        refine iteT (B := Pw (k + 1) H7) ⟨a, b, _, ⟨am, List.mem_of_getElem? eb⟩, sx_set (sx_wipe S6 [j]) (rv.mono ms6), fun v H8 s8 r8 => ⟨acc6, s8 _ _ eD6, ?_, acc6 ++ [v], upd_same, fun b' o e => ?_, ?_, ?_, ?_⟩⟩
        · rw [ra6.length, List.length_append, List.length_map, List.length_map, List.length_map, List.length_take, Nat.min_eq_left hkle]
          exact lenle i a k ea hk
        · rw [upd_ne (ne_of_none e hD)]
          exact s8 _ _ (s6 _ _ e)
        · rw [msk_upd (.inr rfl)]
          exact ms6.trans (msk_same s8)
        · -- the state behind the append
          refine ⟨S6.len, ?_, fun l' s' e' => ?_⟩
          · rintro b' (z | rfl)
            · by_cases c : b' = D
              · rw [c, upd_same]; simp
              · rw [upd_ne c]; exact dom_mono s8 S6.dom b' (.inl z)
            · rw [upd_same]; simp
          · have z := (S6.mono s8).sl l' s' e'
            have mm : msk (fun b => A b ∨ b = D) (upd H8 D (.lst (acc6 ++ [v]))) = msk (fun b => A b ∨ b = D) H8 := msk_upd (.inr rfl)
            cases s' with
            | no => trivial
            | val d => obtain ⟨v, e1, r⟩ := z; exact ⟨v, e1, by rw [mm]; exact r⟩
            | own ds =>
              obtain ⟨v1, vs1, e1, e2, r⟩ := z
              obtain ⟨nj, e0⟩ := out l' (.own ds) e' (fun _ z => by cases z)
              obtain ⟨a0, vs0, f1, f2, _⟩ := S1.sl l' _ e0
              rw [far l' nj, f1] at e1; cases e1
              exact ⟨_, vs1, by rw [far l' nj, f1], by rw [upd_ne (ne_of_none f2 hD)]; exact e2, by rw [mm]; exact r⟩
            | scr ns => obtain ⟨b, e1, r⟩ := z; exact ⟨b, e1, by rw [mm]; exact r⟩
            | jnk k =>
              obtain ⟨nj, e0⟩ := out l' (.jnk k) e' (fun _ z => by cases z)
              rw [far l' nj]
              exact slok_jnk (fun b' o e => by rw [upd_ne (ne_of_none e hD)]; exact s8 _ _ (s6 _ _ e)) (S1.sl l' _ e0)
        · rw [msk_upd (.inr rfl), take_more eb, List.map_append, List.map_append, ← List.append_assoc]
          exact (ra6.mono (msk_same s8)).append (.cons r8 .nil)
      · have ek : k = (ys a).length := by omega
        subst ek
        refine .inl ⟨⟨ws, hl6, by omega⟩, acc6, eD6, s6, ?_⟩
        rw [List.take_length] at ra6
        rw [take_more ea, List.flatMap_append, List.map_append]
        simpa using ra6
  · have e : i = its.length := by omega
    subst e
    refine .inl ⟨wk.stops H2 hG, ?_⟩
    rw [List.take_length] at ra
    refine q D acc H2 (s1.trans s2) (s1.free hD) eD ra
end
end G
set_option Elab.async false
set_option linter.all false
set_option maxRecDepth 100000
namespace G
open PySem PySem.Spec PyProof.Rows L2
section
variable {X : Cx} {Γ Γ1 : List Sl} {e a b c : Expr} {p p2 pos : Pos} {es rest : List Expr} {d da db : D} {ds das : List D} {x : Str} {i j : Int} {sts : List Stmt} {st : Stmt} {o : Out}
theorem de_callBU {id : String} (o : OKC X (.builtin id) das d) (hsc : Sc d) (hm : X.mg x = none) (h : DUs X Γ (e :: es) das) (hv : bootBuiltins x = some (.builtin id) := by decide +kernel) (hg : Gl X x := by rfl) (hn : x ≠ "__name__" := by decide) (hdb : (x == ("__debug__" : Str)) = false := by decide)
    (he : starEach (e :: es) X.env = (false, eval e X.env) :: starEach es X.env := by rfl) (hpl : (backTo pos (starEach es X.env)).any (·.1) = false := by rfl) : DE X Γ (.Call (.Name x p) (e :: es) [] pos) d := fun A => by
  obtain ⟨r, ho, k⟩ := o.ex
  refine impE (pe_callB ho hg hm hv (h A) hn hdb he hpl) fun σ H Q ⟨S, q⟩ => ⟨S, fun xs H1 s1 r1 => ?_⟩
  have eM : msk (fun _ => False) H1 = H1 := funext fun b => msk_out fun z => z
  exact k (fun _ => False) xs H1 Q (fun _ z => z.elim) (by rw [eM]; exact r1) fun v H' s3 r3 => q v H' (s1.trans s3) (rep_sc hsc r3)
/-- script[:n] -/
theorem de_scrTo (i : Nat) {ns : List Int} {hi : Expr} {k : Int} {p2} (h0 : 0 ≤ k) (hl : DE X Γ hi (.int k)) (h : Γ[i]? = some (.scr ns) := by rfl) (hN : X.N[i]? = some x := by rfl) (hv : Vis X.env.scope x := by first | exact Or.inl rfl | exact Or.inr (Or.inl rfl) | exact Or.inr (Or.inr rfl))
    (hd : (x == ("__debug__" : Str)) = false := by decide) (hcd : (x == ("__classdict__" : Str)) = false := by decide) : DE X Γ (.Subscript (.Name x p) (.Slice none (some hi) none p2) pos) (eL D.int (ns.take k.toNat)) := fun A =>
  impE (pe_slice sl_list (pv i hN hv hd hcd) po_none (po_some (hl A))) fun σ H Q ⟨S, q⟩ => by
    obtain ⟨a, e1, e2⟩ := S.sl i _ h
    refine ⟨_, e1, S, fun v H1 s1 r1 => ?_⟩
    cases r1
    refine ⟨k, rfl, a, _, rfl, msk_le.seq ((msk_same s1).seq e2), fun p hp => ?_⟩
    have ec : cutV (ns.map V.int) none (some k) = (ns.take k.toNat).map V.int := by
      have := cutG_to (ns.map V.int) h0
      rw [← List.map_take] at this
      exact this
    rw [ec]
    exact q _ _ (s1.trans (same_new hp _)) (rep_new_lst (dom_mono s1 S.dom) hp (.of_ints _))
end
section
variable {X : Cx} {Γ Γ1 : List Sl} {e a b c : Expr} {p p2 pos : Pos} {d : D} {ds : List D} {x : Str}
theorem de_op' {op : Operator} {da db : D} (ha : DE X Γ a da) (hb : DE X Γ b db) (o : OK2 X (binaryOp op) da db d) : DE X Γ (.BinOp a op b pos) d := de_op o ha hb
/-- own[k], k written -/
theorem de_ixOwn (i k : Nat) (h : Γ[i]? = some (.own ds) := by rfl) (hk : ds[k]? = some d := by rfl) {p3 : Pos} {jj : Nat} {z : Int} (hz : z = (k : Int) := by rfl) (hN : X.N[i]? = some x := by rfl) (hv : Vis X.env.scope x := by first | exact Or.inl rfl | exact Or.inr (Or.inl rfl) | exact Or.inr (Or.inr rfl))
    (hd : (x == ("__debug__" : Str)) = false := by decide) (hcd : (x == ("__classdict__" : Str)) = false := by decide) (hs : PlainIx (.Constant (.int z) jj p3) := by exact fun _ _ => rfl) : DE X Γ (.Subscript (.Name x p) (.Constant (.int z) jj p3) pos) d := by
  subst hz
  exact de_ixL (atI_nat hk) (ds_own i h hN hv hd hcd) de_int hs
theorem dst_setOwn (i k : Nat) {pos' p2 p3 : Pos} {jj : Nat} {z : Int} (h : DE X Γ e d) (hi : Γ[i]? = some (.own ds) := by rfl) (hk : ixN ds.length z = some k := by rfl) (hN : X.N[i]? = some x := by rfl) (hv : Vis X.env.scope x := by first | exact Or.inl rfl | exact Or.inr (Or.inl rfl) | exact Or.inr (Or.inr rfl))
    (hd : (x == ("__debug__" : Str)) = false := by decide) (hcd : (x == ("__classdict__" : Str)) = false := by decide)
    (ha : ∀ v, assign (.Subscript (.Name x pos') (.Constant (.int z) jj p3) p2) X.env v = (do
      let ov ← holding [v] (eval (.Name x pos') X.env)
      let iv ← holding [v, ov] (eval (.Constant (.int z) jj p3) X.env)
      standAt p2
      holding [v, ov, iv] (setItem ov iv v)
      release [v, ov, iv] []) := by intro _; rfl) (hs : swapsWithSole [.Subscript (.Name x pos') (.Constant (.int z) jj p3) p2] e pos.line X.env = pure false := by rfl) (hw : swappedStores [.Subscript (.Name x pos') (.Constant (.int z) jj p3) p2] e X.env = pure none := by rfl)
    (h1 : (assignEach [.Subscript (.Name x pos') (.Constant (.int z) jj p3) p2] X.env).map (·.2) = [assign (.Subscript (.Name x pos') (.Constant (.int z) jj p3) p2) X.env] := by rfl) : DSt X Γ (.Assign [.Subscript (.Name x pos') (.Constant (.int z) jj p3) p2] e pos) (.nx (Γ.set i (.own (ds.set k d)))) :=
  dst_setitem i h de_int hk hi hN hv hd hcd ha hs hw h1
end
/-- a new pool -/
def FrP (H H' : Hp) (v : V) (_ : Unit) : Prop := ∃ (a c : Addr) (cells : List Int) (s : Int), v = .ref a ∧ H a = none ∧ H c = none ∧ c ≠ a ∧ H' a = some (.lst [.ref c, .int 0, .int 0, .int 0, .int s]) ∧ H' c = some (.lst (cells.map V.int)) ∧ (∀ x ∈ cells, 0 ≤ x) ∧ 0 ≤ s ∧ s < 1000000007
def spS (K : PySem.W.Frag) (Fr : Hp → Hp → V → Unit → Prop) : Sp := fun vs H Q _ => ∃ (a : Addr) (ns : List Int), vs = [.ref a] ∧ SqL K H a (ns.map V.int) ∧ ns.length ≤ 63 ∧ ∀ v H', Same H H' → Fr H H' v () → Q v H'
theorem frP_back {B H H' : Hp} {v : V} {u : Unit} (s : Same B H) (h : FrP H H' v u) : FrP B H' v u := by
  obtain ⟨a, c, cells, z, h1, h2, h3, h4⟩ := h
  exact ⟨a, c, cells, z, h1, s.free h2, s.free h3, h4⟩
theorem frP_pool {K : PySem.W.Frag} {A : Addr → Prop} {H H' : Hp} {v : V} {u : Unit} (dom : ∀ b, A b → H b ≠ none) (h : FrP H H' v u) : ∃ a, v = .ref a ∧ H a = none ∧ PoolAt K A H' a := by
  obtain ⟨a, c, cells, z, h1, h2, h3, h4, h5, h6, h7, h8, h9⟩ := h
  refine ⟨a, h1, h2, _, [.lst (cells.map .int), .int 0, .int 0, .int 0, .int z], h5, .cons (.lst ?_ (.of_ints _)) (.cons (.int 0) (.cons (.int 0) (.cons (.int 0) (.cons (.int z) .nil)))), ⟨cells, 0, 0, 0, z, rfl, h7, by omega, by omega, by omega, h8, h9⟩⟩
  rw [msk_out]
  · exact h6
  · rintro (y | y)
    · exact dom c y h3
    · exact h4 y
/-- a def of the script alone: Γ's slot 0 is the script -/
def ΓS (N : List Str) (ns : List Int) : List Sl := .scr ns :: List.replicate (N.length - 1) .no
section
variable {P : Program} {w : World} {K : PySem.W.Frag} {mg : Str → Option Value} {base : Heap}
theorem srS {K : PySem.W.Frag} {N : List Str} {ns : List Int} {a : Addr} {H : Hp} (h : SqL K H a (ns.map V.int)) (hN : 1 ≤ N.length) : SR K (fun _ => False) ⟨H, 0⟩ (ΓS N ns) (L2.start N [.ref a]) H ⟨fun _ => 0, fun _ => False⟩ := by
  have noown : ∀ (i : Nat) s, (ΓS N ns)[i]? = some s → s = .no ∨ (i = 0 ∧ s = .scr ns) := fun i s e => by
    cases i with
    | zero => cases e; exact .inr ⟨rfl, rfl⟩
    | succ i =>
      have e : (List.replicate (N.length - 1) Sl.no)[i]? = some s := e
      rw [List.getElem?_replicate] at e
      split at e
      · cases e; exact .inl rfl
      · cases e
  have no : ∀ (i : Nat) es, (ΓS N ns)[i]? ≠ some (.own es) := fun i es e => by
    rcases noown i _ e with h | ⟨_, h⟩ <;> cases h
  have eA : Aof (fun _ => False) (ΓS N ns) ⟨fun _ => 0, fun _ => False⟩ = fun _ => False := funext fun b => propext ⟨fun z => by
    rcases z with z | z | ⟨i, es, e, _⟩
    · exact z
    · exact z
    · exact no i es e, fun z => z.elim⟩
  have eM : msk (fun _ => False) H = H := funext fun b => msk_out fun z => z
  refine ⟨⟨?_, fun b z => by rw [eA] at z; exact z.elim, fun i s e => ?_⟩, Same.refl H, fun _ z => z.elim, fun i es e => absurd e (no i es), fun i j es fs e _ _ => absurd e (no i es), fun es e => absurd e (no 0 es), fun _ z => z.elim, fun i es e => absurd e (no i es), fun i n e => ?_⟩
  · unfold L2.start ΓS; simp
  · rcases noown i s e with rfl | ⟨rfl, rfl⟩
    · trivial
    · exact ⟨a, rfl, by rw [eA, eM]; exact h⟩
  · rcases noown i _ e with h | ⟨_, h⟩ <;> cases h
end
end G
set_option Elab.async false
set_option linter.all false
set_option maxRecDepth 100000
namespace G
open PySem PySem.Spec PyProof.Rows L2
section
variable {K : PySem.W.Frag} {A0 : Addr → Prop} {B : Bs} {Γ Γb : List Sl} {σ σb : L2.St} {H H' : Hp} {r : Rt}
/-- the same facts, of other slots -/
theorem SR.move (S : SR K A0 B Γ σ H r) (hl : Γb.length = Γ.length) (hlσ : σb.length = σ.length) (h : ∀ (i : Nat) s, Γb[i]? = some s → s = .no ∨ (Γ[i]? = some s ∧ σb[i]? = σ[i]?)) : SR K A0 B Γb σb H r := by
  have own : ∀ (i : Nat) es, Γb[i]? = some (.own es) → Γ[i]? = some (.own es) ∧ σb[i]? = σ[i]? := fun i es e => (h i _ e).elim (fun z => nomatch z) fun z => z
  have sub : ∀ b, Aof A0 Γb r b → Aof A0 Γ r b := fun b z => by
    rcases z with z | z | ⟨j, es, e, z⟩
    · exact .inl z
    · exact .inr (.inl z)
    · exact .inr (.inr ⟨j, es, (own j es e).1, z⟩)
  have S2 := S.sx.sub sub
  refine ⟨⟨by rw [hlσ, hl]; exact S.sx.len, fun b z => S.sx.dom b (sub b z), fun i s e => ?_⟩, S.base, S.dom0, fun i es e => by rw [(own i es e).2]; exact S.own i es (own i es e).1, fun i j es fs e1 e2 e3 => S.inj i j es fs (own i es e1).1 (own j fs e2).1 e3, fun es e => S.pin es (own 0 es e).1, S.jd, fun i es e => S.jo i es (own i es e).1, fun i k e => ?_⟩
  · rcases h i s e with rfl | ⟨e1, e2⟩
    · trivial
    · have q := S2.sl i s e1
      cases s with
      | no => trivial
      | val d => rw [e2]; exact q
      | own ds => rw [e2]; exact q
      | scr ns => rw [e2]; exact q
      | jnk k => rw [e2]; exact q
  · rcases h i _ e with z | ⟨e1, e2⟩
    · cases z
    · rw [e2]; exact S.jk i k e1
/-- a list D that is being made, apart from all slots -/
def baseD (h : Hp) (D : Addr) (vs : List V) : Hp := fun b => if b = D then some (.lst vs) else h b
theorem baseD_D {h : Hp} {D : Addr} {vs : List V} : baseD h D vs D = some (.lst vs) := by unfold baseD; rw [if_pos rfl]
theorem baseD_ne {h : Hp} {D b : Addr} {vs : List V} (n : b ≠ D) : baseD h D vs b = h b := by unfold baseD; rw [if_neg n]
theorem SR.addD {h : Hp} {p : Addr} (S : SR K A0 ⟨h, p⟩ Γ σ H r) {D : Addr} {vs : List V} (n : H D = none) : SR K (fun b => A0 b ∨ b = D) ⟨baseD h D vs, p⟩ Γ σ (upd H D (.lst vs)) r := by
  have hDr : ∀ (i : Nat) es, Γ[i]? = some (.own es) → r i ≠ D := fun i es e z => by
    obtain ⟨a, vs, e1, e2, _⟩ := S.sx.sl i _ e
    rw [(S.own i es e).1] at e1; cases e1
    rw [z, n] at e2; cases e2
  have sub : ∀ b, Aof (fun b => A0 b ∨ b = D) Γ r b → (Aof A0 Γ r b ∨ b = D) := fun b z => by
    rcases z with (z | z) | z | z
    · exact .inl (.inl z)
    · exact .inr z
    · exact .inl (.inr (.inl z))
    · exact .inl (.inr (.inr z))
  have sn := same_new n (.lst vs)
  have key : Same (msk (Aof A0 Γ r) H) (msk (Aof (fun b => A0 b ∨ b = D) Γ r) (upd H D (.lst vs))) := fun b o z => by
    obtain ⟨m, z⟩ := msk_of z
    rw [msk_out]
    · exact sn b o z
    · intro y
      rcases sub b y with y | y
      · exact m y
      · rw [y, n] at z; cases z
  refine ⟨⟨S.sx.len, fun b z => ?_, fun i s e => ?_⟩, fun b o z => ?_, fun b z => ?_, fun i es e => ⟨(S.own i es e).1, by show baseD h D vs (r i) = none; rw [baseD_ne (hDr i es e)]; exact (S.own i es e).2⟩, S.inj, S.pin, fun b j => ⟨?_, fun z => (S.jd b j).2 (sn.free z)⟩, S.jo, fun i k e => (S.jk i k e).mono fun b u _ => sn b u⟩
  · rcases sub b z with z | z
    · exact dom_mono sn S.sx.dom b z
    · rw [z, upd_same]; simp
  · have z := S.sx.sl i s e
    cases s with
    | no => trivial
    | val d => obtain ⟨v, e1, r⟩ := z; exact ⟨v, e1, r.mono key⟩
    | own ds => obtain ⟨b, vs, e1, e2, r⟩ := z; exact ⟨b, vs, e1, sn _ _ e2, r.mono key⟩
    | scr ns => obtain ⟨b, e1, r⟩ := z; exact ⟨b, e1, key.seq r⟩
    | jnk k => exact slok_jnk sn z
  · have z : baseD h D vs b = some o := z
    by_cases c : b = D
    · subst c; rw [baseD_D] at z; rw [upd_same]; exact z
    · rw [baseD_ne c] at z; rw [upd_ne c]; exact S.base b o z
  · show baseD h D vs b ≠ none
    rcases z with z | z
    · by_cases c : b = D
      · rw [c, baseD_D]; simp
      · rw [baseD_ne c]; exact S.dom0 b z
    · rw [z, baseD_D]; simp
  · show baseD h D vs b = none
    have c : b ≠ D := fun c => (S.jd b j).2 (by rw [c]; exact n)
    rw [baseD_ne c]; exact (S.jd b j).1
/-- the facts that keep D apart -/
theorem SR.atD {h : Hp} {p : Addr} {D : Addr} {vs : List V} (S : SR K (fun b => A0 b ∨ b = D) ⟨baseD h D vs, p⟩ Γ σ H r) : H D = some (.lst vs) ∧ (∀ (i : Nat) es, Γ[i]? = some (.own es) → r i ≠ D) ∧ ¬ r.J D := by
  refine ⟨S.base D _ baseD_D, fun i es e z => ?_, fun z => ?_⟩
  · have q : baseD h D vs (r i) = none := (S.own i es e).2
    rw [z, baseD_D] at q; cases q
  · have q : baseD h D vs D = none := (S.jd D z).1
    rw [baseD_D] at q; cases q
theorem SR.reD {h : Hp} {p : Addr} {D : Addr} {vs ws : List V} (S : SR K (fun b => A0 b ∨ b = D) ⟨baseD h D vs, p⟩ Γ σ H r) : SR K (fun b => A0 b ∨ b = D) ⟨baseD h D ws, p⟩ Γ σ (upd H D (.lst ws)) r := by
  obtain ⟨hD, hDr, hDJ⟩ := S.atD
  have aD : Aof (fun b => A0 b ∨ b = D) Γ r D := .inl (.inr rfl)
  have mm : msk (Aof (fun b => A0 b ∨ b = D) Γ r) (upd H D (.lst ws)) = msk (Aof (fun b => A0 b ∨ b = D) Γ r) H := msk_upd aD
  refine ⟨⟨S.sx.len, fun b z => ?_, fun i s e => ?_⟩, fun b o z => ?_, fun b z => ?_, fun i es e => ⟨(S.own i es e).1, ?_⟩, S.inj, S.pin, fun b j => ⟨?_, fun z => ?_⟩, S.jo, fun i k e => (S.jk i k e).mono fun b u jb q => by rw [upd_ne fun y => hDJ (by rw [← y]; exact jb)]; exact q⟩
  · by_cases c : b = D
    · rw [c, upd_same]; simp
    · rw [upd_ne c]; exact S.sx.dom b z
  · have z := S.sx.sl i s e
    cases s with
    | no => trivial
    | val d => obtain ⟨v, e1, r⟩ := z; exact ⟨v, e1, by rw [mm]; exact r⟩
    | own ds =>
      obtain ⟨b, vs, e1, e2, r2⟩ := z
      rw [(S.own i ds e).1] at e1; cases e1
      exact ⟨_, vs, (S.own i ds e).1, by rw [upd_ne (hDr i ds e)]; exact e2, by rw [mm]; exact r2⟩
    | scr ns => obtain ⟨b, e1, r⟩ := z; exact ⟨b, e1, by rw [mm]; exact r⟩
    | jnk k => exact ((S.jk i k e).mono fun b u jb q => by rw [upd_ne fun y => hDJ (by rw [← y]; exact jb)]; exact q).slok
  · have z : baseD h D ws b = some o := z
    by_cases c : b = D
    · subst c; rw [baseD_D] at z; rw [upd_same]; exact z
    · rw [baseD_ne c] at z; rw [upd_ne c]; exact S.base b o (by show baseD h D vs b = some o; rw [baseD_ne c]; exact z)
  · show baseD h D ws b ≠ none
    by_cases c : b = D
    · rw [c, baseD_D]; simp
    · have := S.dom0 b z
      have q : baseD h D vs b ≠ none := this
      rw [baseD_ne c] at q ⊢
      exact q
  · show baseD h D ws (r i) = none
    have q : baseD h D vs (r i) = none := (S.own i es e).2
    rw [baseD_ne (hDr i es e)] at q ⊢
    exact q
  · show baseD h D ws b = none
    have c : b ≠ D := fun c => hDJ (by rw [← c]; exact j)
    have q : baseD h D vs b = none := (S.jd b j).1
    rw [baseD_ne c] at q ⊢
    exact q
  · by_cases c : b = D
    · rw [c, upd_same] at z; cases z
    · rw [upd_ne c] at z; exact (S.jd b j).2 z
theorem SR.outD {h : Hp} {p : Addr} {D : Addr} {vs : List V} (S : SR K (fun b => A0 b ∨ b = D) ⟨baseD h D vs, p⟩ Γ σ H r) (hb : ∀ b o, h b = some o → b ≠ D) (hd : ∀ b, A0 b → h b ≠ none) : SR K A0 ⟨h, p⟩ Γ σ H r := by
  obtain ⟨hD, hDr, hDJ⟩ := S.atD
  refine ⟨S.sx.sub fun b z => ?_, fun b o z => S.base b o (by show baseD h D vs b = some o; rw [baseD_ne (hb b o z)]; exact z), hd, fun i es e => ⟨(S.own i es e).1, ?_⟩, S.inj, S.pin, fun b j => ⟨?_, (S.jd b j).2⟩, S.jo, S.jk⟩
  · rcases z with z | z | z
    · exact .inl (.inl z)
    · exact .inr (.inl z)
    · exact .inr (.inr z)
  · have q : baseD h D vs (r i) = none := (S.own i es e).2
    rw [baseD_ne (hDr i es e)] at q
    exact q
  · have c : b ≠ D := fun c => hDJ (by rw [← c]; exact j)
    have q : baseD h D vs b = none := (S.jd b j).1
    rw [baseD_ne c] at q
    exact q
end
section
variable {X : Cx} {Γ Γ1 : List Sl} {e a b c elt tg iter : Expr} {p p2 pos : Pos} {es rest body : List Expr} {d da db : D} {ds das ps : List D} {x : Str} {i j : Int} {sts bd1 : List Stmt} {st : Stmt} {o : Out} {q : Nat} {R : D → Prop} {Nx : List Sl → Prop} {ζ : Type} {Pz : ζ → Prop} {F : ζ → D}
/-- list(..), as a new list -/
theorem df_list {ds : List D} (h : DE X Γ e (.lst ds)) (hm : X.mg "list" = none) (hg : Gl X "list" := by rfl) (he : starEach (e :: []) X.env = (false, eval e X.env) :: starEach [] X.env := by rfl) (hpl : (backTo pos (starEach [] X.env)).any (·.1) = false := by rfl) :
    DF X Γ (.Call (.Name "list" p) [e] [] pos) ds := fun A =>
  impE (pe_callTy call_list_of hg hm PyProof.Rows.boot_list (des_cons h des_nil he A) (by decide) (by decide) he hpl) fun σ H Q ⟨S, q⟩ => ⟨S, fun xs H1 s1 r1 => by
    obtain ⟨x, rfl, rr⟩ := reps1 r1
    cases rr with
    | lst h r =>
      refine ⟨_, _, rfl, .inl (.of (msk_le _ _ h)), fun l hl => q l _ _ (s1.trans (same_new hl _)) (s1.free hl) upd_same ?_⟩
      rw [msk_upd (.inr rfl)]
      refine r.mono fun b o e => ?_
      obtain ⟨n, e⟩ := msk_of e
      rw [msk_out]
      · exact e
      · rintro (z | rfl)
        · exact n z
        · rw [hl] at e; cases e⟩
/-- for over range(what is drawn) -/
theorem dps_forRangeX (i0 : Nat) {Fi : ζ → Int} {tgn : Str} {tp p pos : Pos} {bdy : List Stmt} (Iv : ζ → Nat → List Sl → Prop) (hq : Γ[q]? = some (.own ps)) (hp : PassesOwn (model X.prog X.w) X.A X.env X.xe) (hc : X.calm = true) (hm : X.mg "range" = none) (h : DX X Γ e q Pz (fun z => .int (Fi z))) (hF : ∀ z, Pz z → -(2 ^ 62) ≤ Fi z ∧ Fi z < 2 ^ 62)
    (h0 : ∀ z ps', Pz z → PoolD ps' → Iv z 0 (Γ.set q (.own ps'))) (hg : PG X (.Name tgn tp) (gName i0))
    (hb : ∀ z, Pz z → ∀ (i : Nat) Γ1, i < (Fi z).toNat → Iv z i Γ1 → DPs X (Γ1.set i0 (.val (.int (i : Int)))) bdy q R (Iv z (i + 1))) (k : ∀ z, Pz z → ∀ Γ1, Iv z (Fi z).toNat Γ1 → DPs X Γ1 sts q R Nx)
    (hgl : Gl X "range" := by rfl) (hs1 : starEach [e] X.env = [(false, eval e X.env)] := by rfl) (hs2 : starEach (e :: []) X.env = (false, eval e X.env) :: starEach [] X.env := by rfl) (hs : ∀ x, foldedSetIterable (.Call (.Name "range" p) [e] [] p2) X.env x = pure x := by intro _; rfl) :
    DPs X Γ (.For (.Name tgn tp) (.Call (.Name "range" p) [e] [] p2) bdy [] pos :: sts) q R Nx := by
  refine dps_cons (Nx1 := fun Γ1 => ∃ z, Pz z ∧ Iv z (Fi z).toNat Γ1) (fun A0 => ?_) (fun Γ1 ⟨z, pz, iv⟩ => k z pz Γ1 iv)
  refine ⟨fun pins s σ H E I ⟨B, r, S, k1, k2⟩ => ?_⟩
  let tb : TS := fun E σ H => ∃ (z : ζ) (i : Nat) (Γ1 : List Sl), (Pz z ∧ i < (Fi z).toNat ∧ Iv z i Γ1) ∧ tPl X.K A0 (Γ1.set i0 (.val (.int (i : Int)))) q R (Iv z (i + 1)) E σ H
  have hbody : PSs X bdy tb := PSs_some fun z => PSs_some fun i => PSs_some fun Γ1 => PSs_somep fun h => hb z h.1 i Γ1 h.2.1 h.2.2 A0
  refine (ps_for (pos := pos) hp hc (pi_range1 (pos := p2) hgl hm (pa_cons (h A0) pa_nil hs2) hs1) hg hbody hs).run pins s σ H E I ?_
  refine ⟨B, r, S, fun z ps' v H1 pz pp S1 sm r1 => ?_⟩
  cases r1
  refine ⟨Fi z, rfl, (hF z pz).1, (hF z pz).2, ?_⟩
  refine for_it walk_range (g := gName i0) (tb := tb) (D := E) (fun i σ2 H2 => ∃ Γ2 r2, Iv z i Γ2 ∧ SR X.K A0 B Γ2 σ2 H2 r2) ⟨_, r, h0 z ps' pz pp, S1⟩ (fun _ _ _ _ _ => trivial) ?_ ?_
  · rintro i x σ2 H2 H3 hi2 ⟨Γ2, r2, iv, S2⟩ ⟨rfl, rfl⟩
    refine ⟨z, i, Γ2, ⟨pz, hi2, iv⟩, B, r2, S2.setv (by show Rep X.K _ (.int (0 + (i : Int))) _; rw [Int.zero_add]; exact .int _), k1, fun Γ5 iv5 σ5 H5 r5 S5 => ⟨Γ5, r5, iv5, S5⟩⟩
  · rintro σ2 H2 ⟨Γ2, r2, iv, S2⟩
    exact k2 Γ2 ⟨z, pz, iv⟩ σ2 H2 r2 S2
/-- name = [what is drawn for tg in iter] -/
theorem dps_setLcX {α : Type} (i0 : Nat) {scope : Scope} {own : List (Str × Nat)} {g : TG} {its : List α} {js : List Nat} {bd : α → List Sl → List Sl} {y : Str} {py spos : Pos} (hq : Γ[q]? = some (.own ps)) (hw : wipeG Γ (own.map (·.2)) = Γ) (hno : ∀ l ∈ own.map (·.2), ∀ s, Γ[l]? = some s → s = .no) (hqo : q ∉ own.map (·.2))
    (hc : X.calm = true) (hN : X.N.Nodup) (di : ∀ ps, PoolD ps → DI X (Γ.set q (.own ps)) tg iter g its js bd) (hp : PoolD ps) (ok : BlkOk X.N X.env.scope scope own) (hj : ∀ j ∈ js, j ∈ own.map (·.2))
    (hg : ∀ (s : Shared) (H : Hp) (C : Addr) (cl : List (Str × Addr)) (fp : List Addr), PG (X.blk s H scope (compEnvC scope cl C X.env) fp) tg g)
    (he : ∀ a ∈ its, ∀ ps, PoolD ps → ∀ (s : Shared) (H : Hp) (C : Addr) (cl : List (Str × Addr)) (fp : List Addr), DX (X.blk s H scope (compEnvC scope cl C X.env) fp) (bd a (Γ.set q (.own ps))) elt q Pz F)
    (hl : its.length ≤ sizeLine) (k : ∀ (zs : List ζ) (ps' : List D), zs.length = its.length → (∀ z ∈ zs, Pz z) → PoolD ps' → DPs X ((Γ.set q (.own ps')).set i0 (.val (.lst (zs.map F)))) sts q R Nx) (hi : X.N[i0]? = some y := by rfl) (hyl : X.env.scope.names.lookup y = some .local := by rfl) (hbl : ∀ a (Γ : List Sl), (bd a Γ).length = Γ.length := by intro _ _; simp)
    (hsw : swapsWith (.ListComp elt [⟨tg, iter, [], 0⟩] scope pos) (some (.Name y py)) spos.line X.env = pure true := by rfl) (hs : ∀ x, foldedSetIterable iter X.env x = pure x := by intro _; rfl) :
    DPs X Γ (.Assign [.Name y py] (.ListComp elt [⟨tg, iter, [], 0⟩] scope pos) spos :: sts) q R Nx := by
  refine dps_cons (Nx1 := fun Γ1 => ∃ (zs : List ζ) (ps' : List D), zs.length = its.length ∧ (∀ z ∈ zs, Pz z) ∧ PoolD ps' ∧ Γ1 = (Γ.set q (.own ps')).set i0 (.val (.lst (zs.map F)))) (fun A0 => ?_) (by rintro Γ1 ⟨zs, ps', h1, h2, h3, rfl⟩; exact k zs ps' h1 h2 h3)
  refine ⟨fun pins s σ H E I ⟨B, r, S, k1, k2⟩ => ?_⟩
  have di0 := di ps hp
  rw [set_self hq] at di0
  obtain ⟨wi, hi', hw'⟩ := di0.ex (Aof A0 Γ r)
  let te : TE := fun σ H Q => ∃ (a : α) (ps : List D) (A1 : Addr → Prop), (a ∈ its ∧ PoolD ps) ∧ tX X.K A1 (bd a (Γ.set q (.own ps))) q Pz F σ H Q
  have hpe : ∀ (s : Shared) (H : Hp) (C : Addr) (cl : List (Str × Addr)) (fp : List Addr), PE (X.blk s H scope (compEnvC scope cl C X.env) fp) elt te := fun s H C cl fp => PE_some fun a => PE_some fun ps => PE_some fun A1 => PE_somep fun h => he a h.1 ps h.2 s H C cl fp A1
  refine (ps_setLc (spos := spos) hc hN hi hyl hsw hi' ok hg (fun _ _ _ _ _ => pts_nil) hpe hs).run pins s σ H E I ?_
  refine hw' σ H _ S.sx fun J H1 G Y s1 wk gk yk D hD => ?_
  have il : q < Γ.length := (List.getElem?_eq_some_iff.mp hq).1
  obtain ⟨S1', sb⟩ := (S.mono s1).rebase
  have reD : ∀ b o, rebase Γ r H1 b = some o → b ≠ D := fun b o z c => by
    subst c
    have := S1'.base b o z
    rw [hD] at this; cases this
  have ownset : ∀ (ps' : List _) (i : Nat) es, (Γ.set q (.own ps'))[i]? = some (.own es) → ∃ fs, Γ[i]? = some (.own fs) := fun ps' i es e => by
    by_cases c : q = i
    · subst c; exact ⟨ps, hq⟩
    · rw [List.getElem?_set_ne c] at e; exact ⟨es, e⟩
  let AD : Addr → Prop := fun b => Aof A0 Γ r b ∨ b = D
  have iff0 : ∀ (ps2 : List _) b, Aof (fun b => A0 b ∨ b = D) (Γ.set q (.own ps2)) r b ↔ AD b := fun ps2 b => by
    constructor
    · rintro ((z | z) | z | ⟨i, es, e, z⟩)
      · exact .inl (.inl z)
      · exact .inr z
      · exact .inl (.inr (.inl z))
      · obtain ⟨fs, e2⟩ := ownset ps2 i es e
        exact .inl (.inr (.inr ⟨i, fs, e2, z⟩))
    · rintro ((z | z | ⟨i, es, e, z⟩) | z)
      · exact .inl (.inl z)
      · exact .inr (.inl z)
      · by_cases c : q = i
        · subst c; exact .inr (.inr ⟨q, ps2, List.getElem?_set_self il, z⟩)
        · exact .inr (.inr ⟨i, es, by rw [List.getElem?_set_ne c]; exact e, z⟩)
      · exact .inl (.inr z)
  have key : ∀ {ps2 : List _} {acc : List V} {σ2 : L2.St} {H2 : Hp}, SR X.K (fun b => A0 b ∨ b = D) ⟨baseD (rebase Γ r H1) D acc, B.p⟩ (Γ.set q (.own ps2)) σ2 H2 r → Same (msk (Aof A0 Γ r) H1) (msk AD H2) := fun {ps2 acc σ2 H2} S2 b o z => by
    obtain ⟨n, z⟩ := msk_of z
    have zb : rebase Γ r H1 b = some o := by
      unfold rebase
      rw [msk_out fun y => n (.inr y)]; exact z
    have nD := reD b o zb
    rw [msk_out]
    · exact S2.base b o (by show baseD _ D acc b = some o; rw [baseD_ne nD]; exact zb)
    · rintro (y | y)
      · exact n y
      · exact nD y
  refine lc_it (g := g) (tt := tYes) (te := te) (vs := own.map (·.2)) (σ := σ) (Qd := fun H => gName i0 (.ref D) σ H E.nx) wk (fun i H2 => ∃ (acc : List V) (zs : List ζ) (ps2 : List _), zs.length = i ∧ (∀ z ∈ zs, Pz z) ∧ PoolD ps2 ∧
      SR X.K (fun b => A0 b ∨ b = D) ⟨baseD (rebase Γ r H1) D acc, B.p⟩ (Γ.set q (.own ps2)) σ H2 r ∧ Reps X.K (msk AD H2) acc (zs.map F)) ?_ ?_ ?_ ?_
  · refine ⟨[], [], ps, rfl, fun _ h => (nomatch h), hp, ?_, .nil⟩
    rw [set_self hq]
    exact S1'.addD hD
  · rintro i H2 hi2 ⟨acc, zs, ps2, _, _, _, S2, _⟩
    exact gk _ H2 (key S2)
  · rintro i x H2 H3 hi2 ⟨acc, zs, ps2, hzl, hz, pp2, S2, ra⟩ y
    obtain ⟨a, ea⟩ : ∃ a, its[i]? = some a := ⟨_, List.getElem?_eq_getElem hi2⟩
    have am : a ∈ its := List.mem_of_getElem? ea
    have di2 := di ps2 pp2
    have eAD : Aof (fun b => A0 b ∨ b = D) (Γ.set q (.own ps2)) r = AD := funext fun b => propext (iff0 ps2 b)
    have Sw : SX X.K AD (Γ.set q (.own ps2)) (wipe σ (own.map (·.2))) H2 := by
      have S3 := S2.sx
      rw [eAD] at S3
      refine ⟨by rw [wipe_length]; exact S3.len, S3.dom, fun l s e => ?_⟩
      have z := S3.sl l s e
      by_cases c : l ∈ own.map (·.2)
      · have cq : q ≠ l := fun z => hqo (by rw [z]; exact c)
        rw [List.getElem?_set_ne cq] at e
        have := hno l c s e
        subst this
        trivial
      · have ew : (wipe σ (own.map (·.2)))[l]? = σ[l]? := by rw [wipe_get, if_neg c]
        rw [ew]; exact z
    refine yk AD H2 i x H3 _ _ _ a (key S2) ea y Sw fun σ3 H4 s4 S4 hl4 far => ⟨(wipe_ext hl4 fun j hj' => far j fun z => hj' (hj j z)).trans wipe_idem, ?_⟩
    have ow : ∀ (l : Nat) es, (bd a (Γ.set q (.own ps2)))[l]? = some (.own es) → l ∉ own.map (·.2) ∧ l ∉ js ∧ (Γ.set q (.own ps2))[l]? = some (.own es) := fun l es z => by
      have nj : l ∉ js := fun y => (di2.near a _ l y _ z).elim fun _ q => by cases q
      have e2 : (Γ.set q (.own ps2))[l]? = some (.own es) := by rw [← di2.far a _ l nj]; exact z
      refine ⟨fun c => ?_, nj, e2⟩
      obtain ⟨fs, e3⟩ := ownset ps2 l es e2
      have := hno l c _ e3
      cases this
    have eAD2 : Aof (fun b => A0 b ∨ b = D) (bd a (Γ.set q (.own ps2))) r = AD := funext fun b => propext (by
      rw [← iff0 ps2 b]
      constructor
      · rintro (z | z | ⟨l, es, e, z⟩)
        · exact .inl z
        · exact .inr (.inl z)
        · exact .inr (.inr ⟨l, es, (ow l es e).2.2, z⟩)
      · rintro (z | z | ⟨l, es, e, z⟩)
        · exact .inl z
        · exact .inr (.inl z)
        · have nj : l ∉ js := fun y => by
            obtain ⟨fs, e2⟩ := ownset ps2 l es e
            have := hno l (hj l y) _ e2
            cases this
          exact .inr (.inr ⟨l, es, by rw [di2.far a _ l nj]; exact e, z⟩))
    have sg : ∀ (l : Nat), l ∉ own.map (·.2) → l ∉ js → σ3[l]? = σ[l]? := fun l c nj => by rw [far l nj, wipe_get, if_neg c]
    have SS : SR X.K (fun b => A0 b ∨ b = D) ⟨baseD (rebase Γ r H1) D acc, B.p⟩ (bd a (Γ.set q (.own ps2))) σ3 H4 r := by
      refine ⟨by rw [eAD2]; exact S4, S2.base.trans s4, S2.dom0, fun l es z => ?_, fun l m es fs z1 z2 => S2.inj l m es fs (ow l es z1).2.2 (ow m fs z2).2.2, fun es z => S2.pin es (ow 0 es z).2.2, fun c j => ⟨(S2.jd c j).1, fun y => (S2.jd c j).2 (s4.free y)⟩, fun l es z => S2.jo l es (ow l es z).2.2, fun l k z => ?_⟩
      · obtain ⟨c, nj, z⟩ := ow l es z
        rw [sg l c nj]
        exact S2.own l es z
      · have nj : l ∉ js := fun y => (di2.near a _ l y _ z).elim fun _ q => by cases q
        have e2 : (Γ.set q (.own ps2))[l]? = some (.jnk k) := by rw [← di2.far a _ l nj]; exact z
        have c : l ∉ own.map (·.2) := fun c => by
          have cq : q ≠ l := fun z => hqo (by rw [z]; exact c)
          rw [List.getElem?_set_ne cq] at e2
          have := hno l c _ e2
          cases this
        rw [sg l c nj]
        exact (S2.jk l k e2).mono fun c u _ => s4 c u
    refine iteT (B := ∃ (acc : List V) (zs : List ζ) (ps2 : List _), zs.length = i + 1 ∧ (∀ z ∈ zs, Pz z) ∧ PoolD ps2 ∧
      SR X.K (fun b => A0 b ∨ b = D) ⟨baseD (rebase Γ r H1) D acc, B.p⟩ (Γ.set q (.own ps2)) σ H4 r ∧ Reps X.K (msk AD H4) acc (zs.map F)) ⟨a, ps2, _, ⟨am, pp2⟩, _, r, SS, fun z ps5 v H6 pz pp5 S6 sm6 r6 => ⟨acc, S6.atD.1, ?_, acc ++ [v], zs ++ [z], ps5, by rw [List.length_append, hzl]; rfl, fun z' hz' => ?_, pp5, ?_, ?_⟩⟩
    · rw [ra.length, List.length_map, hzl]
      exact Nat.lt_of_lt_of_le hi2 hl
    · rcases List.mem_append.mp hz' with h | h
      · exact hz z' h
      · rw [List.mem_singleton.mp h]; exact pz
    · have S7 : SR X.K (fun b => A0 b ∨ b = D) ⟨baseD (rebase Γ r H1) D acc, B.p⟩ (Γ.set q (.own ps5)) σ H6 r := by
        refine S6.move (by rw [List.length_set, List.length_set, hbl, List.length_set]) (by rw [hl4, wipe_length]) fun l s e => ?_
        by_cases c : l ∈ own.map (·.2)
        · left
          have cq : q ≠ l := fun z => hqo (by rw [z]; exact c)
          rw [List.getElem?_set_ne cq] at e
          exact hno l c s e
        · right
          have nj : l ∉ js := fun y => c (hj l y)
          refine ⟨?_, (sg l c nj).symm⟩
          by_cases cq : q = l
          · subst cq
            rw [List.getElem?_set_self il] at e
            rw [List.getElem?_set_self (by rw [hbl, List.length_set]; exact il)]
            exact e
          · rw [List.getElem?_set_ne cq] at e ⊢
            rw [di2.far a _ l nj, List.getElem?_set_ne cq]
            exact e
      exact S7.reD
    · rw [eAD2] at sm6 r6
      have mu : msk AD (upd H6 D (.lst (acc ++ [v]))) = msk AD H6 := msk_upd (.inr rfl)
      rw [mu, List.map_append]
      exact ((ra.mono (msk_same s4)).mono sm6).append (.cons r6 .nil)
  · rintro H2 ⟨acc, zs, ps2, hzl, hz, pp2, S2, ra⟩
    have hD2 := S2.atD
    have S3 : SR X.K A0 B (Γ.set q (.own ps2)) σ H2 r := (S2.outD reD S1'.dom0).back sb S.dom0
    refine k2 _ ⟨zs, ps2, hzl, hz, pp2, rfl⟩ _ H2 r (S3.setv (.lst ?_ (ra.mono (msk_sub fun b z => ?_))))
    · rw [msk_out]
      · exact hD2.1
      · rintro (z | z | ⟨i, es, e, z⟩)
        · exact S.sx.dom D (.inl z) (s1.free hD)
        · exact hD2.2.2 z
        · exact hD2.2.1 i es e z
    · rcases z with z | z | ⟨i, es, e, z⟩
      · exact .inl (.inl z)
      · exact .inl (.inr (.inl z))
      · obtain ⟨fs, e2⟩ := ownset ps2 i es e
        exact .inl (.inr (.inr ⟨i, fs, e2, z⟩))
end
end G
set_option Elab.async false
set_option linter.all false
set_option maxRecDepth 100000
namespace G
open PySem PySem.Spec PyProof.Rows L2
section
variable {X : Cx} {Γ Γ1 : List Sl} {e a b c elt tg iter : Expr} {p p2 pos : Pos} {es rest body : List Expr} {d da db : D} {ds das ps : List D} {x : Str} {i j : Int} {sts bd1 : List Stmt} {st : Stmt} {o : Out} {q : Nat} {R : D → Prop} {Nx : List Sl → Prop} {ζ : Type} {Pz : ζ → Prop} {F : ζ → D}
/-- [what is drawn for tg in iter] -/
theorem dx_lcX {α : Type} {scope : Scope} {own : List (Str × Nat)} {g : TG} {its : List α} {js : List Nat} {bd : α → List Sl → List Sl} (hq : Γ[q]? = some (.own ps)) (hw : wipeG Γ (own.map (·.2)) = Γ) (hno : ∀ l ∈ own.map (·.2), ∀ s, Γ[l]? = some s → s = .no) (hqo : q ∉ own.map (·.2))
    (hc : X.calm = true) (hN : X.N.Nodup) (di : ∀ ps, PoolD ps → DI X (Γ.set q (.own ps)) tg iter g its js bd) (hp : PoolD ps) (ok : BlkOk X.N X.env.scope scope own) (hj : ∀ j ∈ js, j ∈ own.map (·.2))
    (hg : ∀ (s : Shared) (H : Hp) (C : Addr) (cl : List (Str × Addr)) (fp : List Addr), PG (X.blk s H scope (compEnvC scope cl C X.env) fp) tg g)
    (he : ∀ a ∈ its, ∀ ps, PoolD ps → ∀ (s : Shared) (H : Hp) (C : Addr) (cl : List (Str × Addr)) (fp : List Addr), DX (X.blk s H scope (compEnvC scope cl C X.env) fp) (bd a (Γ.set q (.own ps))) elt q Pz F)
    (hl : its.length ≤ sizeLine) (hbl : ∀ a (Γ : List Sl), (bd a Γ).length = Γ.length := by intro _ _; simp) (hs : ∀ x, foldedSetIterable iter X.env x = pure x := by intro _; rfl) :
    DX X Γ (.ListComp elt [⟨tg, iter, [], 0⟩] scope pos) q (fun zs : List ζ => zs.length = its.length ∧ ∀ z ∈ zs, Pz z) (fun zs => .lst (zs.map F)) := fun A0 => by
  refine ⟨fun pins s σ H Q I ⟨B, r, S, k⟩ => ?_⟩
  have di0 := di ps hp
  rw [set_self hq] at di0
  obtain ⟨wi, hi', hw'⟩ := di0.ex (Aof A0 Γ r)
  let te : TE := fun σ H Q => ∃ (a : α) (ps : List D) (A1 : Addr → Prop), (a ∈ its ∧ PoolD ps) ∧ tX X.K A1 (bd a (Γ.set q (.own ps))) q Pz F σ H Q
  have hpe : ∀ (s : Shared) (H : Hp) (C : Addr) (cl : List (Str × Addr)) (fp : List Addr), PE (X.blk s H scope (compEnvC scope cl C X.env) fp) elt te := fun s H C cl fp => PE_some fun a => PE_some fun ps => PE_some fun A1 => PE_somep fun h => he a h.1 ps h.2 s H C cl fp A1
  refine (pe_lc (pos := pos) hc hN hi' ok hg (fun _ _ _ _ _ => pts_nil) hpe hs).run pins s σ H Q I ?_
  refine hw' σ H _ S.sx fun J H1 G Y s1 wk gk yk D hD => ?_
  have il : q < Γ.length := (List.getElem?_eq_some_iff.mp hq).1
  obtain ⟨S1', sb⟩ := (S.mono s1).rebase
  have reD : ∀ b o, rebase Γ r H1 b = some o → b ≠ D := fun b o z c => by
    subst c
    have := S1'.base b o z
    rw [hD] at this; cases this
  have ownset : ∀ (ps' : List _) (i : Nat) es, (Γ.set q (.own ps'))[i]? = some (.own es) → ∃ fs, Γ[i]? = some (.own fs) := fun ps' i es e => by
    by_cases c : q = i
    · subst c; exact ⟨ps, hq⟩
    · rw [List.getElem?_set_ne c] at e; exact ⟨es, e⟩
  let AD : Addr → Prop := fun b => Aof A0 Γ r b ∨ b = D
  have iff0 : ∀ (ps2 : List _) b, Aof (fun b => A0 b ∨ b = D) (Γ.set q (.own ps2)) r b ↔ AD b := fun ps2 b => by
    constructor
    · rintro ((z | z) | z | ⟨i, es, e, z⟩)
      · exact .inl (.inl z)
      · exact .inr z
      · exact .inl (.inr (.inl z))
      · obtain ⟨fs, e2⟩ := ownset ps2 i es e
        exact .inl (.inr (.inr ⟨i, fs, e2, z⟩))
    · rintro ((z | z | ⟨i, es, e, z⟩) | z)
      · exact .inl (.inl z)
      · exact .inr (.inl z)
      · by_cases c : q = i
        · subst c; exact .inr (.inr ⟨q, ps2, List.getElem?_set_self il, z⟩)
        · exact .inr (.inr ⟨i, es, by rw [List.getElem?_set_ne c]; exact e, z⟩)
      · exact .inl (.inr z)
  have key : ∀ {ps2 : List _} {acc : List V} {σ2 : L2.St} {H2 : Hp}, SR X.K (fun b => A0 b ∨ b = D) ⟨baseD (rebase Γ r H1) D acc, B.p⟩ (Γ.set q (.own ps2)) σ2 H2 r → Same (msk (Aof A0 Γ r) H1) (msk AD H2) := fun {ps2 acc σ2 H2} S2 b o z => by
    obtain ⟨n, z⟩ := msk_of z
    have zb : rebase Γ r H1 b = some o := by
      unfold rebase
      rw [msk_out fun y => n (.inr y)]; exact z
    have nD := reD b o zb
    rw [msk_out]
    · exact S2.base b o (by show baseD _ D acc b = some o; rw [baseD_ne nD]; exact zb)
    · rintro (y | y)
      · exact n y
      · exact nD y
  refine lc_it (g := g) (tt := tYes) (te := te) (vs := own.map (·.2)) (σ := σ) (Qd := fun H => Q (.ref D) H) wk (fun i H2 => ∃ (acc : List V) (zs : List ζ) (ps2 : List _), zs.length = i ∧ (∀ z ∈ zs, Pz z) ∧ PoolD ps2 ∧
      SR X.K (fun b => A0 b ∨ b = D) ⟨baseD (rebase Γ r H1) D acc, B.p⟩ (Γ.set q (.own ps2)) σ H2 r ∧ Reps X.K (msk AD H2) acc (zs.map F)) ?_ ?_ ?_ ?_
  · refine ⟨[], [], ps, rfl, fun _ h => (nomatch h), hp, ?_, .nil⟩
    rw [set_self hq]
    exact S1'.addD hD
  · rintro i H2 hi2 ⟨acc, zs, ps2, _, _, _, S2, _⟩
    exact gk _ H2 (key S2)
  · rintro i x H2 H3 hi2 ⟨acc, zs, ps2, hzl, hz, pp2, S2, ra⟩ y
    obtain ⟨a, ea⟩ : ∃ a, its[i]? = some a := ⟨_, List.getElem?_eq_getElem hi2⟩
    have am : a ∈ its := List.mem_of_getElem? ea
    have di2 := di ps2 pp2
    have eAD : Aof (fun b => A0 b ∨ b = D) (Γ.set q (.own ps2)) r = AD := funext fun b => propext (iff0 ps2 b)
    have Sw : SX X.K AD (Γ.set q (.own ps2)) (wipe σ (own.map (·.2))) H2 := by
      have S3 := S2.sx
      rw [eAD] at S3
      refine ⟨by rw [wipe_length]; exact S3.len, S3.dom, fun l s e => ?_⟩
      have z := S3.sl l s e
      by_cases c : l ∈ own.map (·.2)
      · have cq : q ≠ l := fun z => hqo (by rw [z]; exact c)
        rw [List.getElem?_set_ne cq] at e
        have := hno l c s e
        subst this
        trivial
      · have ew : (wipe σ (own.map (·.2)))[l]? = σ[l]? := by rw [wipe_get, if_neg c]
        rw [ew]; exact z
    refine yk AD H2 i x H3 _ _ _ a (key S2) ea y Sw fun σ3 H4 s4 S4 hl4 far => ⟨(wipe_ext hl4 fun j hj' => far j fun z => hj' (hj j z)).trans wipe_idem, ?_⟩
    have ow : ∀ (l : Nat) es, (bd a (Γ.set q (.own ps2)))[l]? = some (.own es) → l ∉ own.map (·.2) ∧ l ∉ js ∧ (Γ.set q (.own ps2))[l]? = some (.own es) := fun l es z => by
      have nj : l ∉ js := fun y => (di2.near a _ l y _ z).elim fun _ q => by cases q
      have e2 : (Γ.set q (.own ps2))[l]? = some (.own es) := by rw [← di2.far a _ l nj]; exact z
      refine ⟨fun c => ?_, nj, e2⟩
      obtain ⟨fs, e3⟩ := ownset ps2 l es e2
      have := hno l c _ e3
      cases this
    have eAD2 : Aof (fun b => A0 b ∨ b = D) (bd a (Γ.set q (.own ps2))) r = AD := funext fun b => propext (by
      rw [← iff0 ps2 b]
      constructor
      · rintro (z | z | ⟨l, es, e, z⟩)
        · exact .inl z
        · exact .inr (.inl z)
        · exact .inr (.inr ⟨l, es, (ow l es e).2.2, z⟩)
      · rintro (z | z | ⟨l, es, e, z⟩)
        · exact .inl z
        · exact .inr (.inl z)
        · have nj : l ∉ js := fun y => by
            obtain ⟨fs, e2⟩ := ownset ps2 l es e
            have := hno l (hj l y) _ e2
            cases this
          exact .inr (.inr ⟨l, es, by rw [di2.far a _ l nj]; exact e, z⟩))
    have sg : ∀ (l : Nat), l ∉ own.map (·.2) → l ∉ js → σ3[l]? = σ[l]? := fun l c nj => by rw [far l nj, wipe_get, if_neg c]
    have SS : SR X.K (fun b => A0 b ∨ b = D) ⟨baseD (rebase Γ r H1) D acc, B.p⟩ (bd a (Γ.set q (.own ps2))) σ3 H4 r := by
      refine ⟨by rw [eAD2]; exact S4, S2.base.trans s4, S2.dom0, fun l es z => ?_, fun l m es fs z1 z2 => S2.inj l m es fs (ow l es z1).2.2 (ow m fs z2).2.2, fun es z => S2.pin es (ow 0 es z).2.2, fun c j => ⟨(S2.jd c j).1, fun y => (S2.jd c j).2 (s4.free y)⟩, fun l es z => S2.jo l es (ow l es z).2.2, fun l k z => ?_⟩
      · obtain ⟨c, nj, z⟩ := ow l es z
        rw [sg l c nj]
        exact S2.own l es z
      · have nj : l ∉ js := fun y => (di2.near a _ l y _ z).elim fun _ q => by cases q
        have e2 : (Γ.set q (.own ps2))[l]? = some (.jnk k) := by rw [← di2.far a _ l nj]; exact z
        have c : l ∉ own.map (·.2) := fun c => by
          have cq : q ≠ l := fun z => hqo (by rw [z]; exact c)
          rw [List.getElem?_set_ne cq] at e2
          have := hno l c _ e2
          cases this
        rw [sg l c nj]
        exact (S2.jk l k e2).mono fun c u _ => s4 c u
    refine iteT (B := ∃ (acc : List V) (zs : List ζ) (ps2 : List _), zs.length = i + 1 ∧ (∀ z ∈ zs, Pz z) ∧ PoolD ps2 ∧
      SR X.K (fun b => A0 b ∨ b = D) ⟨baseD (rebase Γ r H1) D acc, B.p⟩ (Γ.set q (.own ps2)) σ H4 r ∧ Reps X.K (msk AD H4) acc (zs.map F)) ⟨a, ps2, _, ⟨am, pp2⟩, _, r, SS, fun z ps5 v H6 pz pp5 S6 sm6 r6 => ⟨acc, S6.atD.1, ?_, acc ++ [v], zs ++ [z], ps5, by rw [List.length_append, hzl]; rfl, fun z' hz' => ?_, pp5, ?_, ?_⟩⟩
    · rw [ra.length, List.length_map, hzl]
      exact Nat.lt_of_lt_of_le hi2 hl
    · rcases List.mem_append.mp hz' with h | h
      · exact hz z' h
      · rw [List.mem_singleton.mp h]; exact pz
    · have S7 : SR X.K (fun b => A0 b ∨ b = D) ⟨baseD (rebase Γ r H1) D acc, B.p⟩ (Γ.set q (.own ps5)) σ H6 r := by
        refine S6.move (by rw [List.length_set, List.length_set, hbl, List.length_set]) (by rw [hl4, wipe_length]) fun l s e => ?_
        by_cases c : l ∈ own.map (·.2)
        · left
          have cq : q ≠ l := fun z => hqo (by rw [z]; exact c)
          rw [List.getElem?_set_ne cq] at e
          exact hno l c s e
        · right
          have nj : l ∉ js := fun y => c (hj l y)
          refine ⟨?_, (sg l c nj).symm⟩
          by_cases cq : q = l
          · subst cq
            rw [List.getElem?_set_self il] at e
            rw [List.getElem?_set_self (by rw [hbl, List.length_set]; exact il)]
            exact e
          · rw [List.getElem?_set_ne cq] at e ⊢
            rw [di2.far a _ l nj, List.getElem?_set_ne cq]
            exact e
      exact S7.reD
    · rw [eAD2] at sm6 r6
      have mu : msk AD (upd H6 D (.lst (acc ++ [v]))) = msk AD H6 := msk_upd (.inr rfl)
      rw [mu, List.map_append]
      exact ((ra.mono (msk_same s4)).mono sm6).append (.cons r6 .nil)
  · rintro H2 ⟨acc, zs, ps2, hzl, hz, pp2, S2, ra⟩
    have hD2 := S2.atD
    have S3 : SR X.K A0 B (Γ.set q (.own ps2)) σ H2 r := (S2.outD reD S1'.dom0).back sb S.dom0
    refine k zs ps2 _ H2 ⟨hzl, hz⟩ pp2 S3 (((msk_same s1).trans (key S2)).trans (msk_sub fun b z => .inl z)) (.lst ?_ (ra.mono (msk_sub fun b z => .inl z)))
    rw [msk_out]
    · exact hD2.1
    · rintro (z | z | ⟨i, es, e, z⟩)
      · exact S.sx.dom D (.inl z) (s1.free hD)
      · exact hD2.2.2 z
      · by_cases c : q = i
        · subst c; exact hD2.2.1 q ps2 (List.getElem?_set_self il) z
        · exact hD2.2.1 i es (by rw [List.getElem?_set_ne c]; exact e) z
end
end G
set_option Elab.async false
set_option linter.all false
set_option maxRecDepth 100000
set_option maxHeartbeats 4000000
namespace L2
open PySem PySem.Spec PyProof.Rows
section
variable {P : Program} {w : World} {A : Around} {E : Value → Shared → Prop} {s : Shared}
/-- the empty set, as set(..) makes it first -/
abbrev mt (w : World) : Obj := { cls := .type "set", dict := none, data := .set #[] 0 (.fresh 0 0 (!w.params.followText "set-order")) }
/-- set.__init__ of a list of ints -/
theorem set_init_listI {l : Addr} {items : Array Value} {ns : List Int} {R : Value → Shared → Prop} (hh : A.handled = none) (hl : s.heap.IsList l items) (hit : IntsAre items.toList ns) (hb : ns.length + 1 < scanBound)
    (h : ∀ (h' : Heap) (tk c : Nat), SetR w h' s.heap.objs.size (fun j => decide (j ∈ ns)) c → c ≤ ns.length → (∀ b o, s.heap.get? b = some o → h'.get? b = some o) → R (.ref s.heap.objs.size) { s with heap := h', toks := tk }) :
    wpAny (model P w) A (call (.type "set") [.ref l]) R E s := by
  have hn : items.size = ns.length := by
    have q := IntsAre.length hit
    rwa [Array.length_toList] at q
  obtain ⟨c, tl, hmro⟩ := F.called_set.mro
  have f1 := F.called_set.made
  have f2 := F.called_set.sub
  have f3 := F.called_set.notType
  have f4 := F.called_set.canCreate
  have f5 := F.typeCall_set_1 (.ref l)
  refine wpAny_call (codeAny_of_tree ?_)
  show wpAny _ _ (callAny (.type "set") _) _ _ _
  refine wpAny_pure ⟨Code.quiet_builtin _ (by decide +kernel), codeAny_builtin F.entry_type_call ?_⟩
  rw [Around.under_plain (weight_type_call_type "set" [.ref l] []) rfl]
  repeat (any_goals (first | assumption | wp_step))
  refine codeAny_mono (code_set_led1 (.ref l) (E := E) (Q₁ := fun obj s₁ => obj = .ref s.heap.objs.size ∧ s₁ = { s with heap := s.heap.push (mt w) }) ⟨rfl, rfl⟩) fun r s₁ hr => ?_
  cases r with
  | error e => exact hr
  | ok fl =>
    cases fl with
    | ret obj =>
      obtain ⟨rfl, rfl⟩ := hr
      have g1 : (s.heap.push (mt w)).get? s.heap.objs.size = some (mt w) := Heap.get?_push_size _ rfl
      have g2 : Shared.TypeIs { s with heap := s.heap.push (mt w) } (.ref s.heap.objs.size) "set" := ⟨_, g1, rfl⟩
      have g3 := F.called_set.init.lookup
      have g4 := F.called_set.init.bind (.ref s.heap.objs.size)
      repeat (any_goals (first | assumption | wp_step))
      refine codeAny_mono (codeAny_call_builtin (R := wants (fun r s₂ => r = .none ∧ ∃ h' tk c, s₂ = { s with heap := h', toks := tk } ∧ SetR w h' s.heap.objs.size (fun j => decide (j ∈ ns)) c ∧ c ≤ ns.length ∧
          (∀ b o, s.heap.get? b = some o → h'.get? b = some o)) E) F.called_set.init.plain F.entry_set_init (check_set_init_1 g2 ?_)) fun r₂ s₂ hr₂ => ?_
      · have hl1 : (s.heap.push (mt w)).IsList l items := hl.push _
        have lS : l < s.heap.objs.size := by
          obtain ⟨o, e, _⟩ := hl
          exact Heap.lt_size e
        obtain ⟨ol, hol, hcl, nl, hdl⟩ := hl1
        obtain ⟨ocls, odict, odata, oslots⟩ := ol
        simp only at hcl hdl
        subst hcl; subst hdl
        have k1 := F.sub_list_set
        have k2 := F.sub_list_frozenset
        have k3 : (Value.type "list" == Value.type "dict") = false := by decide
        have hl1 : (s.heap.push (mt w)).IsList l items := ⟨_, hol, rfl, nl, rfl⟩
        unfold Builtin.«set.__init__» noKeywords Builtin.Frozenset.updateFrom
        generalize hPI : pyIter = PI
        wp_walk
        subst hPI
        refine wpAny_pyIter_list hl1 (wpAny_bind (wpAny_runValue ?_))
        have hz : (s.heap.push (mt w)).objs.size = s.heap.objs.size + 1 := Heap.size_push ..
        refine set_update_ints ((Walks.list (show A.in1.in1.in1.handled = none by simp [hh]) _ l (by rw [hz]; exact Nat.ne_of_lt (Nat.lt_succ_of_lt lS)) items).toS) s.heap.objs.size
          (by rw [hz]; simp only [List.mem_cons, List.not_mem_nil, or_false, not_or]; exact ⟨Nat.ne_of_lt (Nat.lt_succ_self _), Nat.ne_of_gt lS⟩) ns hn hb (fun i v hv => ?_) (items.size - 0) 0 _ (by omega) (Nat.zero_le _)
          ⟨⟨_, Heap.get?_push_size _ rfl, rfl, rfl⟩, (hl1.push _)⟩ ⟨0, Nat.le_refl 0, setR_new_at (Heap.get?_push_of_some _ g1)⟩ fun s' c' hm hc' hS' => ?_
        · have hi : i < ns.length := by rw [← hn]; exact (Array.getElem?_eq_some_iff.mp hv).1
          obtain ⟨t, e⟩ := IntsAre.int_at hit i v (by rw [Array.getElem?_toList]; exact hv)
          refine ⟨ns[i], t, List.getElem?_eq_getElem hi, ?_⟩
          rw [e, List.getD_eq_getElem?_getD, List.getElem?_eq_getElem hi] <;> rfl
        · obtain ⟨h', ga, d', tk', os'⟩ := s'
          have e1 : ga = s.gens := hm.gens
          have e2 : d' = s.drawn := hm.drawn
          have e3 : os' = s.os := hm.os
          subst e1 e2 e3
          show wpAny _ _ _ _ _ _
          refine wpAny_pure ?_
          show wpAny _ _ (ret Value.none) _ _ _
          rw [hn] at hc'
          refine wpAny_pure ⟨rfl, h', tk', c', rfl, hS', hc', fun b o e => ?_⟩
          have hb := Heap.lt_size e
          exact hm.heap b o (by rw [hz]; simp only [List.mem_cons, List.not_mem_nil, or_false, not_or]; exact ⟨Nat.ne_of_lt hb, Nat.ne_of_lt (Nat.lt_succ_of_lt hb)⟩) (Heap.get?_push_of_some _ (Heap.get?_push_of_some _ e))
      · cases r₂ with
        | error e => exact hr₂
        | ok fl₂ =>
          cases fl₂ with
          | ret r =>
            obtain ⟨rfl, h', tk, c', rfl, hS', hc', hk'⟩ := hr₂
            repeat (any_goals (first | assumption | wp_step))
            exact h _ _ _ hS' hc' hk'
          | _ => exact hr₂.elim
    | _ => exact hr.elim
end
/-- sorted(set(list of ints)) -/
def tSortSet (K : PySem.W.Frag) (ta : TE) : TE := fun σ H Q => ta σ H fun x H1 => ∃ (l : Addr) (ns : List Int), x = .ref l ∧ SqL K H1 l (ns.map V.int) ∧ ns.length < 64 ∧
  ∀ (ms : List Int) (p : Addr), ms.Pairwise (· < ·) → (∀ k, k ∈ ms ↔ k ∈ ns) → H1 p = none → Q (.ref p) (upd H1 p (.lst (ms.map V.int)))
theorem pe_sortSet {X : Cx} {a : Expr} {ta : TE} {p p2 q pos : Pos} (hg : Gl X "sorted") (hm : X.mg "sorted" = none) (hg2 : Gl X "set") (hm2 : X.mg "set" = none) (ha : PE X a ta) (hc : X.calm = true := by rfl)
    (na : starEach [a] X.env = (false, eval a X.env) :: starEach [] X.env := by rfl) : PE X (.Call (.Name "sorted" p) [.Call (.Name "set" p2) [a] [] q] [] pos) (tSortSet X.K ta) := by
  refine ⟨fun pins s σ H Q I h => ?_⟩
  refine Call_ (ld_blt I hg hm PyProof.Rows.boot_sorted ?_)
  refine PyProof.Rows.callWith_builtin1 (PyProof.Rows.args_cons ?_ rfl) rfl rfl
  refine Call_ (ld_blt I hg2 hm2 PyProof.Rows.boot_set ?_)
  refine PyProof.Rows.callWith_type1 (PyProof.Rows.args_cons (thn (ha.run pins s σ H _ I h) fun v s1 ⟨x, H1, I1, r1, q1⟩ => PyProof.Rows.args_nil ?_) na) na rfl
  obtain ⟨l, ns, rfl, hq, hl, q1⟩ := q1
  cases r1
  obtain ⟨its, r, pl, hz⟩ := I1.list hq
  refine set_init_listI (I1.ok.hd hc) pl.isList (by simpa using ints_of_vals r) (by unfold scanBound; omega) fun h' tk c0 hS hcn hk => ?_
  refine PyProof.Rows.args_nil ?_
  have I2 : Inv X pins σ H1 { s1 with heap := h', toks := tk } := I1.kept hk
  refine sorted_set hS (I1.ok.hd hc) (by omega) fun s' p out c ms k g o hp hg hi hs hmm hl2 => ?_
  have hlen : (ms.map V.int).length ≤ sizeLine := by
    rw [List.length_map, hl2]
    have : (64 : Nat) ≤ sizeLine := by decide
    omega
  have hn : H1 p = none := I2.hok.fresh hp
  have J : Inv X pins σ (upd H1 p (.lst (ms.map V.int))) { ({ s1 with heap := h', toks := tk } : Shared) with heap := s'.heap, gens := s'.gens, drawn := s'.drawn, toks := s'.toks } :=
    I2.call (ch := []) (Un.laid k hp hn) (I2.hok.laid k hp ⟨hlen, out.toList, c, vals_of_ints hi, hg⟩) (by rw [g]; exact I2.bare) (fun _ z => nomatch z)
  have e : s' = { ({ s1 with heap := h', toks := tk } : Shared) with heap := s'.heap, gens := s'.gens, drawn := s'.drawn, toks := s'.toks } := by
    cases s'
    cases o
    rfl
  rw [e]
  exact ⟨.ref p, _, J, rfl, q1 ms p hs (fun k => by rw [hmm k]; exact decide_eq_true_iff) hn⟩
end L2
set_option Elab.async false
set_option linter.all false
set_option maxRecDepth 100000
set_option maxHeartbeats 4000000
namespace HT
open PySem PySem.Spec PyProof.Rows PySem.Calls PySem.W
section
variable {prog : Program} {w : World} {A : Around} {E : Value → Shared → Prop} {s : Shared}
/-- the bounds of [::-1] -/
theorem applied_back {sl : Addr} {u : Tok} {n : Nat} {Q : Int × Int × Nat → Shared → Prop} (hs : s.heap.IsSliceOf sl .none .none (.int (-1) u)) (h : Q ((n : Int) - 1, -1, n) s) : wpAny (model prog w) A (Builtin.Slice.sliceApplied (.ref sl) (pure (n : Int))) Q E s := by
  obtain ⟨os, hos, _, hds⟩ := id hs
  unfold Builtin.Slice.sliceApplied Builtin.Slice.sliceFields
  refine wpAny_bind (wpAny_bind (wpAny_field hos hds (x := .none) rfl (wpAny_bind (wpAny_field hos hds (x := .none) rfl (wpAny_bind (wpAny_field hos hds (x := .int (-1) u) rfl (wpAny_pure ?_)))))))
  refine wpAny_bind (slicePart_int ?_)
  show wpAny _ _ (if ((-1 : Int) == 0) = true then _ else _) _ _ s
  rw [if_neg (by decide)]
  refine wpAny_bind (slicePart_none (wpAny_bind (slicePart_none (wpAny_bind (wpAny_pure (wpAny_pure ?_))))))
  have e : Builtin.Slice.slicePlaces ((n : Int) - 1) (-1) (-1) = n := by
    unfold Builtin.Slice.slicePlaces
    rw [if_neg (by decide)]
    by_cases c : (n : Int) - 1 > -1
    · rw [if_pos c, show (- -1 : Int) = 1 by decide, Int.ediv_one]; omega
    · rw [if_neg c]; omega
  show Q ((n : Int) - 1, -1, Builtin.Slice.slicePlaces ((n : Int) - 1) (-1) (-1)) s
  rw [e]; exact h
theorem fm_congr {α β : Type} {f g : α → Option β} : ∀ {l : List α}, (∀ x ∈ l, f x = g x) → l.filterMap f = l.filterMap g
  | [], _ => rfl
  | x :: l, h => by
    rw [List.filterMap_cons, List.filterMap_cons, h x (List.mem_cons_self ..), fm_congr fun y hy => h y (List.mem_cons_of_mem _ hy)]
theorem fm_some {α β : Type} {g : α → β} : ∀ {l : List α}, l.filterMap (fun x => some (g x)) = l.map g
  | [] => rfl
  | x :: l => by
    rw [List.filterMap_cons, fm_some, List.map_cons]
theorem back_pick (xs : Array Value) : ((List.range xs.size).filterMap fun (k : Nat) => xs[(((xs.size : Nat) : Int) - 1 + (k : Int) * -1).toNat]?).toArray = xs.toList.reverse.toArray := by
  refine congrArg List.toArray ?_
  have e : (List.range xs.size).filterMap (fun (k : Nat) => xs[(((xs.size : Nat) : Int) - 1 + (k : Int) * -1).toNat]?) = (List.range xs.size).filterMap fun k => some (xs.toList.reverse.getD k default) := by
    refine fm_congr fun k hk => ?_
    have hk := List.mem_range.mp hk
    have e1 : (((xs.size : Nat) : Int) - 1 + (k : Int) * -1).toNat = xs.size - 1 - k := by omega
    rw [e1, List.getD_eq_getElem?_getD, List.getElem?_reverse (by rw [Array.length_toList]; exact hk), Array.length_toList, Array.getElem?_toList, Array.getElem?_eq_getElem (by omega)]
    rfl
  rw [e, fm_some]
  refine List.ext_getElem (by rw [List.length_map, List.length_range, List.length_reverse, Array.length_toList]) fun i h1 h2 => ?_
  rw [List.getElem_map, List.getElem_range, List.getD_eq_getElem?_getD, List.getElem?_eq_getElem h2]; rfl
theorem getItem_back {t sl : Addr} {items : Array Value} {u : Tok} {Q : Value → Shared → Prop} (ht : IsTup s.heap t items) (hs : s.heap.IsSliceOf sl .none .none (.int (-1) u))
    (h : Q (.ref s.heap.objs.size) { s with heap := s.heap.push { cls := .type "tuple", data := .seq items.toList.reverse.toArray } }) (hsz : items.size ≤ sizeLine) : wpAny (model prog w) A (getItem (.ref t) (.ref sl)) Q E s := by
  have hok : sizeOk (.seq items.toList.reverse.toArray) := by
    show items.toList.reverse.toArray.size ≤ sizeLine
    rw [List.size_toArray, List.length_reverse, Array.length_toList]
    exact hsz
  obtain ⟨os, hos, hcs, hds⟩ := id hs
  have hTs : s.TypeIs (.ref sl) "slice" := ⟨os, hos, hcs⟩
  unfold getItem
  try with_reducible refine wpAny_holding ?_
  first | refine wpAny_bind (wpAny_pure ?_) | skip
  refine wpAny_bind (wpAny_sequenceKey ht.typeIs (by decide) ?_)
  refine wpAny_bind (wpAny_callSpecial?_slot (name := Str.ofString "__getitem__") ht.typeIs PyProof.Rows.slot_tuple_getitem
    (wpAny_call_entry PyProof.Rows.slot_tuple_getitem ht.typeIs entry_tuple_getitem ?_ (args_tuple_getitem _ _)))
  show wpAny _ _ (Builtin.Tuple.tupleItemsOf (.ref t) >>= _) _ _ s
  refine wpAny_bind (tupleItemsOf_ ht ?_)
  refine wpAny_bind (wpAny_typeOf hTs ?_)
  rw [if_pos (by decide)]
  refine wpAny_bind (applied_back (n := items.size) hs ?_)
  have hno : ¬ ((((items.size : Nat) : Int) - 1 == 0 && (-1 : Int) == 1 && items.size == items.size) = true) := by simp
  show wpAny _ _ (if (((items.size : Nat) : Int) - 1 == 0 && (-1 : Int) == 1 && items.size == items.size) = true then _ else _) _ _ s
  rw [if_neg hno, back_pick]
  first
    | exact wpAny_bind (m := Builtin.Tuple.tupleExact _) (wpAny_newObj_type (wpAny_pure ⟨_, rfl, wpAny_pure h⟩) hok)
    | exact wpAny_bind (m := Builtin.Tuple.tupleExact _) (wpAny_newObj_type (wpAny_bind (wpAny_pure (wpAny_pure ⟨_, rfl, wpAny_pure h⟩))) hok)
    | exact wpAny_bind (wpAny_bind (m := Builtin.Tuple.tupleExact _) (wpAny_newObj_type (wpAny_pure (wpAny_pure ⟨_, rfl, wpAny_pure h⟩)) hok))
    | exact wpAny_bind (wpAny_bind (m := Builtin.Tuple.tupleExact _) (wpAny_newObj_type (wpAny_pure ⟨_, rfl, wpAny_pure h⟩) hok))
end
end HT
namespace L2
open PySem PySem.Spec PyProof.Rows
section
variable {X : Cx}
def tRevT (K : PySem.W.Frag) (te : TE) : TE := fun σ H Q => te σ H fun x H1 => ∃ a xs, x = .ref a ∧ SqT K H1 a xs ∧ ∀ p, H1 p = none → Q (.ref p) (upd H1 p (.tup xs.reverse))
theorem pe_revT {e : Expr} {te : TE} {k : Nat} {p1 p2 p3 pos : Pos} (he : PE X e te) : PE X (.Subscript e (.Slice none none (some (.UnaryOp .USub (.Constant (.int 1) k p1) p2)) p3) pos) (tRevT X.K te) := by
  refine ⟨fun pins s σ H Q I h => ?_⟩
  refine Subscript_ (thn (he.run pins s σ H _ I h) fun v s1 ⟨x, H1, I1, r1, a, xs, ex, hx, q⟩ => ?_)
  subst ex
  cases r1
  refine wpAny_Slice (thn (po_none.run pins s1 σ H1 (fun o H2 => o = none ∧ H2 = H1) I1 ⟨rfl, rfl⟩) fun vl s2 ⟨l, H2, I2, pl, el, e2⟩ => ?_)
  subst el e2
  refine thn (po_none.run pins s2 σ H2 (fun o H3 => o = none ∧ H3 = H2) I2 ⟨rfl, rfl⟩) fun vu s3 ⟨u, H3, I3, pu, eu, e3⟩ => ?_
  subst eu e3
  have hst : PO X (some (.UnaryOp .USub (.Constant (.int 1) k p1) p2)) (tPart (tUn (rU fun i => .int (-i)) (tC (.int 1)))) := po_some (pe_un un_neg pe_int)
  refine thn (hst.run pins s3 σ H3 (fun o H4 => o = some (-1) ∧ H4 = H3) I3 ⟨1, rfl, -1, rfl, rfl, rfl⟩) fun vs s4 ⟨o, H4, I4, ps, eo, e4⟩ => ?_
  subst eo e4
  cases pl
  cases pu
  cases ps with
  | int i tk =>
    have I5 : Inv X pins σ H4 { s4 with heap := s4.heap.push { cls := .type "slice", data := .fields #[.none, .none, .int (-1) tk] } } := I4.kept (t' := s4.toks) fun b ob q => Heap.get?_push_of_some _ q
    obtain ⟨its, r, ht, hz⟩ := I5.tuple hx
    have hlen := r.length
    show wpAny (model X.prog X.w) X.A (subscriptTail e (.Slice none none (some (.UnaryOp .USub (.Constant (.int 1) k p1) p2)) p3) (.ref a) (.ref s4.heap.objs.size)) (EP X pins σ Q) X.xe _
    refine tail_any (ops := [.ref a, .ref s4.heap.objs.size]) ht.typeIs (PyProof.Rows.slot_tuple_getitem.lookup) ?_ (by with_unfolding_all rfl)
    refine HT.getItem_back ht (Heap.IsSliceOf.new _ .none .none _) ?_ (by rw [List.size_toArray]; omega)
    refine ⟨.ref _, _, I5.laid (t' := s4.toks) (o := .tup xs.reverse) (fun b ob q => Heap.get?_push_of_some _ q) (Nat.le_refl _) ?_, rfl, q _ (I5.hok.fresh (Nat.le_refl _))⟩
    exact ⟨by rw [List.length_reverse]; omega, _, r.reverse, IsTup.new _ _⟩
end
end L2
set_option Elab.async false
set_option linter.all false
set_option maxRecDepth 100000
namespace G
open PySem PySem.Spec PyProof.Rows L2
/-- the members, each once -/
def dd : List Int → List Int
  | [] => []
  | x :: xs => if x ∈ xs then dd xs else x :: dd xs
theorem dd_mem {y : Int} : ∀ {xs : List Int}, y ∈ dd xs ↔ y ∈ xs
  | [] => Iff.rfl
  | x :: xs => by
    unfold dd
    by_cases c : x ∈ xs
    · rw [if_pos c, dd_mem, List.mem_cons]
      exact ⟨.inr, fun h => h.elim (fun e => e ▸ c) id⟩
    · rw [if_neg c, List.mem_cons, List.mem_cons, dd_mem]
theorem dd_nodup : ∀ xs : List Int, (dd xs).Nodup
  | [] => List.nodup_nil
  | x :: xs => by
    unfold dd
    by_cases c : x ∈ xs
    · rw [if_pos c]; exact dd_nodup xs
    · rw [if_neg c]; exact List.nodup_cons.mpr ⟨fun h => c (dd_mem.mp h), dd_nodup xs⟩
/-- sorted(set(xs)) -/
def srtS (xs : List Int) : List Int := srt (dd xs)
theorem srtS_strict (xs : List Int) : (srtS xs).Pairwise (· < ·) := by
  have h1 := srt_sorted (dd xs)
  have h2 : (srtS xs).Nodup := (srt_perm _).nodup_iff.mpr (dd_nodup xs)
  exact (h1.and h2).imp fun ⟨a, b⟩ => by omega
theorem srtS_mem {xs : List Int} {y : Int} : y ∈ srtS xs ↔ y ∈ xs := ((srt_perm _).mem_iff).trans dd_mem
theorem strict_ext : ∀ {as bs : List Int}, as.Pairwise (· < ·) → bs.Pairwise (· < ·) → (∀ k, k ∈ as ↔ k ∈ bs) → as = bs
  | [], [], _, _, _ => rfl
  | [], b :: bs, _, _, h => absurd ((h b).mpr (List.mem_cons_self ..)) (fun z => nomatch z)
  | a :: as, [], _, _, h => absurd ((h a).mp (List.mem_cons_self ..)) (fun z => nomatch z)
  | a :: as, b :: bs, h1, h2, h => by
    obtain ⟨a1, a2⟩ := List.pairwise_cons.mp h1
    obtain ⟨b1, b2⟩ := List.pairwise_cons.mp h2
    have e : a = b := by
      rcases List.mem_cons.mp ((h a).mp (List.mem_cons_self ..)) with e | e
      · exact e
      · rcases List.mem_cons.mp ((h b).mpr (List.mem_cons_self ..)) with e2 | e2
        · exact e2.symm
        · have := a1 b e2
          have := b1 a e
          omega
    subst e
    refine congrArg (a :: ·) (strict_ext a2 b2 fun k => ⟨fun hk => ?_, fun hk => ?_⟩)
    · rcases List.mem_cons.mp ((h k).mp (List.mem_cons_of_mem _ hk)) with e | e
      · have := a1 k hk; omega
      · exact e
    · rcases List.mem_cons.mp ((h k).mpr (List.mem_cons_of_mem _ hk)) with e | e
      · have := b1 k hk; omega
      · exact e
theorem srtS_of {xs ms : List Int} (h1 : ms.Pairwise (· < ·)) (h2 : ∀ k, k ∈ ms ↔ k ∈ xs) : ms = srtS xs := strict_ext h1 (srtS_strict xs) fun k => (h2 k).trans srtS_mem.symm
theorem reps_rev {K : PySem.W.Frag} {H : Hp} : ∀ {vs : List V} {ds : List D}, Reps K H vs ds → Reps K H vs.reverse ds.reverse
  | [], _, r => by cases r; exact .nil
  | v :: vs, _, r => by
    cases r with
    | cons r1 r2 =>
      rw [List.reverse_cons, List.reverse_cons]
      exact (reps_rev r2).append (.cons r1 .nil)
section
variable {X : Cx} {Γ : List Sl} {e a b lo hi : Expr} {p p2 q pos : Pos} {d : D} {ds as bs : List D} {ns : List Int} {i : Int} {α : Type} {en : α → D} {xs ys : List α}
theorem dn_sortSet (h : DE X Γ e (eL D.int ns)) (hl : ns.length < 64) (hm : X.mg "sorted" = none) (hm2 : X.mg "set" = none) (hg : Gl X "sorted" := by rfl) (hg2 : Gl X "set" := by rfl) (hc : X.calm = true := by rfl) (na : starEach [e] X.env = (false, eval e X.env) :: starEach [] X.env := by rfl) :
    DN X Γ (.Call (.Name "sorted" p) [.Call (.Name "set" p2) [e] [] q] [] pos) FrI (srtS ns) := fun A =>
  impE (pe_sortSet hg hm hg2 hm2 (h A) hc na) fun σ H Q ⟨S, k⟩ => ⟨S, fun v H1 s1 r1 => by
    cases r1 with
    | lst h1 r1 =>
      have e := r1.ints
      subst e
      refine ⟨_, _, rfl, .of (msk_le _ _ h1), hl, fun ms p hs hmm hp => ?_⟩
      rw [srtS_of hs hmm]
      exact k _ _ (s1.trans (same_new hp _)) ⟨p, rfl, s1.free hp, upd_same⟩⟩
theorem de_revT {k : Nat} {p1 p2 p3 : Pos} (h : DE X Γ e (eT en xs)) : DE X Γ (.Subscript e (.Slice none none (some (.UnaryOp .USub (.Constant (.int 1) k p1) p2)) p3) pos) (eT en xs.reverse) := fun A =>
  impE (pe_revT (h A)) fun σ H Q ⟨S, q⟩ => ⟨S, fun v H1 s1 r1 => by
    cases r1 with
    | @tup a0 vs0 _ h1 r1 =>
      refine ⟨_, _, rfl, same_sqT msk_le h1, fun p hp => ?_⟩
      have r2 : Reps X.K (msk A H1) vs0.reverse (xs.reverse.map en) := by rw [List.map_reverse]; exact reps_rev r1
      exact q _ _ (s1.trans (same_new hp _)) (rep_new_tup (dom_mono s1 S.dom) hp r2)⟩
theorem de_slT {lo hi : Option Expr} {l h : Option Int} {p2} (hw : ¬ (HT.sIx ds.length 0 l = 0 ∧ HT.sIx ds.length ds.length h = ds.length)) (ha : DE X Γ a (.tup ds)) (hl : DO X Γ lo l) (hh : DO X Γ hi h) : DE X Γ (.Subscript a (.Slice lo hi none p2) pos) (.tup (cutG ds l h)) := fun A =>
  impE (pe_slice sl_tup (dt_of ha A) (hl A) (hh A)) fun σ H Q ⟨S, q⟩ => ⟨S, fun p vs H1 s1 e1 r1 => ⟨S.mono s1, fun H2 s2 => ⟨S.mono (s1.trans s2), fun H3 s3 =>
    ⟨p, vs, rfl, same_sqT (s2.trans s3) e1, by rw [r1.length]; exact hw, fun q' hq => q _ _ (((s1.trans s2).trans s3).trans (same_new hq _)) (rep_new_tup (dom_mono ((s1.trans s2).trans s3) S.dom) hq (reps_cut (r1.mono (msk_same (s2.trans s3))) l h))⟩⟩⟩⟩
theorem de_fromT {lo : Expr} {p2} (h0 : 0 < i) (h1 : 0 < xs.length) (ha : DE X Γ a (eT en xs)) (hl : DE X Γ lo (.int i)) : DE X Γ (.Subscript a (.Slice (some lo) none none p2) pos) (eT en (xs.drop i.toNat)) := by
  have q := de_slT (pos := pos) (p2 := p2) (ds := xs.map en) (by
    rintro ⟨z, _⟩
    obtain ⟨n, rfl⟩ := Int.eq_ofNat_of_zero_le (Int.le_of_lt h0)
    rw [HT.sIx_nat, List.length_map] at z
    omega) ha (do_some hl) do_none
  rw [cutG_from _ (by omega), ← List.map_drop] at q
  exact q
theorem de_toT {hi : Expr} {p2} (h0 : 0 ≤ i) (h1 : i < xs.length) (ha : DE X Γ a (eT en xs)) (hl : DE X Γ hi (.int i)) : DE X Γ (.Subscript a (.Slice none (some hi) none p2) pos) (eT en (xs.take i.toNat)) := by
  have q := de_slT (pos := pos) (p2 := p2) (ds := xs.map en) (by
    rintro ⟨_, z⟩
    obtain ⟨n, rfl⟩ := Int.eq_ofNat_of_zero_le h0
    rw [HT.sIx_nat, List.length_map] at z
    omega) ha do_none (do_some hl)
  rw [cutG_to _ h0, ← List.map_take] at q
  exact q
theorem ok_catT (h1 : xs ≠ []) (h2 : ys ≠ []) (h : xs.length + ys.length ≤ sizeLine) : OK2 X (binaryOp .Add) (eT en xs) (eT en ys) (eT en (xs ++ ys)) :=
  ⟨_, op_catA, fun A x y H Q dom rx ry q => by
    cases rx with
    | @tup a1 vs1 _ t1 r1 =>
      cases ry with
      | @tup a2 vs2 _ t2 r2 =>
        have n1 : vs1 ≠ [] := fun z => h1 (by have := r1.length; rw [z, List.length_map] at this; exact List.eq_nil_of_length_eq_zero this.symm)
        have n2 : vs2 ≠ [] := fun z => h2 (by have := r2.length; rw [z, List.length_map] at this; exact List.eq_nil_of_length_eq_zero this.symm)
        refine ⟨_, _, _, _, rfl, rfl, same_sqT msk_le t1, same_sqT msk_le t2, by rw [r1.length, r2.length, List.length_map, List.length_map]; exact h, fun z => absurd z n1, fun _ z => absurd z n2, fun _ _ p hp => ?_⟩
        have r3 : Reps X.K (msk A H) (vs1 ++ vs2) ((xs ++ ys).map en) := by rw [List.map_append]; exact r1.append r2
        exact q _ _ (same_new hp _) (rep_new_tup dom hp r3)⟩
end
end G
set_option Elab.async false
set_option linter.all false
set_option maxRecDepth 100000
namespace G
open PySem PySem.Spec PyProof.Rows L2
/-- a row of names -/
def gNms : List Nat → TGs
  | [] => gNil
  | i :: is => gCons (gName i) (gNms is)
def setAll (Γ : List Sl) : List Nat → List D → List Sl
  | i :: is, d :: ds => setAll (Γ.set i (.val d)) is ds
  | _, _ => Γ
section
variable {K : PySem.W.Frag} {A0 : Addr → Prop} {B : Bs} {Γ : List Sl} {σ : L2.St} {H : Hp} {r : Rt}
theorem aof_setv {i : Nat} {d : D} : ∀ b, Aof A0 (Γ.set i (.val d)) r b → Aof A0 Γ r b := fun b z => by
  rcases z with z | z | ⟨j, ds, e, z⟩
  · exact .inl z
  · exact .inr (.inl z)
  · by_cases c : i = j
    · subst c
      have hl := (List.getElem?_eq_some_iff.mp e).1
      rw [List.length_set] at hl
      rw [List.getElem?_set_self hl] at e
      cases e
    · rw [List.getElem?_set_ne c] at e
      exact .inr (.inr ⟨j, ds, e, z⟩)
theorem names_run : ∀ {is : List Nat} {vs : List V} {ds : List D} {Γ : List Sl} {σ : L2.St} {Q : L2.St → Hp → Prop}, SR K A0 B Γ σ H r → Reps K (msk (Aof A0 Γ r) H) vs ds → is.length = ds.length →
    (∀ σ', SR K A0 B (setAll Γ is ds) σ' H r → Q σ' H) → gNms is vs σ H Q
  | [], _, [], _, _, _, S, q, _, k => by cases q; exact ⟨rfl, k _ S⟩
  | [], _, _ :: _, _, _, _, _, _, h, _ => nomatch h
  | _ :: _, _, [], _, _, _, _, _, h, _ => nomatch h
  | i :: is, _, d :: ds, _, _, _, S, q, h, k => by
    cases q with
    | cons q1 q2 => exact ⟨_, _, rfl, names_run (S.setv q1) (q2.mono (msk_sub aof_setv)) (Nat.succ.inj h) k⟩
end
section
variable {P : Program} {w : World} {K : PySem.W.Frag} {mg : Str → Option Value} {base : Heap}
structure CalS (P : Program) (w : World) (K : PySem.W.Frag) (mg : Str → Option Value) (base : Heap) (name : Str) (k : Nat) (ps : List Str) : Prop where
  ex : ∃ (f : Addr) (fd : FuncData), mg name = some (.ref f) ∧ PySem.W.keepIn K (.ref f) = true ∧ L2.Binds K fd ps [] ∧ FnOk P w K mg base CX0 k f fd ps (spS K FrP)
end
section
variable {X : Cx} {Γ : List Sl} {sts : List Stmt} {o : Out}
/-- a, b, .. = built(pool(script)) -/
theorem dss_built {is : List Nat} {j k1 k2 n : Nat} {R : D → Prop} {tgs : List Expr} {kk : Nat} {tp p p2 p3 p4 p5 pos : Pos} {xb xp xs : Str} {pn1 pn2 : List Str} {ns : List Int} (cp : CalS X.prog X.w X.K X.mg X.base xp k1 pn1) (cb : CalP X.prog X.w X.K X.mg X.base xb k2 pn2 (fun ds => ds = []) (fun _ d => R d))
    (hr1 : Room k1 X.A) (hr2 : Room k2 X.A) (hc : X.calm = true) (hs : Γ[j]? = some (.scr ns)) (hl : ns.length ≤ 63) (hpg : PGs X tgs (gNms is)) (k : ∀ d, R d → ∃ ds, d = .tup ds ∧ is.length = ds.length ∧ DSs X (setAll Γ is ds) sts o)
    (hn : (assignEach tgs X.env).length = is.length := by rfl) (hst : (assignEach tgs X.env).findIdx? (·.1) = none := by rfl)
    (hN : X.N[j]? = some xs := by rfl) (hv : Vis X.env.scope xs := by first | exact Or.inl rfl | exact Or.inr (Or.inl rfl) | exact Or.inr (Or.inr rfl)) (hd : (xs == ("__debug__" : Str)) = false := by decide) (hcd : (xs == ("__classdict__" : Str)) = false := by decide)
    (hg1 : Gl X xp := by rfl) (hdb1 : (xp == ("__debug__" : Str)) = false := by decide) (he1 : starEach (Expr.Name xs p3 :: []) X.env = (false, eval (Expr.Name xs p3) X.env) :: starEach [] X.env := by rfl) (hpl1 : (backTo p4 (starEach [] X.env)).any (·.1) = false := by rfl)
    (hg2 : Gl X xb := by rfl) (hdb2 : (xb == ("__debug__" : Str)) = false := by decide) (he2 : starEach (Expr.Call (.Name xp p2) [.Name xs p3] [] p4 :: []) X.env = (false, eval (Expr.Call (.Name xp p2) [.Name xs p3] [] p4) X.env) :: starEach [] X.env := by rfl) (hpl2 : (backTo p5 (starEach [] X.env)).any (·.1) = false := by rfl)
    (hsw : swapsWithSole [.Tuple tgs kk tp] (.Call (.Name xb p) [.Call (.Name xp p2) [.Name xs p3] [] p4] [] p5) pos.line X.env = pure false := by rfl) (hw : swappedStores [.Tuple tgs kk tp] (.Call (.Name xb p) [.Call (.Name xp p2) [.Name xs p3] [] p4] [] p5) X.env = pure none := by rfl) :
    DSs X Γ (.Assign [.Tuple tgs kk tp] (.Call (.Name xb p) [.Call (.Name xp p2) [.Name xs p3] [] p4] [] p5) pos :: sts) o := fun A0 => by
  have hrest : PSs X sts (fun E σ H => ∃ ds : List D, (R (.tup ds) ∧ is.length = ds.length) ∧ tSt X.K A0 (setAll Γ is ds) o E σ H) := PSs_some fun ds => PSs_somep fun h => by
    obtain ⟨ds2, e, _, q⟩ := k _ h.1
    cases e
    exact q A0
  obtain ⟨f1, fd1, c1, c2, c3, c4⟩ := cp.ex
  obtain ⟨f2, fd2, b1, b2, b3, b4⟩ := cb.ex
  refine impSs (pss_cons (ps_asg (pe_call (pos := p5) b4 hr2 hg2 b1 b2 b3 .nil pass0 (pa_cons (pe_call (pos := p4) c4 hr1 hg1 c1 c2 c3 .nil pass0 (pa_cons (pv j hN hv hd hcd) pa_nil he1) hdb1 he1 hpl1) pa_nil he2) hdb2 he2 hpl2) (pg_tup hc hpg hn hst) hsw hw) hrest) fun E σ H ⟨B, r, S, k1⟩ => ?_
  obtain ⟨a, e1, e2⟩ := S.sx.sl j _ hs
  refine ⟨_, e1, a, ns, ?_, ?_, hl, fun v H1 s1 fr => ?_⟩
  · rfl
  · exact (msk_le).seq e2
  obtain ⟨p, rfl, hp, pool⟩ := frP_pool S.sx.dom fr
  refine ⟨p, [], [], Aof A0 Γ r, rfl, pool, fun b z => dom_mono s1 S.sx.dom b z, fun z => S.sx.dom p z hp, .nil, rfl, fun d v H' hd sx pl rd => ?_⟩
  obtain ⟨ds, rfl, hl2, q⟩ := k d hd
  have s2 : Same H H' := fun b o e => sx b o (by rintro rfl; rw [hp] at e; cases e) (s1 b o e)
  cases rd with
  | tup t1 r1 =>
    exact ⟨_, _, rfl, same_sqT msk_le t1, by rw [r1.length, ← hl2], names_run (S.mono s2) (r1.mono (msk_sub fun b z => .inl z)) hl2 fun σ' S3 => ⟨ds, ⟨hd, hl2⟩, B, r, S3, k1⟩⟩
end
end G
set_option Elab.async false
set_option linter.all false
set_option maxRecDepth 100000
namespace G
open PySem PySem.Spec PyProof.Rows L2
def topS (i : Nat) : Stmt := PySem.Challenge.pw_villagelines_k12_touch_and_join.main.body.getD i (.Pass ⟨0, 0, 0, 0⟩)
local macro_rules | `(tactic| walk_at "side") => `(tactic| ((try simp only [List.mem_range, List.length_range, List.length_zipIdx] at *); first | omega | exact small (by omega) | (constructor <;> omega)))
section
variable {P : Program} {w : World} {K : PySem.W.Frag} {mg : Str → Option Value} {base : Heap} {f : Addr} {fd : FuncData}

abbrev s_singles : Stmt := topS 1
abbrev N_singles : List Str := ["villages", "village"]
theorem sc_singles : FnScope N_singles ["villages"] (defScope s_singles) := ⟨rfl, rfl, rfl, by decide +kernel, rfl, by decide +kernel, by decide +kernel⟩
def m_singles (n : Nat) : List (List Int) := (List.range n).map fun (k : Nat) => [(k : Int)]
def R_singles (ds : List D) (z : List (List Int)) : Prop := ∃ n : Int, 0 ≤ n ∧ n ≤ 1000 ∧ ds = [.int n] ∧ z = m_singles n.toNat
theorem ok_singles (F : Fun K "singles" "singles" s_singles f fd) (T : Bt mg) : FnOk P w K mg base CX0 1 f fd ["villages"] (spG K FrT R_singles) := by
  refine fn_mkG F sc_singles (fun ds z ⟨n, _, _, e, _⟩ => by rw [e]; rfl) fun cdv A outer s H E hr ds z ⟨n, h0, h1, e, ez⟩ => ?_
  subst e ez
  exact dgs_ret frT_ok (dn_lcT (own := [("village", 1)]) (fun (k : Nat) => [(k : Int)]) rfl sc_singles.nd (di_range 1 T.range (de_var 0) (by omega)) (blkOk_by (by kernel_rfl)) (by simp) (fun _ _ _ _ _ => pg_name (i := 1) sc_singles.nd rfl (Or.inl rfl)) (by rw [List.length_range]; exact small (by omega))
    (fun k hk _ _ _ _ _ => dn_i (df_lst (des_cons (de_var 1) des_nil))))

abbrev s_touched_by : Stmt := topS 3
abbrev N_touched_by : List Str := ["division", "stops", "at", "block", "stop"]
theorem sc_touched_by : FnScope N_touched_by ["division", "stops"] (defScope s_touched_by) := ⟨rfl, rfl, rfl, by decide +kernel, rfl, by decide +kernel, by decide +kernel⟩
def m_touched_by (p_division : List (List Int)) (p_stops : List Int) : List Int := (((p_division.zipIdx).filter fun (p_at_block : ((List Int) × Nat)) => ((p_stops.map fun (p_stop : Int) => (decide (p_stop ∈ p_at_block.1))).any id)).map fun (p_at_block : ((List Int) × Nat)) => ((p_at_block.2 : Nat) : Int))
def R_touchedT (ds : List D) (z : List Int) : Prop := ∃ (p_division : List (List Int)) (p_stops : List Int), p_division.length ≤ 1000 ∧ p_stops.length ≤ 1000 ∧ ds = [eL (eL D.int) p_division, (eT D.int p_stops)] ∧ z = m_touched_by p_division p_stops
theorem ok_touchedT (F : Fun K "touched_by" "touched_by" s_touched_by f fd) (T : Bt mg) : FnOk P w K mg base CX0 1 f fd ["division", "stops"] (spG K FrI R_touchedT) := by
  refine fn_mkG F sc_touched_by (fun ds z ⟨_, _, _, _, e, _⟩ => by rw [e]; rfl) fun cdv A outer s H E hr ds z ⟨p_division, p_stops, h1, h2, e, ez⟩ => ?_
  subst e ez
  exact dgs_ret frI_ok (dn_i (de_lcIfE (own := [("at", 2), ("block", 3)]) (en2 := D.int) (fun (p_at_block : ((List Int) × Nat)) => ((p_stops.map fun (p_stop : Int) => (decide (p_stop ∈ p_at_block.1))).any id)) (fun (p_at_block : ((List Int) × Nat)) => ((p_at_block.2 : Nat) : Int)) rfl sc_touched_by.nd (di_enum 2 3 (en := (eL D.int)) T.enumerate (de_var 0)) (blkOk_by (by kernel_rfl)) (by simp) (fun _ _ _ _ _ => (pg_tup rfl (pgs_cons (pg_name (i := 2) sc_touched_by.nd rfl (by first | exact Or.inl rfl | exact Or.inr rfl)) (pgs_cons (pg_name (i := 3) sc_touched_by.nd rfl (by first | exact Or.inl rfl | exact Or.inr rfl)) pgs_nil)))) (by walk_at "side") (fun p_at_block h_p_at_block _ _ _ _ _ => (db_val (de_callB (okc_any rfl) T.any (des_cons (de_f (de_lcE (own := [("stop", 4)]) (en2 := D.bl) (fun (p_stop : Int) => (decide (p_stop ∈ p_at_block.1))) rfl sc_touched_by.nd (di_tup 4 (en := D.int) (de_var 1)) (blkOk_by (by kernel_rfl)) (by simp) (fun _ _ _ _ _ => (pg_name (i := 4) sc_touched_by.nd rfl (by first | exact Or.inl rfl | exact Or.inr rfl))) (by walk_at "side") (fun p_stop h_p_stop _ _ _ _ _ => (de_cmp ok_inL (de_var 4) (de_var 3))))) des_nil)))) (fun p_at_block h_p_at_block hc_p_at_block _ _ _ _ _ => (de_var 2))))

def R_touchedL (ds : List D) (z : List Int) : Prop := ∃ (p_division : List (List Int)) (p_stops : List Int), p_division.length ≤ 1000 ∧ p_stops.length ≤ 1000 ∧ ds = [eL (eL D.int) p_division, (eL D.int p_stops)] ∧ z = m_touched_by p_division p_stops
theorem ok_touchedL (F : Fun K "touched_by" "touched_by" s_touched_by f fd) (T : Bt mg) : FnOk P w K mg base CX0 1 f fd ["division", "stops"] (spG K FrI R_touchedL) := by
  refine fn_mkG F sc_touched_by (fun ds z ⟨_, _, _, _, e, _⟩ => by rw [e]; rfl) fun cdv A outer s H E hr ds z ⟨p_division, p_stops, h1, h2, e, ez⟩ => ?_
  subst e ez
  exact dgs_ret frI_ok (dn_i (de_lcIfE (own := [("at", 2), ("block", 3)]) (en2 := D.int) (fun (p_at_block : ((List Int) × Nat)) => ((p_stops.map fun (p_stop : Int) => (decide (p_stop ∈ p_at_block.1))).any id)) (fun (p_at_block : ((List Int) × Nat)) => ((p_at_block.2 : Nat) : Int)) rfl sc_touched_by.nd (di_enum 2 3 (en := (eL D.int)) T.enumerate (de_var 0)) (blkOk_by (by kernel_rfl)) (by simp) (fun _ _ _ _ _ => (pg_tup rfl (pgs_cons (pg_name (i := 2) sc_touched_by.nd rfl (by first | exact Or.inl rfl | exact Or.inr rfl)) (pgs_cons (pg_name (i := 3) sc_touched_by.nd rfl (by first | exact Or.inl rfl | exact Or.inr rfl)) pgs_nil)))) (by walk_at "side") (fun p_at_block h_p_at_block _ _ _ _ _ => (db_val (de_callB (okc_any rfl) T.any (des_cons (de_f (de_lcE (own := [("stop", 4)]) (en2 := D.bl) (fun (p_stop : Int) => (decide (p_stop ∈ p_at_block.1))) rfl sc_touched_by.nd (di_list 4 (en := D.int) (de_var 1)) (blkOk_by (by kernel_rfl)) (by simp) (fun _ _ _ _ _ => (pg_name (i := 4) sc_touched_by.nd rfl (by first | exact Or.inl rfl | exact Or.inr rfl))) (by walk_at "side") (fun p_stop h_p_stop _ _ _ _ _ => (de_cmp ok_inL (de_var 4) (de_var 3))))) des_nil)))) (fun p_at_block h_p_at_block hc_p_at_block _ _ _ _ _ => (de_var 2))))

abbrev s_place_of : Stmt := topS 2
abbrev N_place_of : List Str := ["division", "village", "block"]
theorem sc_place_of : FnScope N_place_of ["division", "village"] (defScope s_place_of) := ⟨rfl, rfl, rfl, by decide +kernel, rfl, by decide +kernel, by decide +kernel⟩
def R_place_of (ds : List D) (d : D) : Prop := ∃ (p_division : List (List Int)) (p_village : Int) (k : Nat), p_division.length ≤ 1000 ∧ (∃ b, p_division[k]? = some b ∧ p_village ∈ b) ∧ (∀ (m : Nat) b, m < k → p_division[m]? = some b → p_village ∉ b) ∧ ds = [eL (eL D.int) p_division, .int p_village] ∧ d = .int (k : Int)
theorem ok_place_of (F : Fun K "place_of" "place_of" s_place_of f fd) (T : Bt mg) : FnOk P w K mg base CX0 1 f fd ["division", "village"] (spD K R_place_of) := by
  refine fn_mk F sc_place_of (fun ds z ⟨_, _, _, _, _, _, e, _⟩ => by rw [e]; rfl) fun cdv A outer s H E hr ds z ⟨p_division, p_village, k, h1, ⟨b, hb, hv⟩, h3, e, ez⟩ => ?_
  subst e ez
  refine ⟨_, dss_one (dst_ret (de_indexB (k := k) (de_f (de_lcE (own := [("block", 2)]) (en2 := D.bl) (fun (p_block : (List Int)) => (decide (p_village ∈ p_block))) rfl sc_place_of.nd (di_list 2 (en := (eL D.int)) (de_var 0)) (blkOk_by (by kernel_rfl)) (by simp) (fun _ _ _ _ _ => (pg_name (i := 2) sc_place_of.nd rfl (by first | exact Or.inl rfl | exact Or.inr rfl))) (by walk_at "side") (fun p_block h_p_block _ _ _ _ _ => (de_cmp ok_inL (de_var 1) (de_var 2))))) de_bl ?_ ?_)), rfl⟩
  · rw [List.getElem?_map, hb]
    show some (decide (p_village ∈ b)) = some true
    rw [decide_eq_true hv]
  · intro m hm z
    rw [List.getElem?_map] at z
    cases hq : p_division[m]? with
    | none => rw [hq] at z; cases z
    | some c =>
      rw [hq] at z
      have z := Option.some.inj z
      exact h3 m c hm hq (of_decide_eq_true z)

abbrev s_join_blocks : Stmt := topS 4
abbrev N_join_blocks : List Str := ["division", "places", "joined", "rest", "at", "block", "place", "village"]
theorem sc_join_blocks : FnScope N_join_blocks ["division", "places"] (defScope s_join_blocks) := ⟨rfl, rfl, rfl, by decide +kernel, rfl, by decide +kernel, by decide +kernel⟩
-- slots: {'division': 0, 'places': 1, 'joined': 2, 'rest': 3, 'at': 4, 'block': 5, 'place': 6, 'village': 7}
def m_join (p_division : List (List Int)) (p_places : List Int) : List (List Int) :=
  srtL (srt (p_places.flatMap fun p : Int => (p_division.getD p.toNat default)) :: ((p_division.zipIdx.filter fun p => !decide (((p.2 : Nat) : Int) ∈ p_places)).map fun p => p.1))
def R_join (ds : List D) (z : List (List Int)) : Prop := ∃ (p_division : List (List Int)) (p_places : List Int), p_division.length ≤ 1000 ∧ p_places.length ≤ 1000 ∧ (∀ b ∈ p_division, b.length ≤ 1000) ∧ (∀ p ∈ p_places, 0 ≤ p ∧ p < (p_division.length : Int)) ∧ (p_places.flatMap fun p => (p_division.getD p.toNat default)).length ≤ 1000000 ∧
  ds = [eL (eL D.int) p_division, eL D.int p_places] ∧ z = m_join p_division p_places
theorem lt_of_le_of_lt' {a b c : Nat} (h : a + 16 * b + 200 < c) : a + 100 < c := by omega
theorem ok_join_blocks (F : Fun K "join_blocks" "join_blocks" s_join_blocks f fd) (T : Bt mg) : FnOk P w K mg base CX0 1 f fd ["division", "places"] (spG K FrT R_join) := by
  refine fn_mkG F sc_join_blocks (fun ds z ⟨_, _, _, _, _, _, _, e, _⟩ => by rw [e]; rfl) fun cdv A outer s H E hr ds z ⟨p_division, p_places, h1, h2, h3, h4, h5, e, ez⟩ => ?_
  subst e ez
  have nd := sc_join_blocks.nd
  have em : (p_places.flatMap fun a => ((fun p : Int => p_division.getD p.toNat default) a).map ((fun (_ : Int) (y : Int) => y) a)) = p_places.flatMap fun p => p_division.getD p.toNat default := by
    congr 1; funext a; simp
  refine dgs_cons (Γ1 := [.val (eL (eL D.int) p_division), .val (eL D.int p_places), .own ((srt (p_places.flatMap fun p : Int => (p_division.getD p.toNat default))).map D.int), .no, .no, .no, .no, .no]) ?_ ?_
  · rw [← em]
    exact dst_own 2 (df_i (dn_sorted (de_f (df_lc2 (own := [("place", 6), ("village", 7)]) (en2 := D.int) (en3 := D.int) 7 (fun p : Int => p_division.getD p.toNat default) (fun (_ : Int) (y : Int) => y) rfl nd (di_list 6 (en := D.int) (de_var 1)) (blkOk_by (by kernel_rfl)) (by simp) (by simp) (fun _ _ _ _ _ => pg_name (i := 6) nd rfl (by first | exact Or.inl rfl | exact Or.inr rfl)) (fun _ _ _ _ _ => pg_name (i := 7) nd rfl (by first | exact Or.inl rfl | exact Or.inr rfl)) (small h5)
      (fun p hp _ _ _ _ _ => de_ixE (en := eL D.int) (h4 p hp).1 (h4 p hp).2 (de_var 0) (de_var 6)) (fun p hp y hy _ _ _ _ _ => de_var 7))) T.sorted)) nd
  refine dgs_cons (Γ1 := [.val (eL (eL D.int) p_division), .val (eL D.int p_places), .own ((srt (p_places.flatMap fun p : Int => (p_division.getD p.toNat default))).map D.int), .jnk (.tre ((p_division.zipIdx.filter fun p => !decide (((p.2 : Nat) : Int) ∈ p_places)).map fun p => p.1)), .no, .no, .no, .no]) ?_ ?_
  · refine dst_setLcT (α := List Int × Nat) 3 (own := [("at", 4), ("block", 5)]) (tt := fun σ H Q => ∃ (a : List Int × Nat) (A2 : Addr → Prop), a ∈ p_division.zipIdx ∧ tTst K A2 ((([.val (eL (eL D.int) p_division), .val (eL D.int p_places), .own ((srt (p_places.flatMap fun p : Int => (p_division.getD p.toNat default))).map D.int), .no, .no, .no, .no, .no] : List Sl).set 4 (.val (.int ((a.2 : Nat) : Int)))).set 5 (.val (eL D.int a.1))) (!decide (((a.2 : Nat) : Int) ∈ p_places)) σ H Q)
      (pr := fun p => !decide (((p.2 : Nat) : Int) ∈ p_places)) (f := fun p => p.1) rfl nd (js := [4, 5]) (bd := fun p Γ' => (Γ'.set 4 (.val (.int ((p.2 : Nat) : Int)))).set 5 (.val (eL D.int p.1))) (g := gPair K 4 5) ?di (blkOk_by (by kernel_rfl)) (by simp) ?pg
      ?pt ?htk ?he (by rw [List.length_zipIdx]; exact small (by omega))
    case di => exact di_enum 4 5 (en := eL D.int) T.enumerate (de_var 0)
    case pg => exact fun _ _ _ _ _ => pg_tup rfl (pgs_cons (pg_name (i := 4) nd rfl (by first | exact Or.inl rfl | exact Or.inr rfl)) (pgs_cons (pg_name (i := 5) nd rfl (by first | exact Or.inl rfl | exact Or.inr rfl)) pgs_nil))
    case pt => exact fun s H C cl fp => pts_one ⟨fun pins s' σ H' Q I ⟨a, A2, ha, q⟩ => ((show DB _ _ _ _ from db_cmp ok_notinL (de_var 4) (de_var 1)) A2).run pins s' σ H' Q I q⟩
    case htk => exact fun a ha A2 σ H Q S k => ⟨a, A2, ha, S, k⟩
    case he => exact fun a ha hpr _ _ _ _ _ => dn_i (df_list (de_var 5) T.list)
  · exact dgs_sortStar (k1 := 0) 2 3 rfl rfl (lt_of_le_of_lt' (b := 0) (show _ from hr.un)) T.sorted (by
      rw [List.length_map]
      have := List.length_filter_le (fun p : List Int × Nat => !decide (((p.2 : Nat) : Int) ∈ p_places)) p_division.zipIdx
      rw [List.length_zipIdx] at this
      exact small (by omega))

end
end G
set_option Elab.async false
set_option linter.all false
set_option maxRecDepth 100000
namespace G
open PySem PySem.Spec PyProof.Rows L2
local macro_rules | `(tactic| walk_at "side") => `(tactic| ((try simp only [List.mem_range, List.length_range, List.length_zipIdx] at *); first | omega | exact small (by omega) | (constructor <;> omega)))

abbrev s_law_blocks : Stmt := topS 9
abbrev N_law_blocks : List Str := ["labels", "first", "v"]
theorem sc_law_blocks : FnScope N_law_blocks ["labels"] (defScope s_law_blocks) := ⟨rfl, rfl, rfl, by decide +kernel, rfl, by decide +kernel, by decide +kernel⟩
def m_law_blocks (p_labels : (List Int)) : (List (List Int)) := (((List.range ((p_labels.length : Int)).toNat).filter fun (p_first : Nat) => (decide ((p_labels.getD (((p_first : Nat) : Int)).toNat default) = ((p_first : Nat) : Int)))).map fun (p_first : Nat) => (((List.range ((p_labels.length : Int)).toNat).filter fun (p_v : Nat) => (decide ((p_labels.getD (((p_v : Nat) : Int)).toNat default) = ((p_first : Nat) : Int)))).map fun (p_v : Nat) => ((p_v : Nat) : Int)))
def Pre_law_blocks (p_labels : (List Int)) : Prop := (p_labels.length ≤ 1000)
def R_law_blocks (ds : List D) (d : D) : Prop := ∃ (p_labels : (List Int)), Pre_law_blocks p_labels ∧ ds = [(eL D.int) p_labels] ∧ d = (eL (eL D.int)) (m_law_blocks p_labels)
theorem rm_law_blocks {p_labels : (List Int)} (h : Pre_law_blocks p_labels) : R_law_blocks [(eL D.int) p_labels] ((eL (eL D.int)) (m_law_blocks p_labels)) := ⟨p_labels, h, rfl, rfl⟩
theorem ok_law_blocks {P : Program} {w : World} {K : PySem.W.Frag} {mg : Str → Option Value} {base : Heap} {f : Addr} {fd : FuncData} (F : Fun K "_law_blocks" "_law_blocks" s_law_blocks f fd) (T : Bt mg)  : FnOk P w K mg base CX0 1 f fd ["labels"] (spD K R_law_blocks) := by
  refine fn_mk F sc_law_blocks (fun ds d ⟨p_labels, hp, e, ed⟩ => by rw [e]; rfl) fun cdv A outer s H E hr ds d ⟨p_labels, hp, e, ed⟩ => ?_
  subst e ed
  have g1 : p_labels.length ≤ 1000 := hp
  exact ⟨_, (dss_one (dst_ret (de_f (de_lcIfE (own := [("first", 1)]) (en2 := (eL D.int)) (fun (p_first : Nat) => (decide ((p_labels.getD (((p_first : Nat) : Int)).toNat default) = ((p_first : Nat) : Int)))) (fun (p_first : Nat) => (((List.range ((p_labels.length : Int)).toNat).filter fun (p_v : Nat) => (decide ((p_labels.getD (((p_v : Nat) : Int)).toNat default) = ((p_first : Nat) : Int)))).map fun (p_v : Nat) => ((p_v : Nat) : Int))) rfl sc_law_blocks.nd (di_range 1 T.range (de_callB (okc_lenE (en := D.int)) T.len (des_cons (de_var 0) des_nil)) (by walk_at "side")) (blkOk_by (by kernel_rfl)) (by simp) (fun _ _ _ _ _ => (pg_name (i := 1) sc_law_blocks.nd rfl (by first | exact Or.inl rfl | exact Or.inr rfl))) (by walk_at "side") (fun p_first h_p_first _ _ _ _ _ => (db_cmp ok_eqI (de_ixE (en := D.int) (by walk_at "side") (by walk_at "side") (de_var 0) (de_var 1)) (de_var 1))) (fun p_first h_p_first hc_p_first _ _ _ _ _ => (de_f (de_lcIfE (own := [("v", 2)]) (en2 := D.int) (fun (p_v : Nat) => (decide ((p_labels.getD (((p_v : Nat) : Int)).toNat default) = ((p_first : Nat) : Int)))) (fun (p_v : Nat) => ((p_v : Nat) : Int)) rfl sc_law_blocks.nd (di_range 2 T.range (de_callB (okc_lenE (en := D.int)) T.len (des_cons (de_var 0) des_nil)) (by walk_at "side")) (blkOk_by (by kernel_rfl)) (by simp) (fun _ _ _ _ _ => (pg_name (i := 2) sc_law_blocks.nd rfl (by first | exact Or.inl rfl | exact Or.inr rfl))) (by walk_at "side") (fun p_v h_p_v _ _ _ _ _ => (db_cmp ok_eqI (de_ixE (en := D.int) (by walk_at "side") (by walk_at "side") (de_var 0) (de_var 2)) (de_var 1))) (fun p_v h_p_v hc_p_v _ _ _ _ _ => (de_var 2))))))))), by (try simp only [res_ite]); rfl⟩

abbrev s_law_index : Stmt := topS 12
abbrev N_law_index : List Str := ["labels", "village", "v"]
theorem sc_law_index : FnScope N_law_index ["labels", "village"] (defScope s_law_index) := ⟨rfl, rfl, rfl, by decide +kernel, rfl, by decide +kernel, by decide +kernel⟩
def m_law_index (p_labels : (List Int)) (p_village : Int) : Int := ((((List.range ((p_labels.getD (p_village).toNat default)).toNat).filter fun (p_v : Nat) => (decide ((p_labels.getD (((p_v : Nat) : Int)).toNat default) = ((p_v : Nat) : Int)))).map fun (p_v : Nat) => ((p_v : Nat) : Int)).length : Int)
def Pre_law_index (p_labels : (List Int)) (p_village : Int) : Prop := (p_labels.length ≤ 1000) ∧ (0 ≤ p_village) ∧ (p_village < p_labels.length) ∧ (∀ x ∈ p_labels, 0 ≤ x ∧ x < (p_labels.length : Int))
def R_law_index (ds : List D) (d : D) : Prop := ∃ (p_labels : (List Int)) (p_village : Int), Pre_law_index p_labels p_village ∧ ds = [(eL D.int) p_labels, D.int p_village] ∧ d = D.int (m_law_index p_labels p_village)
theorem rm_law_index {p_labels : (List Int)} {p_village : Int} (h : Pre_law_index p_labels p_village) : R_law_index [(eL D.int) p_labels, D.int p_village] (D.int (m_law_index p_labels p_village)) := ⟨p_labels, p_village, h, rfl, rfl⟩
theorem ok_law_index {P : Program} {w : World} {K : PySem.W.Frag} {mg : Str → Option Value} {base : Heap} {f : Addr} {fd : FuncData} (F : Fun K "_law_index" "_law_index" s_law_index f fd) (T : Bt mg)  : FnOk P w K mg base CX0 1 f fd ["labels", "village"] (spD K R_law_index) := by
  refine fn_mk F sc_law_index (fun ds d ⟨p_labels, p_village, hp, e, ed⟩ => by rw [e]; rfl) fun cdv A outer s H E hr ds d ⟨p_labels, p_village, hp, e, ed⟩ => ?_
  subst e ed
  obtain ⟨g1, g2, g3, g4⟩ := hp
  have g5 := getD_all g4 (show p_village.toNat < p_labels.length by omega)
  exact ⟨_, (dss_one (dst_ret (de_callB (okc_lenE (en := D.int)) T.len (des_cons (de_f (de_lcIfE (own := [("v", 2)]) (en2 := D.int) (fun (p_v : Nat) => (decide ((p_labels.getD (((p_v : Nat) : Int)).toNat default) = ((p_v : Nat) : Int)))) (fun (p_v : Nat) => ((p_v : Nat) : Int)) rfl sc_law_index.nd (di_range 2 T.range (de_ixE (en := D.int) (by walk_at "side") (by walk_at "side") (de_var 0) (de_var 1)) (by walk_at "side")) (blkOk_by (by kernel_rfl)) (by simp) (fun _ _ _ _ _ => (pg_name (i := 2) sc_law_index.nd rfl (by first | exact Or.inl rfl | exact Or.inr rfl))) (by walk_at "side") (fun p_v h_p_v _ _ _ _ _ => (db_cmp ok_eqI (de_ixE (en := D.int) (by walk_at "side") (by walk_at "side") (de_var 0) (de_var 2)) (de_var 2))) (fun p_v h_p_v hc_p_v _ _ _ _ _ => (de_var 2)))) des_nil)))), by (try simp only [res_ite]); rfl⟩

abbrev s_law_same : Stmt := topS 10
abbrev N_law_same : List Str := ["got", "due", "k"]
theorem sc_law_same : FnScope N_law_same ["got", "due"] (defScope s_law_same) := ⟨rfl, rfl, rfl, by decide +kernel, rfl, by decide +kernel, by decide +kernel⟩
section
variable {P : Program} {w : World} {K : PySem.W.Frag} {mg : Str → Option Value} {base : Heap} {f : Addr} {fd : FuncData}
theorem same_seq {X : Cx} {lst : Bool} {gs ds : List D} {n : Nat} {sts : List Stmt} {o : Out} (h : DSs X [.val (if lst then .lst gs else .tup gs), .val (if lst then .lst ds else .tup ds), .no] sts o) : True := trivial
theorem ok_same_step (n : Nat) (F : Fun K "_law_same" "_law_same" s_law_same f fd) (T : Bt mg) (ih : ∀ m, n = m + 1 → Cal P w K mg base "_law_same" n ["got", "due"] (R_same m)) : FnOk P w K mg base CX0 (n + 1) f fd ["got", "due"] (spD K (R_same n)) := by
  refine fn_mk F sc_law_same (fun ds d ⟨g, du, _, _, e, _⟩ => by rw [e]; rfl) fun cdv A outer s H E hr ds d ⟨g, du, hdu, hg, e, ed⟩ => ?_
  subst e ed
  cases du with
  | obj => cases n <;> cases hdu
  | non =>
    exact ⟨_, dss_gT (db_cmp ok_isN (de_var 1) de_non) (dss_one (dst_ret (de_cmp ok_isN (de_var 0) de_non))), by cases g <;> rfl⟩
  | bl c =>
    cases c with
    | true => exact ⟨_, dss_gF (db_cmp ok_isN (de_var 1) de_non) (dss_gT (db_cmp ok_isB (de_var 1) de_bl) (dss_one (dst_ret (de_cmp ok_isB (de_var 0) de_bl)))), by cases g <;> rfl⟩
    | false => exact ⟨_, dss_gF (db_cmp ok_isN (de_var 1) de_non) (dss_gF (db_cmp ok_isB (de_var 1) de_bl) (dss_gT (db_cmp ok_isB (de_var 1) de_bl) (dss_one (dst_ret (de_cmp ok_isB (de_var 0) de_bl))))), by cases g <;> rfl⟩
  | int j =>
    refine ⟨.rt (.bl (same g (.int j))), dss_gF (db_cmp ok_isN (de_var 1) de_non) (dss_gF (db_cmp ok_isB (de_var 1) de_bl) (dss_gF (db_cmp ok_isB (de_var 1) de_bl) (dss_gT (db_val (de_isi (b := true) "int" T.isinstance T.int (de_var 1))) (dss_one (dst_ret ?_))))), rfl⟩
    obtain ⟨m, hg⟩ := hg
    cases g with
    | obj => cases m <;> cases hg
    | int i => exact de_and (c1 := true) (de_isi "int" T.isinstance T.int (de_var 0)) fun _ => de_and (c1 := true) (de_not (c1 := false) (de_isi "bool" T.isinstance T.bool (de_var 0))) fun _ => de_one (de_cmp ok_eqI (de_var 0) (de_var 1))
    | bl c => exact de_and (c1 := true) (c2 := false) (de_isi "int" T.isinstance T.int (de_var 0)) fun _ => de_and (c1 := false) (c2 := false) (de_not (c1 := true) (de_isi "bool" T.isinstance T.bool (de_var 0))) fun h => nomatch h
    | non => exact de_and (c1 := false) (c2 := false) (de_isi "int" T.isinstance T.int (de_var 0)) fun h => nomatch h
    | str => exact de_and (c1 := false) (c2 := false) (de_isi "int" T.isinstance T.int (de_var 0)) fun h => nomatch h
    | lst => exact de_and (c1 := false) (c2 := false) (de_isi "int" T.isinstance T.int (de_var 0)) fun h => nomatch h
    | tup => exact de_and (c1 := false) (c2 := false) (de_isi "int" T.isinstance T.int (de_var 0)) fun h => nomatch h
  | str x =>
    refine ⟨.rt (.bl (same g (.str x))), dss_gF (db_cmp ok_isN (de_var 1) de_non) (dss_gF (db_cmp ok_isB (de_var 1) de_bl) (dss_gF (db_cmp ok_isB (de_var 1) de_bl) (dss_gF (db_val (de_isi (b := false) "int" T.isinstance T.int (de_var 1)))
      (dss_gT (db_val (de_isi (b := true) "str" T.isinstance T.str (de_var 1))) (dss_one (dst_ret ?_)))))), rfl⟩
    obtain ⟨m, hg⟩ := hg
    cases g with
    | obj => cases m <;> cases hg
    | str y => exact de_and (c1 := true) (de_isi "str" T.isinstance T.str (de_var 0)) fun _ => de_one (de_cmp ok_eqS (de_var 0) (de_var 1))
    | int i => exact de_and (c1 := false) (c2 := false) (de_isi "str" T.isinstance T.str (de_var 0)) fun h => nomatch h
    | bl c => exact de_and (c1 := false) (c2 := false) (de_isi "str" T.isinstance T.str (de_var 0)) fun h => nomatch h
    | non => exact de_and (c1 := false) (c2 := false) (de_isi "str" T.isinstance T.str (de_var 0)) fun h => nomatch h
    | lst => exact de_and (c1 := false) (c2 := false) (de_isi "str" T.isinstance T.str (de_var 0)) fun h => nomatch h
    | tup => exact de_and (c1 := false) (c2 := false) (de_isi "str" T.isinstance T.str (de_var 0)) fun h => nomatch h
  | lst ds =>
    cases n with
    | zero => cases hdu
    | succ n =>
    have hdu : (decide (ds.length ≤ 1000000) && deeps n ds) = true := hdu
    obtain ⟨hz, hds⟩ := Bool.and_eq_true _ _ ▸ hdu
    have hz := of_decide_eq_true hz
    have fin : ∀ o, DSs (cxOf CX0 P w K mg base N_law_same "_law_same" (defScope s_law_same) f cdv A outer s H E).nox (Γ0 N_law_same [g, .lst ds]) ((defBody s_law_same).drop 5) o → ∃ o', DSs (cxOf CX0 P w K mg base N_law_same "_law_same" (defScope s_law_same) f cdv A outer s H E).nox (Γ0 N_law_same [g, .lst ds]) (defBody s_law_same) o' ∧ o' = o := fun o h =>
      ⟨o, dss_gF (db_cmp ok_isN (de_var 1) de_non) (dss_gF (db_cmp ok_isB (de_var 1) de_bl) (dss_gF (db_cmp ok_isB (de_var 1) de_bl) (dss_gF (db_val (de_isi (b := false) "int" T.isinstance T.int (de_var 1)))
      (dss_gF (db_val (de_isi (b := false) "str" T.isinstance T.str (de_var 1))) h)))), rfl⟩
    obtain ⟨m, hg⟩ := hg
    have notit : isiT "list" g = some false → same g (.lst ds) = false → ∃ o, DSs (cxOf CX0 P w K mg base N_law_same "_law_same" (defScope s_law_same) f cdv A outer s H E).nox (Γ0 N_law_same [g, .lst ds]) (defBody s_law_same) o ∧ o.res = some (.bl (same g (.lst ds))) := fun hi hs => by
      obtain ⟨o, h, e⟩ := fin (.rt (.bl false)) (dss_gT (db_of (dw_or (c1 := true) (c2 := false) (db_of (dw_and (c1 := true) (db_val (de_isi (b := true) "list" T.isinstance T.list (de_var 1))) fun _ => dw_and1 (db_not (c1 := false) (db_val (de_isi (b := false) "list" T.isinstance T.list (de_var 0)))))) fun h => nomatch h)) (dss_one (dst_ret de_bl)))
      exact ⟨o, h, by rw [e, hs]; rfl⟩
    cases g with
    | obj => cases m <;> cases hg
    | non => exact notit (by dsimp only [isiT]; decide +kernel) rfl
    | bl => exact notit (by dsimp only [isiT]; decide +kernel) rfl
    | int => exact notit (by dsimp only [isiT]; decide +kernel) rfl
    | str => exact notit (by dsimp only [isiT]; decide +kernel) rfl
    | tup => exact notit (by dsimp only [isiT]; decide +kernel) rfl
    | lst gs =>
      have loop : gs.length = ds.length → DSs (cxOf CX0 P w K mg base N_law_same "_law_same" (defScope s_law_same) f cdv A outer s H E).nox (Γ0 N_law_same [.lst gs, .lst ds]) ((defBody s_law_same).drop 7) (.rt (.bl (loopR gs ds))) := fun hl => by
        have hf : DSt (cxOf CX0 P w K mg base N_law_same "_law_same" (defScope s_law_same) f cdv A outer s H E).nox _ ((defBody s_law_same).getD 7 (.Pass ⟨0, 0, 0, 0⟩)) _ := dst_forE () (fun _ => [.val (.lst gs), .val (.lst ds), .no]) (fun _ a => if same (gs.getD a .non) (ds.getD a .non) then none else some (D.bl false)) (fun _ _ => ()) PassesOwn.never rfl
          (di_range 2 T.range (de_callB okc_len T.len (des_cons (de_var 1) des_nil)) (by omega)) (pg_name (i := 2) sc_law_same.nd rfl (Or.inl rfl)) (fun pre a post ep b eb => by
            have ha : a ∈ List.range ((ds.length : Int)).toNat := by rw [ep]; simp
            rw [Int.toNat_natCast] at ha
            have ha := List.mem_range.mp ha
            have hag : a < gs.length := by omega
            have e1 : gs[a]? = some (gs.getD a .non) := by rw [List.getD_eq_getElem?_getD, List.getElem?_eq_getElem hag]; rfl
            have e2 : ds[a]? = some (ds.getD a .non) := by rw [List.getD_eq_getElem?_getD, List.getElem?_eq_getElem ha]; rfl
            have hR : R_same n [gs.getD a .non, ds.getD a .non] (.bl (same (gs.getD a .non) (ds.getD a .non))) := ⟨_, _, deeps_get hds e2, deep_get hg (.inl rfl) e1, rfl, rfl⟩
            cases hs : same (gs.getD a .non) (ds.getD a .non) with
            | true =>
              rw [hs] at hR
              exact dss_post (wk_cons wks_id (wk_cons wks_id (wk_cons wks_no wk_nil))) (dss_one (dst_ifj (cb := false) (db_not (c1 := true) (db_val (de_callE (ih n rfl) hr (des_cons (de_ixL (atI_nat e1) (ds_of (de_var 0)) (de_var 2)) (des_cons (de_ixL (atI_nat e2) (ds_of (de_var 1)) (de_var 2)) des_nil)) hR))) (fun h => nomatch h) fun _ => dss_nil))
            | false =>
              rw [hs] at hR
              exact dss_one (dst_ifj (cb := true) (db_not (c1 := false) (db_val (de_callE (ih n rfl) hr (des_cons (de_ixL (atI_nat e1) (ds_of (de_var 0)) (de_var 2)) (des_cons (de_ixL (atI_nat e2) (ds_of (de_var 1)) (de_var 2)) des_nil)) hR))) (fun _ => dss_one (dst_ret de_bl)) fun h => nomatch h))
        rw [runE_search, Int.toNat_natCast] at hf
        have el : ((List.range ds.length).all fun a => same (gs.getD a .non) (ds.getD a .non)) = loopR gs ds := rfl
        rw [el] at hf
        cases hL : loopR gs ds with
        | true =>
          rw [hL] at hf
          exact dss_cons hf (dss_one (dst_ret de_bl))
        | false =>
          rw [hL] at hf
          exact dss_rt hf
      by_cases hl : gs.length = ds.length
      · obtain ⟨o, h, e⟩ := fin (.rt (.bl (loopR gs ds))) (dss_gF (db_of (dw_or (c1 := false) (c2 := false) (db_of (dw_and (c1 := true) (db_val (de_isi (b := true) "list" T.isinstance T.list (de_var 1))) fun _ => dw_and1 (db_not (c1 := true) (db_val (de_isi (b := true) "list" T.isinstance T.list (de_var 0)))))) fun _ => dw_or1 (db_of (dw_and (c1 := false) (c2 := false) (db_val (de_isi (b := false) "tuple" T.isinstance T.tuple (de_var 1))) fun h => nomatch h)))) (dss_gF (by
          rw [show false = (!decide ((gs.length : Int) = (ds.length : Int))) from by rw [hl, decide_eq_true rfl]; rfl]
          exact db_cmp ok_neI (de_callB okc_len T.len (des_cons (de_var 0) des_nil)) (de_callB okc_len T.len (des_cons (de_var 1) des_nil))) (loop hl)))
        exact ⟨o, h, by rw [e, loopR_eq hl]; rfl⟩
      · obtain ⟨o, h, e⟩ := fin (.rt (.bl false)) (dss_gF (db_of (dw_or (c1 := false) (c2 := false) (db_of (dw_and (c1 := true) (db_val (de_isi (b := true) "list" T.isinstance T.list (de_var 1))) fun _ => dw_and1 (db_not (c1 := true) (db_val (de_isi (b := true) "list" T.isinstance T.list (de_var 0)))))) fun _ => dw_or1 (db_of (dw_and (c1 := false) (c2 := false) (db_val (de_isi (b := false) "tuple" T.isinstance T.tuple (de_var 1))) fun h => nomatch h)))) (dss_gT (by
          rw [show true = (!decide ((gs.length : Int) = (ds.length : Int))) from by rw [decide_eq_false (by omega)]; rfl]
          exact db_cmp ok_neI (de_callB okc_len T.len (des_cons (de_var 0) des_nil)) (de_callB okc_len T.len (des_cons (de_var 1) des_nil))) (dss_one (dst_ret de_bl))))
        exact ⟨o, h, by rw [e, show same (.lst gs) (.lst ds) = sames gs ds from rfl, sames_len hl]; rfl⟩
  | tup ds =>
    cases n with
    | zero => cases hdu
    | succ n =>
    have hdu : (decide (ds.length ≤ 1000000) && deeps n ds) = true := hdu
    obtain ⟨hz, hds⟩ := Bool.and_eq_true _ _ ▸ hdu
    have hz := of_decide_eq_true hz
    have fin : ∀ o, DSs (cxOf CX0 P w K mg base N_law_same "_law_same" (defScope s_law_same) f cdv A outer s H E).nox (Γ0 N_law_same [g, .tup ds]) ((defBody s_law_same).drop 5) o → ∃ o', DSs (cxOf CX0 P w K mg base N_law_same "_law_same" (defScope s_law_same) f cdv A outer s H E).nox (Γ0 N_law_same [g, .tup ds]) (defBody s_law_same) o' ∧ o' = o := fun o h =>
      ⟨o, dss_gF (db_cmp ok_isN (de_var 1) de_non) (dss_gF (db_cmp ok_isB (de_var 1) de_bl) (dss_gF (db_cmp ok_isB (de_var 1) de_bl) (dss_gF (db_val (de_isi (b := false) "int" T.isinstance T.int (de_var 1)))
      (dss_gF (db_val (de_isi (b := false) "str" T.isinstance T.str (de_var 1))) h)))), rfl⟩
    obtain ⟨m, hg⟩ := hg
    have notit : isiT "tuple" g = some false → same g (.tup ds) = false → ∃ o, DSs (cxOf CX0 P w K mg base N_law_same "_law_same" (defScope s_law_same) f cdv A outer s H E).nox (Γ0 N_law_same [g, .tup ds]) (defBody s_law_same) o ∧ o.res = some (.bl (same g (.tup ds))) := fun hi hs => by
      obtain ⟨o, h, e⟩ := fin (.rt (.bl false)) (dss_gT (db_of (dw_or (c1 := false) (c2 := true) (db_of (dw_and (c1 := false) (c2 := false) (db_val (de_isi (b := false) "list" T.isinstance T.list (de_var 1))) fun h => nomatch h)) fun _ => dw_or1 (db_of (dw_and (c1 := true) (db_val (de_isi (b := true) "tuple" T.isinstance T.tuple (de_var 1))) fun _ => dw_and1 (db_not (c1 := false) (db_val (de_isi (b := false) "tuple" T.isinstance T.tuple (de_var 0)))))))) (dss_one (dst_ret de_bl)))
      exact ⟨o, h, by rw [e, hs]; rfl⟩
    cases g with
    | obj => cases m <;> cases hg
    | non => exact notit (by dsimp only [isiT]; decide +kernel) rfl
    | bl => exact notit (by dsimp only [isiT]; decide +kernel) rfl
    | int => exact notit (by dsimp only [isiT]; decide +kernel) rfl
    | str => exact notit (by dsimp only [isiT]; decide +kernel) rfl
    | lst => exact notit (by dsimp only [isiT]; decide +kernel) rfl
    | tup gs =>
      have loop : gs.length = ds.length → DSs (cxOf CX0 P w K mg base N_law_same "_law_same" (defScope s_law_same) f cdv A outer s H E).nox (Γ0 N_law_same [.tup gs, .tup ds]) ((defBody s_law_same).drop 7) (.rt (.bl (loopR gs ds))) := fun hl => by
        have hf : DSt (cxOf CX0 P w K mg base N_law_same "_law_same" (defScope s_law_same) f cdv A outer s H E).nox _ ((defBody s_law_same).getD 7 (.Pass ⟨0, 0, 0, 0⟩)) _ := dst_forE () (fun _ => [.val (.tup gs), .val (.tup ds), .no]) (fun _ a => if same (gs.getD a .non) (ds.getD a .non) then none else some (D.bl false)) (fun _ _ => ()) PassesOwn.never rfl
          (di_range 2 T.range (de_callB okc_lenT T.len (des_cons (de_var 1) des_nil)) (by omega)) (pg_name (i := 2) sc_law_same.nd rfl (Or.inl rfl)) (fun pre a post ep b eb => by
            have ha : a ∈ List.range ((ds.length : Int)).toNat := by rw [ep]; simp
            rw [Int.toNat_natCast] at ha
            have ha := List.mem_range.mp ha
            have hag : a < gs.length := by omega
            have e1 : gs[a]? = some (gs.getD a .non) := by rw [List.getD_eq_getElem?_getD, List.getElem?_eq_getElem hag]; rfl
            have e2 : ds[a]? = some (ds.getD a .non) := by rw [List.getD_eq_getElem?_getD, List.getElem?_eq_getElem ha]; rfl
            have hR : R_same n [gs.getD a .non, ds.getD a .non] (.bl (same (gs.getD a .non) (ds.getD a .non))) := ⟨_, _, deeps_get hds e2, deep_get hg (.inr rfl) e1, rfl, rfl⟩
            cases hs : same (gs.getD a .non) (ds.getD a .non) with
            | true =>
              rw [hs] at hR
              exact dss_post (wk_cons wks_id (wk_cons wks_id (wk_cons wks_no wk_nil))) (dss_one (dst_ifj (cb := false) (db_not (c1 := true) (db_val (de_callE (ih n rfl) hr (des_cons (de_ixT (atI_nat e1) (dt_of (de_var 0)) (de_var 2)) (des_cons (de_ixT (atI_nat e2) (dt_of (de_var 1)) (de_var 2)) des_nil)) hR))) (fun h => nomatch h) fun _ => dss_nil))
            | false =>
              rw [hs] at hR
              exact dss_one (dst_ifj (cb := true) (db_not (c1 := false) (db_val (de_callE (ih n rfl) hr (des_cons (de_ixT (atI_nat e1) (dt_of (de_var 0)) (de_var 2)) (des_cons (de_ixT (atI_nat e2) (dt_of (de_var 1)) (de_var 2)) des_nil)) hR))) (fun _ => dss_one (dst_ret de_bl)) fun h => nomatch h))
        rw [runE_search, Int.toNat_natCast] at hf
        have el : ((List.range ds.length).all fun a => same (gs.getD a .non) (ds.getD a .non)) = loopR gs ds := rfl
        rw [el] at hf
        cases hL : loopR gs ds with
        | true =>
          rw [hL] at hf
          exact dss_cons hf (dss_one (dst_ret de_bl))
        | false =>
          rw [hL] at hf
          exact dss_rt hf
      by_cases hl : gs.length = ds.length
      · obtain ⟨o, h, e⟩ := fin (.rt (.bl (loopR gs ds))) (dss_gF (db_of (dw_or (c1 := false) (c2 := false) (db_of (dw_and (c1 := false) (c2 := false) (db_val (de_isi (b := false) "list" T.isinstance T.list (de_var 1))) fun h => nomatch h)) fun _ => dw_or1 (db_of (dw_and (c1 := true) (db_val (de_isi (b := true) "tuple" T.isinstance T.tuple (de_var 1))) fun _ => dw_and1 (db_not (c1 := true) (db_val (de_isi (b := true) "tuple" T.isinstance T.tuple (de_var 0)))))))) (dss_gF (by
          rw [show false = (!decide ((gs.length : Int) = (ds.length : Int))) from by rw [hl, decide_eq_true rfl]; rfl]
          exact db_cmp ok_neI (de_callB okc_lenT T.len (des_cons (de_var 0) des_nil)) (de_callB okc_lenT T.len (des_cons (de_var 1) des_nil))) (loop hl)))
        exact ⟨o, h, by rw [e, loopR_eq hl]; rfl⟩
      · obtain ⟨o, h, e⟩ := fin (.rt (.bl false)) (dss_gF (db_of (dw_or (c1 := false) (c2 := false) (db_of (dw_and (c1 := false) (c2 := false) (db_val (de_isi (b := false) "list" T.isinstance T.list (de_var 1))) fun h => nomatch h)) fun _ => dw_or1 (db_of (dw_and (c1 := true) (db_val (de_isi (b := true) "tuple" T.isinstance T.tuple (de_var 1))) fun _ => dw_and1 (db_not (c1 := true) (db_val (de_isi (b := true) "tuple" T.isinstance T.tuple (de_var 0)))))))) (dss_gT (by
          rw [show true = (!decide ((gs.length : Int) = (ds.length : Int))) from by rw [decide_eq_false (by omega)]; rfl]
          exact db_cmp ok_neI (de_callB okc_lenT T.len (des_cons (de_var 0) des_nil)) (de_callB okc_lenT T.len (des_cons (de_var 1) des_nil))) (dss_one (dst_ret de_bl))))
        exact ⟨o, h, by rw [e, show same (.tup gs) (.tup ds) = sames gs ds from rfl, sames_len hl]; rfl⟩
end


abbrev s_law_pool : Stmt := topS 6
abbrev N_law_pool : List Str := ["script", "cells", "cell"]
theorem sc_law_pool : FnScope N_law_pool ["script"] (defScope s_law_pool) := ⟨rfl, rfl, rfl, by decide +kernel, rfl, by decide +kernel, by decide +kernel⟩
section
variable {P : Program} {w : World} {K : PySem.W.Frag} {mg : Str → Option Value} {base : Heap} {f : Addr} {fd : FuncData}
theorem ok_law_pool (F : Fun K "_law_pool" "_law_pool" s_law_pool f fd) (T : Bt mg) : FnOk P w K mg base CX0 1 f fd ["script"] (spS K FrP) := by
  refine F.ok sc_law_pool (fun vs H Q E ⟨a, ns, e, _⟩ => by rw [e]; rfl) fun cdv A outer s H vs Q E hr ⟨a, ns, e, hS, hl, q⟩ => ?_
  subst e
  have nd := sc_law_pool.nd
  let cs : List Int := (ns.take 63).map fun z => if z < 0 then -z else z
  have h1 : DSt (cxOf CX0 P w K mg base N_law_pool "_law_pool" (defScope s_law_pool) f cdv A outer s H E).nox (ΓS N_law_pool ns) ((defBody s_law_pool).getD 0 (.Pass ⟨0, 0, 0, 0⟩)) (.nx ((ΓS N_law_pool ns).set 1 (.own (((ns.take 63).filter fun _ => true).map fun z => D.int (if z < 0 then -z else z))))) :=
    dst_setLc 1 (own := [("cell", 2)]) (tt := tYes) (pr := fun _ => true) (f := fun z : Int => D.int (if z < 0 then -z else z)) rfl nd (di_list 2 (en := D.int) (xs := ns.take 63) (de_scrTo 0 (k := 63) (by omega) de_int)) (blkOk_by (by kernel_rfl)) (by simp) (fun _ _ _ _ _ => pg_name (i := 2) nd rfl (Or.inl rfl)) (fun _ _ _ _ _ => pts_nil)
      (fun a _ A2 σ H Q _ k => k H (Same.refl H)) (fun a ha _ _ _ _ _ _ => de_callB okc_abs T.abs (des_cons (de_callTy okc_int T.int (des_cons (de_var 2) des_nil)) des_nil)) (small (by rw [List.length_take]; omega))
  have ecs : (((ns.take 63).filter fun _ => true).map fun z => D.int (if z < 0 then -z else z)) = cs.map D.int := by
    rw [List.filter_eq_self.mpr fun _ _ => rfl]
    show _ = List.map D.int (List.map _ _)
    rw [List.map_map]; rfl
  rw [ecs] at h1
  have h2 : DE (cxOf CX0 P w K mg base N_law_pool "_law_pool" (defScope s_law_pool) f cdv A outer s H E).nox ((ΓS N_law_pool ns).set 1 (.own (cs.map D.int))) (match (defBody s_law_pool).getD 1 (.Pass ⟨0, 0, 0, 0⟩) with | .Return (some (.List es _)) _ => es.getD 4 (.Constant .none 0 ⟨0, 0, 0, 0⟩) | _ => .Constant .none 0 ⟨0, 0, 0, 0⟩) (.int (cs.sum % 1000000007)) :=
    de_op (ok_mod (by omega)) (de_callTy okc_int T.int (des_cons (de_callBU (okc_sum rfl) trivial T.sum (dus_cons (du_own (ds_own 1)) dus_nil)) des_nil)) de_int
  refine ⟨_, pss_cons (h1 (fun _ => False)) (pss_one (ps_ret (pe_lst (pa_cons (pv 1) (pa_cons pe_int (pa_cons pe_int (pa_cons pe_int (pa_cons (PE_some h2) pa_nil)))))))), ⟨H, 0⟩, ⟨fun _ => 0, fun _ => False⟩, srS hS (by decide), fun σ2 H2 r2 S2 => ?_⟩
  obtain ⟨v, vs, e1, e2, r1⟩ := S2.sx.sl 1 _ rfl
  have er := r1.ints
  subst er
  obtain ⟨o1, o2⟩ := S2.own 1 _ rfl
  rw [o1] at e1; cases e1
  refine ⟨_, o1, Aof (fun _ => False) _ r2, S2.sx, fun w H3 s3 r3 => ?_⟩
  cases r3
  refine ⟨by show 5 ≤ sizeLine; decide, fun p hp => ?_⟩
  refine q _ _ ((S2.base.trans s3).trans (same_new hp _)) ⟨p, r2 1, cs, _, rfl, S2.base.free (s3.free hp), o2, (fun z => by rw [← z, s3 _ _ e2] at hp; cases hp), upd_same, same_new hp _ _ _ (s3 _ _ e2), fun x hx => ?_, by omega, by omega⟩
  obtain ⟨z, _, rfl⟩ := List.mem_map.mp hx
  split <;> omega
end


abbrev s_law_draw : Stmt := topS 7
abbrev N_law_draw : List Str := ["pool", "many", "base", "digit", "mixed"]
theorem sc_law_draw : FnScope N_law_draw ["pool", "many"] (defScope s_law_draw) := ⟨rfl, rfl, rfl, by decide +kernel, rfl, by decide +kernel, by decide +kernel⟩
def Pre_draw (ds : List D) : Prop := ∃ many : Int, ds = [.int many] ∧ 0 < many ∧ many < 1073741824
def R_draw (ds : List D) (d : D) : Prop := ∃ many r : Int, ds = [.int many] ∧ 0 ≤ r ∧ r < many ∧ d = .int r
section
variable {P : Program} {w : World} {K : PySem.W.Frag} {mg : Str → Option Value} {base : Heap} {f : Addr} {fd : FuncData}
abbrev poolL (cells : List Int) (i d k s : Int) : List D := [.lst (cells.map .int), .int i, .int d, .int k, .int s]
theorem pool_ok {cells : List Int} {i d k s : Int} (h1 : ∀ x ∈ cells, 0 ≤ x) (h2 : 0 ≤ i) (h3 : 0 ≤ d) (h4 : 0 ≤ k) (h5 : 0 ≤ s) (h6 : s < 1000000007) : PoolD (poolL cells i d k s) := ⟨cells, i, d, k, s, rfl, h1, h2, h3, h4, h5, h6⟩
theorem ok_law_draw (F : Fun K "_law_draw" "_law_draw" s_law_draw f fd) (T : Bt mg) : FnOk P w K mg base CX0 1 f fd ["pool", "many"] (spP K Pre_draw R_draw) := by
  refine fn_mkP F sc_law_draw (fun ds ⟨many, e, _⟩ => by rw [e]; rfl) fun cdv A outer s H E hr pl ds hp ⟨many, e, m0, m1⟩ => ?_
  subst e
  obtain ⟨cells, i, d, k, s, rfl, hc, hi, hd, hk, hs0, hs1⟩ := hp
  have nd := sc_law_draw.nd
  refine dps_of (o := .rt .non) (dst_setOwn 0 3 (de_op ok_add (de_ixOwn 0 3) de_int)) ?_
  refine dps_of (o := .rt .non) (dst_set 2 (de_ixOwn 0 4) nd) ?_
  refine dps_if (cb := decide (d < 2) && decide (i < (cells.length : Int))) (Nx1 := fun Γ1 => ∃ base i d : Int, 0 ≤ base ∧ 0 ≤ i ∧ 0 ≤ d ∧ Γ1 = [.own (poolL cells i d (k + 1) s), .val (.int many), .val (.int base), .no, .no])
    (db_of (dw_and (db_cmp ok_lt (de_ixOwn 0 2) de_int) fun _ => dw_and1 (db_cmp ok_lt (de_ixOwn 0 1) (de_callB okc_lenE T.len (des_cons (de_ixOwn 0 0) des_nil)))))
    (fun cc => ?_) (fun _ => dps_nil ⟨s, i, d, hs0, hi, hd, rfl⟩) ?_
  · have c2 : i < (cells.length : Int) := of_decide_eq_true (Bool.and_eq_true _ _ ▸ cc).2
    have hit : i.toNat < cells.length := by omega
    have h0 : 0 ≤ cells.getD i.toNat default := getD_all hc hit
    refine dps_of (o := .rt .non) (dst_set 2 (de_ixE (en := D.int) hi c2 (de_ixOwn 0 0) (de_ixOwn 0 1)) nd) ?_
    refine dps_of (o := .rt .non) (dst_setOwn 0 1 (de_op ok_add (de_ixOwn 0 1) de_int)) ?_
    refine dps_if (cb := decide (10 ^ 18 ≤ cells.getD i.toNat default)) (db_cmp ok_ge (de_var 2) (de_op (ok_pow ⟨by decide, by decide, by decide⟩) de_int de_int)) (fun cc => ?_) (fun _ => dps_nil ⟨_, i + 1, d, h0, by omega, hd, rfl⟩) (fun Γ1 h => dps_nil h)
    have c3 : (10 : Int) ^ 18 ≤ cells.getD i.toNat default := of_decide_eq_true cc
    refine dps_of (o := .rt .non) (dst_setOwn 0 2 (de_op ok_sub (de_var 2) (de_op (ok_pow ⟨by decide, by decide, by decide⟩) de_int de_int))) (dps_nil ⟨cells.getD i.toNat default, i + 1, cells.getD i.toNat default - 10 ^ 18, h0, by omega, by omega, rfl⟩)
  · rintro Γ1 ⟨base, i, d, hb, hi, hd, rfl⟩
    refine dps_if (cb := decide (1 < d) || decide (10 ^ 18 ≤ base)) (Nx1 := fun Γ1 => Γ1 = [.own (poolL cells i d (k + 1) s), .val (.int many), .val (.int base), .no, .no] ∧ base < 10 ^ 18)
      (db_of (dw_or (db_cmp ok_gt (de_ixOwn 0 2) de_int) fun _ => dw_or1 (db_cmp ok_ge (de_var 2) (de_op (ok_pow ⟨by decide, by decide, by decide⟩) de_int de_int)))) (fun _ => ?_) (fun cc => dps_nil ⟨rfl, ?_⟩) ?_
    · refine dps_of (o := .rt .non) (dst_set 3 (de_op (ok_mod m0) (de_callTy okc_int T.int (des_cons (de_ixOwn 0 2) des_nil)) (de_var 1)) nd) ?_
      refine dps_of (o := .rt .non) (dst_setOwn 0 2 (de_op (ok_fdiv ⟨m0, m1⟩) (de_ixOwn 0 2) (de_var 1))) ?_
      exact dps_ret rfl (pool_ok hc hi (Int.ediv_nonneg hd (by omega)) (by omega) hs0 hs1) (de_var 3) ⟨many, d % many, rfl, Int.emod_nonneg _ (by omega), Int.emod_lt_of_pos _ m0, rfl⟩
    · rw [Bool.or_eq_false_iff] at cc
      have := of_decide_eq_false cc.2
      omega
    · rintro Γ1 ⟨rfl, hlt⟩
      refine dps_of (o := .rt .non) (dst_set 4 (de_op (ok_mod (by omega)) (de_callTy okc_int T.int (des_cons (de_op ok_add (de_op ok_add (de_op (ok_mul (j := 48271) (.inr (by omega))) (de_var 2) de_int) (de_op (ok_mul (j := 69621) (.inr (by omega))) (de_ixOwn 0 3) de_int)) de_int) des_nil)) de_int) nd) ?_
      refine dps_of (o := .rt .non) (dst_set 4 (de_op (ok_mod (by omega)) (de_callTy okc_int T.int (des_cons (de_op ok_add (de_op ok_add (de_op' (de_var 4) (de_var 4) (ok_mul (.inr (by omega)))) (de_op (ok_mul (j := 40692) (.inr (by omega))) (de_ixOwn 0 3) de_int)) de_int) des_nil)) de_int) nd) ?_
      refine dps_of (o := .rt .non) (dst_set 4 (de_op (ok_mod (by omega)) (de_callTy okc_int T.int (des_cons (de_op ok_add (de_op ok_add (de_op' (de_var 4) (de_var 4) (ok_mul (.inr (by omega)))) (de_var 2)) de_int) des_nil)) de_int) nd) ?_
      exact dps_ret rfl (pool_ok hc hi hd (by omega) hs0 hs1) (de_op (ok_mod m0) (de_callTy okc_int T.int (des_cons (de_op (ok_fdiv ⟨by omega, by omega⟩) (de_var 4) de_int) des_nil)) (de_var 1)) ⟨many, _, rfl, Int.emod_nonneg _ (by omega), Int.emod_lt_of_pos _ m0, rfl⟩
end


abbrev s_law_stops : Stmt := topS 8
abbrev N_law_stops : List Str := ["pool", "villages", "widest", "size", "left", "stops", "turn", "at"]
theorem sc_law_stops : FnScope N_law_stops ["pool", "villages", "widest"] (defScope s_law_stops) := ⟨rfl, rfl, rfl, by decide +kernel, rfl, by decide +kernel, by decide +kernel⟩
def Pre_stops (ds : List D) : Prop := ∃ n w : Int, ds = [.int n, .int w] ∧ 2 ≤ n ∧ n ≤ 1000 ∧ 2 ≤ w ∧ w ≤ 1000
def Stops (n w : Int) (ns : List Int) : Prop := ns.Pairwise (· < ·) ∧ (∀ x ∈ ns, 0 ≤ x ∧ x < n) ∧ 2 ≤ ns.length ∧ (ns.length : Int) ≤ w
def R_stops (ds : List D) (d : D) : Prop := ∃ n w ns, ds = [.int n, .int w] ∧ Stops n w ns ∧ d = eT D.int ns
theorem drop_at {α : Type} {l : List α} {i : Nat} (h : i < l.length) : (l.take i ++ l.drop (i + 1)).length + 1 = l.length := by
  rw [List.length_append, List.length_take, List.length_drop]; omega
theorem drop_perm {l : List Int} {i : Nat} (h : i < l.length) : ([l[i]] ++ (l.take i ++ l.drop (i + 1))).Perm l := by
  have e := split_at (List.getElem?_eq_getElem h)
  conv => rhs; rw [e]
  exact (List.perm_middle (l₁ := l.take i) (a := l[i]) (l₂ := l.drop (i + 1))).symm
theorem rngI_nodup (n : Nat) : (rngI n).Nodup := by
  unfold rngI
  exact (List.pairwise_map.mpr ((List.nodup_range (n := n)).imp fun h z => h (by omega)))
theorem rngI_mem {n : Nat} {x : Int} : x ∈ rngI n ↔ 0 ≤ x ∧ x < n := by
  unfold rngI
  rw [List.mem_map]
  constructor
  · rintro ⟨k, hk, rfl⟩
    have := List.mem_range.mp hk
    omega
  · rintro ⟨h0, h1⟩
    exact ⟨x.toNat, List.mem_range.mpr (by omega), by omega⟩
theorem srt_strict {ns : List Int} (h : ns.Nodup) : (srt ns).Pairwise (· < ·) := by
  have h1 := srt_sorted ns
  have h2 : (srt ns).Nodup := (srt_perm ns).nodup_iff.mpr h
  exact (h1.and h2).imp fun ⟨a, b⟩ => by omega
section
variable {P : Program} {w : World} {K : PySem.W.Frag} {mg : Str → Option Value} {base : Heap} {f : Addr} {fd : FuncData}
theorem ok_law_stops (F : Fun K "_law_stops" "_law_stops" s_law_stops f fd) (T : Bt mg) (c_draw : CalP P w K mg base "_law_draw" 1 ["pool", "many"] Pre_draw R_draw) : FnOk P w K mg base CX0 2 f fd ["pool", "villages", "widest"] (spP K Pre_stops R_stops) := by
  refine fn_mkP F sc_law_stops (fun ds ⟨n, w, e, _⟩ => by rw [e]; rfl) fun cdv A outer s H E hr pl ds hp ⟨n, wd, e, n2, n1, w2, w1⟩ => ?_
  subst e
  have nd := sc_law_stops.nd
  -- size = 2 + draw
  refine dps_set 3 (F := fun d : D => match d with | .int r => D.int (2 + r) | _ => .non) rfl (dx_opL rfl de_int (dx_call c_draw hr rfl hp (des_cons (de_callB (okc_max2 rfl) T.max (des_cons de_int (des_cons (de_op ok_sub (de_callB (okc_min2 rfl) T.min (des_cons (de_var 2) (des_cons (de_var 1) des_nil))) de_int) des_nil))) des_nil) ⟨_, rfl, by split <;> omega, by split <;> split <;> omega⟩) fun d hd => by
      obtain ⟨many, r, _, _, _, rfl⟩ := hd
      exact ok_add) (fun d pl hd hp => ?_) nd
  obtain ⟨many, r, em, r0, r1, rfl⟩ := hd
  have em' : many = (if (if n < wd then n else wd) - 1 > 1 then (if n < wd then n else wd) - 1 else 1) := by
    have := (List.cons.inj em).1
    injection this with this
    exact this.symm
  have hsz : 2 + r ≤ n ∧ 2 + r ≤ wd := by
    rw [em'] at r1
    split at r1 <;> split at r1 <;> omega
  clear em em'
  refine dps_of (o := .rt .non) (dst_set 4 (de_f (df_listRange (de_var 1) (by omega) T.list T.range)) nd) ?_
  refine dps_of (o := .rt .non) (dst_own 5 (df_lst des_nil) nd) ?_
  refine dps_for (Iv := fun i Γ => ∃ (pl : List D) (left stops : List Int), PoolD pl ∧ Γ = [.own pl, .val (.int n), .val (.int wd), .val (.int (2 + r)), .val (eL D.int left), .own (stops.map D.int), .no, .no] ∧ stops.length = i ∧ (left.length : Int) = n - i ∧ (stops ++ left).Perm (rngI n.toNat))
    PassesOwn.never rfl ⟨pl, rngI n.toNat, [], hp, rfl, rfl, by rw [rngI_len]; omega, List.Perm.refl _⟩ (di_range 6 T.range (de_var 3) (by omega)) (pg_name (i := 6) nd rfl (Or.inl rfl)) ?_ ?_
  · rintro i a Γ1 ha ⟨pl, left, stops, hp, rfl, hsl, hll, hperm⟩
    have hi : i < (2 + r).toNat := by
      have := (List.getElem?_eq_some_iff.mp ha).1
      rw [List.length_range] at this
      exact this
    have hpos : 0 < (left.length : Int) := by omega
    refine dps_set 7 rfl (dx_call c_draw hr rfl hp (des_cons (de_callB okc_lenE T.len (des_cons (de_var 4) des_nil)) des_nil) ⟨_, rfl, hpos, by omega⟩) (fun d pl hd hp => ?_) nd
    obtain ⟨many, z, em, z0, z1, rfl⟩ := hd
    have em' : many = (left.length : Int) := by
      have := (List.cons.inj em).1
      injection this with this
      exact this.symm
    subst em'
    have hz : z.toNat < left.length := by omega
    refine dps_of (o := .rt .non) (dst_append (ds := stops.map D.int) 5 (de_ixE (en := D.int) z0 z1 (de_var 4) (de_var 7)) (by rw [List.length_map]; exact smallt (by omega))) ?_
    refine dps_of (o := .rt .non) (dst_set 4 (de_op (ok_catE (en := D.int) (xs := left.take z.toNat) (ys := left.drop (z + 1).toNat) (by rw [List.length_take, List.length_drop]; exact small (by omega))) (de_toE (en := D.int) z0 (de_var 4) (de_var 7)) (de_fromE (en := D.int) (by omega) (de_var 4) (de_op ok_add (de_var 7) de_int))) nd) ?_
    refine dps_weak (Γ1 := [.own pl, .val (.int n), .val (.int wd), .val (.int (2 + r)), .val (eL D.int (left.take z.toNat ++ left.drop (z + 1).toNat)), .own ((stops.map D.int) ++ [D.int (left.getD z.toNat default)]), .no, .no])
      (wk_cons wks_id (wk_cons wks_id (wk_cons wks_id (wk_cons wks_id (wk_cons wks_id (wk_cons wks_id (wk_cons wks_no (wk_cons wks_no wk_nil)))))))) ?_
    have e1 : (z + 1).toNat = z.toNat + 1 := by omega
    have e2 : left.getD z.toNat default = left[z.toNat] := by rw [List.getD_eq_getElem?_getD, List.getElem?_eq_getElem hz]; rfl
    refine dps_nil ⟨pl, _, stops ++ [left.getD z.toNat default], hp, by rw [List.map_append]; rfl, by rw [List.length_append, hsl]; rfl, ?_, ?_⟩
    · rw [e1]
      have := drop_at hz
      omega
    · rw [e1, e2, List.append_assoc]
      exact (List.Perm.append_left stops (drop_perm hz)).trans hperm
  · rintro Γ1 ⟨pl, left, stops, hp, rfl, hsl, hll, hperm⟩
    rw [List.length_range] at hsl hll
    refine dps_weak (Γ1 := [.own pl, .val (.int n), .val (.int wd), .val (.int (2 + r)), .val (eL D.int left), .val (eL D.int stops), .no, .no]) (wk_cons wks_id (wk_cons wks_id (wk_cons wks_id (wk_cons wks_id (wk_cons wks_id (wk_cons wks_ow (wk_cons wks_no (wk_cons wks_no wk_nil)))))))) ?_
    have hnd : stops.Nodup := (List.nodup_append.mp (hperm.nodup_iff.mpr (rngI_nodup _))).1
    refine dps_ret rfl hp (de_callTy okc_tuple T.tuple (des_cons (de_callB okc_sorted T.sorted (des_cons (de_var 5) des_nil)) des_nil)) ⟨n, wd, srt stops, rfl, ⟨srt_strict hnd, fun x hx => ?_, ?_, ?_⟩, rfl⟩
    · have hx' := (srt_perm stops).mem_iff.mp hx
      have := rngI_mem.mp (hperm.mem_iff.mp (List.mem_append_left _ hx'))
      omega
    · rw [(srt_perm stops).length_eq, hsl]; omega
    · rw [(srt_perm stops).length_eq, hsl]; omega
end


end G
set_option Elab.async false
set_option linter.all false
set_option maxRecDepth 100000
namespace G
open PySem PySem.Spec PyProof.Rows L2
local macro_rules | `(tactic| walk_at "side") => `(tactic| ((try simp only [List.mem_range, List.length_range, List.length_zipIdx] at *); first | omega | exact small (by omega) | (constructor <;> omega)))
section
variable {P : Program} {w : World} {K : PySem.W.Frag} {mg : Str → Option Value} {base : Heap} {f : Addr} {fd : FuncData}

abbrev s_law_built : Stmt := topS 11
abbrev N_law_built : List Str := ["pool", "villages", "kinds", "drawn", "labels", "left", "places", "turn", "stops", "at", "v", "label"]
theorem sc_law_built : FnScope N_law_built ["pool"] (defScope s_law_built) := ⟨rfl, rfl, rfl, by decide +kernel, rfl, by decide +kernel, by decide +kernel⟩
def firsts (p_labels : List Int) : List Int := ((List.range p_labels.length).filter fun (p_v : Nat) => (decide ((p_labels.getD (((p_v : Nat) : Int)).toNat default) = ((p_v : Nat) : Int)))).map fun (p_v : Nat) => ((p_v : Nat) : Int)
structure Labels (lab : List Int) : Prop where
  at0 : ∀ (i : Nat) (x : Int), lab[i]? = some x → 0 ≤ x ∧ x ≤ i ∧ lab[x.toNat]? = some x
structure Built (n : Int) (lab places stops : List Int) : Prop where
  n1 : 1 ≤ n
  n7 : n ≤ 7
  ll : (lab.length : Int) = n
  l0 : Labels lab
  pn : places.Nodup
  p1 : 1 ≤ places.length
  pr : ∀ p ∈ places, 0 ≤ p ∧ p < ((firsts lab).length : Int)
  st : (n = 1 ∧ stops = []) ∨ (1 < n ∧ Stops n 5 stops)
def R_built (d : D) : Prop := ∃ n lab places stops, Built n lab places stops ∧ d = .tup [.int n, eL D.int lab, eL D.int places, eT D.int stops]
def d1 : D → D := fun d => match d with | .int r => D.int (1 + r) | _ => .non
def is5 : D → Bool := fun d => match d with | .int r => decide (r = 5) | _ => false
theorem draw_is {m : Int} {d : D} (h : R_draw [.int m] d) : ∃ r, 0 ≤ r ∧ r < m ∧ d = .int r := by
  obtain ⟨many, r, em, r0, r1, rfl⟩ := h
  have := (List.cons.inj em).1
  injection this with this
  subst this
  exact ⟨r, r0, r1, rfl⟩
theorem ix_spec {x : Int} : ∀ {l : List Int}, x ∈ l → l[l.idxOf x]? = some x ∧ ∀ m : Nat, m < l.idxOf x → l[m]? ≠ some x
  | [], h => nomatch h
  | a :: l, h => by
    by_cases c : a = x
    · subst c
      rw [List.idxOf_cons_self]
      exact ⟨rfl, fun m hm => absurd hm (by omega)⟩
    · have e : (a :: l).idxOf x = l.idxOf x + 1 := by
        rw [List.idxOf_cons, show (a == x) = false from beq_eq_false_iff_ne.mpr c]; rfl
      have hx : x ∈ l := by
        rcases List.mem_cons.mp h with h | h
        · exact absurd h.symm c
        · exact h
      obtain ⟨h1, h2⟩ := ix_spec hx
      rw [e]
      refine ⟨h1, fun m hm => ?_⟩
      cases m with
      | zero => exact fun z => c (Option.some.inj z)
      | succ m => exact h2 m (by omega)
def labs (xs : List Int) : List Int := xs.map fun x => ((xs.idxOf x : Nat) : Int)
theorem labs_ok (xs : List Int) : Labels (labs xs) := ⟨fun i y h => by
  unfold labs at h ⊢
  rw [List.getElem?_map] at h
  cases hx : xs[i]? with
  | none => rw [hx] at h; cases h
  | some x =>
    rw [hx] at h
    have h : ((xs.idxOf x : Nat) : Int) = y := Option.some.inj h
    have hm := List.mem_of_getElem? hx
    obtain ⟨h1, h2⟩ := ix_spec hm
    have hy : y.toNat = xs.idxOf x := by omega
    refine ⟨by omega, ?_, ?_⟩
    · by_cases c : xs.idxOf x ≤ i
      · omega
      · exact absurd hx (h2 i (by omega))
    · rw [List.getElem?_map, hy, h1]
      exact congrArg some h⟩
theorem firsts_len (lab : List Int) : (firsts lab).length ≤ lab.length := by
  unfold firsts
  rw [List.length_map]
  exact Nat.le_trans (List.length_filter_le _ _) (by rw [List.length_range]; exact Nat.le_refl _)
theorem firsts_pos {lab : List Int} (h : Labels lab) (n : 1 ≤ lab.length) : 1 ≤ (firsts lab).length := by
  have h0 : ∃ x, lab[0]? = some x := ⟨_, List.getElem?_eq_getElem (by omega)⟩
  obtain ⟨x, h0⟩ := h0
  obtain ⟨h1, h2, _⟩ := h.at0 0 x h0
  have hx : x = 0 := by omega
  subst hx
  unfold firsts
  rw [List.length_map]
  refine List.length_pos_of_mem (a := 0) (List.mem_filter.mpr ⟨List.mem_range.mpr (by omega), decide_eq_true ?_⟩)
  show lab.getD 0 default = 0
  rw [List.getD_eq_getElem?_getD, h0]; rfl
theorem draws_are {m : Int} : ∀ {zs : List D}, (∀ z ∈ zs, R_draw [.int m] z) → ∃ xs : List Int, zs.map id = xs.map D.int ∧ xs.length = zs.length
  | [], _ => ⟨[], rfl, rfl⟩
  | z :: zs, h => by
    obtain ⟨r, _, _, e⟩ := draw_is (h z (List.mem_cons_self ..))
    obtain ⟨xs, e2, e3⟩ := draws_are (zs := zs) fun z hz => h z (List.mem_cons_of_mem _ hz)
    exact ⟨r :: xs, by rw [List.map_cons, List.map_cons, e2, e]; rfl, by rw [List.length_cons, List.length_cons, e3]⟩
theorem ok_law_built (F : Fun K "_law_built" "_law_built" s_law_built f fd) (T : Bt mg) (c_draw : CalP P w K mg base "_law_draw" 1 ["pool", "many"] Pre_draw R_draw) (c_stops : CalP P w K mg base "_law_stops" 2 ["pool", "villages", "widest"] Pre_stops R_stops) : FnOk P w K mg base CX0 3 f fd ["pool"] (spP K (fun ds => ds = []) (fun _ d => R_built d)) := by
  refine fn_mkP F sc_law_built (fun ds e => by rw [e]; rfl) fun cdv A outer s H E hr pl ds hp e => ?_
  subst e
  have nd := sc_law_built.nd
  have hr1 := hr.mono (j := 1) (by decide)
  refine dps_set 1 (F := d1) rfl (dx_opL rfl de_int (dx_call c_draw hr1 rfl hp (des_cons de_int des_nil) ⟨4, rfl, by omega, by omega⟩) fun d hd => by
      obtain ⟨r, _, _, rfl⟩ := draw_is hd
      exact ok_add) (fun d pl hd hp => ?_) nd
  obtain ⟨r, r0, r1, rfl⟩ := draw_is hd
  clear hd
  refine dps_ifX (FB := is5) (Nx1 := fun Γ1 => ∃ n pl, 1 ≤ n ∧ n ≤ 7 ∧ PoolD pl ∧ Γ1 = [.own pl, .val (.int n), .no, .no, .no, .no, .no, .no, .no, .no, .no, .no]) rfl (dxb_cmp rfl (dx_call c_draw hr1 rfl hp (des_cons de_int des_nil) ⟨6, rfl, by omega, by omega⟩) (fun _ _ => de_int) fun d hd => by
      obtain ⟨r, _, _, rfl⟩ := draw_is hd
      exact ok_eqI) (fun d pl hd hp hf => ?_) (fun d pl hd hp hf => dps_nil ⟨1 + r, pl, by omega, by omega, hp, rfl⟩) ?_
  · refine dps_set 1 (F := d1) rfl (dx_opL rfl de_int (dx_call c_draw hr1 rfl hp (des_cons de_int des_nil) ⟨7, rfl, by omega, by omega⟩) fun d hd => by
      obtain ⟨r, _, _, rfl⟩ := draw_is hd
      exact ok_add) (fun d pl hd hp => ?_) nd
    obtain ⟨r, r0, r1, rfl⟩ := draw_is hd
    exact dps_nil ⟨1 + r, pl, by omega, by omega, hp, rfl⟩
  clear hp r0 r1 r
  rintro Γ1 ⟨n, pl, n1, n7, hp, rfl⟩
  refine dps_set 2 (F := d1) rfl (dx_opL rfl de_int (dx_call c_draw hr1 rfl hp (des_cons (de_var 1) des_nil) ⟨n, rfl, by omega, by omega⟩) fun d hd => by
      obtain ⟨r, _, _, rfl⟩ := draw_is hd
      exact ok_add) (fun d pl hd hp => ?_) nd
  obtain ⟨r, r0, r1, rfl⟩ := draw_is hd
  clear hd
  refine dps_set 3 rfl (dx_lcX (q := 0) (own := [("v", 10)]) (js := [10]) (ps := pl) (F := id) (its := List.range n.toNat) rfl rfl (by intro l hl s h; rcases List.mem_singleton.mp hl with rfl; exact (Option.some.inj h).symm) (by simp) rfl nd (fun ps hp => di_range 10 T.range (de_var 1) (by omega)) hp (blkOk_by (by kernel_rfl)) (by simp) (fun _ _ _ _ _ => pg_name (i := 10) nd rfl (by first | exact Or.inl rfl | exact Or.inr rfl))
    (fun a ha ps hp s H C cl fp => dx_call c_draw hr1 rfl hp (des_cons (de_var 2) des_nil) ⟨1 + r, rfl, by omega, by omega⟩) (by rw [List.length_range]; exact small (by omega))) (fun zs pl hzl hp => ?_) nd
  obtain ⟨hzl, hz⟩ := hzl
  obtain ⟨xs, hxs, hxl⟩ := draws_are hz
  rw [List.length_range] at hzl
  rw [hxs]
  have hln : ((labs xs).length : Int) = n := by unfold labs; rw [List.length_map]; omega
  refine dps_of (o := .rt .non) (dst_set (d := eL D.int (labs xs)) 4 (de_f (de_lcE (own := [("label", 11)]) (en2 := D.int) (fun x : Int => ((xs.idxOf x : Nat) : Int)) rfl nd (di_list 11 (en := D.int) (de_var 3)) (blkOk_by (by kernel_rfl)) (by simp) (fun _ _ _ _ _ => pg_name (i := 11) nd rfl (by first | exact Or.inl rfl | exact Or.inr rfl)) (small (by omega)) (fun x hx _ _ _ _ _ => de_indexI (de_var 3) (de_var 11) (ix_spec hx).1 (ix_spec hx).2))) nd) ?_
  have hlab := labs_ok xs
  generalize labs xs = p_labels at hln hlab ⊢
  have ef : (((List.range (n).toNat).filter fun (p_v : Nat) => (decide ((p_labels.getD (((p_v : Nat) : Int)).toNat default) = ((p_v : Nat) : Int)))).map fun (p_v : Nat) => ((p_v : Nat) : Int)) = firsts p_labels := by unfold firsts; rw [show (n).toNat = p_labels.length by omega]
  have hm1 := firsts_pos hlab (by omega)
  have hm2 := firsts_len p_labels
  have hsz : 0 ≤ ((firsts p_labels).length : Int) ∧ ((firsts p_labels).length : Int) ≤ 16777216 := by omega
  rw [← ef] at hsz
  refine dps_of (o := .rt .non) (dst_set 5 (de_f (df_listRange (de_callB (okc_lenE (en := D.int)) T.len (des_cons (de_f (de_lcIfE (own := [("v", 10)]) (en2 := D.int) (fun (p_v : Nat) => (decide ((p_labels.getD (((p_v : Nat) : Int)).toNat default) = ((p_v : Nat) : Int)))) (fun (p_v : Nat) => ((p_v : Nat) : Int)) rfl sc_law_built.nd (di_range 10 T.range (de_var 1) (by walk_at "side")) (blkOk_by (by kernel_rfl)) (by simp) (fun _ _ _ _ _ => (pg_name (i := 10) sc_law_built.nd rfl (by first | exact Or.inl rfl | exact Or.inr rfl))) (by walk_at "side") (fun p_v h_p_v _ _ _ _ _ => (db_cmp ok_eqI (de_ixE (en := D.int) (by walk_at "side") (by walk_at "side") (de_var 4) (de_var 10)) (de_var 10))) (fun p_v h_p_v hc_p_v _ _ _ _ _ => (de_var 10)))) des_nil)) hsz T.list T.range)) nd) ?_
  rw [ef]
  generalize hm : (firsts p_labels).length = m at hm1 hm2
  refine dps_of (o := .rt .non) (dst_own 6 (df_lst des_nil) nd) ?_
  refine dps_forRangeX 7 (Fi := fun d : D => match d with | .int r => 1 + r | _ => 0) (Pz := R_draw [.int ((rngI m).length : Int)]) (Iv := fun _ i Γ => ∃ (pl : List D) (left places : List Int), PoolD pl ∧ Γ = [.own pl, .val (.int n), .val (.int (1 + r)), .val (eL D.int xs), .val (eL D.int p_labels), .val (eL D.int left), .own (places.map D.int), .no, .no, .no, .no, .no] ∧ places.length = i ∧ left.length + i = m ∧ (places ++ left).Perm (rngI m))
    rfl PassesOwn.never rfl T.range (dx_opL rfl de_int (dx_call c_draw hr1 rfl hp (des_cons (de_callB (okc_lenE (en := D.int) (xs := rngI m)) T.len (des_cons (de_var 5) des_nil)) des_nil) ⟨((rngI m).length : Int), rfl, by rw [rngI_len]; omega, by rw [rngI_len]; omega⟩) fun d hd => by
      rw [rngI_len] at hd
      obtain ⟨r, _, _, rfl⟩ := draw_is hd
      exact ok_add) ?_ ?_ (pg_name (i := 7) nd rfl (Or.inl rfl)) ?_ ?_
  · intro d hd
    rw [rngI_len] at hd
    obtain ⟨r, r0, r1, rfl⟩ := draw_is hd
    show -(2 ^ 62) ≤ 1 + r ∧ 1 + r < 2 ^ 62
    omega
  · intro d pl hd hp
    exact ⟨pl, rngI m, [], hp, rfl, rfl, by rw [rngI_len]; rfl, List.Perm.refl _⟩
  · rintro d hd i Γ1 hi ⟨pl, left, places, hp, rfl, hsl, hll, hperm⟩
    rw [rngI_len] at hd
    obtain ⟨r', r0', r1', rfl⟩ := draw_is hd
    have hi : i < (1 + r').toNat := hi
    have hpos : 0 < (left.length : Int) := by omega
    refine dps_set 9 rfl (dx_call c_draw hr1 rfl hp (des_cons (de_callB okc_lenE T.len (des_cons (de_var 5) des_nil)) des_nil) ⟨_, rfl, hpos, by omega⟩) (fun d pl hd hp => ?_) nd
    obtain ⟨z, z0, z1, rfl⟩ := draw_is hd
    have hz : z.toNat < left.length := by omega
    refine dps_of (o := .rt .non) (dst_append (ds := places.map D.int) 6 (de_ixE (en := D.int) z0 z1 (de_var 5) (de_var 9)) (by rw [List.length_map]; exact smallt (by omega))) ?_
    refine dps_of (o := .rt .non) (dst_set 5 (de_op (ok_catE (en := D.int) (xs := left.take z.toNat) (ys := left.drop (z + 1).toNat) (by rw [List.length_take, List.length_drop]; exact small (by omega))) (de_toE (en := D.int) z0 (de_var 5) (de_var 9)) (de_fromE (en := D.int) (by omega) (de_var 5) (de_op ok_add (de_var 9) de_int))) nd) ?_
    refine dps_weak (Γ1 := [.own pl, .val (.int n), .val (.int (1 + r)), .val (eL D.int xs), .val (eL D.int p_labels), .val (eL D.int (left.take z.toNat ++ left.drop (z + 1).toNat)), .own ((places.map D.int) ++ [D.int (left.getD z.toNat default)]), .no, .no, .no, .no, .no])
      (wk_cons wks_id (wk_cons wks_id (wk_cons wks_id (wk_cons wks_id (wk_cons wks_id (wk_cons wks_id (wk_cons wks_id (wk_cons wks_no (wk_cons wks_no (wk_cons wks_no (wk_cons wks_no (wk_cons wks_no wk_nil)))))))))))) ?_
    have e1 : (z + 1).toNat = z.toNat + 1 := by omega
    have e2 : left.getD z.toNat default = left[z.toNat] := by rw [List.getD_eq_getElem?_getD, List.getElem?_eq_getElem hz]; rfl
    refine dps_nil ⟨pl, _, places ++ [left.getD z.toNat default], hp, by rw [List.map_append]; rfl, by rw [List.length_append, hsl]; rfl, ?_, ?_⟩
    · rw [e1]
      have := drop_at hz
      omega
    · rw [e1, e2, List.append_assoc]
      exact (List.Perm.append_left places (drop_perm hz)).trans hperm
  rintro d hd Γ1 ⟨pl, left, places, hp, rfl, hsl, hll, hperm⟩
  rw [rngI_len] at hd
  obtain ⟨r', r0', r1', rfl⟩ := draw_is hd
  have hsl : places.length = (1 + r').toNat := hsl
  have hnd : places.Nodup := (List.nodup_append.mp (hperm.nodup_iff.mpr (rngI_nodup _))).1
  have hin : ∀ p ∈ places, 0 ≤ p ∧ p < ((firsts p_labels).length : Int) := fun p hp => by
    have := rngI_mem.mp (hperm.mem_iff.mp (List.mem_append_left _ hp))
    omega
  refine dps_of (o := .rt .non) (dst_set 8 (de_tup des_nil) nd) ?_
  refine dps_if (cb := decide (1 < n)) (Nx1 := fun Γ1 => ∃ pl stops, PoolD pl ∧ ((n = 1 ∧ stops = []) ∨ (1 < n ∧ Stops n 5 stops)) ∧ Γ1 = [.own pl, .val (.int n), .val (.int (1 + r)), .val (eL D.int xs), .val (eL D.int p_labels), .val (eL D.int left), .own (places.map D.int), .no, .val (eT D.int stops), .no, .no, .no]) (db_cmp ok_gt (de_var 1) de_int) (fun cc => ?_) (fun cc => dps_nil ⟨pl, [], hp, .inl ⟨by have := of_decide_eq_false cc; omega, rfl⟩, rfl⟩) ?_
  · have cc := of_decide_eq_true cc
    refine dps_set 8 rfl (dx_call c_stops (hr.mono (j := 2) (by decide)) rfl hp (des_cons (de_var 1) (des_cons de_int des_nil)) ⟨n, 5, rfl, by omega, by omega, by omega, by omega⟩) (fun d pl hd hp => ?_) nd
    obtain ⟨n', w', ns, e, hst, rfl⟩ := hd
    have e1 := (List.cons.inj e).1
    have e2 := (List.cons.inj (List.cons.inj e).2).1
    injection e1 with e1
    injection e2 with e2
    subst e1 e2
    exact dps_nil ⟨pl, ns, hp, .inr ⟨cc, hst⟩, rfl⟩
  rintro Γ1 ⟨pl, stops, hp, hst, rfl⟩
  refine dps_weak (Γ1 := [.own pl, .val (.int n), .val (.int (1 + r)), .val (eL D.int xs), .val (eL D.int p_labels), .val (eL D.int left), .val (eL D.int places), .no, .val (eT D.int stops), .no, .no, .no])
      (wk_cons wks_id (wk_cons wks_id (wk_cons wks_id (wk_cons wks_id (wk_cons wks_id (wk_cons wks_id (wk_cons wks_ow (wk_cons wks_no (wk_cons wks_id (wk_cons wks_no (wk_cons wks_no (wk_cons wks_no wk_nil)))))))))))) ?_
  exact dps_ret rfl hp (de_tup (des_cons (de_var 1) (des_cons (de_var 4) (des_cons (de_var 6) (des_cons (de_var 8) des_nil))))) ⟨n, p_labels, places, stops, ⟨n1, n7, hln, hlab, hnd, by omega, hin, hst⟩, rfl⟩

end
end G
set_option Elab.async false
set_option linter.all false
set_option maxRecDepth 100000
namespace G
open PySem PySem.Spec PyProof.Rows L2
/-! ### the arithmetic -/
def Fs (lab : List Int) : List Nat := (List.range lab.length).filter fun f => decide (lab.getD f default = (f : Int))
def Bk (lab : List Int) (f : Int) : List Int := ((List.range lab.length).filter fun v => decide (lab.getD v default = f)).map fun v : Nat => (v : Int)
theorem blocks_is (lab : List Int) : m_law_blocks lab = (Fs lab).map fun f : Nat => Bk lab (f : Int) := rfl
theorem firsts_is (lab : List Int) : firsts lab = (Fs lab).map fun f : Nat => (f : Int) := rfl
theorem index_is (lab : List Int) (v : Int) : m_law_index lab v = ((((List.range (lab.getD v.toNat default).toNat).filter fun u => decide (lab.getD u default = (u : Int))).map fun u : Nat => (u : Int)).length : Int) := rfl
theorem range_asc (n : Nat) : (List.range n).Pairwise (· < ·) := List.pairwise_lt_range
theorem Fs_asc (lab : List Int) : (Fs lab).Pairwise (· < ·) := (range_asc _).filter _
theorem Fs_nodup (lab : List Int) : (Fs lab).Nodup := (Fs_asc lab).imp fun h => Nat.ne_of_lt h
theorem Fs_mem {lab : List Int} {f : Nat} : f ∈ Fs lab ↔ f < lab.length ∧ lab.getD f default = (f : Int) := by
  unfold Fs
  rw [List.mem_filter, List.mem_range, decide_eq_true_iff]
theorem Bk_asc (lab : List Int) (f : Int) : (Bk lab f).Pairwise (· < ·) := List.pairwise_map.mpr (((range_asc _).filter _).imp fun h => by omega)
theorem Bk_mem {lab : List Int} {f x : Int} : x ∈ Bk lab f ↔ 0 ≤ x ∧ x < (lab.length : Int) ∧ lab.getD x.toNat default = f := by
  unfold Bk
  rw [List.mem_map]
  constructor
  · rintro ⟨v, hv, rfl⟩
    obtain ⟨h1, h2⟩ := List.mem_filter.mp hv
    have h1 := List.mem_range.mp h1
    exact ⟨by omega, by omega, of_decide_eq_true h2⟩
  · rintro ⟨h0, h1, h2⟩
    exact ⟨x.toNat, List.mem_filter.mpr ⟨List.mem_range.mpr (by omega), decide_eq_true h2⟩, by omega⟩
theorem getD_some {lab : List Int} {v : Nat} (h : v < lab.length) : lab[v]? = some (lab.getD v default) := by
  rw [List.getD_eq_getElem?_getD, List.getElem?_eq_getElem h]; rfl
/-- a label is a first, not behind its village -/
theorem lab_first {lab : List Int} (h : Labels lab) {v : Nat} (hv : v < lab.length) : 0 ≤ lab.getD v default ∧ lab.getD v default ≤ v ∧ (lab.getD v default).toNat ∈ Fs lab := by
  obtain ⟨h0, h1, h2⟩ := h.at0 v _ (getD_some hv)
  refine ⟨h0, h1, Fs_mem.mpr ⟨by omega, ?_⟩⟩
  rw [List.getD_eq_getElem?_getD, h2, Int.toNat_of_nonneg h0]; rfl
theorem Fs_at {lab : List Int} {f : Nat} (h : f ∈ Fs lab) : (Fs lab)[((List.range f).filter fun u => decide (lab.getD u default = (u : Int))).length]? = some f := by
  obtain ⟨h1, h2⟩ := Fs_mem.mp h
  obtain ⟨k, hk⟩ : ∃ k, lab.length = f + (k + 1) := ⟨lab.length - f - 1, by omega⟩
  unfold Fs
  rw [hk, List.range_add, List.filter_append, List.getElem?_append_right (Nat.le_refl _), Nat.sub_self, List.range_succ_eq_map, List.map_cons, List.filter_cons, if_pos (by rw [Nat.add_zero]; exact decide_eq_true h2)]
  rfl
theorem Fs_inj {lab : List Int} {i j f : Nat} (h1 : (Fs lab)[i]? = some f) (h2 : (Fs lab)[j]? = some f) : i = j := by
  have hi := (List.getElem?_eq_some_iff.mp h1).1
  exact (List.getElem?_inj hi (Fs_nodup lab)).mp (h1.trans h2.symm)
theorem index_at {lab : List Int} (h : Labels lab) {v : Int} (hv : 0 ≤ v ∧ v < (lab.length : Int)) : ∃ k : Nat, m_law_index lab v = (k : Int) ∧ (Fs lab)[k]? = some (lab.getD v.toNat default).toNat := by
  obtain ⟨h0, h1, h2⟩ := lab_first h (v := v.toNat) (by omega)
  refine ⟨_, index_is lab v, ?_⟩
  rw [List.length_map]
  exact Fs_at h2
theorem block_at {lab : List Int} {m : Nat} {b : List Int} : (m_law_blocks lab)[m]? = some b ↔ ∃ f, (Fs lab)[m]? = some f ∧ b = Bk lab (f : Int) := by
  rw [blocks_is, List.getElem?_map]
  cases (Fs lab)[m]? with
  | none => exact ⟨fun z => (nomatch z), fun ⟨_, z, _⟩ => (nomatch z)⟩
  | some f => exact ⟨fun z => ⟨f, rfl, (Option.some.inj z).symm⟩, fun ⟨g, z, e⟩ => by cases z; rw [e]; rfl⟩
/-- just one block has the village -/
theorem in_block {lab : List Int} (h : Labels lab) {v : Int} (hv : 0 ≤ v ∧ v < (lab.length : Int)) {m : Nat} : (∃ b, (m_law_blocks lab)[m]? = some b ∧ v ∈ b) ↔ m_law_index lab v = (m : Int) := by
  obtain ⟨k, ek, hk⟩ := index_at h hv
  obtain ⟨h0, h1, h2⟩ := lab_first h (v := v.toNat) (by omega)
  rw [ek]
  constructor
  · rintro ⟨b, hb, hm⟩
    obtain ⟨f, hf, rfl⟩ := block_at.mp hb
    have e := (Bk_mem.mp hm).2.2
    rw [e, Int.toNat_natCast] at hk
    rw [Fs_inj hk hf]
  · intro e
    have e : k = m := by omega
    subst e
    exact ⟨_, block_at.mpr ⟨_, hk, rfl⟩, Bk_mem.mpr ⟨hv.1, hv.2, by omega⟩⟩
theorem place_eq {lab : List Int} (h : Labels lab) {v : Int} (hv : 0 ≤ v ∧ v < (lab.length : Int)) : (∃ b, (m_law_blocks lab)[(m_law_index lab v).toNat]? = some b ∧ v ∈ b) ∧ ∀ (m : Nat) b, m < (m_law_index lab v).toNat → (m_law_blocks lab)[m]? = some b → v ∉ b := by
  obtain ⟨k, ek, hk⟩ := index_at h hv
  refine ⟨(in_block h hv).mpr (by rw [ek]; rfl), fun m b hm hb hin => ?_⟩
  have := (in_block h hv).mp ⟨b, hb, hin⟩
  omega
theorem index_in {lab : List Int} (h : Labels lab) {x : Int} (hx : 0 ≤ x ∧ x < (lab.length : Int)) : 0 ≤ m_law_index lab x ∧ m_law_index lab x < ((firsts lab).length : Int) := by
  obtain ⟨k, ek, hk⟩ := index_at h hx
  have := (List.getElem?_eq_some_iff.mp hk).1
  rw [firsts_is, List.length_map]
  omega
theorem zip_asc {α : Type} : ∀ (l : List α) (k : Nat), (l.zipIdx k).Pairwise (fun a b => a.2 < b.2) ∧ ∀ p ∈ l.zipIdx k, k ≤ p.2
  | [], _ => ⟨List.Pairwise.nil, fun _ h => nomatch h⟩
  | x :: l, k => by
    obtain ⟨h1, h2⟩ := zip_asc l (k + 1)
    rw [List.zipIdx_cons]
    refine ⟨List.pairwise_cons.mpr ⟨fun p hp => by have := h2 p hp; show k < p.2; omega, h1⟩, fun p hp => ?_⟩
    rcases List.mem_cons.mp hp with rfl | hp
    · exact Nat.le_refl _
    · have := h2 p hp; omega
theorem touch_eq {lab ss : List Int} (h : Labels lab) (hr : ∀ x ∈ ss, 0 ≤ x ∧ x < (lab.length : Int)) : m_touched_by (m_law_blocks lab) ss = srtS (ss.map (m_law_index lab)) := by
  refine srtS_of ?_ fun k => ?_
  · exact List.pairwise_map.mpr (((zip_asc _ 0).1.filter _).imp fun h => by omega)
  · unfold m_touched_by
    rw [List.mem_map, List.mem_map]
    constructor
    · rintro ⟨p, hp, rfl⟩
      obtain ⟨h1, h2⟩ := List.mem_filter.mp hp
      obtain ⟨y, hy, hy2⟩ := List.any_eq_true.mp h2
      obtain ⟨s, hs, rfl⟩ := List.mem_map.mp hy
      have hs2 : s ∈ p.1 := of_decide_eq_true hy2
      exact ⟨s, hs, (in_block h (hr s hs)).mp ⟨p.1, List.mem_zipIdx_iff_getElem?.mp h1, hs2⟩⟩
    · rintro ⟨s, hs, rfl⟩
      obtain ⟨i, ei, hi⟩ := index_at h (hr s hs)
      obtain ⟨b, hb, hin⟩ := (in_block h (hr s hs)).mpr ei
      exact ⟨(b, i), List.mem_filter.mpr ⟨List.mem_zipIdx_iff_getElem?.mpr hb, List.any_eq_true.mpr ⟨true, List.mem_map.mpr ⟨s, hs, decide_eq_true hin⟩, rfl⟩⟩, ei.symm⟩
end G
set_option Elab.async false
set_option linter.all false
set_option maxRecDepth 100000
namespace G
open PySem PySem.Spec PyProof.Rows L2
def marks (lab places : List Int) : List Int := places.map fun (p_place : Int) => (firsts lab).getD p_place.toNat default
def labJ (lab places : List Int) : List Int := lab.map fun (p_label : Int) => if decide (p_label ∈ marks lab places) then minI (marks lab places) else p_label
structure Joins (lab places : List Int) : Prop where
  l0 : Labels lab
  l1 : 1 ≤ lab.length
  l7 : lab.length ≤ 7
  nd : places.Nodup
  p1 : 1 ≤ places.length
  pr : ∀ p ∈ places, 0 ≤ p ∧ p < ((firsts lab).length : Int)
theorem asc_len : ∀ {ns : List Int} {a b : Int}, ns.Pairwise (· < ·) → (∀ x ∈ ns, a ≤ x ∧ x < b) → (ns.length : Int) ≤ max 0 (b - a)
  | [], _, _, _, _ => by show (0 : Int) ≤ _; omega
  | n :: ns, a, b, h, hr => by
    obtain ⟨h1, h2⟩ := List.pairwise_cons.mp h
    have hn := hr n (List.mem_cons_self ..)
    have := asc_len (a := n + 1) (b := b) h2 fun x hx => ⟨by have := h1 x hx; omega, (hr x (List.mem_cons_of_mem _ hx)).2⟩
    rw [List.length_cons]
    omega
theorem blocks_len (lab : List Int) : (m_law_blocks lab).length ≤ lab.length := by
  unfold m_law_blocks
  rw [List.length_map]
  refine Nat.le_trans (List.length_filter_le _ _) ?_
  rw [List.length_range]; exact Nat.le_refl _
theorem blocks_in {lab : List Int} : ∀ bk ∈ m_law_blocks lab, bk.length ≤ lab.length := by
  intro bk hb
  unfold m_law_blocks at hb
  obtain ⟨f, _, rfl⟩ := List.mem_map.mp hb
  rw [List.length_map]
  refine Nat.le_trans (List.length_filter_le _ _) ?_
  rw [List.length_range]; exact Nat.le_refl _
theorem places_len {lab places : List Int} (h : Joins lab places) : places.length ≤ lab.length := by
  have h1 := asc_len (a := 0) (b := ((firsts lab).length : Int)) (srt_strict h.nd) fun x hx => h.pr x ((srt_perm _).mem_iff.mp hx)
  rw [(srt_perm places).length_eq] at h1
  have := firsts_len lab
  omega
theorem joins_small {lab places : List Int} (h : Joins lab places) : places.length ≤ 1000 := by
  have := places_len h
  have := h.l7
  omega
theorem flat_len {α β : Type} {f : α → List β} {k : Nat} : ∀ {l : List α}, (∀ x ∈ l, (f x).length ≤ k) → (l.flatMap f).length ≤ l.length * k
  | [], _ => Nat.zero_le _
  | x :: l, h => by
    rw [List.flatMap_cons, List.length_append, List.length_cons, Nat.succ_mul]
    have := h x (List.mem_cons_self ..)
    have := flat_len (l := l) fun y hy => h y (List.mem_cons_of_mem _ hy)
    omega
theorem blocks_firsts (lab : List Int) : (m_law_blocks lab).length = (firsts lab).length := by rw [blocks_is, firsts_is, List.length_map, List.length_map]
/-- a place's block and its mark -/
theorem place_at {lab : List Int} {p : Int} (h : 0 ≤ p ∧ p < ((firsts lab).length : Int)) : ∃ f, (Fs lab)[p.toNat]? = some f ∧ (firsts lab).getD p.toNat default = (f : Int) ∧ (m_law_blocks lab).getD p.toNat default = Bk lab (f : Int) := by
  have hl : p.toNat < (Fs lab).length := by
    have := h.2
    rw [firsts_is, List.length_map] at this
    omega
  refine ⟨_, List.getElem?_eq_getElem hl, ?_, ?_⟩
  · rw [firsts_is, List.getD_eq_getElem?_getD, List.getElem?_map, List.getElem?_eq_getElem hl]; rfl
  · rw [blocks_is, List.getD_eq_getElem?_getD, List.getElem?_map, List.getElem?_eq_getElem hl]; rfl
theorem join_R {lab places : List Int} (h : Joins lab places) : R_join [eL (eL D.int) (m_law_blocks lab), eL D.int places] (m_join (m_law_blocks lab) places) := by
  have l7 := h.l7
  have h1 := blocks_len lab
  have h2 := places_len h
  refine ⟨_, _, by omega, by omega, fun b hb => by have := blocks_in b hb; omega, fun p hp => by rw [blocks_firsts]; exact h.pr p hp, ?_, rfl, rfl⟩
  have h3 : (places.flatMap fun p => (m_law_blocks lab).getD p.toNat default).length ≤ places.length * 7 := flat_len fun p hp => by
    obtain ⟨f, e1, _, e3⟩ := place_at (h.pr p hp)
    rw [e3]
    have := blocks_in (Bk lab f) (List.mem_of_getElem? (block_at.mpr ⟨f, e1, rfl⟩))
    omega
  omega
/-- marks are firsts -/
theorem mark_first {lab places : List Int} (h : Joins lab places) {x : Int} (hx : x ∈ marks lab places) : ∃ f ∈ Fs lab, x = (f : Int) := by
  obtain ⟨p, hp, rfl⟩ := List.mem_map.mp hx
  obtain ⟨f, e1, e2, _⟩ := place_at (h.pr p hp)
  exact ⟨f, List.mem_of_getElem? e1, e2⟩
theorem marks_pos {lab places : List Int} (h : Joins lab places) : 0 < (marks lab places).length := by unfold marks; rw [List.length_map]; exact h.p1
theorem labJ_len (lab places : List Int) : (labJ lab places).length = lab.length := by unfold labJ; rw [List.length_map]
theorem labJ_at {lab places : List Int} {v : Nat} (hv : v < lab.length) : (labJ lab places).getD v default = if lab.getD v default ∈ marks lab places then minI (marks lab places) else lab.getD v default := by
  unfold labJ
  rw [List.getD_eq_getElem?_getD, List.getElem?_map, getD_some hv]
  show (if decide (lab.getD v default ∈ marks lab places) = true then minI (marks lab places) else lab.getD v default) = _
  by_cases c : lab.getD v default ∈ marks lab places
  · rw [if_pos c, if_pos (decide_eq_true c)]
  · rw [if_neg c, if_neg fun z => c (of_decide_eq_true z)]
section
variable {lab places : List Int}
/-- the joined block -/
theorem joined_is (h : Joins lab places) : srt (places.flatMap fun p => (m_law_blocks lab).getD p.toNat default) = Bk (labJ lab places) (minI (marks lab places)) := by
  have hm := minI_mem (marks_pos h)
  refine strict_ext (srt_strict ?_) (Bk_asc _ _) fun x => ?_
  · refine List.pairwise_flatMap.mpr ⟨fun p hp => ?_, ?_⟩
    · obtain ⟨f, _, _, e3⟩ := place_at (h.pr p hp)
      rw [e3]
      exact (Bk_asc _ _).imp fun h => by omega
    · refine List.Pairwise.imp_of_mem (fun {p q} hp hq hne x hx y hy e => ?_) h.nd
      subst e
      obtain ⟨f, e1, _, e3⟩ := place_at (h.pr p hp)
      obtain ⟨g, g1, _, g3⟩ := place_at (h.pr q hq)
      rw [e3] at hx
      rw [g3] at hy
      have a := (Bk_mem.mp hx).2.2
      have b := (Bk_mem.mp hy).2.2
      have efg : f = g := by omega
      subst efg
      have := Fs_inj e1 g1
      have := h.pr p hp
      have := h.pr q hq
      exact hne (by omega)
  · rw [(srt_perm _).mem_iff, List.mem_flatMap, Bk_mem, labJ_len]
    constructor
    · rintro ⟨p, hp, hx⟩
      obtain ⟨f, e1, e2, e3⟩ := place_at (h.pr p hp)
      rw [e3] at hx
      obtain ⟨x0, x1, x2⟩ := Bk_mem.mp hx
      refine ⟨x0, x1, ?_⟩
      rw [labJ_at (by omega), if_pos]
      rw [x2]
      exact List.mem_map.mpr ⟨p, hp, e2⟩
    · rintro ⟨x0, x1, x2⟩
      have hx : lab.getD x.toNat default ∈ marks lab places := by
        rw [labJ_at (by omega)] at x2
        by_cases c : lab.getD x.toNat default ∈ marks lab places
        · exact c
        · rw [if_neg c] at x2
          rw [x2]; exact hm
      obtain ⟨p, hp, ep⟩ := List.mem_map.mp hx
      obtain ⟨f, e1, e2, e3⟩ := place_at (h.pr p hp)
      refine ⟨p, hp, ?_⟩
      rw [e3]
      exact Bk_mem.mpr ⟨x0, x1, by rw [← ep, e2]⟩
/-- the others are as they were -/
theorem other_is (h : Joins lab places) {f : Int} (hf : f ∉ marks lab places) : Bk lab f = Bk (labJ lab places) f := by
  have hm := minI_mem (marks_pos h)
  refine strict_ext (Bk_asc _ _) (Bk_asc _ _) fun x => ?_
  rw [Bk_mem, Bk_mem, labJ_len]
  refine ⟨fun ⟨a, b, c⟩ => ⟨a, b, ?_⟩, fun ⟨a, b, c⟩ => ⟨a, b, ?_⟩⟩
  · rw [labJ_at (by omega), c, if_neg hf]
  · rw [labJ_at (by omega)] at c
    by_cases d : lab.getD x.toNat default ∈ marks lab places
    · rw [if_pos d] at c
      exact absurd (c ▸ hm) hf
    · rw [if_neg d] at c
      exact c
theorem rest_is (h : Joins lab places) : (((m_law_blocks lab).zipIdx.filter fun p => !decide (((p.2 : Nat) : Int) ∈ places)).map fun p => p.1) = ((Fs lab).filter fun f : Nat => !decide ((f : Int) ∈ marks lab places)).map fun f : Nat => Bk (labJ lab places) (f : Int) := by
  have e1 : (m_law_blocks lab).zipIdx.filter (fun p => !decide (((p.2 : Nat) : Int) ∈ places)) = ((Fs lab).zipIdx.filter fun p => !decide ((p.1 : Int) ∈ marks lab places)).map fun p => (Bk lab (p.1 : Int), p.2) := by
    rw [blocks_is, List.zipIdx_map, List.filter_map]
    have e2 : (Fs lab).zipIdx.filter ((fun p => !decide (((p.2 : Nat) : Int) ∈ places)) ∘ Prod.map (fun f : Nat => Bk lab (f : Int)) id) = (Fs lab).zipIdx.filter fun p => !decide ((p.1 : Int) ∈ marks lab places) := by
      refine List.filter_congr fun p hp => ?_
      have hp := List.mem_zipIdx_iff_getElem?.mp hp
      show (!decide (((p.2 : Nat) : Int) ∈ places)) = !decide ((p.1 : Int) ∈ marks lab places)
      congr 1
      refine decide_eq_decide.mpr ⟨fun z => ?_, fun z => ?_⟩
      · obtain ⟨f, e1, e2, _⟩ := place_at (h.pr _ z)
        rw [Int.toNat_natCast, hp] at e1
        cases e1
        exact List.mem_map.mpr ⟨_, z, e2⟩
      · obtain ⟨q, hq, eq⟩ := List.mem_map.mp z
        obtain ⟨f, e1, e2, _⟩ := place_at (h.pr q hq)
        have e3 : f = p.1 := by rw [e2] at eq; omega
        subst e3
        have e4 := Fs_inj e1 hp
        have := h.pr q hq
        have e5 : q = ((p.2 : Nat) : Int) := by omega
        rw [← e5]; exact hq
    rw [e2]
    rfl
  rw [e1, List.map_map]
  have e3 : ((Fs lab).zipIdx.filter fun p => !decide ((p.1 : Int) ∈ marks lab places)).map ((fun p : List Int × Nat => p.1) ∘ fun p : Nat × Nat => (Bk lab (p.1 : Int), p.2)) = (((Fs lab).zipIdx.filter ((fun f : Nat => !decide ((f : Int) ∈ marks lab places)) ∘ Prod.fst)).map Prod.fst).map fun f : Nat => Bk lab (f : Int) := by
    rw [List.map_map]; rfl
  rw [e3, ← List.filter_map, List.zipIdx_map_fst]
  refine List.map_congr_left fun f hf => other_is h ?_
  have := (List.mem_filter.mp hf).2
  intro z
  rw [decide_eq_true z] at this
  cases this
theorem Fs_joined (h : Joins lab places) : (Fs (labJ lab places)).Perm ((minI (marks lab places)).toNat :: (Fs lab).filter fun f : Nat => !decide ((f : Int) ∈ marks lab places)) := by
  have hm := minI_mem (marks_pos h)
  obtain ⟨m, hmF, em⟩ := mark_first h hm
  rw [em, Int.toNat_natCast]
  have hmm : (m : Int) ∈ marks lab places := em ▸ hm
  have hmn := Fs_mem.mp hmF
  have hnot : ∀ {f : Nat}, f ∈ (Fs lab).filter (fun f : Nat => !decide ((f : Int) ∈ marks lab places)) ↔ f ∈ Fs lab ∧ (f : Int) ∉ marks lab places := fun {f} => by
    rw [List.mem_filter]
    refine and_congr_right fun _ => ?_
    by_cases c : (f : Int) ∈ marks lab places
    · rw [decide_eq_true c]; exact ⟨fun z => (nomatch z), fun z => absurd c z⟩
    · rw [decide_eq_false c]; exact ⟨fun _ => c, fun _ => rfl⟩
  refine (List.perm_ext_iff_of_nodup (Fs_nodup _) (List.nodup_cons.mpr ⟨fun z => (hnot.mp z).2 hmm, (Fs_nodup _).filter _⟩)).mpr fun f => ?_
  rw [Fs_mem, labJ_len, List.mem_cons, hnot]
  constructor
  · rintro ⟨f1, f2⟩
    rw [labJ_at f1] at f2
    by_cases c : lab.getD f default ∈ marks lab places
    · rw [if_pos c, em] at f2
      exact .inl (by omega)
    · rw [if_neg c] at f2
      exact .inr ⟨Fs_mem.mpr ⟨f1, f2⟩, by rw [← f2]; exact c⟩
  · rintro (rfl | ⟨f1, f2⟩)
    · refine ⟨hmn.1, ?_⟩
      rw [labJ_at hmn.1, hmn.2, if_pos hmm, em]
    · have q := Fs_mem.mp f1
      refine ⟨q.1, ?_⟩
      rw [labJ_at q.1, q.2, if_neg f2]
/-- a block begins with its label -/
theorem block_head (h : Joins lab places) {f : Nat} (hf : f ∈ Fs (labJ lab places)) : ∃ t, Bk (labJ lab places) (f : Int) = (f : Int) :: t := by
  obtain ⟨f1, f2⟩ := Fs_mem.mp hf
  have hin : (f : Int) ∈ Bk (labJ lab places) (f : Int) := Bk_mem.mpr ⟨by omega, by omega, f2⟩
  have hge : ∀ x ∈ Bk (labJ lab places) (f : Int), (f : Int) ≤ x := fun x hx => by
    obtain ⟨x0, x1, x2⟩ := Bk_mem.mp hx
    rw [labJ_len] at x1
    rw [labJ_at (by omega)] at x2
    have hl := lab_first h.l0 (v := x.toNat) (by omega)
    by_cases c : lab.getD x.toNat default ∈ marks lab places
    · rw [if_pos c] at x2
      have := minI_le c
      omega
    · rw [if_neg c] at x2
      omega
  have ha := Bk_asc (labJ lab places) (f : Int)
  cases hb : Bk (labJ lab places) (f : Int) with
  | nil => rw [hb] at hin; cases hin
  | cons a t =>
    rw [hb] at hin hge ha
    refine ⟨t, ?_⟩
    rcases List.mem_cons.mp hin with e | e
    · rw [e]
    · have := (List.pairwise_cons.mp ha).1 _ e
      have := hge a (List.mem_cons_self ..)
      omega
theorem blocks_sorted (h : Joins lab places) : (m_law_blocks (labJ lab places)).Pairwise (· ≤ ·) := by
  rw [blocks_is]
  refine List.pairwise_map.mpr (List.Pairwise.imp_of_mem (fun {f g} hf hg hlt => ?_) (Fs_asc _))
  obtain ⟨t, e⟩ := block_head h hf
  obtain ⟨u, e2⟩ := block_head h hg
  rw [e, e2]
  exact List.cons_le_cons_iff.mpr (.inl (by omega))
theorem join_eq (h : Joins lab places) : m_join (m_law_blocks lab) places = m_law_blocks (labJ lab places) := by
  obtain ⟨m, hmF, em⟩ := mark_first h (minI_mem (marks_pos h))
  unfold m_join
  rw [joined_is h, rest_is h]
  have hp : (Bk (labJ lab places) (minI (marks lab places)) :: ((Fs lab).filter fun f : Nat => !decide ((f : Int) ∈ marks lab places)).map fun f : Nat => Bk (labJ lab places) (f : Int)).Perm (m_law_blocks (labJ lab places)) := by
    have q := (Fs_joined h).map fun f : Nat => Bk (labJ lab places) (f : Int)
    rw [List.map_cons, em, Int.toNat_natCast] at q
    rw [em]
    exact q.symm
  have hs := List.pairwise_mergeSort (le := fun a b : List Int => decide (a ≤ b)) (fun a b c h1 h2 => decide_eq_true (List.le_trans (of_decide_eq_true h1) (of_decide_eq_true h2))) (fun a b => by
    rcases List.le_total a b with q | q
    · rw [decide_eq_true q]; rfl
    · rw [decide_eq_true q, Bool.or_true]) (Bk (labJ lab places) (minI (marks lab places)) :: ((Fs lab).filter fun f : Nat => !decide ((f : Int) ∈ marks lab places)).map fun f : Nat => Bk (labJ lab places) (f : Int))
  refine List.Perm.eq_of_pairwise (le := (· ≤ ·)) (fun x y _ _ h1 h2 => List.le_antisymm h1 h2) (hs.imp fun h => of_decide_eq_true h) (blocks_sorted h) ((List.mergeSort_perm _ _).trans hp)
end
end G
set_option Elab.async false
set_option linter.all false
set_option maxRecDepth 100000
namespace G
open PySem PySem.Spec PyProof.Rows L2
local macro_rules | `(tactic| walk_at "side") => `(tactic| ((try simp only [List.mem_range, List.length_range, List.length_zipIdx] at *); first | omega | exact small (by omega) | (constructor <;> omega) | (have := hin _ (by assumption); omega)))
section
variable {P : Program} {w : World} {K : PySem.W.Frag} {mg : Str → Option Value} {base : Heap} {f : Addr} {fd : FuncData}

abbrev s_law_joins : Stmt := topS 13
abbrev N_law_joins : List Str := ["labels", "mine", "places", "firsts", "marks", "due", "asked", "got", "k", "v", "place", "label"]
theorem sc_law_joins : FnScope N_law_joins ["labels", "mine", "places"] (defScope s_law_joins) := ⟨rfl, rfl, rfl, by decide +kernel, rfl, by decide +kernel, by decide +kernel⟩
theorem deeps_ints {n : Nat} : ∀ xs : List Int, deeps n (xs.map D.int) = true
  | [] => rfl
  | x :: xs => by
    show (deep n (.int x) && deeps n (xs.map D.int)) = true
    rw [deeps_ints xs]; cases n <;> rfl
theorem deep_ints {n : Nat} {xs : List Int} (h : xs.length ≤ 1000000) : deep (n + 1) (eL D.int xs) = true := by
  show (decide ((xs.map D.int).length ≤ 1000000) && deeps n (xs.map D.int)) = true
  rw [deeps_ints, List.length_map, decide_eq_true h]; rfl
theorem deeps_intss : ∀ {xs : List (List Int)}, (∀ x ∈ xs, x.length ≤ 1000000) → deeps 1 (xs.map (eL D.int)) = true
  | [], _ => rfl
  | x :: xs, h => by
    show (deep 1 (eL D.int x) && deeps 1 (xs.map (eL D.int))) = true
    rw [deep_ints (h x (List.mem_cons_self ..)), deeps_intss fun y hy => h y (List.mem_cons_of_mem _ hy)]; rfl
theorem deep_intss {xs : List (List Int)} (h : xs.length ≤ 1000000) (h2 : ∀ x ∈ xs, x.length ≤ 1000000) : deep 2 (eL (eL D.int) xs) = true := by
  show (decide ((xs.map (eL D.int)).length ≤ 1000000) && deeps 1 (xs.map (eL D.int))) = true
  rw [deeps_intss h2, List.length_map, decide_eq_true h]; rfl
theorem r_same {d : D} (h : deep 2 d = true) : R_same 2 [d, d] (.bl true) := ⟨d, d, h, ⟨2, h⟩, rfl, by rw [same_refl 2 d h]⟩
theorem small_lt {n : Nat} (h : n < 10000) : n < sizeLine := by
  have : (10000 : Nat) ≤ sizeLine := by decide
  omega
theorem foldl_inc : ∀ (xs : List Nat) (b : Nat), xs.foldl (fun (b : Nat) (_ : Nat) => b + 1) b = b + xs.length
  | [], b => rfl
  | x :: xs, b => by
    show xs.foldl _ (b + 1) = _
    rw [foldl_inc xs (b + 1), List.length_cons]; omega
def R_joins (ds : List D) (d : D) : Prop := ∃ lab places, Joins lab places ∧ ds = [eL D.int lab, eL (eL D.int) (m_law_blocks lab), eL D.int places] ∧ d = .bl true
theorem ok_law_joins (F : Fun K "_law_joins" "_law_joins" s_law_joins f fd) (T : Bt mg) (c_same : Cal P w K mg base "_law_same" 3 ["got", "due"] (R_same 2)) (c_blocks : Cal P w K mg base "_law_blocks" 1 ["labels"] R_law_blocks)
    (c_join : CalG P w K mg base "join_blocks" 1 ["division", "places"] FrT R_join) : FnOk P w K mg base CX0 4 f fd ["labels", "mine", "places"] (spD K R_joins) := by
  refine fn_mk F sc_law_joins (fun ds z ⟨_, _, _, e, _⟩ => by rw [e]; rfl) fun cdv A outer s H E hr ds z ⟨p_labels, p_places, hp, e, ez⟩ => ?_
  subst e ez
  have nd := sc_law_joins.nd
  have hr1 := hr.mono (j := 1) (by decide)
  have l1 := hp.l1
  have l7 := hp.l7
  have hfl := firsts_len p_labels
  have hpl : p_places.length ≤ 1000 := joins_small hp
  refine ⟨.rt (.bl true), dss_cons (dst_set (d := eL D.int (firsts p_labels)) 3 (de_f (de_lcIfE (own := [("v", 9)]) (en2 := D.int) (fun (p_v : Nat) => (decide ((p_labels.getD (((p_v : Nat) : Int)).toNat default) = ((p_v : Nat) : Int)))) (fun (p_v : Nat) => ((p_v : Nat) : Int)) rfl sc_law_joins.nd (di_range 9 T.range (de_callB (okc_lenE (en := D.int)) T.len (des_cons (de_var 0) des_nil)) (by walk_at "side")) (blkOk_by (by kernel_rfl)) (by simp) (fun _ _ _ _ _ => (pg_name (i := 9) sc_law_joins.nd rfl (by first | exact Or.inl rfl | exact Or.inr rfl))) (by walk_at "side") (fun p_v h_p_v _ _ _ _ _ => (db_cmp ok_eqI (de_ixE (en := D.int) (by walk_at "side") (by walk_at "side") (de_var 0) (de_var 9)) (de_var 9))) (fun p_v h_p_v hc_p_v _ _ _ _ _ => (de_var 9)))) nd) ?_, rfl⟩
  have hin := hp.pr
  obtain ⟨p_firsts, hpf⟩ : ∃ x, x = firsts p_labels := ⟨_, rfl⟩
  have hmk : marks p_labels p_places = p_places.map fun (p_place : Int) => p_firsts.getD p_place.toNat default := by rw [hpf]; rfl
  rw [← hpf] at hin hfl ⊢
  refine dss_cons (dst_set (d := eL D.int (marks p_labels p_places)) 4 (by rw [hmk]; exact de_f (de_lcE (own := [("place", 10)]) (en2 := D.int) (fun (p_place : Int) => (p_firsts.getD (p_place).toNat default)) rfl sc_law_joins.nd (di_list 10 (en := D.int) (de_var 2)) (blkOk_by (by kernel_rfl)) (by simp) (fun _ _ _ _ _ => (pg_name (i := 10) sc_law_joins.nd rfl (by first | exact Or.inl rfl | exact Or.inr rfl))) (by walk_at "side") (fun p_place h_p_place _ _ _ _ _ => (de_ixE (en := D.int) (hin _ h_p_place).1 (hin _ h_p_place).2 (de_var 3) (de_var 10))))) nd) ?_
  have hm0 : 0 < (marks p_labels p_places).length := by unfold marks; rw [List.length_map]; exact hp.p1
  have hlj : labJ p_labels p_places = p_labels.map fun (p_label : Int) => if decide (p_label ∈ marks p_labels p_places) then minI (marks p_labels p_places) else p_label := rfl
  have hjl : (labJ p_labels p_places).length = p_labels.length := by unfold labJ; rw [List.length_map]
  have hje := join_eq hp
  have hjR := join_R hp
  obtain ⟨p_marks, hpm⟩ : ∃ x, x = marks p_labels p_places := ⟨_, rfl⟩
  rw [← hpm] at hlj hm0 ⊢
  refine dss_cons (dst_set (d := eL (eL D.int) (m_law_blocks (labJ p_labels p_places))) 5 (de_callE c_blocks hr1 (des_cons (show DE _ _ _ (eL D.int (labJ p_labels p_places)) from hlj ▸ de_f (de_lcE (own := [("label", 11)]) (en2 := D.int) (fun (p_label : Int) => (if (decide (p_label ∈ p_marks)) then (minI p_marks) else p_label)) rfl sc_law_joins.nd (di_list 11 (en := D.int) (de_var 0)) (blkOk_by (by kernel_rfl)) (by simp) (fun _ _ _ _ _ => (pg_name (i := 11) sc_law_joins.nd rfl (by first | exact Or.inl rfl | exact Or.inr rfl))) (by walk_at "side") (fun p_label h_p_label _ _ _ _ _ => (de_ifE (en := D.int) (db_cmp ok_inL (de_var 11) (de_var 4)) (fun _ => (de_callB (okc_minL rfl (by walk_at "side")) T.min (des_cons (de_var 4) des_nil))) (fun _ => (de_var 11)))))) des_nil) ⟨_, (show (labJ p_labels p_places).length ≤ 1000 by omega), rfl, rfl⟩) nd) ?_
  obtain ⟨lj, hlj2⟩ : ∃ x, x = labJ p_labels p_places := ⟨_, rfl⟩
  rw [← hlj2] at hjl hje ⊢
  have hb1 := blocks_len lj
  have hb2 : ∀ bk ∈ m_law_blocks lj, bk.length ≤ 7 := fun bk h => by have := blocks_in bk h; omega
  refine dss_cons (dst_set 6 (de_f (df_list (de_var 2) T.list)) nd) ?_
  refine dss_cons (dst_setT (dss := m_law_blocks lj) 7 (hje ▸ dn_call c_join hr1 frT_ok (dus_cons (du_of (de_var 1)) (dus_cons (du_of (de_var 6)) dus_nil)) hjR) nd) ?_
  have hdp : deep 2 (eL (eL D.int) (m_law_blocks lj)) = true := deep_intss (by omega) fun x hx => by have := hb2 x hx; omega
  refine dss_gF (db_not (db_val (de_callS c_same hr (dus_cons (du_tre 7) (dus_cons (du_of (de_var 5)) dus_nil)) (r_same hdp) trivial))) ?_
  obtain ⟨bl, hbl⟩ : ∃ x, x = m_law_blocks lj := ⟨_, rfl⟩
  rw [← hbl] at hb1 hb2 hje hdp ⊢
  refine dss_forget (n := bl.length) (m := 1000) 7 rfl rfl (fun ns h => by have := hb2 ns h; omega) ?_
  refine dss_cons (dst_for (b0 := (1000 : Nat)) (Gf := fun m => [.val (eL D.int p_labels), .val (eL (eL D.int) (m_law_blocks p_labels)), .val (eL D.int p_places), .val (eL D.int p_firsts), .val (eL D.int p_marks), .val (eL (eL D.int) bl), .val (eL D.int p_places), .jnk (.junk bl.length m), .no, .no, .no, .no])
    (step := fun b (_ : Nat) => b + 1) PassesOwn.never rfl (di_range 8 T.range (de_callB (okc_lenE (en := eL D.int)) T.len (des_cons (de_var 5) des_nil)) (by omega)) (pg_name (i := 8) nd rfl (Or.inl rfl)) fun pre a post hpre => ?_) ?_
  · rw [foldl_inc]
    have hal : a < bl.length ∧ pre.length < bl.length := by
      have e1 := congrArg List.length hpre
      rw [List.length_range, List.length_append, List.length_cons] at e1
      have e2 : a ∈ List.range ((bl.length : Int)).toNat := by rw [hpre]; simp
      have e3 := List.mem_range.mp e2
      omega
    exact dss_post (wk_cons wks_id (wk_cons wks_id (wk_cons wks_id (wk_cons wks_id (wk_cons wks_id (wk_cons wks_id (wk_cons wks_id (wk_cons wks_id (wk_cons wks_no (wk_cons wks_id (wk_cons wks_id (wk_cons wks_id wk_nil)))))))))))) (dss_one (dst_jap 7 (de_var 8) (de_callB (okc_lenE (en := D.int)) T.len (des_cons (de_var 0) des_nil)) (.inl ⟨by omega, by omega⟩) (small_lt (by omega))))
  rw [foldl_inc, List.length_range]
  refine dss_cons (dst_jap0 (n := bl.length) (m := 1000 + ((bl.length : Nat) : Int).toNat) 7 (df_lst (des_cons (de_callB (okc_lenE (en := D.int)) T.len (des_cons (de_var 0) des_nil)) des_nil)) (by show 1 ≤ _; omega) (small (by omega))) ?_
  exact dss_one (dst_ret (de_and (de_callE c_same hr (des_cons (de_var 6) (des_cons (de_var 2) des_nil)) (r_same (deep_ints (by omega)))) fun _ => de_one (de_callE c_same hr (des_cons (de_n frT_ok (hje ▸ dn_call c_join hr1 frT_ok (dus_cons (du_of (de_var 1)) (dus_cons (du_of (de_var 6)) dus_nil)) hjR)) (des_cons (de_var 5) des_nil)) (r_same hdp))))

end
end G
set_option Elab.async false
set_option linter.all false
set_option maxRecDepth 100000
namespace G
open PySem PySem.Spec PyProof.Rows L2
section
variable {P : Program} {w : World} {K : PySem.W.Frag} {mg : Str → Option Value} {base : Heap} {f : Addr} {fd : FuncData}

abbrev s_law_touches : Stmt := topS 14
abbrev N_law_touches : List Str := ["labels", "mine", "stops", "due", "got", "every", "v", "stop"]
theorem sc_law_touches : FnScope N_law_touches ["labels", "mine", "stops"] (defScope s_law_touches) := ⟨rfl, rfl, rfl, by decide +kernel, rfl, by decide +kernel, by decide +kernel⟩
structure Touches (lab stops : List Int) : Prop where
  l0 : Labels lab
  l2 : 2 ≤ lab.length
  l7 : lab.length ≤ 7
  s2 : 2 ≤ stops.length
  s5 : stops.length ≤ 5
  sr : ∀ x ∈ stops, 0 ≤ x ∧ x < (lab.length : Int)
theorem lab_in {lab : List Int} (h : Labels lab) : ∀ x ∈ lab, 0 ≤ x ∧ x < (lab.length : Int) := by
  intro x hx
  obtain ⟨i, hi⟩ := List.mem_iff_getElem?.mp hx
  have := h.at0 i x hi
  have := (List.getElem?_eq_some_iff.mp hi).1
  omega
theorem touch_same {lab ss st : List Int} (h : Labels lab) (hr : ∀ x ∈ ss, 0 ≤ x ∧ x < (lab.length : Int)) (hm : ∀ x, x ∈ st ↔ x ∈ ss) : m_touched_by (m_law_blocks lab) st = srtS (ss.map (m_law_index lab)) := by
  rw [touch_eq h fun x hx => hr x ((hm x).mp hx)]
  refine srtS_of (srtS_strict _) fun k => ?_
  rw [srtS_mem, List.mem_map, List.mem_map]
  exact ⟨fun ⟨a, h1, h2⟩ => ⟨a, (hm a).mp h1, h2⟩, fun ⟨a, h1, h2⟩ => ⟨a, (hm a).mpr h1, h2⟩⟩
theorem due_joins {lab stops : List Int} (h : Touches lab stops) : Joins lab (srtS (stops.map (m_law_index lab))) := by
  have hm : ∀ p, p ∈ srtS (stops.map (m_law_index lab)) ↔ p ∈ stops.map (m_law_index lab) := fun p => srtS_mem
  refine ⟨h.l0, by have := h.l2; omega, h.l7, (srtS_strict _).imp fun h => by omega, ?_, fun p hp => ?_⟩
  · obtain ⟨x, hx⟩ : ∃ x, x ∈ stops := List.exists_mem_of_length_pos (by have := h.s2; omega)
    exact List.length_pos_of_mem ((hm _).mpr (List.mem_map.mpr ⟨x, hx, rfl⟩))
  · obtain ⟨x, hx, rfl⟩ := List.mem_map.mp ((hm p).mp hp)
    exact index_in h.l0 (h.sr x hx)
def R_touches (ds : List D) (d : D) : Prop := ∃ lab stops, Touches lab stops ∧ ds = [eL D.int lab, eL (eL D.int) (m_law_blocks lab), eT D.int stops] ∧ d = .bl true
theorem rT {lab ss : List Int} (h1 : lab.length ≤ 7) (h2 : ss.length ≤ 10) : R_touchedT [eL (eL D.int) (m_law_blocks lab), eT D.int ss] (m_touched_by (m_law_blocks lab) ss) := ⟨_, _, by have := blocks_len lab; omega, by omega, rfl, rfl⟩
theorem rL {lab ss : List Int} (h1 : lab.length ≤ 7) (h2 : ss.length ≤ 10) : R_touchedL [eL (eL D.int) (m_law_blocks lab), eL D.int ss] (m_touched_by (m_law_blocks lab) ss) := ⟨_, _, by have := blocks_len lab; omega, by omega, rfl, rfl⟩
theorem rIdx {lab : List Int} (h : Labels lab) (h7 : lab.length ≤ 7) {v : Int} (hv : 0 ≤ v ∧ v < (lab.length : Int)) : R_law_index [eL D.int lab, .int v] (.int (m_law_index lab v)) := rm_law_index ⟨by omega, hv.1, hv.2, lab_in h⟩
theorem ok_law_touches (F : Fun K "_law_touches" "_law_touches" s_law_touches f fd) (T : Bt mg) (c_same : Cal P w K mg base "_law_same" 3 ["got", "due"] (R_same 2)) (c_index : Cal P w K mg base "_law_index" 1 ["labels", "village"] R_law_index)
    (c_tT : CalG P w K mg base "touched_by" 1 ["division", "stops"] FrI R_touchedT) (c_tL : CalG P w K mg base "touched_by" 1 ["division", "stops"] FrI R_touchedL) (c_joins : Cal P w K mg base "_law_joins" 4 ["labels", "mine", "places"] R_joins) : FnOk P w K mg base CX0 5 f fd ["labels", "mine", "stops"] (spD K R_touches) := by
  refine fn_mk F sc_law_touches (fun ds z ⟨_, _, _, e, _⟩ => by rw [e]; rfl) fun cdv A outer s H E hr ds z ⟨lab, stops, hp, e, ez⟩ => ?_
  subst e ez
  have nd := sc_law_touches.nd
  have hr1 := hr.mono (j := 1) (by decide)
  have hr3 := hr.mono (j := 3) (by decide)
  have l7 := hp.l7
  have l2 := hp.l2
  have s5 := hp.s5
  have s2 := hp.s2
  have hdj := due_joins hp
  have hdl : (srtS (stops.map (m_law_index lab))).length ≤ 1000 := joins_small hdj
  have hsame : ∀ st, (∀ x, x ∈ st ↔ x ∈ stops) → m_touched_by (m_law_blocks lab) st = srtS (stops.map (m_law_index lab)) := fun st h => touch_same hp.l0 hp.sr h
  refine ⟨.rt (.bl true), dss_cons (dst_set 3 (de_n frI_ok (dn_sortSet (ns := stops.map (m_law_index lab)) (de_f (de_lcE (own := [("stop", 7)]) (en2 := D.int) (m_law_index lab) rfl nd (di_tup 7 (en := D.int) (de_var 2)) (blkOk_by (by kernel_rfl)) (by simp) (fun _ _ _ _ _ => (pg_name (i := 7) nd rfl (by first | exact Or.inl rfl | exact Or.inr rfl))) (small (by omega)) (fun v hv _ _ _ _ _ => de_callE c_index hr1 (des_cons (de_var 0) (des_cons (de_var 7) des_nil)) (rIdx hp.l0 l7 (hp.sr v hv))))) (by rw [List.length_map]; omega) T.sorted T.set)) nd) ?_, rfl⟩
  have hgot := hsame stops fun _ => Iff.rfl
  have hrev := hsame stops.reverse fun x => List.mem_reverse
  have hrot := hsame (stops.drop (1 : Int).toNat ++ stops.take (1 : Int).toNat) fun x => by
    rw [List.mem_append, or_comm, ← List.mem_append, List.take_append_drop]
  have hdp : deep 2 (eL D.int (srtS (stops.map (m_law_index lab)))) = true := deep_ints (by omega)
  obtain ⟨due, hdue⟩ : ∃ x, x = srtS (stops.map (m_law_index lab)) := ⟨_, rfl⟩
  rw [← hdue] at hdj hdl hgot hrev hrot hdp ⊢
  refine dss_cons (dst_own (ds := due.map D.int) 4 (df_i (hgot ▸ dn_call c_tT hr1 frI_ok (dus_cons (du_of (de_var 1)) (dus_cons (du_of (de_var 2)) dus_nil)) (rT l7 (by omega)))) nd) ?_
  refine dss_gF (db_not (db_val (de_callS c_same hr3 (dus_cons (du_own (ds_own 4)) (dus_cons (du_of (de_var 3)) dus_nil)) (r_same hdp) trivial))) ?_
  refine dss_cons (dst_append (ds := due.map D.int) 4 (de_callB (okc_lenE (en := D.int)) T.len (des_cons (de_var 0) des_nil)) (by rw [List.length_map]; exact smallt (by omega))) ?_
  refine dss_gF (db_of (dw_or (db_not (db_val (de_callE c_same hr3 (des_cons (de_n frI_ok (hgot ▸ dn_call c_tT hr1 frI_ok (dus_cons (du_of (de_var 1)) (dus_cons (du_of (de_var 2)) dus_nil)) (rT l7 (by omega)))) (des_cons (de_var 3) des_nil)) (r_same hdp))))
    fun _ => dw_or1 (db_not (db_val (de_callE c_same hr3 (des_cons (de_n frI_ok (hgot ▸ dn_call c_tL hr1 frI_ok (dus_cons (du_of (de_var 1)) (dus_cons (du_of (de_callTy okc_listT T.list (des_cons (de_var 2) des_nil))) dus_nil)) (rL l7 (by omega)))) (des_cons (de_var 3) des_nil)) (r_same hdp)))))) ?_
  have n1 : stops.drop (1 : Int).toNat ≠ [] := fun z => by
    have := congrArg List.length z
    rw [List.length_drop, List.length_nil, show (1 : Int).toNat = 1 from rfl] at this
    omega
  have n2 : stops.take (1 : Int).toNat ≠ [] := fun z => by
    have := congrArg List.length z
    rw [List.length_take, List.length_nil, show (1 : Int).toNat = 1 from rfl] at this
    omega
  have n3 : (stops.drop (1 : Int).toNat).length + (stops.take (1 : Int).toNat).length ≤ 10 := by
    rw [List.length_drop, List.length_take]; omega
  refine dss_gF (db_of (dw_or (db_not (db_val (de_callE c_same hr3 (des_cons (de_n frI_ok (hrev ▸ dn_call c_tT hr1 frI_ok (dus_cons (du_of (de_var 1)) (dus_cons (du_of (de_revT (en := D.int) (xs := stops) (de_var 2))) dus_nil)) (rT l7 (by rw [List.length_reverse]; omega)))) (des_cons (de_var 3) des_nil)) (r_same hdp))))
    fun _ => dw_or1 (db_not (db_val (de_callE c_same hr3 (des_cons (de_n frI_ok (hrot ▸ dn_call c_tT hr1 frI_ok (dus_cons (du_of (de_var 1)) (dus_cons (du_of (de_op (ok_catT n1 n2 (small (by omega))) (de_fromT (en := D.int) (xs := stops) (by omega) (by omega) (de_var 2) de_int) (de_toT (en := D.int) (xs := stops) (by omega) (by omega) (de_var 2) de_int))) dus_nil)) (rT l7 (by rw [List.length_append]; omega)))) (des_cons (de_var 3) des_nil)) (r_same hdp)))))) ?_
  have hev : m_touched_by (m_law_blocks lab) (rngI ((lab.length : Int)).toNat) = srtS ((List.range ((lab.length : Int)).toNat).map fun v : Nat => m_law_index lab (v : Int)) := by
    rw [touch_eq hp.l0 fun x hx => by have := rngI_mem.mp hx; omega]
    unfold rngI
    rw [List.map_map]; rfl
  refine dss_cons (dst_setLc 5 (own := [("v", 6)]) (tt := tYes) (pr := fun _ => true) (f := fun v : Nat => D.int (m_law_index lab (v : Int))) rfl nd (di_range 6 T.range (de_callB (okc_lenE (en := D.int)) T.len (des_cons (de_var 0) des_nil)) (by omega)) (blkOk_by (by kernel_rfl)) (by simp) (fun _ _ _ _ _ => (pg_name (i := 6) nd rfl (by first | exact Or.inl rfl | exact Or.inr rfl))) (fun _ _ _ _ _ => pts_nil)
    (fun a _ A2 σ H Q _ k => k H (Same.refl H)) (fun v hv _ _ _ _ _ _ => de_callE c_index hr1 (des_cons (de_var 0) (des_cons (de_var 6) des_nil)) (rIdx hp.l0 l7 (by have := List.mem_range.mp hv; omega))) (by rw [List.length_range]; exact small (by omega))) ?_
  have efl : ((List.range ((lab.length : Int)).toNat).filter fun _ => true).map (fun v : Nat => D.int (m_law_index lab (v : Int))) = ((List.range ((lab.length : Int)).toNat).map fun v : Nat => m_law_index lab (v : Int)).map D.int := by
    rw [List.filter_eq_self.mpr fun _ _ => rfl, List.map_map]; rfl
  rw [efl]
  refine dss_weak (Γ1 := [.val (eL D.int lab), .val (eL (eL D.int) (m_law_blocks lab)), .val (eT D.int stops), .val (eL D.int due), .no, .val (eL D.int ((List.range ((lab.length : Int)).toNat).map fun v : Nat => m_law_index lab (v : Int))), .no, .no])
      (wk_cons wks_id (wk_cons wks_id (wk_cons wks_id (wk_cons wks_id (wk_cons wks_no (wk_cons wks_ow (wk_cons wks_no (wk_cons wks_no wk_nil)))))))) ?_
  have hel : (srtS ((List.range ((lab.length : Int)).toNat).map fun v : Nat => m_law_index lab (v : Int))).length ≤ 1000 := by
    rw [← hev]
    unfold m_touched_by
    rw [List.length_map]
    refine Nat.le_trans (List.length_filter_le _ _) ?_
    rw [List.length_zipIdx]
    have := blocks_len lab
    omega
  refine dss_gF (db_not (db_val (de_callE c_same hr3 (des_cons (de_n frI_ok (hev ▸ dn_call c_tT hr1 frI_ok (dus_cons (du_of (de_var 1)) (dus_cons (du_of (de_tupRange (de_callB (okc_lenE (en := D.int)) T.len (des_cons (de_var 0) des_nil)) (by omega) T.tuple T.range)) dus_nil)) (rT l7 (by rw [rngI_len]; omega))))
    (des_cons (de_n frI_ok (dn_sortSet (de_var 5) (by rw [List.length_map, List.length_range]; omega) T.sorted T.set)) des_nil)) (r_same (deep_ints (by omega)))))) ?_
  exact dss_one (dst_ret (de_callE c_joins hr (des_cons (de_var 0) (des_cons (de_var 1) (des_cons (de_var 3) des_nil))) ⟨lab, due, hdj, rfl, rfl⟩))

end
end G
set_option Elab.async false
set_option linter.all false
set_option maxRecDepth 100000
namespace G
open PySem PySem.Spec PyProof.Rows L2
section
variable {P : Program} {w : World} {K : PySem.W.Frag} {mg : Str → Option Value} {base : Heap} {f : Addr} {fd : FuncData}

abbrev s_law : Stmt := topS 15
abbrev N_law : List Str := ["script", "villages", "labels", "places", "stops", "blocks", "mine", "alone", "v", "due", "block"]
theorem sc_law : FnScope N_law ["script"] (defScope s_law) := ⟨rfl, rfl, rfl, by decide +kernel, rfl, by decide +kernel, by decide +kernel⟩
def spLaw (K : PySem.W.Frag) : Sp := fun vs H Q _ => ∃ (a : Addr) (ns : List Int), vs = [.ref a] ∧ SqL K H a (ns.map V.int) ∧ ns.length ≤ 63 ∧ ∀ H', Q (.bl true) H'
theorem fn_mkLaw {N : List Str} {fst : Stmt} {k : Nat} (F : Fun K "law" "law" fst f fd) (S : FnScope N ["script"] (defScope fst)) (hN : 1 ≤ N.length)
    (hb : ∀ (cdv : Value) (A : Around) (outer : List Env) (s : Shared) (H : Hp) (E : XK), Room k (A.deeper (envOfC "law" (defScope fst) s.heap.objs.size f cdv)) → ∀ ns : List Int, ns.length ≤ 63 →
      DSs (cxOf CX0 P w K mg base N "law" (defScope fst) f cdv A outer s H E).nox (ΓS N ns) (defBody fst) (.rt (.bl true))) : FnOk P w K mg base CX0 (k + 1) f fd ["script"] (spLaw K) := by
  refine F.ok S (fun vs H Q E ⟨a, ns, e, _⟩ => by rw [e]; rfl) fun cdv A outer s H vs Q E hr ⟨a, ns, e, hS, hl, q⟩ => ?_
  subst e
  exact ⟨_, hb cdv A outer s H E hr ns hl (fun _ => False), ⟨H, 0⟩, ⟨fun _ => 0, fun _ => False⟩, srS hS hN, fun v H' s r => by cases r; exact q H'⟩
theorem len_one {x : Int} {k : Nat} (h : 1 ≤ k) : [x].length ≤ k := h
theorem srtS_one (x : Int) : srtS [x] = [x] := (srtS_of (List.pairwise_singleton ..) fun k => Iff.rfl).symm
theorem singles_deep {n : Nat} (h : n ≤ 7) : deep 2 (eL (eL D.int) (m_singles n)) = true := deep_intss (by unfold m_singles; rw [List.length_map, List.length_range]; omega) fun x hx => by
  unfold m_singles at hx
  obtain ⟨k, _, rfl⟩ := List.mem_map.mp hx
  show 1 ≤ 1000000; decide
theorem ok_law (F : Fun K "law" "law" s_law f fd) (T : Bt mg) (c_pool : CalS P w K mg base "_law_pool" 1 ["script"]) (c_built : CalP P w K mg base "_law_built" 3 ["pool"] (fun ds => ds = []) (fun _ d => R_built d))
    (c_same : Cal P w K mg base "_law_same" 3 ["got", "due"] (R_same 2)) (c_blocks : Cal P w K mg base "_law_blocks" 1 ["labels"] R_law_blocks) (c_index : Cal P w K mg base "_law_index" 1 ["labels", "village"] R_law_index)
    (c_singles : CalG P w K mg base "singles" 1 ["villages"] FrT R_singles) (c_place : Cal P w K mg base "place_of" 1 ["division", "village"] R_place_of)
    (c_tT : CalG P w K mg base "touched_by" 1 ["division", "stops"] FrI R_touchedT) (c_tL : CalG P w K mg base "touched_by" 1 ["division", "stops"] FrI R_touchedL)
    (c_joins : Cal P w K mg base "_law_joins" 4 ["labels", "mine", "places"] R_joins) (c_touches : Cal P w K mg base "_law_touches" 5 ["labels", "mine", "stops"] R_touches) : FnOk P w K mg base CX0 6 f fd ["script"] (spLaw K) := by
  refine fn_mkLaw F sc_law (by decide) fun cdv A outer s H E hr ns hl => ?_
  have nd := sc_law.nd
  have hr1 := hr.mono (j := 1) (by decide)
  have hr3 := hr.mono (j := 3) (by decide)
  have hr4 := hr.mono (j := 4) (by decide)
  refine dss_built (is := [1, 2, 3, 4]) (j := 0) (n := 0) c_pool c_built hr1 hr3 rfl rfl hl (pgs_cons (pg_name nd rfl (Or.inl rfl)) (pgs_cons (pg_name nd rfl (by first | exact Or.inl rfl | exact Or.inr rfl)) (pgs_cons (pg_name nd rfl (Or.inl rfl)) (pgs_cons (pg_name nd rfl (Or.inl rfl)) pgs_nil)))) fun d hd => ?_
  obtain ⟨n, lab, places, stops, hB, rfl⟩ := hd
  refine ⟨_, rfl, rfl, ?_⟩
  have n1 := hB.n1
  have n7 := hB.n7
  have ll := hB.ll
  have l7 : lab.length ≤ 7 := by omega
  have hj : Joins lab places := ⟨hB.l0, by omega, l7, hB.pn, hB.p1, hB.pr⟩
  have hb1 := blocks_len lab
  have hb2 : ∀ bk ∈ m_law_blocks lab, bk.length ≤ 7 := fun bk h => by have := blocks_in bk h; omega
  have hdb : deep 2 (eL (eL D.int) (m_law_blocks lab)) = true := deep_intss (by omega) fun x hx => by have := hb2 x hx; omega
  have hds : deep 2 (eL (eL D.int) (m_singles n.toNat)) = true := singles_deep (by omega)
  have hsl : (m_singles n.toNat).length = n.toNat := by unfold m_singles; rw [List.length_map, List.length_range]
  refine dss_cons (dst_set (d := eL (eL D.int) (m_law_blocks lab)) 5 (de_callE c_blocks hr1 (des_cons (de_var 2) des_nil) ⟨lab, (show lab.length ≤ 1000 by omega), rfl, rfl⟩) nd) ?_
  refine dss_cons (dst_setLc 6 (own := [("block", 10)]) (tt := tYes) (pr := fun _ => true) (f := fun b : List Int => eL D.int b) rfl nd (di_list 10 (en := eL D.int) (de_var 5)) (blkOk_by (by kernel_rfl)) (by simp) (fun _ _ _ _ _ => (pg_name (i := 10) nd rfl (by first | exact Or.inl rfl | exact Or.inr rfl))) (fun _ _ _ _ _ => pts_nil)
    (fun a _ A2 σ H Q _ k => k H (Same.refl H)) (fun v hv _ _ _ _ _ _ => de_f (df_list (de_var 10) T.list)) (small (by omega))) ?_
  have efl : ((m_law_blocks lab).filter fun _ => true).map (fun b : List Int => eL D.int b) = (m_law_blocks lab).map (eL D.int) := by
    rw [List.filter_eq_self.mpr fun _ _ => rfl]
  rw [efl]
  refine dss_weak (Γ1 := [.no, .val (.int n), .val (eL D.int lab), .val (eL D.int places), .val (eT D.int stops), .val (eL (eL D.int) (m_law_blocks lab)), .val (eL (eL D.int) (m_law_blocks lab)), .no, .no, .no, .no])
      (wk_cons wks_no (wk_cons wks_id (wk_cons wks_id (wk_cons wks_id (wk_cons wks_id (wk_cons wks_id (wk_cons wks_ow (wk_cons wks_no (wk_cons wks_no (wk_cons wks_no (wk_cons wks_no wk_nil))))))))))) ?_
  have hsR : R_singles [.int n] (m_singles n.toNat) := ⟨n, by omega, by omega, rfl, rfl⟩
  refine dss_cons (dst_setT (dss := m_singles n.toNat) 7 (dn_call c_singles hr1 frT_ok (dus_cons (du_of (de_var 1)) dus_nil) hsR) nd) ?_
  refine dss_gF (db_not (db_val (de_callS c_same hr3 (dus_cons (du_tre 7) (dus_cons (du_of (d := eL (eL D.int) (m_singles n.toNat)) (de_f (de_lcE (own := [("v", 8)]) (en2 := eL D.int) (fun k : Nat => [(k : Int)]) rfl nd (di_range 8 T.range (de_var 1) (by omega)) (blkOk_by (by kernel_rfl)) (by simp) (fun _ _ _ _ _ => (pg_name (i := 8) nd rfl (by first | exact Or.inl rfl | exact Or.inr rfl))) (by rw [List.length_range]; exact small (by omega)) (fun v hv _ _ _ _ _ => de_lst (des_cons (de_var 8) des_nil))))) dus_nil)) (r_same hds) trivial))) ?_
  refine dss_forget (n := n.toNat) (m := 10) 7 rfl hsl (fun x hx => by unfold m_singles at hx; obtain ⟨k, _, rfl⟩ := List.mem_map.mp hx; show 1 ≤ 10; decide) ?_
  refine dss_cons (dst_jap (n := n.toNat) (m := 10) 7 de_int (de_var 1) (.inl ⟨by omega, by omega⟩) (by decide)) ?_
  refine dss_cons (dst_jap0 (n := n.toNat) (m := 11) 7 (df_lst (des_cons de_int des_nil)) (by show 1 ≤ _; omega) (small (by omega))) ?_
  refine dss_gF (db_not (db_val (de_callE c_same hr3 (des_cons (de_n frT_ok (dn_call c_singles hr1 frT_ok (dus_cons (du_of (de_var 1)) dus_nil) hsR)) (des_cons (show DE _ _ _ (eL (eL D.int) (m_singles n.toNat)) from de_f (de_lcE (own := [("v", 8)]) (en2 := eL D.int) (fun k : Nat => [(k : Int)]) rfl nd (di_range 8 T.range (de_var 1) (by omega)) (blkOk_by (by kernel_rfl)) (by simp) (fun _ _ _ _ _ => (pg_name (i := 8) nd rfl (by first | exact Or.inl rfl | exact Or.inr rfl))) (by rw [List.length_range]; exact small (by omega)) (fun v hv _ _ _ _ _ => de_lst (des_cons (de_var 8) des_nil)))) des_nil)) (r_same hds)))) ?_
  refine dss_cons (dst_for (b0 := ()) (Gf := fun _ => [.no, .val (.int n), .val (eL D.int lab), .val (eL D.int places), .val (eT D.int stops), .val (eL (eL D.int) (m_law_blocks lab)), .val (eL (eL D.int) (m_law_blocks lab)), .jnk (.junk (n.toNat + 1) 11), .no, .no, .no])
    (step := fun b (_ : Nat) => b) PassesOwn.never rfl (di_range 8 T.range (de_var 1) (by omega)) (pg_name (i := 8) nd rfl (by first | exact Or.inl rfl | exact Or.inr rfl)) fun pre a post hpre => ?_) ?_
  · have ha : 0 ≤ (a : Int) ∧ (a : Int) < (lab.length : Int) := by
      have : a ∈ List.range n.toNat := by rw [hpre]; simp
      have := List.mem_range.mp this
      omega
    refine dss_cons (dst_set 9 (de_callE c_index hr1 (des_cons (de_var 2) (des_cons (de_var 8) des_nil)) (rIdx hB.l0 l7 ha)) nd) ?_
    obtain ⟨hp1, hp2⟩ := place_eq hB.l0 ha
    have hi0 := (index_in hB.l0 ha).1
    have hto := touch_same (ss := [(a : Int)]) (st := [(a : Int)]) hB.l0 (fun x hx => by rw [List.mem_singleton.mp hx]; exact ha) fun _ => Iff.rfl
    have hto : m_touched_by (m_law_blocks lab) [(a : Int)] = [m_law_index lab (a : Int)] := by rw [hto]; exact srtS_one _
    have hpR : R_place_of [eL (eL D.int) (m_law_blocks lab), .int (a : Int)] (.int (m_law_index lab (a : Int))) := ⟨m_law_blocks lab, (a : Int), (m_law_index lab (a : Int)).toNat, by omega, hp1, hp2, rfl, by rw [Int.toNat_of_nonneg hi0]⟩
    refine dss_gF (db_not (db_val (de_callE c_same hr3 (des_cons (de_callE c_place hr1 (des_cons (de_var 6) (des_cons (de_var 8) des_nil)) hpR) (des_cons (de_var 9) des_nil)) (r_same rfl)))) ?_
    refine dss_post (wk_cons wks_id (wk_cons wks_id (wk_cons wks_id (wk_cons wks_id (wk_cons wks_id (wk_cons wks_id (wk_cons wks_id (wk_cons wks_id (wk_cons wks_no (wk_cons wks_no (wk_cons wks_id wk_nil))))))))))) (dss_gF (db_of (dw_or (db_not (db_val (de_callE c_same hr3 (des_cons (de_n frI_ok (hto ▸ dn_call c_tT hr1 frI_ok (dus_cons (du_of (de_var 6)) (dus_cons (du_of (d := eT D.int [(a : Int)]) (de_tup (des_cons (de_var 8) des_nil))) dus_nil)) (rT l7 (len_one (by decide))))) (des_cons (show DE _ _ _ (eL D.int [m_law_index lab (a : Int)]) from de_lst (des_cons (de_var 9) des_nil)) des_nil)) (r_same (deep_ints (len_one (by decide)))))))
      fun _ => dw_or1 (db_not (db_val (de_callE c_same hr3 (des_cons (de_n frI_ok (hto ▸ dn_call c_tL hr1 frI_ok (dus_cons (du_of (de_var 6)) (dus_cons (du_of (d := eL D.int [(a : Int)]) (de_lst (des_cons (de_var 8) des_nil))) dus_nil)) (rL l7 (len_one (by decide))))) (des_cons (show DE _ _ _ (eL D.int [m_law_index lab (a : Int)]) from de_lst (des_cons (de_var 9) des_nil)) des_nil)) (r_same (deep_ints (len_one (by decide))))))))) dss_nil)
  have hjR : R_joins [eL D.int lab, eL (eL D.int) (m_law_blocks lab), eL D.int places] (.bl true) := ⟨lab, places, hj, rfl, rfl⟩
  refine dss_gF (db_not (db_val (de_callE c_joins hr4 (des_cons (de_var 2) (des_cons (de_var 6) (des_cons (de_var 3) des_nil))) hjR))) ?_
  have hf : (decide (1 < n) && !true) = false := by simp
  have htR : decide (1 < n) = true → R_touches [eL D.int lab, eL (eL D.int) (m_law_blocks lab), eT D.int stops] (.bl true) := fun h => by
    have h := of_decide_eq_true h
    rcases hB.st with ⟨e, _⟩ | ⟨_, hst⟩
    · omega
    · exact ⟨lab, stops, ⟨hB.l0, by omega, l7, hst.2.2.1, by have := hst.2.2.2; omega, fun x hx => by have := hst.2.1 x hx; omega⟩, rfl, rfl⟩
  refine dss_gF (hf ▸ db_of (dw_and (db_cmp ok_gt (de_var 1) de_int) fun h => dw_and1 (db_not (db_val (de_callE c_touches hr (des_cons (de_var 2) (des_cons (de_var 6) (des_cons (de_var 4) des_nil))) (htR h)))))) ?_
  exact dss_one (dst_ret (de_callE c_same hr3 (des_cons (de_var 6) (des_cons (de_var 5) des_nil)) (r_same hdb)))

end
end G
set_option Elab.async false
set_option linter.all false
set_option maxRecDepth 100000
namespace G
open PySem PySem.Spec PyProof.Rows L2

theorem all_mk {l : PySem.W.OpenLaw} {w : World} {K : PySem.W.Frag} {h : Heap} {mg : Str → Option Value} {fa f1 f2 f3 f4 f5 f6 f7 f8 f9 f10 f11 f12 f13 f14 : Addr} (X : K.In h) (G : h.Ns mainGlobals mg) (hfa : mg "law" = some (.ref fa))
    {od1 an1 od2 an2 od3 an3 od4 an4 od5 an5 od6 an6 od7 an7 od8 an8 od9 an9 od10 an10 od11 an11 od12 an12 od13 an13 od14 an14 : Option Addr} {sl1 sl2 sl3 sl4 sl5 sl6 sl7 sl8 sl9 sl10 sl11 sl12 sl13 sl14 : Array (Option Value)} {oc1 kV1 dc1 pm1 cd1 ct1 oc2 kV2 dc2 pm2 cd2 ct2 oc3 kV3 dc3 pm3 cd3 ct3 oc4 kV4 dc4 pm4 cd4 ct4 oc5 kV5 dc5 pm5 cd5 ct5 oc6 kV6 dc6 pm6 cd6 ct6 oc7 kV7 dc7 pm7 cd7 ct7 oc8 kV8 dc8 pm8 cd8 ct8 oc9 kV9 dc9 pm9 cd9 ct9 oc10 kV10 dc10 pm10 cd10 ct10 oc11 kV11 dc11 pm11 cd11 ct11 oc12 kV12 dc12 pm12 cd12 ct12 oc13 kV13 dc13 pm13 cd13 ct13 oc14 kV14 dc14 pm14 cd14 ct14 : Value}
    (a1 : PySem.W.nsIn K mainGlobals "singles" = some (some (.ref f1))) (l1 : K.lookup f1 = some ⟨oc1, od1, .func (PySem.W.fnOf "singles" "singles" (defArgs s_singles) (defBody s_singles) (defScope s_singles) .none kV1 dc1 pm1 an1 cd1 ct1), sl1⟩) (c1 : PySem.W.codeIn K cd1 "singles" = true) (k1 : PySem.W.keepIn K (.ref f1) = true)
    (a2 : PySem.W.nsIn K mainGlobals "place_of" = some (some (.ref f2))) (l2 : K.lookup f2 = some ⟨oc2, od2, .func (PySem.W.fnOf "place_of" "place_of" (defArgs s_place_of) (defBody s_place_of) (defScope s_place_of) .none kV2 dc2 pm2 an2 cd2 ct2), sl2⟩) (c2 : PySem.W.codeIn K cd2 "place_of" = true) (k2 : PySem.W.keepIn K (.ref f2) = true)
    (a3 : PySem.W.nsIn K mainGlobals "touched_by" = some (some (.ref f3))) (l3 : K.lookup f3 = some ⟨oc3, od3, .func (PySem.W.fnOf "touched_by" "touched_by" (defArgs s_touched_by) (defBody s_touched_by) (defScope s_touched_by) .none kV3 dc3 pm3 an3 cd3 ct3), sl3⟩) (c3 : PySem.W.codeIn K cd3 "touched_by" = true) (k3 : PySem.W.keepIn K (.ref f3) = true)
    (a4 : PySem.W.nsIn K mainGlobals "join_blocks" = some (some (.ref f4))) (l4 : K.lookup f4 = some ⟨oc4, od4, .func (PySem.W.fnOf "join_blocks" "join_blocks" (defArgs s_join_blocks) (defBody s_join_blocks) (defScope s_join_blocks) .none kV4 dc4 pm4 an4 cd4 ct4), sl4⟩) (c4 : PySem.W.codeIn K cd4 "join_blocks" = true) (k4 : PySem.W.keepIn K (.ref f4) = true)
    (a5 : PySem.W.nsIn K mainGlobals "_law_pool" = some (some (.ref f5))) (l5 : K.lookup f5 = some ⟨oc5, od5, .func (PySem.W.fnOf "_law_pool" "_law_pool" (defArgs s_law_pool) (defBody s_law_pool) (defScope s_law_pool) .none kV5 dc5 pm5 an5 cd5 ct5), sl5⟩) (c5 : PySem.W.codeIn K cd5 "_law_pool" = true) (k5 : PySem.W.keepIn K (.ref f5) = true)
    (a6 : PySem.W.nsIn K mainGlobals "_law_draw" = some (some (.ref f6))) (l6 : K.lookup f6 = some ⟨oc6, od6, .func (PySem.W.fnOf "_law_draw" "_law_draw" (defArgs s_law_draw) (defBody s_law_draw) (defScope s_law_draw) .none kV6 dc6 pm6 an6 cd6 ct6), sl6⟩) (c6 : PySem.W.codeIn K cd6 "_law_draw" = true) (k6 : PySem.W.keepIn K (.ref f6) = true)
    (a7 : PySem.W.nsIn K mainGlobals "_law_stops" = some (some (.ref f7))) (l7 : K.lookup f7 = some ⟨oc7, od7, .func (PySem.W.fnOf "_law_stops" "_law_stops" (defArgs s_law_stops) (defBody s_law_stops) (defScope s_law_stops) .none kV7 dc7 pm7 an7 cd7 ct7), sl7⟩) (c7 : PySem.W.codeIn K cd7 "_law_stops" = true) (k7 : PySem.W.keepIn K (.ref f7) = true)
    (a8 : PySem.W.nsIn K mainGlobals "_law_blocks" = some (some (.ref f8))) (l8 : K.lookup f8 = some ⟨oc8, od8, .func (PySem.W.fnOf "_law_blocks" "_law_blocks" (defArgs s_law_blocks) (defBody s_law_blocks) (defScope s_law_blocks) .none kV8 dc8 pm8 an8 cd8 ct8), sl8⟩) (c8 : PySem.W.codeIn K cd8 "_law_blocks" = true) (k8 : PySem.W.keepIn K (.ref f8) = true)
    (a9 : PySem.W.nsIn K mainGlobals "_law_same" = some (some (.ref f9))) (l9 : K.lookup f9 = some ⟨oc9, od9, .func (PySem.W.fnOf "_law_same" "_law_same" (defArgs s_law_same) (defBody s_law_same) (defScope s_law_same) .none kV9 dc9 pm9 an9 cd9 ct9), sl9⟩) (c9 : PySem.W.codeIn K cd9 "_law_same" = true) (k9 : PySem.W.keepIn K (.ref f9) = true)
    (a10 : PySem.W.nsIn K mainGlobals "_law_built" = some (some (.ref f10))) (l10 : K.lookup f10 = some ⟨oc10, od10, .func (PySem.W.fnOf "_law_built" "_law_built" (defArgs s_law_built) (defBody s_law_built) (defScope s_law_built) .none kV10 dc10 pm10 an10 cd10 ct10), sl10⟩) (c10 : PySem.W.codeIn K cd10 "_law_built" = true) (k10 : PySem.W.keepIn K (.ref f10) = true)
    (a11 : PySem.W.nsIn K mainGlobals "_law_index" = some (some (.ref f11))) (l11 : K.lookup f11 = some ⟨oc11, od11, .func (PySem.W.fnOf "_law_index" "_law_index" (defArgs s_law_index) (defBody s_law_index) (defScope s_law_index) .none kV11 dc11 pm11 an11 cd11 ct11), sl11⟩) (c11 : PySem.W.codeIn K cd11 "_law_index" = true) (k11 : PySem.W.keepIn K (.ref f11) = true)
    (a12 : PySem.W.nsIn K mainGlobals "_law_joins" = some (some (.ref f12))) (l12 : K.lookup f12 = some ⟨oc12, od12, .func (PySem.W.fnOf "_law_joins" "_law_joins" (defArgs s_law_joins) (defBody s_law_joins) (defScope s_law_joins) .none kV12 dc12 pm12 an12 cd12 ct12), sl12⟩) (c12 : PySem.W.codeIn K cd12 "_law_joins" = true) (k12 : PySem.W.keepIn K (.ref f12) = true)
    (a13 : PySem.W.nsIn K mainGlobals "_law_touches" = some (some (.ref f13))) (l13 : K.lookup f13 = some ⟨oc13, od13, .func (PySem.W.fnOf "_law_touches" "_law_touches" (defArgs s_law_touches) (defBody s_law_touches) (defScope s_law_touches) .none kV13 dc13 pm13 an13 cd13 ct13), sl13⟩) (c13 : PySem.W.codeIn K cd13 "_law_touches" = true) (k13 : PySem.W.keepIn K (.ref f13) = true)
    (a14 : PySem.W.nsIn K mainGlobals "law" = some (some (.ref f14))) (l14 : K.lookup f14 = some ⟨oc14, od14, .func (PySem.W.fnOf "law" "law" (defArgs s_law) (defBody s_law) (defScope s_law) .none kV14 dc14 pm14 an14 cd14 ct14), sl14⟩) (c14 : PySem.W.codeIn K cd14 "law" = true) (k14 : PySem.W.keepIn K (.ref f14) = true)
    (z1 : PySem.W.nsIn K mainGlobals "len" = some none) (z2 : PySem.W.nsIn K mainGlobals "range" = some none) (z3 : PySem.W.nsIn K mainGlobals "sum" = some none) (z4 : PySem.W.nsIn K mainGlobals "max" = some none) (z5 : PySem.W.nsIn K mainGlobals "min" = some none) (z6 : PySem.W.nsIn K mainGlobals "abs" = some none) (z7 : PySem.W.nsIn K mainGlobals "int" = some none) (z8 : PySem.W.nsIn K mainGlobals "list" = some none) (z9 : PySem.W.nsIn K mainGlobals "tuple" = some none) (z10 : PySem.W.nsIn K mainGlobals "sorted" = some none) (z11 : PySem.W.nsIn K mainGlobals "any" = some none) (z12 : PySem.W.nsIn K mainGlobals "all" = some none) (z13 : PySem.W.nsIn K mainGlobals "enumerate" = some none) (z14 : PySem.W.nsIn K mainGlobals "zip" = some none) (z15 : PySem.W.nsIn K mainGlobals "isinstance" = some none) (z16 : PySem.W.nsIn K mainGlobals "set" = some none) (z17 : PySem.W.nsIn K mainGlobals "str" = some none) (z18 : PySem.W.nsIn K mainGlobals "bool" = some none) :
    ∃ fd : FuncData, (∀ (s : Shared) (v : Value), BindsTo s fd ⟨[v], []⟩ [("script", v)]) ∧ ∀ base : Heap, K.In base → base.Ns mainGlobals mg → FnOk l.prog w K mg base CX0 6 fa fd ["script"] (spLaw K) := by
  have e := hfa.symm.trans (PySem.W.mg_of X G a14)
  cases e
  have T : Bt mg := ⟨PySem.W.mg_none_of X G z1, PySem.W.mg_none_of X G z2, PySem.W.mg_none_of X G z3, PySem.W.mg_none_of X G z4, PySem.W.mg_none_of X G z5, PySem.W.mg_none_of X G z6, PySem.W.mg_none_of X G z7, PySem.W.mg_none_of X G z8, PySem.W.mg_none_of X G z9, PySem.W.mg_none_of X G z10, PySem.W.mg_none_of X G z11, PySem.W.mg_none_of X G z12, PySem.W.mg_none_of X G z13, PySem.W.mg_none_of X G z14, PySem.W.mg_none_of X G z15, PySem.W.mg_none_of X G z16, PySem.W.mg_none_of X G z17, PySem.W.mg_none_of X G z18⟩
  have F1 := fun_mk (st := s_singles) l1 c1 k1
  have b1 := F1.binds (ps := ["villages"]) fun _ _ _ _ _ _ us hl => match us, hl with | [_], _ => rfl
  have g1 := PySem.W.mg_of X G a1
  have F2 := fun_mk (st := s_place_of) l2 c2 k2
  have b2 := F2.binds (ps := ["division", "village"]) fun _ _ _ _ _ _ us hl => match us, hl with | [_, _], _ => rfl
  have g2 := PySem.W.mg_of X G a2
  have F3 := fun_mk (st := s_touched_by) l3 c3 k3
  have b3 := F3.binds (ps := ["division", "stops"]) fun _ _ _ _ _ _ us hl => match us, hl with | [_, _], _ => rfl
  have g3 := PySem.W.mg_of X G a3
  have F4 := fun_mk (st := s_join_blocks) l4 c4 k4
  have b4 := F4.binds (ps := ["division", "places"]) fun _ _ _ _ _ _ us hl => match us, hl with | [_, _], _ => rfl
  have g4 := PySem.W.mg_of X G a4
  have F5 := fun_mk (st := s_law_pool) l5 c5 k5
  have b5 := F5.binds (ps := ["script"]) fun _ _ _ _ _ _ us hl => match us, hl with | [_], _ => rfl
  have g5 := PySem.W.mg_of X G a5
  have F6 := fun_mk (st := s_law_draw) l6 c6 k6
  have b6 := F6.binds (ps := ["pool", "many"]) fun _ _ _ _ _ _ us hl => match us, hl with | [_, _], _ => rfl
  have g6 := PySem.W.mg_of X G a6
  have F7 := fun_mk (st := s_law_stops) l7 c7 k7
  have b7 := F7.binds (ps := ["pool", "villages", "widest"]) fun _ _ _ _ _ _ us hl => match us, hl with | [_, _, _], _ => rfl
  have g7 := PySem.W.mg_of X G a7
  have F8 := fun_mk (st := s_law_blocks) l8 c8 k8
  have b8 := F8.binds (ps := ["labels"]) fun _ _ _ _ _ _ us hl => match us, hl with | [_], _ => rfl
  have g8 := PySem.W.mg_of X G a8
  have F9 := fun_mk (st := s_law_same) l9 c9 k9
  have b9 := F9.binds (ps := ["got", "due"]) fun _ _ _ _ _ _ us hl => match us, hl with | [_, _], _ => rfl
  have g9 := PySem.W.mg_of X G a9
  have F10 := fun_mk (st := s_law_built) l10 c10 k10
  have b10 := F10.binds (ps := ["pool"]) fun _ _ _ _ _ _ us hl => match us, hl with | [_], _ => rfl
  have g10 := PySem.W.mg_of X G a10
  have F11 := fun_mk (st := s_law_index) l11 c11 k11
  have b11 := F11.binds (ps := ["labels", "village"]) fun _ _ _ _ _ _ us hl => match us, hl with | [_, _], _ => rfl
  have g11 := PySem.W.mg_of X G a11
  have F12 := fun_mk (st := s_law_joins) l12 c12 k12
  have b12 := F12.binds (ps := ["labels", "mine", "places"]) fun _ _ _ _ _ _ us hl => match us, hl with | [_, _, _], _ => rfl
  have g12 := PySem.W.mg_of X G a12
  have F13 := fun_mk (st := s_law_touches) l13 c13 k13
  have b13 := F13.binds (ps := ["labels", "mine", "stops"]) fun _ _ _ _ _ _ us hl => match us, hl with | [_, _, _], _ => rfl
  have g13 := PySem.W.mg_of X G a13
  have F14 := fun_mk (st := s_law) l14 c14 k14
  refine ⟨PySem.W.fnOf "law" "law" (defArgs s_law) (defBody s_law) (defScope s_law) .none kV14 dc14 pm14 an14 cd14 ct14, fun s v => .of_eq rfl, fun base _ _ => ?_⟩
  have c_singles : CalG l.prog w K mg base "singles" 1 ["villages"] FrT R_singles := ⟨_, _, g1, k1, b1, ok_singles F1 T⟩
  have c_place : Cal l.prog w K mg base "place_of" 1 ["division", "village"] R_place_of := ⟨_, _, g2, k2, b2, ok_place_of F2 T⟩
  have c_tT : CalG l.prog w K mg base "touched_by" 1 ["division", "stops"] FrI R_touchedT := ⟨_, _, g3, k3, b3, ok_touchedT F3 T⟩
  have c_tL : CalG l.prog w K mg base "touched_by" 1 ["division", "stops"] FrI R_touchedL := ⟨_, _, g3, k3, b3, ok_touchedL F3 T⟩
  have c_join : CalG l.prog w K mg base "join_blocks" 1 ["division", "places"] FrT R_join := ⟨_, _, g4, k4, b4, ok_join_blocks F4 T⟩
  have c_pool : CalS l.prog w K mg base "_law_pool" 1 ["script"]  := ⟨_, _, g5, k5, b5, ok_law_pool F5 T⟩
  have c_draw : CalP l.prog w K mg base "_law_draw" 1 ["pool", "many"] Pre_draw R_draw := ⟨_, _, g6, k6, b6, ok_law_draw F6 T⟩
  have c_stops : CalP l.prog w K mg base "_law_stops" 2 ["pool", "villages", "widest"] Pre_stops R_stops := ⟨_, _, g7, k7, b7, ok_law_stops F7 T c_draw⟩
  have c_blocks : Cal l.prog w K mg base "_law_blocks" 1 ["labels"] R_law_blocks := ⟨_, _, g8, k8, b8, ok_law_blocks F8 T⟩
  have c_index : Cal l.prog w K mg base "_law_index" 1 ["labels", "village"] R_law_index := ⟨_, _, g11, k11, b11, ok_law_index F11 T⟩
  have c_same0 : Cal l.prog w K mg base "_law_same" 1 ["got", "due"] (R_same 0) := ⟨_, _, g9, k9, b9, ok_same_step 0 F9 T fun m h => absurd h (by omega)⟩
  have c_same1 : Cal l.prog w K mg base "_law_same" 2 ["got", "due"] (R_same 1) := ⟨_, _, g9, k9, b9, ok_same_step 1 F9 T fun m h => by cases h; exact c_same0⟩
  have c_same : Cal l.prog w K mg base "_law_same" 3 ["got", "due"] (R_same 2) := ⟨_, _, g9, k9, b9, ok_same_step 2 F9 T fun m h => by cases h; exact c_same1⟩
  have c_built : CalP l.prog w K mg base "_law_built" 3 ["pool"] (fun ds => ds = []) (fun _ d => R_built d) := ⟨_, _, g10, k10, b10, ok_law_built F10 T c_draw c_stops⟩
  have c_joins : Cal l.prog w K mg base "_law_joins" 4 ["labels", "mine", "places"] R_joins := ⟨_, _, g12, k12, b12, ok_law_joins F12 T c_same c_blocks c_join⟩
  have c_touches : Cal l.prog w K mg base "_law_touches" 5 ["labels", "mine", "stops"] R_touches := ⟨_, _, g13, k13, b13, ok_law_touches F13 T c_same c_index c_tT c_tL c_joins⟩
  exact ok_law F14 T c_pool c_built c_same c_blocks c_index c_singles c_place c_tT c_tL c_joins c_touches
end G
open PySem PySem.W PyProof.Rows
set_option maxHeartbeats 0 in
theorem PySem.Challenge.cw_villagelines_k12_touch_and_join_holds : PySem.Challenge.rw_villagelines_k12_touch_and_join.Holds := by
  w_on; o_law; k_head; (case hw => w_witness2)
  k_fill
  refine L2.walk_of (l := PySem.Challenge.rw_villagelines_k12_touch_and_join) (n := 63) (k := 6) (x := "script") (CX := fun _ => L2.CX0) (sp := fun w => G.spLaw _) rfl (by decide) rfl ⟨rfl, by decide, by decide⟩ (fun w h Y => PySem.W.kIn_of Y) ?F (fun _ _ a ns hl _ hS => ⟨a, ns, rfl, hS, hl, fun _ => rfl⟩) (fun _ _ _ _ _ h => h)
  case F =>
    intro w mg fa h KX GN hmg
    refine' G.all_mk KX GN hmg ?a1 ?l1 ?c1 ?k1 ?a2 ?l2 ?c2 ?k2 ?a3 ?l3 ?c3 ?k3 ?a4 ?l4 ?c4 ?k4 ?a5 ?l5 ?c5 ?k5 ?a6 ?l6 ?c6 ?k6 ?a7 ?l7 ?c7 ?k7 ?a8 ?l8 ?c8 ?k8 ?a9 ?l9 ?c9 ?k9 ?a10 ?l10 ?c10 ?k10 ?a11 ?l11 ?c11 ?k11 ?a12 ?l12 ?c12 ?k12 ?a13 ?l13 ?c13 ?k13 ?a14 ?l14 ?c14 ?k14 ?z1 ?z2 ?z3 ?z4 ?z5 ?z6 ?z7 ?z8 ?z9 ?z10 ?z11 ?z12 ?z13 ?z14 ?z15 ?z16 ?z17 ?z18
    (case a1 => k_is); (case l1 => k_is); (case c1 => k_is); (case k1 => k_is); (case a2 => k_is); (case l2 => k_is); (case c2 => k_is); (case k2 => k_is); (case a3 => k_is); (case l3 => k_is); (case c3 => k_is); (case k3 => k_is); (case a4 => k_is); (case l4 => k_is); (case c4 => k_is); (case k4 => k_is); (case a5 => k_is); (case l5 => k_is); (case c5 => k_is); (case k5 => k_is); (case a6 => k_is); (case l6 => k_is); (case c6 => k_is); (case k6 => k_is); (case a7 => k_is); (case l7 => k_is); (case c7 => k_is); (case k7 => k_is); (case a8 => k_is); (case l8 => k_is); (case c8 => k_is); (case k8 => k_is); (case a9 => k_is); (case l9 => k_is); (case c9 => k_is); (case k9 => k_is); (case a10 => k_is); (case l10 => k_is); (case c10 => k_is); (case k10 => k_is); (case a11 => k_is); (case l11 => k_is); (case c11 => k_is); (case k11 => k_is); (case a12 => k_is); (case l12 => k_is); (case c12 => k_is); (case k12 => k_is); (case a13 => k_is); (case l13 => k_is); (case c13 => k_is); (case k13 => k_is); (case a14 => k_is); (case l14 => k_is); (case c14 => k_is); (case k14 => k_is); (case z1 => k_is); (case z2 => k_is); (case z3 => k_is); (case z4 => k_is); (case z5 => k_is); (case z6 => k_is); (case z7 => k_is); (case z8 => k_is); (case z9 => k_is); (case z10 => k_is); (case z11 => k_is); (case z12 => k_is); (case z13 => k_is); (case z14 => k_is); (case z15 => k_is); (case z16 => k_is); (case z17 => k_is); (case z18 => k_is)
