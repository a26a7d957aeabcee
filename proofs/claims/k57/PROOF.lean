import PyProof.Rows.All
import Wide.All
import OpenK.AllK
import Wide.FinOn
import PySem.Challenge.RW_lockstold_k57_texts_by_hand_and_what_is
import HandS.ForMost
import HandS.ForExc
import HandS.Deep
import HandS.TupAny
import HandS.TupMul
import HandS.IsInst
import HandS.SortKw
import HandS.Wide
import KE.SortData
import KE.DataCmp
import HandS.Style
import HandS.Flow
import HandS.Zip
import HandS.Rev
import HandS.WordsExc
import HandS.ExcIs
import HandS.RaiseMore
import HandS.Small
import HandS.ExcBuiltin
import HandS.Comp
import HandS.Iter
import KE.KRevSl
import KE.KeyNested
import HandS.Dict
import HandS.SetFor
import HandS.SetBool
import KE.KDictPairs
import HandS.TupSets
import PyProof.ExcBaseAll.ValueError
import KE.KExcLine
import HandS.WideBits
import HandS.TryOnly
import HandS.Exc
import HandS.TryMany
import HandS.Text
import HandS.FStr
import HandS.ExcField
import HandS.ExcInit
set_option Elab.async false
set_option linter.all false
set_option autoImplicit false
set_option maxRecDepth 100000
/-! Ev: an evaluator over data (PyData) for the hand layer: readings t are met by total functions f. -/
namespace Ev
open PySem PySem.Spec L2

abbrev D := PyData
inductive Sl where
  | un
  | im (d : D)
  | mu (d : D)
  | lk (d : D)
/-- what an owned slot holds -/
def owd : Sl → Option D
  | .mu d => some d
  | .lk d => some d
  | _ => none
abbrev Rho := List Sl
/-- what is raised: the number of its class, and its field with what it holds, if it has one -/
abbrev Xc := Nat × List (Str × D)
inductive Ro (α : Type) where
  | ok (a : α) (r : Rho)
  | ex (c : Xc) (r : Rho)
abbrev M (α : Type) := Rho → Option (Ro α)
def mpure {α : Type} (a : α) : M α := fun r => some (.ok a r)
def mbind {α β : Type} (f : M α) (g : α → M β) : M β := fun r => match f r with
  | none => none
  | some (.ok a r') => g a r'
  | some (.ex c r') => some (.ex c r')
def mlift {α : Type} (o : Option α) : M α := fun r => match o with
  | none => none
  | some a => some (.ok a r)

/-! ### data and the heap -/
section
variable {K : PySem.W.Frag} {H H' : Hp}
theorem seqT_mono {a : Addr} {xs : List V} (e : Same H H') (h : SqT K H a xs) : SqT K H' a xs := by
  rcases h with (h | ⟨o, h⟩) | h
  · exact .inl (.inl (e _ _ h))
  · exact .inl (.inr ⟨o, e _ _ h⟩)
  · exact .inr h
theorem seqL_mono {a : Addr} {xs : List V} (e : Same H H') (h : SqL K H a xs) : SqL K H' a xs := by
  rcases h with (h | ⟨o, h⟩) | h
  · exact .inl (.inl (e _ _ h))
  · exact .inl (.inr ⟨o, e _ _ h⟩)
  · exact .inr h
theorem rd_mono {a : Addr} {u : HO} (e : Same H H') (h : Rd H a u) : Rd H' a u := by
  rcases h with h | ⟨o, h⟩
  · exact .inl (e _ _ h)
  · exact .inr ⟨o, e _ _ h⟩
/-- a key of a dict, as a datum -/
def keyD : L2.Key → D
  | .inl i => .int i
  | .inr x => .str x
/-- the object at a has no dict of its own, as far as that may matter -/
def NoD (K : PySem.W.Frag) (H : Hp) (a : Addr) : Prop := (∃ o u, H a = some (.frz o u) ∧ o.dict = none) ∨ ∃ o, K.lookup a = some o ∧ o.dict = none
theorem noD_mono {a : Addr} (e : Same H H') (h : NoD K H a) : NoD K H' a := by
  rcases h with ⟨o, u, h, n⟩ | h
  · exact .inl ⟨o, u, e _ _ h, n⟩
  · exact .inr h
/-- may it be a pair, for dict()? -/
def isPr : D → Bool
  | .tuple [_, _] => true
  | .list [_, _] => true
  | _ => false
abbrev NoP (K : PySem.W.Frag) (H : Hp) (a : Addr) (ds : List D) : Prop := ds.all isPr = true → NoD K H a
mutual
/-- v stands for d, by what the heap H holds -/
inductive Rp (K : PySem.W.Frag) (H : Hp) : V → D → Prop
  | non : Rp K H .non .none
  | bl (b : Bool) : Rp K H (.bl b) (.bool b)
  | int (i : Int) : Rp K H (.int i) (.int i)
  | str (x : Str) : Rp K H (.str x) (.str x)
  | lst {a : Addr} {xs : List V} {ds : List D} : SqL K H a xs → RpAll K H xs ds → Rp K H (.ref a) (.list ds)
  | tup {a : Addr} {xs : List V} {ds : List D} : SqT K H a xs → NoP K H a ds → RpAll K H xs ds → Rp K H (.ref a) (.tuple ds)
  | dic {a : Addr} {kvs : List (L2.Key × V)} {ds : List (D × D)} : H a = some (.dK kvs) → RpK K H kvs ds → Rp K H (.ref a) (.dict ds)
inductive RpAll (K : PySem.W.Frag) (H : Hp) : List V → List D → Prop
  | nil : RpAll K H [] []
  | cons {v : V} {vs : List V} {d : D} {ds : List D} : Rp K H v d → RpAll K H vs ds → RpAll K H (v :: vs) (d :: ds)
inductive RpK (K : PySem.W.Frag) (H : Hp) : List (L2.Key × V) → List (D × D) → Prop
  | nil : RpK K H [] []
  | cons {k : L2.Key} {v : V} {vs : List (L2.Key × V)} {d : D} {ds : List (D × D)} : Rp K H v d → RpK K H vs ds → RpK K H ((k, v) :: vs) ((keyD k, d) :: ds)
end
mutual
theorem dp_mono (e : Same H H') : ∀ {v : V} {d : D}, Rp K H v d → Rp K H' v d
  | _, _, .non => .non
  | _, _, .bl b => .bl b
  | _, _, .int i => .int i
  | _, _, .str x => .str x
  | _, _, .lst h a => .lst (seqL_mono e h) (dpa_mono e a)
  | _, _, .tup h n a => .tup (seqT_mono e h) (fun z => noD_mono e (n z)) (dpa_mono e a)
  | _, _, .dic h a => .dic (e _ _ h) (dpk_mono e a)
theorem dpa_mono (e : Same H H') : ∀ {vs : List V} {ds : List D}, RpAll K H vs ds → RpAll K H' vs ds
  | _, _, .nil => .nil
  | _, _, .cons h a => .cons (dp_mono e h) (dpa_mono e a)
theorem dpk_mono (e : Same H H') : ∀ {vs : List (L2.Key × V)} {ds : List (D × D)}, RpK K H vs ds → RpK K H' vs ds
  | _, _, .nil => .nil
  | _, _, .cons h a => .cons (dp_mono e h) (dpk_mono e a)
end
mutual
/-- no dict within -/
def nd : D → Bool
  | .none => true
  | .bool _ => true
  | .int _ => true
  | .str _ => true
  | .list xs => nds xs
  | .tuple xs => nds xs
  | .dict _ => false
def nds : List D → Bool
  | [] => true
  | x :: xs => nd x && nds xs
end
mutual
theorem Rp.dp : ∀ {v : V} {d : D}, Rp K H v d → nd d = true → Dp K H v d
  | _, _, .non, _ => .non
  | _, _, .bl b, _ => .bl b
  | _, _, .int i, _ => .int i
  | _, _, .str x, _ => .str x
  | _, _, .lst h a, n => .lst h (RpAll.dp a (by simpa [nd] using n))
  | _, _, .tup h _ a, n => .tup h (RpAll.dp a (by simpa [nd] using n))
  | _, _, .dic _ _, n => absurd n (by simp [nd])
theorem RpAll.dp : ∀ {vs : List V} {ds : List D}, RpAll K H vs ds → nds ds = true → DpAll K H vs ds
  | _, _, .nil, _ => .nil
  | _, _, .cons h a, n => by
    rw [nds, Bool.and_eq_true] at n
    exact .cons (Rp.dp h n.1) (RpAll.dp a n.2)
end
theorem dpa_len : ∀ {vs : List V} {ds : List D}, RpAll K H vs ds → vs.length = ds.length
  | _, _, .nil => rfl
  | _, _, .cons _ a => by rw [List.length_cons, List.length_cons, dpa_len a]
theorem dpa_get : ∀ {vs : List V} {ds : List D} {i : Nat} {d : D}, RpAll K H vs ds → ds[i]? = some d → ∃ v, vs[i]? = some v ∧ Rp K H v d
  | _, _, _, _, .nil, e => by simp at e
  | _, _, 0, _, .cons h _, e => by simp at e; subst e; exact ⟨_, rfl, h⟩
  | _, _, i + 1, _, .cons _ a, e => by
    obtain ⟨v, h1, h2⟩ := dpa_get (i := i) a (by simpa using e)
    exact ⟨v, by simpa using h1, h2⟩
theorem dpa_get' : ∀ {vs : List V} {ds : List D} {i : Nat} {v : V}, RpAll K H vs ds → vs[i]? = some v → ∃ d, ds[i]? = some d ∧ Rp K H v d
  | _, _, _, _, .nil, e => by simp at e
  | _, _, 0, _, .cons h _, e => by simp at e; subst e; exact ⟨_, rfl, h⟩
  | _, _, i + 1, _, .cons _ a, e => by
    obtain ⟨v, h1, h2⟩ := dpa_get' (i := i) a (by simpa using e)
    exact ⟨v, by simpa using h1, h2⟩
theorem dpa_app : ∀ {vs ws : List V} {ds es : List D}, RpAll K H vs ds → RpAll K H ws es → RpAll K H (vs ++ ws) (ds ++ es)
  | _, _, _, _, .nil, b => b
  | _, _, _, _, .cons h a, b => .cons h (dpa_app a b)
end

/-- what an owned object holds -/
def MOk (K : PySem.W.Frag) (HI H : Hp) (a : Addr) : D → Prop
  | .list ds => ∃ vs, H a = some (.lst vs) ∧ RpAll K HI vs ds
  | _ => False
/-- the slots are as told: HI what never changes, H the heap -/
structure SOk (K : PySem.W.Frag) (HI H : Hp) (σ : L2.St) (ρ : Rho) : Prop where
  sub : Same HI H
  len : σ.length = ρ.length
  im : ∀ (i : Nat) (d : D), ρ[i]? = some (Sl.im d) → ∃ v, σ[i]? = some (some v) ∧ Rp K HI v d
  mu : ∀ (i : Nat) (l : Sl) (d : D), ρ[i]? = some l → owd l = some d → ∃ a, σ[i]? = some (some (V.ref a)) ∧ HI a = none ∧ MOk K HI H a d
  inj : ∀ (i j : Nat) (l m : Sl) (d e : D) (a : Addr), ρ[i]? = some l → owd l = some d → ρ[j]? = some m → owd m = some e → σ[i]? = some (some (V.ref a)) → σ[j]? = some (some (V.ref a)) → i = j
def Own (σ : L2.St) (ρ : Rho) (a : Addr) : Prop := ∃ (i : Nat) (d : D), ρ[i]? = some (Sl.mu d) ∧ σ[i]? = some (some (V.ref a))
structure Tr (σ : L2.St) (ρ : Rho) (HI H : Hp) (ρ' : Rho) (HI' H' : Hp) : Prop where
  exI : Same HI HI'
  new : ∀ a, HI a = none → HI' a ≠ none → H a = none ∨ Own σ ρ a
  keep : ∀ b o, H b = some o → ¬ Own σ ρ b → H' b = some o
  dom : ∀ b, H' b = none → H b = none
  own : ∀ a, Own σ ρ' a → Own σ ρ a
  ows : ∀ (i : Nat) (l : Sl) (d : D), ρ'[i]? = some l → owd l = some d → ∃ l0 d0, ρ[i]? = some l0 ∧ owd l0 = some d0
/-- nothing but new objects -/
structure TP (HI H HI' H' : Hp) : Prop where
  exI : Same HI HI'
  ex : Same H H'
  sub : Same HI' H'
  new : ∀ a, HI a = none → HI' a ≠ none → H a = none
section
variable {K : PySem.W.Frag} {HI H HI1 H1 HI2 H2 : Hp} {σ : St} {ρ ρ1 ρ2 : Rho}
theorem same_dom (e : Same H H1) : ∀ b, H1 b = none → H b = none := fun b h => e.free h
theorem TP.refl (h : Same HI H) : TP HI H HI H := ⟨Same.refl _, Same.refl _, h, fun _ a b => absurd a b⟩
theorem TP.trans (a : TP HI H HI1 H1) (b : TP HI1 H1 HI2 H2) : TP HI H HI2 H2 :=
  ⟨a.exI.trans b.exI, a.ex.trans b.ex, b.sub, fun x h h2 => by
    cases e : HI1 x with
    | none => exact same_dom a.ex x (b.new x e h2)
    | some o => exact a.new x h (by rw [e]; exact Option.some_ne_none o)⟩
theorem Tr.refl : Tr σ ρ HI H ρ HI H := ⟨Same.refl _, fun _ a b => absurd a b, fun _ _ e _ => e, fun _ e => e, fun _ e => e, fun _ _ _ e q => ⟨_, _, e, q⟩⟩
theorem Tr.trans (a : Tr σ ρ HI H ρ1 HI1 H1) (b : Tr σ ρ1 HI1 H1 ρ2 HI2 H2) : Tr σ ρ HI H ρ2 HI2 H2 :=
  ⟨a.exI.trans b.exI, fun x h h2 => by
    cases e : HI1 x with
    | none =>
      rcases b.new x e h2 with q | q
      · exact .inl (a.dom x q)
      · exact .inr (a.own x q)
    | some o => exact a.new x h (by rw [e]; exact Option.some_ne_none o),
   fun c o e n => b.keep c o (a.keep c o e n) fun q => n (a.own c q), fun c e => a.dom c (b.dom c e), fun c q => a.own c (b.own c q), fun i l d e q => by
    obtain ⟨l0, d0, e0, q0⟩ := b.ows i l d e q
    exact a.ows i l0 d0 e0 q0⟩
theorem TP.tr (a : TP HI H HI1 H1) : Tr σ ρ HI H ρ HI1 H1 := ⟨a.exI, fun x h h2 => .inl (a.new x h h2), fun b o e _ => a.ex b o e, same_dom a.ex, fun _ q => q, fun _ _ _ e q => ⟨_, _, e, q⟩⟩
theorem SOk.tp (s : SOk K HI H σ ρ) (a : TP HI H HI1 H1) : SOk K HI1 H1 σ ρ := by
  refine ⟨a.sub, s.len, fun i d h => ?_, fun i l d hl h => ?_, s.inj⟩
  · obtain ⟨v, e, q⟩ := s.im i d h
    exact ⟨v, e, dp_mono a.exI q⟩
  · obtain ⟨x, e, n, q⟩ := s.mu i l d hl h
    have n1 : HI1 x = none := by
      cases q1 : HI1 x with
      | none => rfl
      | some o =>
        have := a.new x n (by rw [q1]; exact Option.some_ne_none o)
        cases d with
        | list ds => obtain ⟨vs, q, _⟩ := q; rw [this] at q; cases q
        | _ => exact q.elim
    refine ⟨x, e, n1, ?_⟩
    cases d with
    | list ds => obtain ⟨vs, q, p⟩ := q; exact ⟨vs, a.ex _ _ q, dpa_mono a.exI p⟩
    | _ => exact q.elim
/-- a new object laid among what never changes -/
theorem TP.new_ {p : Addr} {o : HO} (s : Same HI H) (hp : H p = none) : TP HI H (upd HI p o) (upd H p o) := by
  have hi : HI p = none := s.free hp
  refine ⟨fun b u e => ?_, fun b u e => ?_, fun b u e => ?_, fun a h h2 => ?_⟩
  · rw [upd_ne (ne_of_none e hi)]; exact e
  · rw [upd_ne (ne_of_none e hp)]; exact e
  · by_cases hb : b = p
    · subst hb; rw [upd_same] at e ⊢; exact e
    · rw [upd_ne hb] at e ⊢; exact s _ _ e
  · by_cases hb : a = p
    · subst hb; exact hp
    · rw [upd_ne hb] at h2; exact absurd h h2
/-- a new object laid, not among these -/
theorem TP.fresh {p : Addr} {o : HO} (s : Same HI H) (hp : H p = none) : TP HI H HI (upd H p o) := by
  have hi : HI p = none := s.free hp
  refine ⟨Same.refl _, fun b u e => ?_, fun b u e => ?_, fun a h h2 => absurd h h2⟩
  · rw [upd_ne (ne_of_none e hp)]; exact e
  · rw [upd_ne (ne_of_none e hi)]; exact s _ _ e
end

/-! ### what is wanted behind -/
abbrev Exc := Nat → Value
/-- what is wished of what is raised -/
def WC (K : PySem.W.Frag) (C : Exc) (F : Value → Option Addr → Hp → Prop) (c : Xc) (HI H : Hp) : Prop := match c.2 with
  | [] => F (C c.1) none H
  | fd :: _ => ∀ dd v, H dd = some (.xd [(fd.1, v)]) → Rp K HI v fd.2 → F (C c.1) (some dd) H
theorem WC.imp {K : PySem.W.Frag} {C : Exc} {F G : Value → Option Addr → Hp → Prop} {c : Xc} {HI H : Hp} (k : ∀ cls d, F cls d H → G cls d H) (h : WC K C F c HI H) : WC K C G c HI H := by
  unfold WC at h ⊢
  split
  · rename_i e; rw [e] at h; exact k _ _ h
  · rename_i fd r e; rw [e] at h; exact fun dd v h1 h2 => k _ _ (h dd v h1 h2)
section
variable (K : PySem.W.Frag) (W : WX) (C : Exc)
def Pt {α : Type} (σ : L2.St) (ρ : Rho) (HI H : Hp) (r : Option (Ro α)) (Φ : α → Hp → Hp → Prop) : Prop := match r with
  | none => False
  | some (.ok a ρ') => ∀ HI' H', Tr σ ρ HI H ρ' HI' H' → SOk K HI' H' σ ρ' → Φ a HI' H'
  | some (.ex c ρ') => ∀ HI' H', Tr σ ρ HI H ρ' HI' H' → SOk K HI' H' σ ρ' → WC K C (fun cls d H => W cls d σ H) c HI' H'
/-- t is met by f; R says how what comes stands for what f gives. HIl: what is known already -/
def RdG {α β : Type} (R : Hp → Hp → β → α → Prop) (HIl : Hp) (t : L2.St → Hp → (β → Hp → Prop) → Prop) (f : M α) : Prop :=
  ∀ ρ HI H σ Q, Same HIl HI → SOk K HI H σ ρ → Pt K W C σ ρ HI H (f ρ) (fun a HI' H' => ∀ b, R HI' H' b a → Q b H') → t σ H Q
def H0 : Hp := fun _ => none
abbrev RD (HI _H : Hp) (v : V) (d : D) : Prop := Rp K HI v d
abbrev RA (HI _H : Hp) (v : List V) (d : List D) : Prop := RpAll K HI v d
abbrev RB (_HI _H : Hp) (b c : Bool) : Prop := b = c
abbrev Rd (t : TE) (f : M D) : Prop := RdG K W C (RD K) H0 t f
abbrev RdT (t : TT) (f : M Bool) : Prop := RdG K W C RB H0 t f
abbrev RdA (t : TA) (f : M (List D)) : Prop := RdG K W C (RA K) H0 t f
end
theorem same_H0 {H : Hp} : Same H0 H := fun _ _ e => nomatch e
section
variable {K : PySem.W.Frag} {W : WX} {C : Exc} {α β γ δ : Type} {HI H HI1 H1 : Hp} {σ : St} {ρ ρ1 : Rho}
theorem Pt.from {r : Option (Ro α)} {Φ : α → Hp → Hp → Prop} (a : Tr σ ρ HI H ρ1 HI1 H1) (h : Pt K W C σ ρ HI H r Φ) : Pt K W C σ ρ1 HI1 H1 r Φ := by
  match r, h with
  | none, h => exact h
  | some (.ok x ρ'), h => exact fun HI' H' t s => h HI' H' (a.trans t) s
  | some (.ex c ρ'), h => exact fun HI' H' t s => h HI' H' (a.trans t) s
theorem Pt.imp {r : Option (Ro α)} {Φ Ψ : α → Hp → Hp → Prop} (h : Pt K W C σ ρ HI H r Φ) (k : ∀ a HI' H', Φ a HI' H' → Ψ a HI' H') : Pt K W C σ ρ HI H r Ψ := by
  match r, h with
  | none, h => exact h
  | some (.ok x ρ'), h => exact fun HI' H' t s => k _ _ _ (h HI' H' t s)
  | some (.ex c ρ'), h => exact h
variable {R : Hp → Hp → β → α → Prop} {R2 : Hp → Hp → δ → γ → Prop} {HIl : Hp}
theorem RdG.mono {HIm : Hp} {t : L2.St → Hp → (β → Hp → Prop) → Prop} {f : M α} (e : Same HIl HIm) (h : RdG K W C R HIl t f) : RdG K W C R HIm t f := fun ρ HI H σ Q s => h ρ HI H σ Q (e.trans s)
/-- THE BIND -/
theorem RdG.bind {t : L2.St → Hp → (β → Hp → Prop) → Prop} {u : β → L2.St → Hp → (δ → Hp → Prop) → Prop} {f : M α} {g : α → M γ} (h : RdG K W C R HIl t f)
    (k : ∀ HI1 H1 b a, Same HIl HI1 → R HI1 H1 b a → RdG K W C R2 HI1 (u b) (g a)) : RdG K W C R2 HIl (fun σ H Q => t σ H fun b H1 => u b σ H1 Q) (mbind f g) := by
  intro ρ HI H σ Q s so p
  refine h ρ HI H σ _ s so ?_
  have p : Pt K W C σ ρ HI H (match f ρ with | none => none | some (.ok a r') => g a r' | some (.ex c r') => some (.ex c r')) (fun a HI' H' => ∀ b, R2 HI' H' b a → Q b H') := p
  match f ρ, p with
  | none, p => exact p
  | some (.ok a ρ1), p => exact fun HI1 H1 tr so1 b hR => k HI1 H1 b a (s.trans tr.exI) hR ρ1 HI1 H1 σ Q (Same.refl _) so1 (Pt.from tr p)
  | some (.ex c ρ1), p => exact p
/-- a step that lays new objects at most -/
theorem RdG.op {t : L2.St → Hp → (β → Hp → Prop) → Prop} {o : Option α} (h : ∀ a, o = some a → ∀ HI H σ Q, Same HIl HI → Same HI H → (∀ b HI' H', TP HI H HI' H' → R HI' H' b a → Q b H') → t σ H Q) : RdG K W C R HIl t (mlift o) := by
  intro ρ HI H σ Q s so p
  cases o with
  | none => exact p.elim
  | some a => exact h a rfl HI H σ Q s so.sub fun b HI' H' tp r => p HI' H' tp.tr (so.tp tp) b r
theorem RdG.ret {t : L2.St → Hp → (β → Hp → Prop) → Prop} {a : α} (h : ∀ HI H σ Q, Same HIl HI → Same HI H → (∀ b HI' H', TP HI H HI' H' → R HI' H' b a → Q b H') → t σ H Q) : RdG K W C R HIl t (mpure a) :=
  RdG.op (o := some a) fun a' e => by cases e; exact h
end

/-! ### operations on data -/
/-- what an operation on two values asks, by data -/
def DO2 (K : PySem.W.Frag) (g : D → D → Option D) : R2 := fun x y H Q => ∃ HI d e r, Same HI H ∧ Rp K HI x d ∧ Rp K HI y e ∧ g d e = some r ∧ ∀ v HI' H', TP HI H HI' H' → Rp K HI' v r → Q v H'
def DO1 (K : PySem.W.Frag) (g : D → Option D) : V → Hp → VK → Prop := fun x H Q => ∃ HI d r, Same HI H ∧ Rp K HI x d ∧ g d = some r ∧ ∀ v HI' H', TP HI H HI' H' → Rp K HI' v r → Q v H'
def DOL (K : PySem.W.Frag) (g : List D → Option D) : List V → Hp → VK → Prop := fun x H Q => ∃ HI d r, Same HI H ∧ RpAll K HI x d ∧ g d = some r ∧ ∀ v HI' H', TP HI H HI' H' → Rp K HI' v r → Q v H'
/-- .. that makes a new list -/
def FOL (K : PySem.W.Frag) (g : List D → Option (List D)) : List V → Hp → VK → Prop := fun x H Q => ∃ HI d r, Same HI H ∧ RpAll K HI x d ∧ g d = some r ∧ ∀ p vs, H p = none → RpAll K HI vs r → Q (.ref p) (upd H p (.lst vs))
section
variable {K : PySem.W.Frag} {W : WX} {C : Exc} {ta tb : TE} {tl : TA} {fa fb : M D} {fl : M (List D)}
theorem rd_op {g : D → D → Option D} (ha : Rd K W C ta fa) (hb : Rd K W C tb fb) : Rd K W C (tOp (DO2 K g) ta tb) (mbind fa fun x => mbind fb fun y => mlift (g x y)) :=
  RdG.bind (u := fun x σ H Q => tb σ H fun y H2 => DO2 K g x y H2 Q) ha fun HI1 H1 x dx _ rx => RdG.bind (u := fun y σ H Q => DO2 K g x y H Q) (hb.mono same_H0) fun HI2 H2 y dy s2 ry => RdG.op fun r e HI H σ Q s sub q =>
    ⟨HI, dx, dy, r, sub, dp_mono (s2.trans s) rx, dp_mono s ry, e, fun v HI' H' tp rv => q v HI' H' tp rv⟩
theorem rd_un {g : D → Option D} (ha : Rd K W C ta fa) : Rd K W C (tUn (DO1 K g) ta) (mbind fa fun x => mlift (g x)) :=
  RdG.bind (u := fun x σ H Q => DO1 K g x H Q) ha fun HI1 H1 x dx _ rx => RdG.op fun r e HI H σ Q s sub q => ⟨HI, dx, r, sub, dp_mono s rx, e, fun v HI' H' tp rv => q v HI' H' tp rv⟩
theorem rd_cb {g : List D → Option D} (ha : RdA K W C tl fl) : Rd K W C (tCB (DOL K g) tl) (mbind fl fun x => mlift (g x)) :=
  RdG.bind (u := fun x σ H Q => DOL K g x H Q) ha fun HI1 H1 x dx _ rx => RdG.op fun r e HI H σ Q s sub q => ⟨HI, dx, r, sub, dpa_mono s rx, e, fun v HI' H' tp rv => q v HI' H' tp rv⟩
theorem ra_nil : RdA K W C tNil (mpure []) := RdG.ret fun HI H σ Q _ sub q => q [] HI H (TP.refl sub) .nil
theorem ra_cons (ha : Rd K W C ta fa) (hr : RdA K W C tl fl) : RdA K W C (tCons ta tl) (mbind fa fun x => mbind fl fun xs => mpure (x :: xs)) :=
  RdG.bind (u := fun x σ H Q => tl σ H fun xs H2 => Q (x :: xs) H2) ha fun HI1 H1 x dx _ rx => RdG.bind (u := fun xs σ H Q => Q (x :: xs) H) (hr.mono same_H0) fun HI2 H2 xs ds s2 rs => RdG.ret fun HI H σ Q s sub q => q (x :: xs) HI H (TP.refl sub) (.cons (dp_mono (s2.trans s) rx) (dpa_mono s rs))
/-- a constant -/
theorem rd_c {v : V} {d : D} (h : ∀ HI, Rp K HI v d) : Rd K W C (tC v) (mpure d) := RdG.ret fun HI H σ Q _ sub q => q v HI H (TP.refl sub) (h HI)
def asB : D → Option Bool
  | .bool b => some b
  | _ => none
theorem rt_B (h : Rd K W C ta fa) : RdT K W C (tB ta) (mbind fa fun d => mlift (asB d)) :=
  RdG.bind (u := fun x σ H Q => ∃ c, x = .bl c ∧ Q c H) h fun HI1 H1 x dx _ rx => RdG.op fun r e HI H σ Q s sub q => by
    cases dx with
    | bool b =>
      cases e
      cases rx
      exact ⟨_, rfl, q _ HI H (TP.refl sub) rfl⟩
    | _ => cases e
end
end Ev
set_option Elab.async false
set_option linter.all false
set_option autoImplicit false
set_option maxRecDepth 100000
namespace Ev
open PySem PySem.Spec L2

def szOk (n : Nat) : Bool := Nat.ble n 4000
theorem szOk_le {n : Nat} (h : szOk n = true) : n ≤ sizeLine := Nat.le_trans (Nat.le_of_ble_eq_true h) (by decide)
theorem szOk_lt {n : Nat} (h : szOk n = true) : n < sizeLine := Nat.lt_of_le_of_lt (Nat.le_of_ble_eq_true h) (by decide)

section
variable {X : Cx} {pins : List (Addr × Obj)} {σ : L2.St} {H HI : Hp} {s : Shared} {E : Value → Shared → Prop}
/-- two lists, of any kind, are put together -/
theorem addL {prog : Program} {w : World} {A : Around} {E' : Value → Shared → Prop} {l b : Addr} {us ws : List Value} {Q : Value → Shared → Prop} (hl : s.heap.IsList l us.toArray) (hb : s.heap.IsList b ws.toArray)
    (h : Q (.ref s.heap.objs.size) { s with heap := s.heap.push { cls := .type "list", data := .seq (us ++ ws).toArray } }) (hz : us.length + ws.length ≤ sizeLine) : wpAny (model prog w) A (binaryOp .Add (.ref l) (.ref b)) Q E' s := by
  obtain ⟨o1, e1, c1, n1, d1⟩ := hl
  obtain ⟨o2, e2, c2, n2, d2⟩ := hb
  obtain ⟨k1, dd1, t1, sl1⟩ := o1
  obtain ⟨k2, dd2, t2, sl2⟩ := o2
  dsimp only at c1 d1 c2 d2
  subst c1 d1 c2 d2
  refine PySem.concat_meets ⟨_, e1, rfl⟩ ⟨_, e2, rfl⟩ PySem.noFill_list_add PySem.seq_list_add PySem.F.slot_list_add PySem.F.entry_list_add (PySem.F.args_list_add_2 _ _) (PyProof.Rows.list_addW l b us.toArray ws.toArray n1 n2 dd1 dd2 sl1 sl2 (by simpa using hz)) ⟨e1, e2, ?_⟩
  rw [show us.toArray ++ ws.toArray = (us ++ ws).toArray by simp]
  exact h
/-- the end of an operation that laid a list among what never changes -/
theorem fin_q {v : V} {u : Value} {Q : VK} {r : D} (q : ∀ v HI' H', TP HI H HI' H' → Rp X.K HI' v r → Q v H') (sub : Same HI H) (I : Inv X pins σ H s) (rv : RelV v u) (rp : Rp X.K HI v r) : EP X pins σ Q u s :=
  ⟨v, H, I, rv, q v HI H (TP.refl sub) rp⟩
theorem q_lst {Q : VK} {ds : List D} {xs : List V} {p : Addr} (q : ∀ v HI' H', TP HI H HI' H' → Rp X.K HI' v (.list ds) → Q v H') (sub : Same HI H) (hp : H p = none) (ra : RpAll X.K HI xs ds) : Q (.ref p) (upd H p (.lst xs)) :=
  q (.ref p) (upd HI p (.lst xs)) _ (TP.new_ sub hp) (.lst (.inl (.inl upd_same)) (dpa_mono (TP.new_ (o := .lst xs) sub hp).exI ra))
/-- a tuple known to its object -/
theorem rp_tupN {K : PySem.W.Frag} {o : Obj} {ds : List D} {xs : List V} {p : Addr} (ho : o.dict = none) (sub : Same HI H) (hp : H p = none) (ra : RpAll K HI xs ds) : Rp K (upd HI p (.frz o (.tup xs))) (.ref p) (.tuple ds) :=
  .tup (.inl (.inr ⟨o, upd_same⟩)) (fun _ => .inl ⟨o, _, upd_same, ho⟩) (dpa_mono (TP.new_ (o := .frz o (.tup xs)) sub hp).exI ra)
theorem q_tup {Q : VK} {o : Obj} {ds : List D} {xs : List V} {p : Addr} (q : ∀ v HI' H', TP HI H HI' H' → Rp X.K HI' v (.tuple ds) → Q v H') (ho : o.dict = none) (sub : Same HI H) (hp : H p = none) (ra : RpAll X.K HI xs ds) : Q (.ref p) (upd H p (.frz o (.tup xs))) :=
  q (.ref p) _ _ (TP.new_ sub hp) (rp_tupN ho sub hp ra)
/-- the object of a tuple that was just made -/
abbrev tupObj (us : List Value) : Obj := { cls := .type "tuple", data := .seq us.toArray }
theorem ob_tup {H' : Hp} {h : Heap} {p : Addr} {xs : List V} {us : List Value} (hz : xs.length ≤ sizeLine) (r : Vals xs us) (e : h.get? p = some (tupObj us)) : ObjOk X.prog X.w H' h p (.frz (tupObj us) (.tup xs)) :=
  ⟨e, hz, us, r, _, e, rfl, _, rfl⟩
theorem ep_tup {Q : VK} {ds : List D} {xs : List V} {us : List Value} (I : Inv X pins σ H s) (q : ∀ v HI' H', TP HI H HI' H' → Rp X.K HI' v (.tuple ds) → Q v H') (sub : Same HI H) (hz : xs.length ≤ sizeLine) (r : Vals xs us) (ra : RpAll X.K HI xs ds) :
    EP X pins σ Q (.ref s.heap.objs.size) { s with heap := s.heap.push (tupObj us) } :=
  ⟨.ref s.heap.objs.size, _, I.laid (t' := s.toks) (fun _ _ e => Heap.get?_push_of_some _ e) (Nat.le_refl _) (ob_tup hz r (Heap.get?_push_size _ rfl)), rfl, q_tup q rfl sub (I.hok.fresh (Nat.le_refl _)) ra⟩
end
/-! ### + - * // % ** -/
def gAdd : D → D → Option D
  | .int i, .int j => some (.int (i + j))
  | .str a, .str b => if szOk (a.length + b.length) then some (.str (a ++ b)) else none
  | .list xs, .list ys => if szOk (xs.length + ys.length) then some (.list (xs ++ ys)) else none
  | .tuple xs, .tuple ys => if szOk (xs.length + ys.length) then some (.tuple (xs ++ ys)) else none
  | _, _ => none
theorem ifs {α : Type} {c : Bool} {a b : α} (h : (if c = true then some a else none) = some b) : c = true ∧ a = b := by
  cases c with
  | true => exact ⟨rfl, by simpa using h⟩
  | false => simp at h
section
variable {X : Cx}
theorem opd_add : OpR X (binaryOp .Add) (DO2 X.K gAdd) := by
  intro pins s σ H x y v u Q I rx ry ⟨HI, d, e, r, sub, dx, dy, eg, q⟩
  cases dx with
  | int i =>
    cases dy with
    | int j => cases eg; exact op_add pins s σ H _ _ v u Q I rx ry ⟨i, j, rfl, rfl, q _ HI H (TP.refl sub) (.int _)⟩
    | _ => cases eg
  | str a =>
    cases dy with
    | str b =>
      obtain ⟨h, rfl⟩ := ifs eg
      exact op_add_str pins s σ H _ _ v u Q I rx ry ⟨a, b, rfl, rfl, szOk_le h, q _ HI H (TP.refl sub) (.str _)⟩
    | _ => cases eg
  | @lst l xs ds h1 a1 =>
    cases dy with
    | @lst b zs es h2 a2 =>
      obtain ⟨hz, rfl⟩ := ifs eg
      cases rx
      cases ry
      obtain ⟨its, r, pl, z⟩ := I.list (seqL_mono sub h1)
      obtain ⟨its2, r2, pl2, z2⟩ := I.list (seqL_mono sub h2)
      have hz2 := szOk_le hz
      rw [← dpa_len a1, ← dpa_len a2] at hz2
      refine addL pl.isList pl2.isList ?_ (by rw [← r.length, ← r2.length]; exact hz2)
      exact ⟨.ref _, _, I.lnew (t' := s.toks) (r.append r2) (by rw [List.length_append]; exact hz2), rfl, q_lst q sub I.fresh (dpa_app a1 a2)⟩
    | _ => cases eg
  | @tup l xs ds h1 n1 a1 =>
    cases dy with
    | @tup b zs es h2 n2 a2 =>
      obtain ⟨hz, rfl⟩ := ifs eg
      have hz2 := szOk_le hz
      rw [← dpa_len a1, ← dpa_len a2] at hz2
      by_cases e : xs = []
      · refine op_catA pins s σ H _ _ v u Q I rx ry ⟨l, b, xs, zs, rfl, rfl, seqT_mono sub h1, seqT_mono sub h2, hz2, fun _ => ?_, fun z => absurd e z, fun z => absurd e z⟩
        subst e
        cases a1
        exact q _ HI H (TP.refl sub) (.tup h2 n2 a2)
      · cases rx
        cases ry
        obtain ⟨its, r1, p1, _⟩ := I.tuple (seqT_mono sub h1)
        obtain ⟨its2, r2, p2, _⟩ := I.tuple (seqT_mono sub h2)
        refine HT.cat_tup p1 p2 (fun z => e (r1.nil_iff.mp z)) (fun z => ⟨.ref l, H, I, rfl, ?_⟩) (fun _ => ?_) ?_
        · have z := r2.nil_iff.mp z
          subst z
          cases a2
          rw [List.append_nil] at q
          exact q _ HI H (TP.refl sub) (.tup h1 n1 a1)
        · exact ep_tup I q sub (by rw [List.length_append]; exact hz2) (r1.append r2) (dpa_app a1 a2)
        · rw [← r1.length, ← r2.length]
          exact hz2
    | _ => cases eg
  | _ => cases dy <;> cases eg
def gI (f : Int → Int → Option Int) : D → D → Option D
  | .int i, .int j => (f i j).map .int
  | _, _ => none
/-- an operation on two ints -/
theorem opd_int {op : Value → Value → Sem Value} {f : Int → Int → Option Int} {Cd : Int → Int → Prop} {g : Int → Int → V} (ho : OpR X op (rI Cd g)) (hf : ∀ i j k, f i j = some k → Cd i j ∧ g i j = .int k) : OpR X op (DO2 X.K (gI f)) := by
  intro pins s σ H x y v u Q I rx ry ⟨HI, d, e, r, sub, dx, dy, eg, q⟩
  cases dx with
  | int i =>
    cases dy with
    | int j =>
      cases hk : f i j with
      | none => rw [gI, hk] at eg; cases eg
      | some k =>
        rw [gI, hk] at eg
        cases eg
        obtain ⟨h1, h2⟩ := hf i j k hk
        exact ho pins s σ H _ _ v u Q I rx ry ⟨i, j, rfl, rfl, h1, by rw [h2]; exact q _ HI H (TP.refl sub) (.int _)⟩
    | _ => cases eg
  | _ => cases dy <;> cases eg
theorem opd_int0 {op : Value → Value → Sem Value} {g : Int → Int → Int} (ho : OpR X op (rI0 fun i j => .int (g i j))) : OpR X op (DO2 X.K (gI fun i j => some (g i j))) := by
  intro pins s σ H x y v u Q I rx ry ⟨HI, d, e, r, sub, dx, dy, eg, q⟩
  cases dx with
  | int i =>
    cases dy with
    | int j =>
      cases eg
      exact ho pins s σ H _ _ v u Q I rx ry ⟨i, j, rfl, rfl, q _ HI H (TP.refl sub) (.int _)⟩
    | _ => cases eg
  | _ => cases dy <;> cases eg
theorem opd_sub : OpR X (binaryOp .Sub) (DO2 X.K (gI fun i j => some (i - j))) := opd_int0 op_sub
end
end Ev
set_option Elab.async false
set_option linter.all false
set_option autoImplicit false
set_option maxRecDepth 100000
namespace Ev
open PySem PySem.Spec L2

section
variable {X : Cx}
def smallW (i : Int) : Bool := decide (-(2 ^ 63) < i) && decide (i < 2 ^ 63)
theorem smallW_of {i : Int} (h : smallW i = true) : -(2 ^ 64) < i ∧ i < 2 ^ 64 := by
  unfold smallW at h
  rw [Bool.and_eq_true, decide_eq_true_eq, decide_eq_true_eq] at h
  omega
def gMulF (i j : Int) : Option Int := if smallW i || (smallW j || Nat.ble (i.natAbs.log2 + j.natAbs.log2) 900000) then some (i * j) else none
theorem opd_mul_int : OpR X (binaryOp .Mult) (DO2 X.K (gI gMulF)) := by
  intro pins s σ H x y v u Q I rx ry ⟨HI, d, e, r, sub, dx, dy, eg, q⟩
  cases dx with
  | int i =>
    cases dy with
    | int j =>
      cases hk : gMulF i j with
      | none => rw [gI, hk] at eg; cases eg
      | some k =>
        rw [gI, hk] at eg
        cases eg
        obtain ⟨h1, h2⟩ := ifs hk
        rw [Bool.or_eq_true, Bool.or_eq_true] at h1
        subst h2
        rcases h1 with h1 | h1 | h1
        · exact op_mul pins s σ H _ _ v u Q I rx ry ⟨i, j, rfl, rfl, .inl (smallW_of h1), q _ HI H (TP.refl sub) (.int _)⟩
        · exact op_mul pins s σ H _ _ v u Q I rx ry ⟨i, j, rfl, rfl, .inr (smallW_of h1), q _ HI H (TP.refl sub) (.int _)⟩
        · have := Nat.le_of_ble_eq_true h1
          exact op_mulW pins s σ H _ _ v u Q I rx ry ⟨i, j, rfl, rfl, by show _ < 1000000; omega, q _ HI H (TP.refl sub) (.int _)⟩
    | _ => cases eg
  | _ => cases dy <;> cases eg
theorem opd_fdiv : OpR X (binaryOp .FloorDiv) (DO2 X.K (gI fun i j => if decide (0 < j) && Nat.ble j.natAbs.log2 8000 then some (i / j) else none)) :=
  opd_int op_fdivW fun i j k h => by
    obtain ⟨h1, h2⟩ := ifs h
    rw [Bool.and_eq_true, decide_eq_true_eq] at h1
    have := Nat.le_of_ble_eq_true h1.2
    exact ⟨⟨h1.1, by omega⟩, by rw [h2]⟩
theorem opd_mod : OpR X (binaryOp .Mod) (DO2 X.K (gI fun i j => if decide (0 < j) then some (i % j) else none)) :=
  opd_int op_mod fun i j k h => by
    obtain ⟨h1, h2⟩ := ifs h
    exact ⟨of_decide_eq_true h1, by rw [h2]⟩
theorem opd_pow : OpR X (binaryOp .Pow) (DO2 X.K (gI fun i j => if decide (0 ≤ j) && decide (j ≤ 1000) && Nat.ble i.natAbs 1000000 then some (i ^ j.toNat) else none)) :=
  opd_int op_pow fun i j k h => by
    obtain ⟨h1, h2⟩ := ifs h
    rw [Bool.and_eq_true, Bool.and_eq_true, decide_eq_true_eq, decide_eq_true_eq] at h1
    have := Nat.le_of_ble_eq_true h1.2
    exact ⟨⟨h1.1.1, by omega, by omega⟩, by rw [h2]⟩
/-- list * int -/
def gRep : D → D → Option D
  | .int i, .int j => if Nat.ble (i.natAbs.log2 + j.natAbs.log2) 900000 then some (.int (i * j)) else none
  | .list xs, .int k => if decide (0 ≤ k) && decide (k ≤ 10000) && szOk (xs.length * k.toNat) then some (.list (List.replicate k.toNat xs).flatten) else none
  | _, _ => none
theorem dpa_rep {K : PySem.W.Frag} {H : Hp} {vs : List V} {ds : List D} (h : RpAll K H vs ds) : ∀ n, RpAll K H (List.replicate n vs).flatten (List.replicate n ds).flatten
  | 0 => .nil
  | n + 1 => by
    rw [List.replicate_succ, List.replicate_succ, List.flatten_cons, List.flatten_cons]
    exact dpa_app h (dpa_rep h n)
def lst? : HO → Bool
  | .lst _ => true
  | _ => false
def gNeg : D → Option D
  | .int i => some (.int (-i))
  | _ => none
theorem und_neg : UnR X (unaryOp .USub) (DO1 X.K gNeg) := by
  intro pins s σ H x v Q I rx ⟨HI, d, r, sub, dx, eg, q⟩
  cases dx with
  | int i => cases eg; exact un_neg pins s σ H _ v Q I rx ⟨i, rfl, q _ HI H (TP.refl sub) (.int _)⟩
  | _ => cases eg
/-! ### comparisons -/
def gEq (d e : D) : Option D := if nd d && nd e && (SeqAt.shaped d && SeqAt.shaped e) then some (.bool (PyData.eqv d e)) else none
def gNe (d e : D) : Option D := if nd d && nd e && (SeqAt.shaped d && SeqAt.shaped e) then some (.bool (!PyData.eqv d e)) else none
theorem opd_eq (hu : X.A.units + 64 < cLine) : OpR X (compareOp .Eq) (DO2 X.K gEq) := by
  intro pins s σ H x y v u Q I rx ry ⟨HI, d, e, r, sub, dx, dy, eg, q⟩
  obtain ⟨h, rfl⟩ := ifs eg
  rw [Bool.and_eq_true, Bool.and_eq_true, Bool.and_eq_true] at h
  exact op_eqD hu pins s σ H x y v u Q I rx ry ⟨d, e, (dp_mono sub dx).dp h.1.1, (dp_mono sub dy).dp h.1.2, h.2.1, h.2.2, q _ HI H (TP.refl sub) (.bl _)⟩
theorem opd_ne (hu : X.A.units + 64 < cLine) : OpR X (compareOp .NotEq) (DO2 X.K gNe) := by
  intro pins s σ H x y v u Q I rx ry ⟨HI, d, e, r, sub, dx, dy, eg, q⟩
  obtain ⟨h, rfl⟩ := ifs eg
  rw [Bool.and_eq_true, Bool.and_eq_true, Bool.and_eq_true] at h
  exact op_neD hu pins s σ H x y v u Q I rx ry ⟨d, e, (dp_mono sub dx).dp h.1.1, (dp_mono sub dy).dp h.1.2, h.2.1, h.2.2, q _ HI H (TP.refl sub) (.bl _)⟩
def isN : D → Bool
  | .none => true
  | _ => false
theorem isN_ne {d : D} (h : (!isN d) = true) : d ≠ .none := by
  rintro rfl
  simp [isN] at h
/-- what may be ordered -/
def ordOk (d e : D) : Bool := PySem.W.alike d e && !isN d && Nat.ble d.depth 60
def gCmp (f : Bool → Bool → Bool) (d e : D) : Option D := if nd d && nd e && ordOk d e then some (.bool (f (PySem.W.dataLt d e) (PySem.W.dataLt e d))) else none
theorem ordOk_of {d e : D} {A : Around} (hu : A.units + 64 < cLine) (h : ordOk d e = true) : PySem.W.alike d e = true ∧ d ≠ .none ∧ A.units + min d.depth e.depth < cLine := by
  unfold ordOk at h
  rw [Bool.and_eq_true, Bool.and_eq_true] at h
  have := Nat.le_of_ble_eq_true h.2
  exact ⟨h.1.1, isN_ne h.1.2, by omega⟩
theorem opd_lt (hu : X.A.units + 64 < cLine) : OpR X (compareOp .Lt) (DO2 X.K (gCmp fun a _ => a)) := by
  intro pins s σ H x y v u Q I rx ry ⟨HI, d, e, r, sub, dx, dy, eg, q⟩
  obtain ⟨h, rfl⟩ := ifs eg
  rw [Bool.and_eq_true, Bool.and_eq_true] at h
  obtain ⟨⟨n1, n2⟩, h⟩ := h
  obtain ⟨h1, h2, h3⟩ := ordOk_of hu h
  obtain ⟨as, r1⟩ := Dp.reads I d x v ((dp_mono sub dx).dp n1) rx
  obtain ⟨bs, r2⟩ := Dp.reads I e y u ((dp_mono sub dy).dp n2) ry
  exact PySem.W.lt_data r1 r2 h1 h2 h3 ⟨.bl _, H, I, rfl, q _ HI H (TP.refl sub) (.bl _)⟩
theorem opd_gt (hu : X.A.units + 64 < cLine) : OpR X (compareOp .Gt) (DO2 X.K (gCmp fun _ b => b)) := by
  intro pins s σ H x y v u Q I rx ry ⟨HI, d, e, r, sub, dx, dy, eg, q⟩
  obtain ⟨h, rfl⟩ := ifs eg
  rw [Bool.and_eq_true, Bool.and_eq_true] at h
  obtain ⟨⟨n1, n2⟩, h⟩ := h
  obtain ⟨h1, h2, h3⟩ := ordOk_of hu h
  obtain ⟨as, r1⟩ := Dp.reads I d x v ((dp_mono sub dx).dp n1) rx
  obtain ⟨bs, r2⟩ := Dp.reads I e y u ((dp_mono sub dy).dp n2) ry
  exact PySem.W.gt_data r1 r2 h1 h2 h3 ⟨.bl _, H, I, rfl, q _ HI H (TP.refl sub) (.bl _)⟩
theorem opd_le (hu : X.A.units + 64 < cLine) : OpR X (compareOp .LtE) (DO2 X.K (gCmp fun _ b => !b)) := by
  intro pins s σ H x y v u Q I rx ry ⟨HI, d, e, r, sub, dx, dy, eg, q⟩
  obtain ⟨h, rfl⟩ := ifs eg
  rw [Bool.and_eq_true, Bool.and_eq_true] at h
  obtain ⟨⟨n1, n2⟩, h⟩ := h
  obtain ⟨h1, h2, h3⟩ := ordOk_of hu h
  obtain ⟨as, r1⟩ := Dp.reads I d x v ((dp_mono sub dx).dp n1) rx
  obtain ⟨bs, r2⟩ := Dp.reads I e y u ((dp_mono sub dy).dp n2) ry
  exact PySem.W.le_data r1 r2 h1 h2 h3 ⟨.bl _, H, I, rfl, q _ HI H (TP.refl sub) (.bl _)⟩
theorem opd_ge (hu : X.A.units + 64 < cLine) : OpR X (compareOp .GtE) (DO2 X.K (gCmp fun a _ => !a)) := by
  intro pins s σ H x y v u Q I rx ry ⟨HI, d, e, r, sub, dx, dy, eg, q⟩
  obtain ⟨h, rfl⟩ := ifs eg
  rw [Bool.and_eq_true, Bool.and_eq_true] at h
  obtain ⟨⟨n1, n2⟩, h⟩ := h
  obtain ⟨h1, h2, h3⟩ := ordOk_of hu h
  obtain ⟨as, r1⟩ := Dp.reads I d x v ((dp_mono sub dx).dp n1) rx
  obtain ⟨bs, r2⟩ := Dp.reads I e y u ((dp_mono sub dy).dp n2) ry
  exact PySem.W.ge_data r1 r2 h1 h2 h3 ⟨.bl _, H, I, rfl, q _ HI H (TP.refl sub) (.bl _)⟩
def gIs (d e : D) : Option D := if isN e then some (.bool (isN d)) else none
def gIsNot (d e : D) : Option D := if isN e then some (.bool (!isN d)) else none
theorem isN_v {K : PySem.W.Frag} {H : Hp} {x : V} {d : D} (h : Rp K H x d) : decide (x = .non) = isN d := by
  cases h <;> simp [isN]
theorem isN_y {K : PySem.W.Frag} {H : Hp} {x : V} {d : D} (h : Rp K H x d) (e : isN d = true) : x = .non := by
  cases h <;> first | rfl | simp [isN] at e
theorem opd_is : OpR X (compareOp .Is) (DO2 X.K gIs) := by
  intro pins s σ H x y v u Q I rx ry ⟨HI, d, e, r, sub, dx, dy, eg, q⟩
  obtain ⟨h, rfl⟩ := ifs eg
  exact op_isN pins s σ H x y v u Q I rx ry ⟨isN_y dy h, by rw [isN_v dx]; exact q _ HI H (TP.refl sub) (.bl _)⟩
theorem opd_isnot : OpR X (compareOp .IsNot) (DO2 X.K gIsNot) := by
  intro pins s σ H x y v u Q I rx ry ⟨HI, d, e, r, sub, dx, dy, eg, q⟩
  obtain ⟨h, rfl⟩ := ifs eg
  exact op_notN pins s σ H x y v u Q I rx ry ⟨isN_y dy h, by rw [isN_v dx]; exact q _ HI H (TP.refl sub) (.bl _)⟩
end
end Ev
set_option Elab.async false
set_option linter.all false
set_option autoImplicit false
set_option maxRecDepth 100000
namespace Ev
open PySem PySem.Spec L2

/-- the place of a key -/
def keyOf : D → Option L2.Key
  | .int i => some (.inl i)
  | .str x => some (.inr x)
  | _ => none
def findK (k : L2.Key) : List (D × D) → Option D
  | [] => none
  | (a, v) :: r => match keyOf a with
    | some k' => if k' = k then some v else findK k r
    | none => findK k r
def gIn (neg : Bool) (d e : D) : Option D := match e with
  | .dict kvs => (keyOf d).map fun k => .bool (if neg then !(findK k kvs).isSome else (findK k kvs).isSome)
  | .list xs => if nd d && nds xs && (SeqAt.shaped d && SeqAt.shaped (.list xs)) then some (.bool (if neg then !xs.any fun z => PyData.eqv z d else xs.any fun z => PyData.eqv z d)) else none
  | .tuple xs => if nd d && nds xs && (SeqAt.shaped d && SeqAt.shaped (.list xs)) then some (.bool (if neg then !xs.any fun z => PyData.eqv z d else xs.any fun z => PyData.eqv z d)) else none
  | .str j => match d with
    | .str i => some (.bool (if neg then !(!(Builtin.Str.occurrences j i 0 j.length 1).isEmpty) else !(Builtin.Str.occurrences j i 0 j.length 1).isEmpty))
    | _ => none
  | _ => none
section
variable {X : Cx}
theorem keyOf_D (k : L2.Key) : keyOf (keyD k) = some k := by cases k <;> rfl
theorem findK_ok {K : PySem.W.Frag} {H : Hp} (k : L2.Key) : ∀ {kvs : List (L2.Key × V)} {ds : List (D × D)}, RpK K H kvs ds → (valV kvs k).isSome = (findK k ds).isSome
  | _, _, .nil => rfl
  | _, _, .cons (k := k') (vs := vs) (v := v) (d := d) (ds := ds) h a => by
    have ih := findK_ok k a
    unfold findK
    rw [keyOf_D]
    dsimp only
    by_cases e : k' = k
    · subst e
      rw [if_pos rfl]
      simp [valV]
    · rw [if_neg e, ← ih]
      simp [valV, e]
theorem opd_in (hu : X.A.units + 65 < cLine) : OpR X (compareOp .In) (DO2 X.K (gIn false)) := by
  intro pins s σ H x y v u Q I rx ry ⟨HI, d, e, r, sub, dx, dy, eg, q⟩
  cases dy with
  | str j =>
    cases dx with
    | str i =>
      cases eg
      exact op_in_str pins s σ H _ _ v u Q I rx ry ⟨i, j, rfl, rfl, q _ HI H (TP.refl sub) (.bl _)⟩
    | _ => cases eg
  | @lst l xs ds h1 a1 =>
    obtain ⟨h, rfl⟩ := ifs eg
    rw [Bool.and_eq_true, Bool.and_eq_true, Bool.and_eq_true] at h
    exact op_inD hu pins s σ H x _ v u Q I rx ry ⟨d, ds, (dp_mono sub dx).dp h.1.1, (dp_mono sub (.lst h1 a1)).dp (by rw [nd]; exact h.1.2), h.2.1, h.2.2, q _ HI H (TP.refl sub) (.bl _)⟩
  | @tup l xs ds h1 n1 a1 =>
    obtain ⟨h, rfl⟩ := ifs eg
    rw [Bool.and_eq_true, Bool.and_eq_true] at h
    obtain ⟨hn, h⟩ := h
    rw [Bool.and_eq_true] at h
    obtain ⟨as, r1⟩ := Dp.reads I d x v ((dp_mono sub dx).dp hn.1) rx
    obtain ⟨bs, r2⟩ := Dp.reads I (.tuple ds) _ u ((dp_mono sub (.tup h1 n1 a1)).dp (by rw [nd]; exact hn.2)) ry
    have hc : PyData.canLayAll0 ds = true := SeqAt.canLay_of_shaped h.2
    exact SeqAt.in_tuple_reads r2 r1 hc (SeqAt.canLay_of_shaped h.1) (PyProof.Rows.room_in_shaped h.1 hu) ⟨.bl _, H, I, rfl, q _ HI H (TP.refl sub) (.bl _)⟩
  | @dic a kvs ds h1 a1 =>
    cases hk : keyOf d with
    | none => rw [gIn, hk] at eg; cases eg
    | some k =>
      rw [gIn, hk] at eg
      cases eg
      cases ry
      have g : DGet H a (kV k) (valV kvs k) := DGet.k (sub _ _ h1)
      have e := findK_ok k a1
      cases dx with
      | int i => cases hk; exact d_in (by omega) I g rx fun s' I' => ⟨.bl _, H, I', by rw [e]; rfl, q _ HI H (TP.refl sub) (.bl _)⟩
      | str i => cases hk; exact d_in (by omega) I g rx fun s' I' => ⟨.bl _, H, I', by rw [e]; rfl, q _ HI H (TP.refl sub) (.bl _)⟩
      | _ => cases hk
  | _ => cases dx <;> cases eg
theorem opd_notin (hu : X.A.units + 65 < cLine) : OpR X (compareOp .NotIn) (DO2 X.K (gIn true)) := by
  intro pins s σ H x y v u Q I rx ry ⟨HI, d, e, r, sub, dx, dy, eg, q⟩
  cases dy with
  | str j =>
    cases dx with
    | str i =>
      cases eg
      exact op_notIn_str pins s σ H _ _ v u Q I rx ry ⟨i, j, rfl, rfl, q _ HI H (TP.refl sub) (.bl _)⟩
    | _ => cases eg
  | @lst l xs ds h1 a1 =>
    obtain ⟨h, rfl⟩ := ifs eg
    rw [Bool.and_eq_true, Bool.and_eq_true, Bool.and_eq_true] at h
    exact op_notInD hu pins s σ H x _ v u Q I rx ry ⟨d, ds, (dp_mono sub dx).dp h.1.1, (dp_mono sub (.lst h1 a1)).dp (by rw [nd]; exact h.1.2), h.2.1, h.2.2, q _ HI H (TP.refl sub) (.bl _)⟩
  | @tup l xs ds h1 n1 a1 =>
    obtain ⟨h, rfl⟩ := ifs eg
    rw [Bool.and_eq_true, Bool.and_eq_true] at h
    obtain ⟨hn, h⟩ := h
    rw [Bool.and_eq_true] at h
    obtain ⟨as, r1⟩ := Dp.reads I d x v ((dp_mono sub dx).dp hn.1) rx
    obtain ⟨bs, r2⟩ := Dp.reads I (.tuple ds) _ u ((dp_mono sub (.tup h1 n1 a1)).dp (by rw [nd]; exact hn.2)) ry
    have hc : PyData.canLayAll0 ds = true := SeqAt.canLay_of_shaped h.2
    exact SeqAt.notIn_tuple_reads r2 r1 hc (SeqAt.canLay_of_shaped h.1) (PyProof.Rows.room_in_shaped h.1 hu) ⟨.bl _, H, I, rfl, q _ HI H (TP.refl sub) (.bl _)⟩
  | @dic a kvs ds h1 a1 =>
    cases hk : keyOf d with
    | none => rw [gIn, hk] at eg; cases eg
    | some k =>
      rw [gIn, hk] at eg
      cases eg
      cases ry
      have g : DGet H a (kV k) (valV kvs k) := DGet.k (sub _ _ h1)
      have e := findK_ok k a1
      cases dx with
      | int i => cases hk; exact d_notIn (by omega) I g rx fun s' I' => ⟨.bl _, H, I', by rw [e]; rfl, q _ HI H (TP.refl sub) (.bl _)⟩
      | str i => cases hk; exact d_notIn (by omega) I g rx fun s' I' => ⟨.bl _, H, I', by rw [e]; rfl, q _ HI H (TP.refl sub) (.bl _)⟩
      | _ => cases hk
  | _ => cases dx <;> cases eg
/-! ### subscripts -/
def gIx (d e : D) : Option D := match d, e with
  | .list xs, .int i => atI xs i
  | .tuple xs, .int i => atI xs i
  | .str z, .int i => if szOk z.length then (atI z.cps.toList i).map fun c => .str ⟨#[c]⟩ else none
  | _, _ => none
theorem dpa_atI {K : PySem.W.Frag} {H : Hp} {vs : List V} {ds : List D} {i : Int} {d : D} (h : RpAll K H vs ds) (e : atI ds i = some d) : ∃ v, atI vs i = some v ∧ Rp K H v d := by
  unfold atI at e ⊢
  rw [← dpa_len h] at e
  cases hj : ixN vs.length i with
  | none => rw [hj] at e; cases e
  | some j =>
    rw [hj] at e
    exact dpa_get h e
theorem ixd : IxR X (DO2 X.K gIx) := by
  intro value slice pins s σ H x y v u Q I rx ry ⟨HI, d, e, r, sub, dx, dy, eg, q⟩ hs
  cases dy with
  | int i =>
    cases dx with
    | str z =>
      obtain ⟨h, e2⟩ := (show szOk z.length = true ∧ (atI z.cps.toList i).map (fun c => PyData.str ⟨#[c]⟩) = some r by
        have eg : (if szOk z.length = true then (atI z.cps.toList i).map (fun c => PyData.str ⟨#[c]⟩) else none) = some r := eg
        cases h : szOk z.length with
        | true => rw [h, if_pos rfl] at eg; exact ⟨rfl, eg⟩
        | false => rw [h, if_neg Bool.false_ne_true] at eg; cases eg)
      obtain ⟨c, e3, rfl⟩ := Option.map_eq_some_iff.mp e2
      exact ix_str value slice pins s σ H _ _ v u Q I rx ry ⟨z, i, c, rfl, rfl, szOk_le h, e3, q _ HI H (TP.refl sub) (.str _)⟩ hs
    | @lst l xs ds h1 a1 =>
      obtain ⟨z, e1, rz⟩ := dpa_atI a1 eg
      exact ix_list value slice pins s σ H _ _ v u Q I rx ry ⟨l, xs, i, z, rfl, rfl, seqL_mono sub h1, e1, q _ HI H (TP.refl sub) rz⟩ hs
    | @tup l xs ds h1 n1 a1 =>
      obtain ⟨z, e1, rz⟩ := dpa_atI a1 eg
      exact ix_tup value slice pins s σ H _ _ v u Q I rx ry ⟨l, xs, i, z, rfl, rfl, seqT_mono sub h1, e1, q _ HI H (TP.refl sub) rz⟩ hs
    | _ => cases eg
  | _ => cases dx <;> cases eg
/-! ### slices -/
def cutD (xs : List D) (lo hi : Option Int) : List D := (xs.drop (HT.sIx xs.length 0 lo)).take (HT.sIx xs.length xs.length hi - HT.sIx xs.length 0 lo)
def asP : D → Option (Option Int)
  | .int i => some (some i)
  | .none => some none
  | _ => none
def gSl (d : D) (lo hi : Option Int) : Option D := match d with
  | .list xs => some (.list (cutD xs lo hi))
  | .tuple xs => some (.tuple (cutD xs lo hi))
  | _ => none
def DSl (K : PySem.W.Frag) : V → Option Int → Option Int → Hp → VK → Prop := fun x lo hi H Q => ∃ HI d r, Same HI H ∧ Rp K HI x d ∧ gSl d lo hi = some r ∧ ∀ v HI' H', TP HI H HI' H' → Rp K HI' v r → Q v H'
theorem dpa_drop {K : PySem.W.Frag} {H : Hp} : ∀ {vs : List V} {ds : List D} (n : Nat), RpAll K H vs ds → RpAll K H (vs.drop n) (ds.drop n)
  | _, _, 0, h => h
  | _, _, _ + 1, .nil => .nil
  | _, _, n + 1, .cons _ h => dpa_drop n h
theorem dpa_take {K : PySem.W.Frag} {H : Hp} : ∀ {vs : List V} {ds : List D} (n : Nat), RpAll K H vs ds → RpAll K H (vs.take n) (ds.take n)
  | _, _, 0, _ => .nil
  | _, _, _ + 1, .nil => .nil
  | _, _, n + 1, .cons r h => .cons r (dpa_take n h)
theorem dpa_cut {K : PySem.W.Frag} {H : Hp} {vs : List V} {ds : List D} {lo hi : Option Int} (h : RpAll K H vs ds) : RpAll K H (cutV vs lo hi) (cutD ds lo hi) := by
  unfold cutV cutD
  rw [dpa_len h]
  exact dpa_take _ (dpa_drop _ h)
theorem sld : SlR X (DSl X.K) := by
  intro pins s σ H x v vl vu lo hi sl Q I rx hs pl pu ⟨HI, d, r, sub, dx, eg, q⟩
  cases dx with
  | @lst l xs ds h1 a1 =>
    cases eg
    exact sl_list pins s σ H _ v vl vu lo hi sl Q I rx hs pl pu ⟨l, xs, rfl, seqL_mono sub h1, fun p hp => q_lst q sub hp (dpa_cut a1)⟩
  | @tup l xs ds h1 n1 a1 =>
    cases eg
    by_cases hw : HT.sIx xs.length 0 lo = 0 ∧ HT.sIx xs.length xs.length hi = xs.length
    · refine sl_tupA pins s σ H _ v vl vu lo hi sl Q I rx hs pl pu ⟨l, xs, rfl, seqT_mono sub h1, fun _ => ?_, fun z => absurd hw z⟩
      have e : cutD ds lo hi = ds := by
        unfold cutD
        rw [← dpa_len a1, hw.1, hw.2]
        simp [dpa_len a1]
      rw [e] at q
      exact q _ HI H (TP.refl sub) (.tup h1 n1 a1)
    · cases rx
      obtain ⟨its, r, ht, hz⟩ := I.tuple (seqT_mono sub h1)
      have hn : its.toArray.size = xs.length := by rw [r.length, List.size_toArray]
      refine ⟨"tuple", _, PyProof.Rows.slot_tuple_getitem.lookup, ht.typeIs, HT.getItem_tuple_cut ht hs pl pu (by rw [hn]; exact hw) ?_ (by rw [hn]; exact hz)⟩
      rw [hn]
      exact ep_tup I q sub (Nat.le_trans (cutV_length xs lo hi) hz) ((r.drop (HT.sIx xs.length 0 lo)).take (HT.sIx xs.length xs.length hi - HT.sIx xs.length 0 lo)) (dpa_cut a1)
  | _ => cases eg
end
section
variable {K : PySem.W.Frag} {W : WX} {C : Exc} {te : TE} {tl th : TO} {fe fl fh : M D}
/-- a part of a slice -/
def RdO (K : PySem.W.Frag) (W : WX) (C : Exc) (t : TO) (f : M (Option Int)) : Prop := RdG K W C (fun _ _ (b c : Option Int) => b = c) H0 t f
theorem ro_none : RdO K W C tNoPart (mpure none) := RdG.ret fun HI H σ Q _ sub q => q none HI H (TP.refl sub) rfl
def asI : D → Option (Option Int)
  | .int i => some (some i)
  | _ => none
theorem ro_some {t : TE} {f : M D} (h : Rd K W C t f) : RdO K W C (tPart t) (mbind f fun d => mlift (asI d)) :=
  RdG.bind (u := fun (x : V) (σ : L2.St) (H : Hp) (Q : Option Int → Hp → Prop) => ∃ i : Int, x = V.int i ∧ Q (some i) H) h fun HI1 H1 x dx _ rx => RdG.op fun r e HI H σ Q s sub q => by
    cases rx with
    | int i => cases e; exact ⟨i, rfl, q _ HI H (TP.refl sub) rfl⟩
    | _ => cases e
theorem rd_sl {fl fh : M (Option Int)} (h : Rd K W C te fe) (hl : RdO K W C tl fl) (hh : RdO K W C th fh) : Rd K W C (tSl (DSl K) te tl th) (mbind fe fun d => mbind fl fun lo => mbind fh fun hi => mlift (gSl d lo hi)) :=
  RdG.bind (u := fun x σ H Q => tl σ H fun l H2 => th σ H2 fun u H3 => DSl K x l u H3 Q) h fun HI1 H1 x dx _ rx =>
    RdG.bind (u := fun l σ H Q => th σ H fun u H3 => DSl K x l u H3 Q) (RdG.mono same_H0 hl) fun HI2 H2 l lo s2 el =>
      RdG.bind (u := fun u σ H Q => DSl K x l u H Q) (RdG.mono same_H0 hh) fun HI3 H3 u hi s3 eu => RdG.op fun r e HI H σ Q s sub q => by
        cases el
        cases eu
        exact ⟨HI, dx, r, sub, dp_mono (s2.trans (s3.trans s)) rx, e, fun v HI' H' tp rv => q v HI' H' tp rv⟩
end
/-! ### built-in calls -/
def g1 (f : D → Option D) : List D → Option D
  | [d] => f d
  | _ => none
def gLen : D → Option D
  | .list xs => some (.int xs.length)
  | .tuple xs => some (.int xs.length)
  | .str z => if szOk z.length then some (.int z.length) else none
  | _ => none
def gTup : D → Option D
  | .list xs => some (.tuple xs)
  | .tuple xs => some (.tuple xs)
  | _ => none
def gAbs : D → Option D
  | .int i => some (.int (if i < 0 then -i else i))
  | _ => none
def gInt : D → Option D
  | .int i => some (.int i)
  | .bool b => some (.int (if b then 1 else 0))
  | _ => none
def bools : List D → Option (List Bool)
  | [] => some []
  | .bool b :: r => (bools r).map (b :: ·)
  | _ => none
def gAll : D → Option D
  | .list xs => (bools xs).map fun bs => .bool (bs.all id)
  | _ => none
def gAny : D → Option D
  | .list xs => (bools xs).map fun bs => .bool (bs.any id)
  | _ => none
theorem bools_rp {K : PySem.W.Frag} {H : Hp} : ∀ {vs : List V} {ds : List D} {bs : List Bool}, RpAll K H vs ds → bools ds = some bs → vs = bs.map V.bl
  | _, _, _, .nil, e => by cases e; rfl
  | _, _, _, .cons h a, e => by
    cases h with
    | bl b =>
      obtain ⟨r, e1, rfl⟩ := Option.map_eq_some_iff.mp e
      rw [bools_rp a e1]
      rfl
    | _ => cases e
section
variable {X : Cx}
theorem callR1 {f : Value} {g : D → Option D} {r : List V → Hp → VK → Prop} (h : CallR X f r) (k : ∀ HI H x d z (Q : VK), Same HI H → Rp X.K HI x d → g d = some z → (∀ v HI' H', TP HI H HI' H' → Rp X.K HI' v z → Q v H') → r [x] H Q) : CallR X f (DOL X.K (g1 g)) := by
  intro pins s σ H xs us Q I rs ⟨HI, ds, z, sub, da, eg, q⟩
  cases da with
  | nil => cases eg
  | cons dx da =>
    cases da with
    | nil => exact h pins s σ H _ us Q I rs (k HI H _ _ z Q sub dx eg q)
    | cons _ _ => cases eg
theorem cd_len : CallR X (.builtin "len") (DOL X.K (g1 gLen)) := callR1 call_len fun HI H x d z Q sub dx eg q => by
  cases dx with
  | str y =>
    obtain ⟨h, rfl⟩ := ifs eg
    exact ⟨_, _, rfl, ⟨szOk_le h, rfl⟩, q _ HI H (TP.refl sub) (.int _)⟩
  | @lst l xs ds h1 a1 => cases eg; exact ⟨_, _, rfl, .inl ⟨xs, seqL_mono sub h1, (dpa_len a1).symm⟩, q _ HI H (TP.refl sub) (.int _)⟩
  | @tup l xs ds h1 n1 a1 => cases eg; exact ⟨_, _, rfl, .inr ⟨xs, seqT_mono sub h1, (dpa_len a1).symm⟩, q _ HI H (TP.refl sub) (.int _)⟩
  | _ => cases eg
def rTupN (K : PySem.W.Frag) : List V → Hp → VK → Prop := fun xs H Q => ∃ p ys, xs = [.ref p] ∧ ((SqL K H p ys ∧ ∀ l o, H l = none → o.dict = none → Q (.ref l) (upd H l (.frz o (.tup ys)))) ∨ (SqT K H p ys ∧ Q (.ref p) H))
theorem call_tupN : CallR X (.type "tuple") (rTupN X.K) := by
  intro pins s σ H xs us Q I r h
  obtain ⟨p, ys, rfl, ⟨hq, q⟩ | ⟨hq, q⟩⟩ := h
  · obtain ⟨u, rfl, rx⟩ := vals1 r
    cases rx
    obtain ⟨its, rv, pl, hz⟩ := I.list hq
    refine call_tuple_list pl.isList (fun h1 kp => ?_) (by rw [List.size_toArray, ← rv.length]; exact hz)
    have I1 : Inv X pins σ H { s with heap := h1 } := I.kept (t' := s.toks) kp
    exact ⟨.ref _, _, I1.laid (t' := s.toks) (fun _ _ e => Heap.get?_push_of_some _ e) (Nat.le_refl _) (ob_tup hz rv (Heap.get?_push_size _ rfl)), rfl, q _ _ (I1.hok.fresh (Nat.le_refl _)) rfl⟩
  · exact call_tuple_of pins s σ H _ us Q I r ⟨p, ys, rfl, .inr ⟨hq, q⟩⟩
theorem cd_tuple : CallR X (.type "tuple") (DOL X.K (g1 gTup)) := callR1 call_tupN fun HI H x d z Q sub dx eg q => by
  cases dx with
  | @lst l xs ds h1 a1 => cases eg; exact ⟨l, xs, rfl, .inl ⟨seqL_mono sub h1, fun p o hp ho => q_tup q ho sub hp a1⟩⟩
  | @tup l xs ds h1 n1 a1 => cases eg; exact ⟨l, xs, rfl, .inr ⟨seqT_mono sub h1, q _ HI H (TP.refl sub) (.tup h1 n1 a1)⟩⟩
  | _ => cases eg
theorem cd_abs : CallR X (.builtin "abs") (DOL X.K (g1 gAbs)) := callR1 call_abs fun HI H x d z Q sub dx eg q => by
  cases dx with
  | int i => cases eg; exact ⟨i, rfl, q _ HI H (TP.refl sub) (.int _)⟩
  | _ => cases eg
theorem cd_int : CallR X (.type "int") (DOL X.K (g1 gInt)) := callR1 call_int1 fun HI H x d z Q sub dx eg q => by
  cases dx with
  | int i => cases eg; exact .inl ⟨i, rfl, q _ HI H (TP.refl sub) (.int _)⟩
  | bl b => cases eg; exact .inr ⟨b, rfl, q _ HI H (TP.refl sub) (.int _)⟩
  | _ => cases eg
theorem cd_all (hc : X.calm = true) : CallR X (.builtin "all") (DOL X.K (g1 gAll)) := callR1 (cr_all hc) fun HI H x d z Q sub dx eg q => by
  cases dx with
  | @lst l xs ds h1 a1 =>
    obtain ⟨bs, e1, rfl⟩ := Option.map_eq_some_iff.mp eg
    refine ⟨l, bs, rfl, ?_, q _ HI H (TP.refl sub) (.bl _)⟩
    rw [← bools_rp a1 e1]
    exact seqL_mono sub h1
  | _ => cases eg
theorem cd_any (hc : X.calm = true) : CallR X (.builtin "any") (DOL X.K (g1 gAny)) := callR1 (cr_any hc) fun HI H x d z Q sub dx eg q => by
  cases dx with
  | @lst l xs ds h1 a1 =>
    obtain ⟨bs, e1, rfl⟩ := Option.map_eq_some_iff.mp eg
    refine ⟨l, bs, rfl, ?_, q _ HI H (TP.refl sub) (.bl _)⟩
    rw [← bools_rp a1 e1]
    exact seqL_mono sub h1
  | _ => cases eg
end
end Ev
set_option Elab.async false
set_option linter.all false
set_option autoImplicit false
set_option maxRecDepth 100000
namespace Ev
open PySem PySem.Spec L2

theorem mb_none {α β : Type} {f : M α} {g : α → M β} {ρ : Rho} (h : f ρ = none) : mbind f g ρ = none := by unfold mbind; rw [h]
theorem mb_ok {α β : Type} {f : M α} {g : α → M β} {ρ ρ1 : Rho} {a : α} (h : f ρ = some (.ok a ρ1)) : mbind f g ρ = g a ρ1 := by unfold mbind; rw [h]
theorem mb_ex {α β : Type} {f : M α} {g : α → M β} {ρ ρ1 : Rho} {c : Xc} (h : f ρ = some (.ex c ρ1)) : mbind f g ρ = some (.ex c ρ1) := by unfold mbind; rw [h]
/-! ### names -/
theorem get_set {α : Type} {l : List α} {i j : Nat} {x y : α} (h : (l.set i x)[j]? = some y) : (i = j ∧ y = x ∧ i < l.length) ∨ (i ≠ j ∧ l[j]? = some y) := by
  by_cases e : i = j
  · subst e
    by_cases hi : i < l.length
    · rw [List.getElem?_set_self hi] at h
      cases h
      exact .inl ⟨rfl, rfl, hi⟩
    · rw [List.getElem?_eq_none (by simpa using hi)] at h
      cases h
  · rw [List.getElem?_set_ne e] at h
    exact .inr ⟨e, h⟩
def fName (i : Nat) : M D := fun r => match r[i]? with
  | some (.im d) => some (.ok d r)
  | some (.mu (.list ds)) => some (.ok (.list ds) (r.set i (.im (.list ds))))
  | _ => none
section
variable {K : PySem.W.Frag} {W : WX} {C : Exc} {HI H : Hp} {σ : L2.St} {ρ : Rho}
/-- an owned list is given away: it never changes from here on -/
theorem freeze {i : Nat} {ds : List D} (s : SOk K HI H σ ρ) (h : ρ[i]? = some (Sl.mu (.list ds))) : ∃ a vs, σ[i]? = some (some (V.ref a)) ∧ HI a = none ∧ H a = some (.lst vs) ∧ RpAll K HI vs ds ∧
    SOk K (upd HI a (.lst vs)) H σ (ρ.set i (.im (.list ds))) ∧ Tr σ ρ HI H (ρ.set i (.im (.list ds))) (upd HI a (.lst vs)) H := by
  obtain ⟨a, e, n, vs, ha, rp⟩ := s.mu i _ (.list ds) h rfl
  have hi : Same HI (upd HI a (.lst vs)) := fun b o q => by rw [upd_ne (ne_of_none q n)]; exact q
  refine ⟨a, vs, e, n, ha, rp, ⟨fun b o q => ?_, by rw [List.length_set]; exact s.len, fun j d q => ?_, fun j l d q ql => ?_, fun j k l m d e' b q1 l1 q2 l2 s1 s2 => ?_⟩, ⟨hi, fun b h1 h2 => ?_, fun _ _ q _ => q, fun _ q => q, fun b ⟨j, d, q, z⟩ => ?_, fun j l d q ql => ?_⟩⟩
  · by_cases hb : b = a
    · subst hb; rw [upd_same] at q; cases q; exact ha
    · rw [upd_ne hb] at q; exact s.sub _ _ q
  · rcases get_set q with ⟨rfl, q, _⟩ | ⟨_, q⟩
    · cases q
      exact ⟨_, e, .lst (.inl (.inl upd_same)) (dpa_mono hi rp)⟩
    · obtain ⟨v, z, w⟩ := s.im j d q
      exact ⟨v, z, dp_mono hi w⟩
  · rcases get_set q with ⟨rfl, q, _⟩ | ⟨hij, q⟩
    · subst q; cases ql
    · obtain ⟨b, z, nb, w⟩ := s.mu j l d q ql
      have hba : b ≠ a := fun hb => hij (s.inj i j _ l _ d a h rfl q ql e (hb ▸ z))
      refine ⟨b, z, by rw [upd_ne hba]; exact nb, ?_⟩
      cases d with
      | list es => obtain ⟨us, q, p⟩ := w; exact ⟨us, q, dpa_mono hi p⟩
      | _ => exact w.elim
  · rcases get_set q1 with ⟨rfl, q1, _⟩ | ⟨_, q1⟩
    · subst q1; cases l1
    · rcases get_set q2 with ⟨rfl, q2, _⟩ | ⟨_, q2⟩
      · subst q2; cases l2
      · exact s.inj j k l m d e' b q1 l1 q2 l2 s1 s2
  · by_cases hb : b = a
    · subst hb; exact .inr ⟨i, _, h, e⟩
    · rw [upd_ne hb] at h2; exact absurd h1 h2
  · rcases get_set q with ⟨rfl, q, _⟩ | ⟨_, q⟩
    · cases q
    · exact ⟨j, d, q, z⟩
  · rcases get_set q with ⟨rfl, q, _⟩ | ⟨_, q⟩
    · subst q; cases ql
    · exact ⟨l, d, q, ql⟩
theorem rd_var (i : Nat) : Rd K W C (tVar i) (fName i) := by
  intro ρ HI H σ Q _ so p
  unfold fName at p
  split at p
  · rename_i d e
    obtain ⟨v, z, w⟩ := so.im i d e
    exact ⟨v, z, p HI H Tr.refl so v w⟩
  · rename_i ds e
    obtain ⟨a, vs, z, n, ha, rp, so', tr⟩ := freeze so e
    exact ⟨_, z, p _ H tr so' _ (.lst (.inl (.inl upd_same)) (dpa_mono tr.exI rp))⟩
  · exact p.elim
/-! ### displays -/
variable {ta tb tc te : TE} {fa fb fc : M D} {tl : TA} {fl : M (List D)} {tt : TT} {ft : M Bool}
/-- a tuple of written items, known to its object -/
def rTupD (xs : List V) (H : Hp) (Q : VK) : Prop := xs.length ≤ sizeLine ∧ ∀ p o, H p = none → o.dict = none → Q (.ref p) (upd H p (.frz o (.tup xs)))
def tTupN (t : TA) : TE := fun σ H Q => t σ H fun xs H1 => rTupD xs H1 Q
theorem pe_tupN {X : Cx} {es : List Expr} {t : TA} {k : Nat} {pos : Pos} (h : PA X es t) : PE X (.Tuple es k pos) (tTupN t) := by
  refine ⟨fun pins s σ H Q I hq => wpAny_Tuple_spliced (thn (h.run pos pins s σ H _ I hq) fun us s1 ⟨xs, H1, I1, r, z, q⟩ => ⟨by rw [← r.length]; exact z, ?_⟩)⟩
  exact ⟨.ref _, _, I1.laid (t' := s1.toks) (fun _ _ e => Heap.get?_push_of_some _ e) (Nat.le_refl _) (ob_tup z r (Heap.get?_push_size _ rfl)), rfl, q _ _ (I1.hok.fresh (Nat.le_refl _)) rfl⟩
theorem rd_tup (h : RdA K W C tl fl) : Rd K W C (tTupN tl) (mbind fl fun ds => mlift (if szOk ds.length then some (.tuple ds) else none)) :=
  RdG.bind (u := fun (xs : List V) (_ : L2.St) (H : Hp) (Q : V → Hp → Prop) => rTupD xs H Q) h fun HI1 H1 xs ds _ ra => RdG.op fun r e HI H σ Q s sub q => by
    obtain ⟨hz, rfl⟩ := ifs e
    refine ⟨by rw [dpa_len ra]; exact szOk_le hz, fun p o hp ho => ?_⟩
    exact q (.ref p) _ _ (TP.new_ sub hp) (rp_tupN ho sub hp (dpa_mono s ra))
/-- a reading that ends by a new list -/
def RdF (K : PySem.W.Frag) (W : WX) (C : Exc) (t : TE) (f : M (List D)) : Prop :=
  ∀ ρ HI H σ Q, SOk K HI H σ ρ → Pt K W C σ ρ HI H (f ρ) (fun ds HI' H' => ∀ p vs, H' p = none → RpAll K HI' vs ds → Q (.ref p) (upd H' p (.lst vs))) → t σ H Q
theorem rd_of_f {t : TE} (h : RdF K W C t fl) : Rd K W C t (mbind fl fun ds => mpure (.list ds)) := by
  intro ρ HI H σ Q _ so p
  refine h ρ HI H σ Q so ?_
  cases hf : fl ρ with
  | none => rw [mb_none hf] at p; exact p
  | some r =>
    cases r with
    | ex c ρ1 => rw [mb_ex hf] at p; exact p
    | ok ds ρ1 =>
      rw [mb_ok hf] at p
      intro HI' H' tr so' q vs hq rp
      have tp := TP.new_ (o := .lst vs) so'.sub hq
      exact p _ _ (tr.trans tp.tr) (so'.tp tp) _ (.lst (.inl (.inl upd_same)) (dpa_mono tp.exI rp))
theorem rf_lst (h : RdA K W C tl fl) : RdF K W C (tLst tl) (mbind fl fun ds => mlift (if szOk ds.length then some ds else none)) := by
  intro ρ HI H σ Q so p
  refine h ρ HI H σ _ same_H0 so ?_
  cases hf : fl ρ with
  | none => rw [mb_none hf] at p; exact p
  | some r =>
    cases r with
    | ex c ρ1 => rw [mb_ex hf] at p; exact p
    | ok ds ρ1 =>
      rw [mb_ok hf] at p
      intro HI' H' tr so' xs ra
      cases hz : szOk ds.length with
      | false => rw [hz] at p; exact p.elim
      | true =>
        rw [hz] at p
        exact ⟨by rw [dpa_len ra]; exact szOk_le hz, fun q hq => p HI' H' tr so' q xs hq ra⟩
/-! ### and, or, not, if -/
theorem rd_and (ha : Rd K W C ta fa) (hb : Rd K W C tb fb) : Rd K W C (tAndV ta tb) (mbind fa fun d => mbind (mlift (asB d)) fun b => if b then fb else mpure (.bool false)) :=
  RdG.bind (u := fun x σ H Q => ∃ c, x = .bl c ∧ if c = true then tb σ H Q else Q (.bl false) H) ha fun HI1 H1 x dx _ rx => by
    intro ρ HI H σ Q s so p
    cases rx with
    | bl b =>
      refine ⟨b, rfl, ?_⟩
      cases b with
      | true => exact hb ρ HI H σ Q same_H0 so p
      | false => exact p HI H Tr.refl so _ (.bl _)
    | _ => exact p.elim
theorem rd_or (ha : Rd K W C ta fa) (hb : Rd K W C tb fb) : Rd K W C (tOrV ta tb) (mbind fa fun d => mbind (mlift (asB d)) fun b => if b then mpure (.bool true) else fb) :=
  RdG.bind (u := fun x σ H Q => ∃ c, x = .bl c ∧ if c = true then Q (.bl true) H else tb σ H Q) ha fun HI1 H1 x dx _ rx => by
    intro ρ HI H σ Q s so p
    cases rx with
    | bl b =>
      refine ⟨b, rfl, ?_⟩
      cases b with
      | false => exact hb ρ HI H σ Q same_H0 so p
      | true => exact p HI H Tr.refl so _ (.bl _)
    | _ => exact p.elim
theorem rd_not (ha : Rd K W C ta fa) : Rd K W C (tNotV ta) (mbind fa fun d => mlift ((asB d).map fun b => .bool (!b))) :=
  RdG.bind (u := fun (x : V) (σ : L2.St) (H : Hp) (Q : V → Hp → Prop) => ∃ c, x = V.bl c ∧ Q (V.bl (!c)) H) ha fun HI1 H1 x dx _ rx => RdG.op fun r e HI H σ Q s sub q => by
    cases rx with
    | bl b => cases e; exact ⟨b, rfl, q _ HI H (TP.refl sub) (.bl _)⟩
    | _ => cases e
theorem rt_test (h : Rd K W C ta fa) : RdT K W C (tTest ta) (mbind fa fun d => mlift (asB d)) := rt_B h
variable {tu : TT} {fu : M Bool}
theorem rt_and (ha : RdT K W C tt ft) (hb : RdT K W C tu fu) : RdT K W C (tAnd tt tu) (mbind ft fun b => if b then fu else mpure false) :=
  RdG.bind (u := fun c σ H Q => if c = true then tu σ H Q else Q false H) ha fun HI1 H1 c b _ e => by
    intro ρ HI H σ Q s so p
    cases e
    cases c with
    | true => exact hb ρ HI H σ Q same_H0 so p
    | false => exact p HI H Tr.refl so _ rfl
theorem rt_or (ha : RdT K W C tt ft) (hb : RdT K W C tu fu) : RdT K W C (tOr tt tu) (mbind ft fun b => if b then mpure true else fu) :=
  RdG.bind (u := fun c σ H Q => if c = true then Q true H else tu σ H Q) ha fun HI1 H1 c b _ e => by
    intro ρ HI H σ Q s so p
    cases e
    cases c with
    | false => exact hb ρ HI H σ Q same_H0 so p
    | true => exact p HI H Tr.refl so _ rfl
theorem rt_not (ha : RdT K W C tt ft) : RdT K W C (tNot tt) (mbind ft fun b => mpure (!b)) :=
  RdG.bind (u := fun c σ H Q => Q (!c) H) ha fun HI1 H1 c b _ e => RdG.ret fun HI H σ Q s sub q => by
    cases e
    exact q _ HI H (TP.refl sub) rfl
theorem rd_if (ht : RdT K W C tt ft) (ha : Rd K W C ta fa) (hb : Rd K W C tb fb) : Rd K W C (tIf tt ta tb) (mbind ft fun b => if b then fa else fb) :=
  RdG.bind (u := fun c σ H Q => if c = true then ta σ H Q else tb σ H Q) ht fun HI1 H1 c b _ e => by
    intro ρ HI H σ Q s so p
    cases e
    cases c with
    | true => exact ha ρ HI H σ Q same_H0 so p
    | false => exact hb ρ HI H σ Q same_H0 so p
/-- a op b op c -/
theorem rd_chain {g h : D → D → Option D} (ha : Rd K W C ta fa) (hb : Rd K W C tb fb) (hc : Rd K W C tc fc) : Rd K W C (tChain (DO2 K g) (DO2 K h) ta tb tc)
    (mbind fa fun x => mbind fb fun y => mbind (mlift (g x y)) fun z => mbind (mlift (asB z)) fun b => if b then mbind fc fun w => mlift (h y w) else mpure (.bool false)) :=
  RdG.bind (u := fun x σ H Q => tb σ H fun y H2 => DO2 K g x y H2 fun z H3 => ∃ k, z = .bl k ∧ (if k = true then tc σ H3 fun w' H4 => DO2 K h y w' H4 Q else Q (.bl false) H3)) ha fun HI1 H1 x dx _ rx =>
    RdG.bind (u := fun y σ H Q => DO2 K g x y H fun z H3 => ∃ k, z = .bl k ∧ (if k = true then tc σ H3 fun w' H4 => DO2 K h y w' H4 Q else Q (.bl false) H3)) (hb.mono same_H0) fun HI2 H2 y dy s2 ry =>
      RdG.bind (t := fun σ H Q => DO2 K g x y H Q) (u := fun z σ H Q => ∃ k, z = .bl k ∧ (if k = true then tc σ H fun w' H4 => DO2 K h y w' H4 Q else Q (.bl false) H))
        (RdG.op (R := RD K) fun r e HI H σ Q s sub q => ⟨HI, dx, dy, r, sub, dp_mono (s2.trans s) rx, dp_mono s ry, e, fun v HI' H' tp rv => q v HI' H' tp rv⟩) fun HI3 H3 z dz s3 rz => by
        intro ρ HI H σ Q s so p
        cases rz with
        | bl b =>
          refine ⟨b, rfl, ?_⟩
          cases b with
          | false => exact p HI H Tr.refl so _ (.bl _)
          | true =>
            exact (RdG.bind (u := fun w' σ H Q => DO2 K h y w' H Q) (hc.mono (same_H0 (H := HI))) fun HI4 H4 w dw s4 rw => RdG.op fun r e HI' H' σ Q s' sub q =>
              ⟨HI', dy, dw, r, sub, dp_mono (s3.trans (s.trans (s4.trans s'))) ry, dp_mono s' rw, e, fun v HI' H' tp rv => q v HI' H' tp rv⟩) ρ HI H σ Q (Same.refl _) so p
        | _ => exact p.elim
end
end Ev
set_option Elab.async false
set_option linter.all false
set_option autoImplicit false
set_option maxRecDepth 100000
namespace Ev
open PySem PySem.Spec L2

/-! ### slots set, forgotten, given back -/
def wipeR (r : Rho) : List Nat → Rho
  | [] => r
  | v :: vs => (wipeR r vs).set v .un
def keepS : Option Sl → Sl
  | some (.im d) => .im d
  | _ => .un
def backR (r0 r : Rho) : List Nat → Rho
  | [] => r
  | v :: vs => (backR r0 r vs).set v (keepS r0[v]?)
theorem wipeR_len (r : Rho) : ∀ vs, (wipeR r vs).length = r.length
  | [] => rfl
  | v :: vs => by unfold wipeR; rw [List.length_set, wipeR_len r vs]
theorem backR_len (r0 r : Rho) : ∀ vs, (backR r0 r vs).length = r.length
  | [] => rfl
  | v :: vs => by unfold backR; rw [List.length_set, backR_len r0 r vs]
theorem wipeR_get {r : Rho} {i : Nat} {l : Sl} : ∀ {vs : List Nat}, (wipeR r vs)[i]? = some l → l = .un ∨ (i ∉ vs ∧ r[i]? = some l)
  | [], h => .inr ⟨by simp, h⟩
  | v :: vs, h => by
    unfold wipeR at h
    rcases get_set h with ⟨_, e, _⟩ | ⟨hv, h⟩
    · exact .inl e
    · rcases wipeR_get h with e | ⟨hi, e⟩
      · exact .inl e
      · exact .inr ⟨by simp only [List.mem_cons, not_or]; exact ⟨fun e => hv e.symm, hi⟩, e⟩
theorem backR_get {r0 r : Rho} {i : Nat} {l : Sl} : ∀ {vs : List Nat}, (backR r0 r vs)[i]? = some l → l = keepS r0[i]? ∨ (i ∉ vs ∧ r[i]? = some l)
  | [], h => .inr ⟨by simp, h⟩
  | v :: vs, h => by
    unfold backR at h
    rcases get_set h with ⟨e1, e, _⟩ | ⟨hv, h⟩
    · subst e1; exact .inl e
    · rcases backR_get h with e | ⟨hi, e⟩
      · exact .inl e
      · exact .inr ⟨by simp only [List.mem_cons, not_or]; exact ⟨fun e => hv e.symm, hi⟩, e⟩
theorem keepS_im {o : Option Sl} {d : D} (h : Sl.im d = keepS o) : o = some (.im d) := by
  cases o with
  | none => cases h
  | some l => cases l <;> first | (cases h; rfl) | cases h
theorem keepS_ow {o : Option Sl} : owd (keepS o) = none := by
  cases o with
  | none => rfl
  | some l => cases l <;> rfl
section
variable {K : PySem.W.Frag} {HI H HI1 H1 : Hp} {σ σ1 : L2.St} {ρ ρ1 : Rho}
theorem SOk.set_im {i : Nat} {v : V} {d : D} (s : SOk K HI H σ ρ) (r : Rp K HI v d) : SOk K HI H (σ.set i (some v)) (ρ.set i (.im d)) := by
  refine ⟨s.sub, by rw [List.length_set, List.length_set]; exact s.len, fun j e h => ?_, fun j l e h hl => ?_, fun j k l m d e a h1 l1 h2 l2 s1 s2 => ?_⟩
  · rcases get_set h with ⟨rfl, e1, hi⟩ | ⟨hij, h⟩
    · cases e1
      exact ⟨v, by rw [List.getElem?_set_self (by rw [s.len]; exact hi)], r⟩
    · obtain ⟨w, z, q⟩ := s.im j e h
      exact ⟨w, by rw [List.getElem?_set_ne hij]; exact z, q⟩
  · rcases get_set h with ⟨rfl, e1, hi⟩ | ⟨hij, h⟩
    · subst e1; cases hl
    · obtain ⟨w, z, q⟩ := s.mu j l e h hl
      exact ⟨w, by rw [List.getElem?_set_ne hij]; exact z, q⟩
  · rcases get_set h1 with ⟨rfl, e1, hi⟩ | ⟨hij, h1⟩
    · subst e1; cases l1
    · rcases get_set h2 with ⟨rfl, e1, hi⟩ | ⟨hik, h2⟩
      · subst e1; cases l2
      · rw [List.getElem?_set_ne hij] at s1
        rw [List.getElem?_set_ne hik] at s2
        exact s.inj j k l m d e a h1 l1 h2 l2 s1 s2
theorem own_set_im {i : Nat} {v : V} {d : D} {a : Addr} (h : Own (σ.set i (some v)) (ρ.set i (.im d)) a) : Own σ ρ a := by
  obtain ⟨j, e, h1, h2⟩ := h
  rcases get_set h1 with ⟨rfl, e1, _⟩ | ⟨hij, h1⟩
  · cases e1
  · rw [List.getElem?_set_ne hij] at h2
    exact ⟨j, e, h1, h2⟩
/-- the slots of a block forgotten -/
theorem SOk.wipe (s : SOk K HI H σ ρ) (vs : List Nat) : SOk K HI H (L2.wipe σ vs) (wipeR ρ vs) := by
  refine ⟨s.sub, by rw [wipe_length, wipeR_len]; exact s.len, fun j e h => ?_, fun j l e h hl => ?_, fun j k l m d e a h1 l1 h2 l2 s1 s2 => ?_⟩
  · rcases wipeR_get h with e1 | ⟨hj, h⟩
    · cases e1
    · rw [wipe_out hj]; exact s.im j e h
  · rcases wipeR_get h with e1 | ⟨hj, h⟩
    · subst e1; cases hl
    · rw [wipe_out hj]; exact s.mu j l e h hl
  · rcases wipeR_get h1 with e1 | ⟨hj, h1⟩
    · subst e1; cases l1
    · rcases wipeR_get h2 with e1 | ⟨hk, h2⟩
      · subst e1; cases l2
      · rw [wipe_out hj] at s1
        rw [wipe_out hk] at s2
        exact s.inj j k l m d e a h1 l1 h2 l2 s1 s2
/-- behind a block's turn -/
theorem SOk.back {vs : List Nat} (s : SOk K HI H σ ρ) (e : Same HI HI1) (s1 : SOk K HI1 H1 σ1 ρ1) (hl : σ1.length = σ.length) (hσ : ∀ i, i ∉ vs → σ1[i]? = σ[i]?) : SOk K HI1 H1 σ (backR ρ ρ1 vs) := by
  refine ⟨s1.sub, by rw [backR_len, ← s1.len, hl], fun j d h => ?_, fun j l d h hl => ?_, fun j k l m d e a h1 l1 h2 l2 z1 z2 => ?_⟩
  · rcases backR_get h with e1 | ⟨hj, h⟩
    · obtain ⟨v, z, q⟩ := s.im j d (keepS_im e1)
      exact ⟨v, z, dp_mono e q⟩
    · rw [← hσ j hj]; exact s1.im j d h
  · rcases backR_get h with e1 | ⟨hj, h⟩
    · subst e1; rw [keepS_ow] at hl; cases hl
    · rw [← hσ j hj]; exact s1.mu j l d h hl
  · rcases backR_get h1 with e1 | ⟨hj, h1⟩
    · subst e1; rw [keepS_ow] at l1; cases l1
    · rcases backR_get h2 with e1 | ⟨hk, h2⟩
      · subst e1; rw [keepS_ow] at l2; cases l2
      · rw [← hσ j hj] at z1
        rw [← hσ k hk] at z2
        exact s1.inj j k l m d e a h1 l1 h2 l2 z1 z2
theorem own_back {vs : List Nat} {a : Addr} (hσ : ∀ i, i ∉ vs → σ1[i]? = σ[i]?) (h : Own σ (backR ρ ρ1 vs) a) : Own σ1 ρ1 a := by
  obtain ⟨j, d, h1, h2⟩ := h
  rcases backR_get h1 with e1 | ⟨hj, h1⟩
  · have : owd (Sl.mu d) = none := by rw [e1]; exact keepS_ow
    cases this
  · exact ⟨j, d, h1, by rw [hσ j hj]; exact h2⟩
theorem own_wipe {vs : List Nat} {a : Addr} (h : Own (L2.wipe σ vs) (wipeR ρ vs) a) : Own σ ρ a := by
  obtain ⟨j, d, h1, h2⟩ := h
  rcases wipeR_get h1 with e1 | ⟨hj, h1⟩
  · cases e1
  · rw [wipe_out hj] at h2
    exact ⟨j, d, h1, h2⟩
end
/-! ### targets -/
/-- g stores what stands for d, as tf does; the slots is alone are touched -/
def TgOk (K : PySem.W.Frag) (g : TG) (tf : D → Rho → Option Rho) (is : List Nat) : Prop :=
  ∀ (v : V) (d : D) (ρ ρ' : Rho) (σ : L2.St) (HI H : Hp) (Q : L2.St → Hp → Prop), SOk K HI H σ ρ → Rp K HI v d → tf d ρ = some ρ' →
    (∀ σ', SOk K HI H σ' ρ' → (∀ (i : Nat) (l : Sl) (e : PyData), ρ'[i]? = some l → owd l = some e → ρ[i]? = some l ∧ σ'[i]? = σ[i]?) → (∀ i, i ∉ is → σ'[i]? = σ[i]? ∧ ρ'[i]? = ρ[i]?) → σ'.length = σ.length → Q σ' H) → g v σ H Q
def TgsOk (K : PySem.W.Frag) (g : TGs) (tf : List D → Rho → Option Rho) (is : List Nat) : Prop :=
  ∀ (v : List V) (d : List D) (ρ ρ' : Rho) (σ : L2.St) (HI H : Hp) (Q : L2.St → Hp → Prop), SOk K HI H σ ρ → RpAll K HI v d → tf d ρ = some ρ' →
    (∀ σ', SOk K HI H σ' ρ' → (∀ (i : Nat) (l : Sl) (e : PyData), ρ'[i]? = some l → owd l = some e → ρ[i]? = some l ∧ σ'[i]? = σ[i]?) → (∀ i, i ∉ is → σ'[i]? = σ[i]? ∧ ρ'[i]? = ρ[i]?) → σ'.length = σ.length → Q σ' H) → g v σ H Q
def tfName (i : Nat) (d : D) (r : Rho) : Option Rho := some (r.set i (.im d))
def tfNil : List D → Rho → Option Rho
  | [], r => some r
  | _, _ => none
def tfCons (f : D → Rho → Option Rho) (g : List D → Rho → Option Rho) : List D → Rho → Option Rho
  | d :: ds, r => (f d r).bind (g ds)
  | _, _ => none
def tfTup (n : Nat) (g : List D → Rho → Option Rho) (d : D) (r : Rho) : Option Rho := match d with
  | .tuple ds => if ds.length = n then g ds r else none
  | _ => none
section
variable {K : PySem.W.Frag}
theorem tg_name (i : Nat) : TgOk K (gName i) (tfName i) [i] := fun v d ρ ρ' σ HI H Q s r e q => by
  cases e
  refine q (σ.set i (some v)) (s.set_im r) (fun j l e h hl => ?_) (fun j hj => ?_) (by rw [List.length_set])
  · rcases get_set h with ⟨_, z, _⟩ | ⟨hij, h⟩
    · subst z; cases hl
    · exact ⟨h, List.getElem?_set_ne hij⟩
  · have : i ≠ j := fun e => hj (by simp [e])
    rw [List.getElem?_set_ne this, List.getElem?_set_ne this]
    exact ⟨rfl, rfl⟩
theorem tgs_nil : TgsOk K gNil tfNil [] := fun v d ρ ρ' σ HI H Q s r e q => by
  cases r with
  | nil => cases e; exact ⟨rfl, q σ s (fun _ _ _ h _ => ⟨h, rfl⟩) (fun _ _ => ⟨rfl, rfl⟩) rfl⟩
  | cons _ _ => cases e
theorem tgs_cons {g : TG} {gs : TGs} {f : D → Rho → Option Rho} {fs : List D → Rho → Option Rho} {i1 i2 : List Nat} (h1 : TgOk K g f i1) (h2 : TgsOk K gs fs i2) : TgsOk K (gCons g gs) (tfCons f fs) (i1 ++ i2) := fun v d ρ ρ' σ HI H Q s r e q => by
  cases r with
  | nil => cases e
  | @cons v vs d ds r rs =>
    cases e1 : f d ρ with
    | none => rw [tfCons, e1] at e; cases e
    | some ρ1 =>
      rw [tfCons, e1] at e
      refine ⟨v, vs, rfl, h1 v d ρ ρ1 σ HI H _ s r e1 fun σ1 s1 o1 k1 l1 => h2 vs ds ρ1 ρ' σ1 HI H _ s1 rs e fun σ2 s2 o2 k2 l2 => q σ2 s2 (fun j l e h hl => ⟨(o1 j l e (o2 j l e h hl).1 hl).1, (o2 j l e h hl).2.trans (o1 j l e (o2 j l e h hl).1 hl).2⟩) (fun i hi => ?_) (l2.trans l1)⟩
      rw [List.mem_append, not_or] at hi
      exact ⟨(k2 i hi.2).1.trans (k1 i hi.1).1, (k2 i hi.2).2.trans (k1 i hi.1).2⟩
theorem tg_tup {gs : TGs} {fs : List D → Rho → Option Rho} {is : List Nat} {n : Nat} (h : TgsOk K gs fs is) : TgOk K (L2.gTup K n gs) (tfTup n fs) is := fun v d ρ ρ' σ HI H Q s r e q => by
  cases r with
  | @tup a xs ds hs _ ra =>
    by_cases hn : ds.length = n
    · have e : (if ds.length = n then fs ds ρ else none) = some ρ' := e
      rw [if_pos hn] at e
      exact ⟨a, xs, rfl, seqT_mono s.sub hs, by rw [dpa_len ra]; exact hn, h xs ds ρ ρ' σ HI H Q s ra e q⟩
    · have e : (if ds.length = n then fs ds ρ else none) = some ρ' := e
      rw [if_neg hn] at e
      cases e
  | _ => cases e
end
/-! ### what is walked -/
/-- J walks ds wherever what HI, HS tell still stands -/
def Walk (K : PySem.W.Frag) (HI HS : Hp) (J : It) (ds : List D) : Prop := ∀ HI1 H, Same HI HI1 → Same HI1 H → Same HS H →
  (∀ i, ds.length ≤ i → J.stop i H) ∧ ∀ i d, ds[i]? = some d → J.go i H ∧ ∀ x H', J.yld i H x H' → ∃ HI', TP HI1 H HI' H' ∧ Rp K HI' x d
/-- an iteration's source: its items, and the slots that are locked while it is walked -/
def RdI (K : PySem.W.Frag) (W : WX) (C : Exc) (wi : TI) (f : M (List D × List Nat)) : Prop := ∀ ρ HI H σ R, SOk K HI H σ ρ → (match f ρ with
  | none => False
  | some (.ok (ds, lks) ρ') => ∀ HI' H', Tr σ ρ HI H ρ' HI' H' → SOk K HI' H' σ ρ' → ∀ J HS, Same HS H' → (∀ b, HS b ≠ none → ¬ Own σ ρ' b) → (lks = [] → Same HS HI') → Walk K HI' HS J ds → R J H'
  | some (.ex c ρ') => ∀ HI' H', Tr σ ρ HI H ρ' HI' H' → SOk K HI' H' σ ρ' → WC K C (fun cls d H => W cls d σ H) c HI' H') → wi σ H R
/-- a value that is walked or looked at: a list of one's own is locked -/
inductive RpS (K : PySem.W.Frag) (HI HS : Hp) : V → D → Prop
  | lst {a : Addr} {vs : List V} {ds : List D} : SqL K HS a vs → RpAll K HI vs ds → RpS K HI HS (.ref a) (.list ds)
  | tup {a : Addr} {vs : List V} {ds : List D} : SqT K HS a vs → RpAll K HI vs ds → RpS K HI HS (.ref a) (.tuple ds)
  | str (z : Str) : RpS K HI HS (.str z) (.str z)
def RdL (K : PySem.W.Frag) (W : WX) (C : Exc) (t : TE) (f : M (D × List Nat)) : Prop := ∀ ρ HI H σ Q, SOk K HI H σ ρ → (match f ρ with
  | none => False
  | some (.ok (d, lks) ρ') => ∀ HI' H', Tr σ ρ HI H ρ' HI' H' → SOk K HI' H' σ ρ' → ∀ v HS, Same HS H' → (∀ b, HS b ≠ none → ¬ Own σ ρ' b) → (lks = [] → Same HS HI') → RpS K HI' HS v d → Q v H'
  | some (.ex c ρ') => ∀ HI' H', Tr σ ρ HI H ρ' HI' H' → SOk K HI' H' σ ρ' → WC K C (fun cls d H => W cls d σ H) c HI' H') → t σ H Q
section
variable {K : PySem.W.Frag} {W : WX} {C : Exc} {te : TE} {fe : M D}
theorem own_HI {HI H : Hp} {σ : L2.St} {ρ : Rho} (s : SOk K HI H σ ρ) (b : Addr) (h : HI b ≠ none) : ¬ Own σ ρ b := fun ⟨i, d, h1, h2⟩ => by
  obtain ⟨a, z, n, _⟩ := s.mu i _ d h1 rfl
  rw [h2] at z
  cases z
  exact h n
def iterable : D → Bool
  | .list _ => true
  | .tuple _ => true
  | .str _ => true
  | _ => false
/-- what never changes may be walked -/
theorem rl_of (h : Rd K W C te fe) : RdL K W C te (mbind fe fun d => mlift (if iterable d then some (d, []) else none)) := by
  intro ρ HI H σ Q so p
  refine h ρ HI H σ Q same_H0 so ?_
  cases hf : fe ρ with
  | none => rw [mb_none hf] at p; exact p
  | some r =>
    cases r with
    | ex c ρ1 => rw [mb_ex hf] at p; exact p
    | ok d ρ1 =>
      rw [mb_ok hf] at p
      intro HI' H' tr so' v rv
      cases rv with
      | lst a b => exact p HI' H' tr so' _ HI' so'.sub (fun b => own_HI so' b) (fun _ => Same.refl _) (.lst a b)
      | tup a _ b => exact p HI' H' tr so' _ HI' so'.sub (fun b => own_HI so' b) (fun _ => Same.refl _) (.tup a b)
      | str z => exact p HI' H' tr so' _ HI' so'.sub (fun b => own_HI so' b) (fun _ => Same.refl _) (.str z)
      | _ => exact p.elim
/-- a list of one's own, by its name -/
def fLock (i : Nat) : M (D × List Nat) := fun r => match r[i]? with
  | some (.im d) => if iterable d then some (.ok (d, []) r) else none
  | some (.mu (.list ds)) => some (.ok (.list ds, [i]) (r.set i (.lk (.list ds))))
  | some (.lk (.list ds)) => some (.ok (.list ds, [i]) r)
  | _ => none
theorem ow_addr {HI H : Hp} {σ : L2.St} {ρ : Rho} {i : Nat} {ds : List D} {l : Sl} (s : SOk K HI H σ ρ) (h : ρ[i]? = some l) (hl : owd l = some (.list ds)) :
    ∃ a vs, σ[i]? = some (some (V.ref a)) ∧ HI a = none ∧ H a = some (.lst vs) ∧ RpAll K HI vs ds := by
  obtain ⟨a, z, n, vs, hv, ra⟩ := s.mu i l _ h hl
  exact ⟨a, vs, z, n, hv, ra⟩
theorem rl_var (i : Nat) : RdL K W C (tVar i) (fLock i) := by
  intro ρ HI H σ Q so p
  cases e0 : ρ[i]? with
  | none => rw [show fLock i ρ = none by unfold fLock; rw [e0]] at p; exact p.elim
  | some l =>
    cases l with
    | un => rw [show fLock i ρ = none by unfold fLock; rw [e0]] at p; exact p.elim
    | im d =>
      rw [show fLock i ρ = if iterable d then some (.ok (d, []) ρ) else none by unfold fLock; rw [e0]] at p
      obtain ⟨v, z, w⟩ := so.im i _ e0
      refine ⟨v, z, ?_⟩
      cases w with
      | lst a b => exact p HI H Tr.refl so _ HI so.sub (fun b => own_HI so b) (fun _ => Same.refl _) (.lst a b)
      | tup a _ b => exact p HI H Tr.refl so _ HI so.sub (fun b => own_HI so b) (fun _ => Same.refl _) (.tup a b)
      | str y => exact p HI H Tr.refl so _ HI so.sub (fun b => own_HI so b) (fun _ => Same.refl _) (.str y)
      | _ => exact p.elim
    | mu d =>
      cases d with
      | list ds =>
        rw [show fLock i ρ = some (.ok (.list ds, [i]) (ρ.set i (.lk (.list ds)))) by unfold fLock; rw [e0]] at p
        obtain ⟨a, vs, z, n, ha, ra⟩ := ow_addr so e0 rfl
        have so' : SOk K HI H σ (ρ.set i (.lk (.list ds))) := by
          refine ⟨so.sub, by rw [List.length_set]; exact so.len, fun j d h => ?_, fun j l d h hl => ?_, fun j k l m d e b h1 l1 h2 l2 s1 s2 => ?_⟩
          · rcases get_set h with ⟨_, q, _⟩ | ⟨_, h⟩
            · cases q
            · exact so.im j d h
          · rcases get_set h with ⟨rfl, q, _⟩ | ⟨_, h⟩
            · subst q; cases hl; exact so.mu i _ _ e0 rfl
            · exact so.mu j l d h hl
          · rcases get_set h1 with ⟨rfl, q, _⟩ | ⟨_, h1⟩
            · rcases get_set h2 with ⟨rfl, q2, _⟩ | ⟨_, h2⟩
              · rfl
              · exact so.inj i k _ m _ e b e0 rfl h2 l2 s1 s2
            · rcases get_set h2 with ⟨rfl, q2, _⟩ | ⟨_, h2⟩
              · exact so.inj j i l _ d _ b h1 l1 e0 rfl s1 s2
              · exact so.inj j k l m d e b h1 l1 h2 l2 s1 s2
        refine ⟨.ref a, z, p HI H ⟨Same.refl _, fun _ x y => absurd x y, fun _ _ x _ => x, fun _ x => x, fun b ⟨j, d, h1, h2⟩ => ?_, fun j l d h hl => ?_⟩ so' (.ref a) (fun b => if b = a then some (.lst vs) else none) (fun b o q => ?_) (fun b hb ⟨j, d, h1, h2⟩ => ?_) (fun z => nomatch z) (.lst (.inl (.inl (by simp))) ra)⟩
        · rcases get_set h1 with ⟨_, q, _⟩ | ⟨_, h1⟩
          · cases q
          · exact ⟨j, d, h1, h2⟩
        · rcases get_set h with ⟨rfl, q, _⟩ | ⟨_, h⟩
          · exact ⟨_, _, e0, rfl⟩
          · exact ⟨l, d, h, hl⟩
        · by_cases hb : b = a
          · subst hb; simp at q; subst q; exact ha
          · simp [hb] at q
        · by_cases hba : b = a
          · subst hba
            rcases get_set h1 with ⟨_, q, _⟩ | ⟨hij, h1⟩
            · cases q
            · exact hij (so.inj i j _ _ _ d b e0 rfl h1 rfl z h2)
          · simp [hba] at hb
      | _ => rw [show fLock i ρ = none by unfold fLock; rw [e0]] at p; exact p.elim
    | lk d =>
      cases d with
      | list ds =>
        rw [show fLock i ρ = some (.ok (.list ds, [i]) ρ) by unfold fLock; rw [e0]] at p
        obtain ⟨a, vs, z, n, ha, ra⟩ := ow_addr so e0 rfl
        refine ⟨.ref a, z, p HI H Tr.refl so (.ref a) (fun b => if b = a then some (.lst vs) else none) (fun b o q => ?_) (fun b hb ⟨j, d, h1, h2⟩ => ?_) (fun z => nomatch z) (.lst (.inl (.inl (by simp))) ra)⟩
        · by_cases hb : b = a
          · subst hb; simp at q; subst q; exact ha
          · simp [hb] at q
        · by_cases hba : b = a
          · subst hba
            have := so.inj i j _ _ _ d b e0 rfl h1 rfl z h2
            subst this
            rw [e0] at h1
            cases h1
          · simp [hba] at hb
      | _ => rw [show fLock i ρ = none by unfold fLock; rw [e0]] at p; exact p.elim
end
end Ev
set_option Elab.async false
set_option linter.all false
set_option autoImplicit false
set_option maxRecDepth 100000
namespace Ev
open PySem PySem.Spec L2

/-- a heap without what stands at D -/
def mask (D : Addr) (H : Hp) : Hp := fun b => if b = D then none else H b
section
variable {K : PySem.W.Frag} {HI H HI1 H1 : Hp} {σ σ1 : L2.St} {ρ ρ1 ρ2 : Rho} {D : Addr}
theorem mask_D : mask D H D = none := by unfold mask; rw [if_pos rfl]
theorem mask_ne {b : Addr} (h : b ≠ D) : mask D H b = H b := by unfold mask; rw [if_neg h]
theorem mask_upd {o : HO} (h : H D = some o) : upd (mask D H) D o = H := by
  funext b
  by_cases hb : b = D
  · subst hb; rw [upd_same, h]
  · rw [upd_ne hb, mask_ne hb]
theorem mask_upd' {o : HO} : mask D (upd H D o) = mask D H := by
  funext b
  by_cases hb : b = D
  · subst hb; rw [mask_D, mask_D]
  · rw [mask_ne hb, mask_ne hb, upd_ne hb]
theorem mask_no (h : H D = none) : mask D H = H := by
  funext b
  by_cases hb : b = D
  · subst hb; rw [mask_D, h]
  · rw [mask_ne hb]
theorem tr_mask (t : Tr σ ρ HI H ρ1 HI1 H1) : Tr σ ρ HI (mask D H) ρ1 HI1 (mask D H1) := by
  refine ⟨t.exI, fun a h h2 => ?_, fun b o e n => ?_, fun b e => ?_, t.own, t.ows⟩
  · rcases t.new a h h2 with q | q
    · refine .inl ?_
      by_cases hb : a = D
      · subst hb; exact mask_D
      · rw [mask_ne hb]; exact q
    · exact .inr q
  · have hb : b ≠ D := fun z => by subst z; rw [mask_D] at e; cases e
    rw [mask_ne hb] at e ⊢
    exact t.keep b o e n
  · by_cases hb : b = D
    · subst hb; exact mask_D
    · rw [mask_ne hb] at e ⊢; exact t.dom b e
/-- D is none of the owned objects -/
def Off (σ : L2.St) (ρ : Rho) (D : Addr) : Prop := ∀ (i : Nat) (l : Sl) (d : PyData), ρ[i]? = some l → owd l = some d → σ[i]? ≠ some (some (V.ref D))
theorem off_of (s : SOk K HI H σ ρ) (h : H D = none) : Off σ ρ D := fun i l d h1 h2 z => by
  obtain ⟨a, e, _, q⟩ := s.mu i l d h1 h2
  rw [z] at e
  cases e
  cases d with
  | list ds => obtain ⟨vs, q, _⟩ := q; rw [h] at q; cases q
  | _ => exact q.elim
theorem off_tr (t : Tr σ ρ HI H ρ1 HI1 H1) (h : Off σ ρ D) : Off σ ρ1 D := fun i l d h1 h2 => by
  obtain ⟨l0, d0, q1, q2⟩ := t.ows i l d h1 h2
  exact h i l0 d0 q1 q2
theorem off_own (h : Off σ ρ D) : ¬ Own σ ρ D := fun ⟨i, d, h1, h2⟩ => h i _ d h1 rfl h2
theorem sok_mask (s : SOk K HI H σ ρ) (n : HI D = none) (h : Off σ ρ D) : SOk K HI (mask D H) σ ρ := by
  refine ⟨fun b o e => ?_, s.len, s.im, fun i l d h1 h2 => ?_, s.inj⟩
  · rw [mask_ne (fun z => by subst z; rw [n] at e; cases e)]; exact s.sub b o e
  · obtain ⟨a, e, q1, q⟩ := s.mu i l d h1 h2
    have ha : a ≠ D := fun z => h i l d h1 h2 (by rw [← z]; exact e)
    refine ⟨a, e, q1, ?_⟩
    cases d with
    | list ds => obtain ⟨vs, q, p⟩ := q; exact ⟨vs, by rw [mask_ne ha]; exact q, p⟩
    | _ => exact q.elim
/-- the object at D, no owned one, is another -/
theorem sok_at {o : HO} (s : SOk K HI (mask D H) σ ρ) (h : H D = some o) : SOk K HI H σ ρ := by
  have tp := TP.fresh (o := o) s.sub mask_D
  rw [mask_upd h] at tp
  exact s.tp tp
/-- a block's turn, seen from around it -/
theorem tr_back {vs is : List Nat} {ρt ρ3 : Rho} (t : Tr σ1 ρt HI H ρ3 HI1 H1) (hσ : ∀ i, i ∉ vs → σ1[i]? = σ[i]?) (ho : ∀ a, Own σ1 ρt a → Own σ ρ a) (hr : ∀ i, i ∉ vs → ρt[i]? = ρ[i]?) : Tr σ ρ HI H (backR ρ ρ3 vs) HI1 H1 := by
  refine ⟨t.exI, fun a h h2 => ?_, fun b o e n => t.keep b o e fun q => n (ho b q), t.dom, fun a q => ho a (t.own a (own_back hσ q)), fun i l d q ql => ?_⟩
  · rcases t.new a h h2 with q | q
    · exact .inl q
    · exact .inr (ho a q)
  · rcases backR_get q with e1 | ⟨hj, q⟩
    · subst e1; rw [keepS_ow] at ql; cases ql
    · obtain ⟨l0, d0, e0, q0⟩ := t.ows i l d q ql
      rw [hr i hj] at e0
      exact ⟨l0, d0, e0, q0⟩
end
def unlock : List Nat → Rho → Rho
  | [], r => r
  | i :: is, r => unlock is (match r[i]? with
    | some (.lk d) => r.set i (.mu d)
    | _ => r)
def isMu : Option Sl → Bool
  | some (.mu _) => true
  | _ => false
section
variable {K : PySem.W.Frag} {HI H HI1 H1 : Hp} {σ : L2.St} {ρ0 ρ : Rho}
theorem unlock1 {i : Nat} {d : D} (so : SOk K HI H σ ρ) (e0 : ρ[i]? = some (.lk d)) : SOk K HI H σ (ρ.set i (.mu d)) := by
  refine ⟨so.sub, by rw [List.length_set]; exact so.len, fun j d h => ?_, fun j l d h hl => ?_, fun j k l m d e b h1 l1 h2 l2 s1 s2 => ?_⟩
  · rcases get_set h with ⟨_, q, _⟩ | ⟨_, h⟩
    · cases q
    · exact so.im j d h
  · rcases get_set h with ⟨rfl, q, _⟩ | ⟨_, h⟩
    · subst q; cases hl; exact so.mu i _ _ e0 rfl
    · exact so.mu j l d h hl
  · rcases get_set h1 with ⟨rfl, q, _⟩ | ⟨_, h1⟩
    · rcases get_set h2 with ⟨rfl, q2, _⟩ | ⟨_, h2⟩
      · rfl
      · exact so.inj i k _ m _ e b e0 rfl h2 l2 s1 s2
    · rcases get_set h2 with ⟨rfl, q2, _⟩ | ⟨_, h2⟩
      · exact so.inj j i l _ d _ b h1 l1 e0 rfl s1 s2
      · exact so.inj j k l m d e b h1 l1 h2 l2 s1 s2
/-- seen from before the locks -/
theorem unlock_ok : ∀ (is : List Nat) (ρ : Rho), (∀ i ∈ is, isMu ρ0[i]? = true) → SOk K HI1 H1 σ ρ → Tr σ ρ0 HI H ρ HI1 H1 → SOk K HI1 H1 σ (unlock is ρ) ∧ Tr σ ρ0 HI H (unlock is ρ) HI1 H1
  | [], ρ, _, s, t => ⟨s, t⟩
  | i :: is, ρ, h, s, t => by
    unfold unlock
    split
    · rename_i d e0
      refine unlock_ok is _ (fun j hj => h j (List.mem_cons_of_mem _ hj)) (unlock1 s e0) ⟨t.exI, t.new, t.keep, t.dom, fun a ⟨j, e, h1, h2⟩ => ?_, fun j l e q ql => ?_⟩
      · rcases get_set h1 with ⟨rfl, q, _⟩ | ⟨_, h1⟩
        · have hm := h i (List.mem_cons_self)
          cases e1 : ρ0[i]? with
          | none => rw [e1] at hm; cases hm
          | some l =>
            rw [e1] at hm
            cases l with
            | mu d0 => exact ⟨i, d0, e1, h2⟩
            | _ => cases hm
        · exact t.own a ⟨j, e, h1, h2⟩
      · rcases get_set q with ⟨rfl, q, _⟩ | ⟨_, q⟩
        · exact t.ows i _ d e0 rfl
        · exact t.ows j l e q ql
    · exact unlock_ok is ρ (fun j hj => h j (List.mem_cons_of_mem _ hj)) s t
end
/-! ### comprehensions -/
def compL (tf : D → Rho → Option Rho) (vs : List Nat) (ft : M Bool) (fe : M D) : List D → M (List D)
  | [], r => some (.ok [] r)
  | d :: ds, r => match tf d (wipeR r vs) with
    | none => none
    | some r1 => match ft r1 with
      | some (.ok true r2) => match fe r2 with
        | some (.ok y r3) => match compL tf vs ft fe ds (backR r r3 vs) with
          | some (.ok ys r4) => some (.ok (y :: ys) r4)
          | _ => none
        | _ => none
      | some (.ok false r2) => compL tf vs ft fe ds (backR r r2 vs)
      | _ => none
def fComp (fi : M (List D × List Nat)) (tf : D → Rho → Option Rho) (vs : List Nat) (ft : M Bool) (fe : M D) : M (List D) := fun r => match fi r with
  | none => none
  | some (.ex c r1) => some (.ex c r1)
  | some (.ok (ds, lks) r1) => if szOk ds.length && lks.all (fun i => isMu r[i]?) then (match compL tf vs ft fe ds r1 with
    | some (.ok ys r2) => some (.ok ys (unlock lks r2))
    | _ => none) else none
theorem wipe_eq {σ σ2 : L2.St} {vs : List Nat} (hl : σ2.length = σ.length) (h : ∀ i, i ∉ vs → σ2[i]? = σ[i]?) : L2.wipe σ2 vs = L2.wipe σ vs := by
  have w : ∀ (vs : List Nat) (i : Nat) (s : L2.St), i ∈ vs → (L2.wipe s vs)[i]? = if i < s.length then some none else none := by
    intro vs
    induction vs with
    | nil => intro i s h; cases h
    | cons v vs ih =>
      intro i s h
      unfold L2.wipe
      by_cases e : v = i
      · subst e
        by_cases hi : v < s.length
        · rw [List.getElem?_set_self (by rw [wipe_length]; exact hi), if_pos hi]
        · rw [List.getElem?_eq_none (by rw [List.length_set, wipe_length]; omega), if_neg hi]
      · rw [List.getElem?_set_ne e]
        rcases List.mem_cons.mp h with z | z
        · exact absurd z.symm e
        · exact ih i s z
  refine List.ext_getElem? fun i => ?_
  by_cases hi : i ∈ vs
  · rw [w vs i σ2 hi, w vs i σ hi, hl]
  · rw [wipe_out hi, wipe_out hi, h i hi]
section
variable {K : PySem.W.Frag} {C : Exc} {W : WX} {wi : TI} {g : TG} {tt : TT} {te : TE} {vs is : List Nat} {fi : M (List D × List Nat)} {tf : D → Rho → Option Rho} {ft : M Bool} {fe : M D}
abbrev WF : WX := fun _ _ _ _ => False
theorem rf_lc (hi : RdI K W C wi fi) (hg : TgOk K g tf is) (his : ∀ i ∈ is, i ∈ vs) (ht : RdT K WF C tt ft) (he : Rd K WF C te fe) : RdF K W C (tLc wi g tt te vs) (fComp fi tf vs ft fe) := by
  intro ρ HI H σ Q so p
  refine hi ρ HI H σ _ so ?_
  unfold fComp at p
  cases hf : fi ρ with
  | none => rw [hf] at p; exact p.elim
  | some r =>
    cases r with
    | ex c ρ1 => rw [hf] at p; exact p
    | ok a ρ1 =>
      obtain ⟨ds, lks⟩ := a
      rw [hf] at p
      intro HI1 H1 tr1 so1 J HS hS hO _ hw D hD
      have p : Pt K W C σ ρ HI H (if szOk ds.length && lks.all (fun i => isMu ρ[i]?) then (match compL tf vs ft fe ds ρ1 with | some (.ok ys r2) => some (.ok ys (unlock lks r2)) | _ => none) else none) (fun ds HI' H' => ∀ p vs, H' p = none → RpAll K HI' vs ds → Q (.ref p) (upd H' p (.lst vs))) := p
      by_cases hc : (szOk ds.length && lks.all (fun i => isMu ρ[i]?)) = true
      · rw [if_pos hc] at p
        rw [Bool.and_eq_true, List.all_eq_true] at hc
        obtain ⟨hsz, hlk⟩ := hc
        cases hcl : compL tf vs ft fe ds ρ1 with
        | none => rw [hcl] at p; exact p.elim
        | some r =>
          cases r with
          | ex c r2 => rw [hcl] at p; exact p.elim
          | ok ys ρ2 =>
            rw [hcl] at p
            have hoff := off_of so1 hD
            have hI1 : HI1 D = none := so1.sub.free hD
            have hOD : HS D = none := hS.free hD
            -- the invariant
            refine ⟨fun i m H' => m = ds.length - i ∧ i ≤ ds.length ∧ ∃ HIi ρi acc dacc rest, H' D = some (.lst acc) ∧ HIi D = none ∧ SOk K HIi (mask D H') σ ρi ∧ Tr σ ρ1 HI1 H1 ρi HIi (mask D H') ∧ RpAll K HIi acc dacc ∧ acc.length ≤ i ∧
              compL tf vs ft fe (ds.drop i) ρi = some (.ok rest ρ2) ∧ dacc ++ rest = ys, ⟨ds.length, by simp, Nat.zero_le _, HI1, ρ1, [], [], ys, upd_same, hI1, by rw [mask_upd', mask_no hD]; exact so1, by rw [mask_upd', mask_no hD]; exact Tr.refl, .nil, Nat.le_refl _, by rw [List.drop_zero]; exact hcl, rfl⟩, ?_⟩
            rintro i m H2 ⟨rfl, hile, HIi, ρi, acc, dacc, rest, eD, nD, soi, tri, ra, hla, hcomp, hsum⟩
            have soH : SOk K HIi H2 σ ρi := sok_at soi eD
            have hoffi : Off σ ρi D := off_tr tri hoff
            have hkeep : Same HS H2 := fun b o q => by
              have hb : b ≠ D := fun z => by subst z; rw [hOD] at q; cases q
              have := tri.keep b o (hS b o q) (hO b (by rw [q]; exact Option.some_ne_none o))
              rw [mask_ne hb] at this
              exact this
            obtain ⟨hstop, hgo⟩ := hw HIi H2 tri.exI soH.sub hkeep
            by_cases hlt : i < ds.length
            · obtain ⟨d, hd⟩ : ∃ d, ds[i]? = some d := ⟨_, List.getElem?_eq_getElem hlt⟩
              obtain ⟨go, step⟩ := hgo i d hd
              refine .inr ⟨go, fun H' => (i + 1) ≤ ds.length ∧ ∃ HIi ρi acc dacc rest, H' D = some (.lst acc) ∧ HIi D = none ∧ SOk K HIi (mask D H') σ ρi ∧ Tr σ ρ1 HI1 H1 ρi HIi (mask D H') ∧ RpAll K HIi acc dacc ∧ acc.length ≤ i + 1 ∧
                compL tf vs ft fe (ds.drop (i + 1)) ρi = some (.ok rest ρ2) ∧ dacc ++ rest = ys, fun H' q => ⟨ds.length - (i + 1), by omega, rfl, q.1, q.2⟩, fun x H3 hy => ?_⟩
              obtain ⟨HI3, tp3, rx⟩ := step x H3 hy
              have so3 := soH.tp tp3
              have e3D : H3 D = some (.lst acc) := tp3.ex _ _ eD
              have n3D : HI3 D = none := by
                cases q : HI3 D with
                | none => rfl
                | some o =>
                  have := tp3.new D nD (by rw [q]; exact Option.some_ne_none o)
                  rw [eD] at this; cases this
              have hdrop : ds.drop i = d :: ds.drop (i + 1) := by
                rw [List.drop_eq_getElem_cons hlt]
                congr 1
                exact Option.some.inj ((List.getElem?_eq_getElem hlt).symm.trans hd)
              rw [hdrop] at hcomp
              unfold compL at hcomp
              cases htf : tf d (wipeR ρi vs) with
              | none => rw [htf] at hcomp; cases hcomp
              | some ρt =>
                rw [htf] at hcomp
                refine hg x d (wipeR ρi vs) ρt (L2.wipe σ vs) HI3 H3 _ (so3.wipe vs) rx htf fun σ1 sot ot kt lt => ?_
                have hσ1 : ∀ j, j ∉ vs → σ1[j]? = σ[j]? := fun j hj => by rw [(kt j fun z => hj (his j z)).1, wipe_out hj]
                have hρt : ∀ j, j ∉ vs → ρt[j]? = ρi[j]? := fun j hj => by
                  rw [(kt j fun z => hj (his j z)).2]
                  have : ∀ (vs : List Nat), j ∉ vs → (wipeR ρi vs)[j]? = ρi[j]? := by
                    intro vs
                    induction vs with
                    | nil => intro _; rfl
                    | cons v vs ih =>
                      intro h
                      rw [List.mem_cons, not_or] at h
                      unfold wipeR
                      rw [List.getElem?_set_ne (fun e => h.1 e.symm)]
                      exact ih h.2
                  exact this vs hj
                have hl1 : σ1.length = σ.length := lt.trans (wipe_length σ vs)
                have how : ∀ (j : Nat) (l : Sl) (e : PyData), ρt[j]? = some l → owd l = some e → ρi[j]? = some l ∧ σ1[j]? = σ[j]? := fun j l e h1 h2 => by
                  obtain ⟨q1, q2⟩ := ot j l e h1 h2
                  rcases wipeR_get q1 with z | ⟨hj, z⟩
                  · subst z; cases h2
                  · exact ⟨z, hσ1 j hj⟩
                have ho1 : ∀ a, Own σ1 ρt a → Own σ ρi a := fun a ⟨j, e, h1, h2⟩ => by
                  obtain ⟨q1, q2⟩ := how j _ e h1 rfl
                  exact ⟨j, e, q1, by rw [← q2]; exact h2⟩
                have hoff1 : Off σ1 ρt D := fun j l e h1 h2 z => by
                  obtain ⟨q1, q2⟩ := how j l e h1 h2
                  exact hoffi j l e q1 h2 (by rw [← q2]; exact z)
                have hbase : ∀ {r3 : Rho} {HI4 H4 : Hp}, Tr σ1 ρt HI3 H3 r3 HI4 H4 → SOk K HI4 H4 σ1 r3 → H4 D = some (.lst acc) ∧ HI4 D = none ∧ SOk K HI4 (mask D H4) σ (backR ρi r3 vs) ∧ Tr σ ρ1 HI1 H1 (backR ρi r3 vs) HI4 (mask D H4) := fun {r3 HI4 H4} t4 s4 => by
                  have e4 : H4 D = some (.lst acc) := t4.keep D _ e3D (off_own hoff1)
                  have n4 : HI4 D = none := by
                    cases q : HI4 D with
                    | none => rfl
                    | some o =>
                      rcases t4.new D n3D (by rw [q]; exact Option.some_ne_none o) with z | z
                      · rw [e3D] at z; cases z
                      · exact absurd z (off_own hoff1)
                  have sb : SOk K HI4 H4 σ (backR ρi r3 vs) := so3.back t4.exI s4 hl1 hσ1
                  have tb : Tr σ ρi HI3 H3 (backR ρi r3 vs) HI4 H4 := tr_back (is := is) t4 hσ1 ho1 hρt
                  have tb2 : Tr σ ρi HIi (mask D H2) (backR ρi r3 vs) HI4 (mask D H4) := tr_mask (tp3.tr.trans tb)
                  exact ⟨e4, n4, sok_mask sb n4 (off_tr tb hoffi), tri.trans tb2⟩
                refine ⟨wipe_eq hl1 hσ1, ht ρt HI3 H3 σ1 _ same_H0 sot ?_⟩
                have hcomp : (match ft ρt with
                  | some (.ok true r2) => match fe r2 with
                    | some (.ok y r3) => match compL tf vs ft fe (ds.drop (i + 1)) (backR ρi r3 vs) with
                      | some (.ok ys r4) => some (Ro.ok (y :: ys) r4)
                      | _ => none
                    | _ => none
                  | some (.ok false r2) => compL tf vs ft fe (ds.drop (i + 1)) (backR ρi r2 vs)
                  | _ => none) = some (Ro.ok rest ρ2) := hcomp
                cases hft : ft ρt with
                | none => rw [hft] at hcomp; cases hcomp
                | some rt =>
                  cases rt with
                  | ex c r2 => rw [hft] at hcomp; cases hcomp
                  | ok b r2 =>
                    rw [hft] at hcomp
                    intro HI4 H4 t4 s4 b' eb
                    subst eb
                    cases b' with
                    | false =>
                      obtain ⟨e4, n4, sb, tb⟩ := hbase t4 s4
                      exact ⟨hlt, HI4, _, acc, dacc, rest, e4, n4, sb, tb, dpa_mono (tp3.exI.trans t4.exI) ra, Nat.le_succ_of_le hla, hcomp, hsum⟩
                    | true =>
                      refine he r2 HI4 H4 σ1 _ same_H0 s4 ?_
                      have hcomp : (match fe r2 with
                        | some (.ok y r3) => match compL tf vs ft fe (ds.drop (i + 1)) (backR ρi r3 vs) with
                          | some (.ok ys r4) => some (Ro.ok (y :: ys) r4)
                          | _ => none
                        | _ => none) = some (Ro.ok rest ρ2) := hcomp
                      cases hfe : fe r2 with
                      | none => rw [hfe] at hcomp; cases hcomp
                      | some rt =>
                        cases rt with
                        | ex c r3 => rw [hfe] at hcomp; cases hcomp
                        | ok y r3 =>
                          rw [hfe] at hcomp
                          intro HI5 H5 t5 s5 v rv
                          have hcomp : (match compL tf vs ft fe (ds.drop (i + 1)) (backR ρi r3 vs) with
                            | some (.ok ys r4) => some (Ro.ok (y :: ys) r4)
                            | _ => none) = some (Ro.ok rest ρ2) := hcomp
                          cases hcl2 : compL tf vs ft fe (ds.drop (i + 1)) (backR ρi r3 vs) with
                          | none => rw [hcl2] at hcomp; cases hcomp
                          | some rt =>
                            cases rt with
                            | ex c r4 => rw [hcl2] at hcomp; cases hcomp
                            | ok zs r4 =>
                              rw [hcl2] at hcomp
                              cases hcomp
                              obtain ⟨e5, n5, sb, tb⟩ := hbase (t4.trans t5) s5
                              refine ⟨acc, e5, ?_, hlt, HI5, _, acc ++ [v], dacc ++ [y], zs, upd_same, n5, by rw [mask_upd']; exact sb, by rw [mask_upd']; exact tb, dpa_app (dpa_mono (tp3.exI.trans (t4.exI.trans t5.exI)) ra) (.cons rv .nil), by rw [List.length_append]; exact Nat.add_le_add_right hla 1, hcl2, by rw [List.append_assoc]; exact hsum⟩
                              have := szOk_lt hsz
                              omega
            · have e : i = ds.length := by omega
              subst e
              rw [List.drop_length] at hcomp
              cases hcomp
              rw [List.append_nil] at hsum
              subst hsum
              obtain ⟨sou, tru⟩ := unlock_ok lks _ hlk soi (tr1.trans tri)
              refine .inl ⟨hstop _ (Nat.le_refl _), ?_⟩
              have := p HIi (mask D H2) tru sou D acc mask_D ra
              rw [mask_upd eD] at this
              exact this
      · rw [if_neg hc] at p
        exact p.elim
end
end Ev
set_option Elab.async false
set_option linter.all false
set_option autoImplicit false
set_option maxRecDepth 100000
namespace Ev
open PySem PySem.Spec L2

def iAny (K : PySem.W.Frag) (tl : TE) : TI := fun σ H R => tl σ H fun x H1 => (∃ a xs, x = V.ref a ∧ SqL K H1 a xs ∧ R (Itl K a) H1) ∨ (∃ a xs, x = V.ref a ∧ SqT K H1 a xs ∧ R (Itt K a) H1) ∨ (∃ z, x = V.str z ∧ R (Its z) H1)
open PyProof.Rows in
theorem pi_any {X : Cx} {tg l : Expr} {tl : TE} (hl : PE X l tl) : PI X tg l (iAny X.K tl) := by
  constructor
  intro pins s σ H R I h
  refine thn (hl.run pins s σ H _ I h) ?_
  rintro v s1 ⟨x, H1, I1, r1, q1⟩
  rcases q1 with ⟨a, xs, rfl, hq, q⟩ | ⟨a, xs, rfl, hq, q⟩ | ⟨z, rfl, q⟩
  · cases r1
    obtain ⟨its, rv, pl, _⟩ := I1.list hq
    exact wpAny_pyIter_list pl.isList (pi_one (tk := s1.toks) I1 _ (turn_list a _) ⟨_, Heap.get?_push_size _ rfl, rfl, rfl⟩ q)
  · cases r1
    obtain ⟨its, rv, pl, _⟩ := I1.tuple hq
    exact wpAny_pyIter_tuple (show s1.heap.IsTuple a its.toArray from pl) (pi_one (tk := s1.toks) I1 _ (turn_tuple a _) ⟨_, Heap.get?_push_size _ rfl, rfl, rfl⟩ q)
  · obtain ⟨t, rfl⟩ := r1
    cases ha : z.cps.all (· < 128)
    · exact wpAny_pyIter_wide ha (pi_one (tk := s1.toks) I1 _ (turn_str _ z t "str_iterator" (.inr rfl)) ⟨_, Heap.get?_push_size _ rfl, rfl, rfl⟩ q)
    · exact wpAny_pyIter_ascii ha (pi_one (tk := s1.toks) I1 _ (turn_str _ z t "str_ascii_iterator" (.inl rfl)) ⟨_, Heap.get?_push_size _ rfl, rfl, rfl⟩ q)
/-- the items that one walks -/
def itemsOf : D → Option (List D)
  | .list xs => some xs
  | .tuple xs => some xs
  | .str z => some (z.cps.toList.map fun c => .str ⟨#[c]⟩)
  | _ => none
def fAny (f : M (D × List Nat)) : M (List D × List Nat) := mbind f fun p => mlift ((itemsOf p.1).map fun xs => (xs, p.2))
section
variable {K : PySem.W.Frag} {W : WX} {C : Exc} {te ta tb : TE} {f fa fb : M (D × List Nat)} {HI HS : Hp}
theorem same_l {a : Addr} {vs : List V} {H : Hp} (h : SqL K HS a vs) (s : Same HS H) : SqL K H a vs := seqL_mono s h
theorem walk_l {a : Addr} {vs : List V} {ds : List D} (h : SqL K HS a vs) (ra : RpAll K HI vs ds) : Walk K HI HS (Itl K a) ds := fun HI1 H s1 s2 s3 =>
  ⟨fun i hi => ⟨vs, same_l h s3, by rw [dpa_len ra]; exact hi⟩, fun i d hd => by
    obtain ⟨v, hv, rv⟩ := dpa_get ra hd
    refine ⟨⟨vs, v, same_l h s3, hv⟩, fun x H' ⟨e, hx⟩ => ?_⟩
    subst e
    have := (hx vs (same_l h s3)).symm.trans hv
    cases this
    exact ⟨HI1, TP.refl s2, dp_mono s1 rv⟩⟩
theorem walk_t {a : Addr} {vs : List V} {ds : List D} (h : SqT K HS a vs) (ra : RpAll K HI vs ds) : Walk K HI HS (Itt K a) ds := fun HI1 H s1 s2 s3 =>
  ⟨fun i hi => ⟨vs, seqT_mono s3 h, by rw [dpa_len ra]; exact hi⟩, fun i d hd => by
    obtain ⟨v, hv, rv⟩ := dpa_get ra hd
    refine ⟨⟨vs, v, seqT_mono s3 h, hv⟩, fun x H' ⟨e, hx⟩ => ?_⟩
    subst e
    have := (hx vs (seqT_mono s3 h)).symm.trans hv
    cases this
    exact ⟨HI1, TP.refl s2, dp_mono s1 rv⟩⟩
theorem walk_s (z : Str) : Walk K HI HS (Its z) (z.cps.toList.map fun c => .str ⟨#[c]⟩) := fun HI1 H s1 s2 s3 =>
  ⟨fun i hi => by simpa [Its] using hi, fun i d hd => by
    rw [List.getElem?_map] at hd
    obtain ⟨c, hc, rfl⟩ := Option.map_eq_some_iff.mp hd
    have hc' : z.cps[i]? = some c := by simpa using hc
    refine ⟨(Array.getElem?_eq_some_iff.mp hc').1, fun x H' ⟨e, c', h1, h2⟩ => ?_⟩
    subst e h2
    rw [hc'] at h1
    cases h1
    exact ⟨HI1, TP.refl s2, .str _⟩⟩
theorem ri_any (h : RdL K W C te f) : RdI K W C (iAny K te) (fAny f) := by
  intro ρ HI H σ R so p
  refine h ρ HI H σ _ so ?_
  unfold fAny at p
  cases hf : f ρ with
  | none => rw [mb_none hf] at p; exact p
  | some r =>
    cases r with
    | ex c ρ1 => rw [mb_ex hf] at p; exact p
    | ok a ρ1 =>
      obtain ⟨d, lks⟩ := a
      rw [mb_ok hf] at p
      intro HI' H' tr so' v HS hS hO hF rv
      cases rv with
      | lst h1 ra => exact .inl ⟨_, _, rfl, same_l h1 hS, p HI' H' tr so' _ HS hS hO hF (walk_l h1 ra)⟩
      | tup h1 ra => exact .inr (.inl ⟨_, _, rfl, seqT_mono hS h1, p HI' H' tr so' _ HS hS hO hF (walk_t h1 ra)⟩)
      | str z => exact .inr (.inr ⟨z, rfl, p HI' H' tr so' _ HS hS hO hF (walk_s z)⟩)
/-! ### range -/
def upto (lo : Int) : Nat → List D
  | 0 => []
  | n + 1 => .int lo :: upto (lo + 1) n
theorem upto_len : ∀ (n : Nat) (lo : Int), (upto lo n).length = n
  | 0, _ => rfl
  | n + 1, lo => by rw [upto, List.length_cons, upto_len n]
theorem upto_get : ∀ (n : Nat) (lo : Int) (i : Nat) (d : D), (upto lo n)[i]? = some d → d = .int (lo + i)
  | 0, lo, i, d, h => by simp [upto] at h
  | n + 1, lo, 0, d, h => by simp [upto] at h; rw [← h]; simp
  | n + 1, lo, i + 1, d, h => by
    have := upto_get n (lo + 1) i d (by simpa [upto] using h)
    rw [this]
    congr 1
    omega
theorem walk_r (lo : Int) (n : Nat) : Walk K HI HS (Itr lo n) (upto lo n) := fun HI1 H s1 s2 s3 =>
  ⟨fun i hi => by rw [upto_len] at hi; exact hi, fun i d hd => by
    have hi : i < n := by
      have := (List.getElem?_eq_some_iff.mp hd).1
      rw [upto_len] at this
      exact this
    refine ⟨hi, fun x H' ⟨e, hx⟩ => ?_⟩
    subst e hx
    rw [upto_get n lo i d hd]
    exact ⟨HI1, TP.refl s2, .int _⟩⟩
def smallI (i : Int) : Bool := decide (-1000000000 ≤ i) && decide (i ≤ 1000000000)
theorem smallI_of {i : Int} (h : smallI i = true) : -(2 ^ 62) ≤ i ∧ i < 2 ^ 62 := by
  unfold smallI at h
  rw [Bool.and_eq_true, decide_eq_true_eq, decide_eq_true_eq] at h
  omega
def gR1 : List D → Option (List D)
  | [.int j] => if smallI j then some (upto 0 j.toNat) else none
  | _ => none
def gR2 : List D → Option (List D)
  | [.int i, .int j] => if smallI i && smallI j then some (upto i (j - i).toNat) else none
  | _ => none
variable {tl : TA} {fl : M (List D)}
def fRg (g : List D → Option (List D)) (fl : M (List D)) : M (List D × List Nat) := mbind fl fun ds => mlift ((g ds).map fun xs => (xs, []))
theorem ri_r1 (h : RdA K W C tl fl) : RdI K W C (iRng1 tl) (fRg gR1 fl) := by
  intro ρ HI H σ R so p
  refine h ρ HI H σ _ same_H0 so ?_
  unfold fRg at p
  cases hf : fl ρ with
  | none => rw [mb_none hf] at p; exact p
  | some r =>
    cases r with
    | ex c ρ1 => rw [mb_ex hf] at p; exact p
    | ok ds ρ1 =>
      rw [mb_ok hf] at p
      intro HI' H' tr so' vs ra
      cases ra with
      | nil => exact False.elim p
      | cons r0 ra =>
        cases r0 with
        | int j =>
          cases ra with
          | nil =>
            cases hj : smallI j with
            | false => rw [gR1, hj] at p; exact False.elim p
            | true =>
              rw [gR1, hj] at p
              exact ⟨j, rfl, (smallI_of hj).1, (smallI_of hj).2, p HI' H' tr so' _ HI' so'.sub (fun b => own_HI so' b) (fun _ => Same.refl _) (walk_r 0 _)⟩
          | cons _ _ => exact False.elim p
        | _ => exact False.elim p
theorem ri_r2 (h : RdA K W C tl fl) : RdI K W C (iRng2 tl) (fRg gR2 fl) := by
  intro ρ HI H σ R so p
  refine h ρ HI H σ _ same_H0 so ?_
  unfold fRg at p
  cases hf : fl ρ with
  | none => rw [mb_none hf] at p; exact p
  | some r =>
    cases r with
    | ex c ρ1 => rw [mb_ex hf] at p; exact p
    | ok ds ρ1 =>
      rw [mb_ok hf] at p
      intro HI' H' tr so' vs ra
      cases ra with
      | nil => exact False.elim p
      | cons r0 ra =>
        cases r0 with
        | int i =>
          cases ra with
          | nil => exact False.elim p
          | cons r1 ra =>
            cases r1 with
            | int j =>
              cases ra with
              | nil =>
                cases hj : (smallI i && smallI j) with
                | false => rw [gR2, hj] at p; exact False.elim p
                | true =>
                  rw [gR2, hj] at p
                  rw [Bool.and_eq_true] at hj
                  exact ⟨i, j, rfl, ⟨(smallI_of hj.1).1, (smallI_of hj.1).2, (smallI_of hj.2).1, (smallI_of hj.2).2⟩, p HI' H' tr so' _ HI' so'.sub (fun b => own_HI so' b) (fun _ => Same.refl _) (walk_r i _)⟩
              | cons _ _ => exact False.elim p
            | _ => exact False.elim p
        | _ => exact False.elim p
/-! ### zip, enumerate, reversed -/
def zipD : List D → List D → List D
  | x :: xs, y :: ys => .tuple [x, y] :: zipD xs ys
  | _, _ => []
theorem zipD_get : ∀ {xs ys : List D} {i : Nat} {d : D}, (zipD xs ys)[i]? = some d → ∃ x y, xs[i]? = some x ∧ ys[i]? = some y ∧ d = .tuple [x, y]
  | [], _, i, d, h => by simp [zipD] at h
  | _ :: _, [], i, d, h => by simp [zipD] at h
  | x :: xs, y :: ys, 0, d, h => by simp [zipD] at h; exact ⟨x, y, rfl, rfl, h.symm⟩
  | x :: xs, y :: ys, i + 1, d, h => by
    obtain ⟨a, b, h1, h2, h3⟩ := zipD_get (xs := xs) (ys := ys) (i := i) (by simpa [zipD] using h)
    exact ⟨a, b, by simpa using h1, by simpa using h2, h3⟩
theorem zipD_len : ∀ (xs ys : List D) (i : Nat), (zipD xs ys).length ≤ i → xs.length ≤ i ∨ ys.length ≤ i
  | [], _, i, _ => .inl (Nat.zero_le _)
  | _ :: _, [], i, _ => .inr (Nat.zero_le _)
  | x :: xs, y :: ys, 0, h => by simp [zipD] at h
  | x :: xs, y :: ys, i + 1, h => by
    have := zipD_len xs ys i (by simpa [zipD] using h)
    rw [List.length_cons, List.length_cons]
    omega
theorem pair_new {HI1 H : Hp} {T : Addr} {x y : V} {d e : D} (s : Same HI1 H) (hT : H T = none) (r1 : Rp K HI1 x d) (r2 : Rp K HI1 y e) (n : isPr d = false) : ∃ HI', TP HI1 H HI' (upd H T (.tup [x, y])) ∧ Rp K HI' (.ref T) (.tuple [d, e]) :=
  ⟨upd HI1 T (.tup [x, y]), TP.new_ s hT, .tup (.inl (.inl upd_same)) (fun z => by simp [n] at z) (.cons (dp_mono (TP.new_ (o := .tup [x, y]) s hT).exI r1) (.cons (dp_mono (TP.new_ (o := .tup [x, y]) s hT).exI r2) .nil))⟩
/-! ### zip: the items in new pairs, known to their objects -/
def ItzN (S : Hp → Addr → List V → Prop) (a b : Addr) : It :=
  ⟨fun i H => ∃ (vs ws : List V) (v w : V), S H a vs ∧ S H b ws ∧ vs[i]? = some v ∧ ws[i]? = some w,
    fun i H r H' => ∃ T o v w, r = .ref T ∧ H T = none ∧ o.dict = none ∧ H' = upd H T (.frz o (.tup [v, w])) ∧ (∀ vs, S H a vs → vs[i]? = some v) ∧ ∀ ws, S H b ws → ws[i]? = some w,
    fun i H => ∃ vs ws : List V, S H a vs ∧ S H b ws ∧ (vs.length ≤ i ∨ ws.length ≤ i)⟩
/-- the state of a zip at its turn k -/
def ZipSt (Lt : Heap → Addr → Addr → Nat → Prop) (z p q l m a b : Addr) (k : Nat) (h : Heap) : Prop := IsZip h z p q .none ∧ IsPair h p (.ref l) (.ref m) ∧ (∃ x y, IsPair h q x y) ∧ Lt h l a k ∧ Lt h m b k
theorem of5 {a b c d e x : Addr} {P : Addr → Prop} (h : x ∈ [a, b, c, d, e]) (ha : P a) (hb : P b) (hc : P c) (hd : P d) (he : P e) : P x := by
  rcases (show x = a ∨ x = b ∨ x = c ∨ x = d ∨ x = e by simpa using h) with w | w | w | w | w <;> subst w <;> assumption
theorem nin5 {a b c d e x : Addr} (h : x ∉ [a, b, c, d, e]) : x ≠ a ∧ x ≠ b ∧ x ≠ c ∧ x ≠ d ∧ x ≠ e := by
  refine ⟨?_, ?_, ?_, ?_, ?_⟩ <;> (intro w; exact h (by simp [w]))
section
variable {P : Program} {w : World} {K : PySem.W.Frag}
theorem turn_zN {elts : List Expr} {kk : Nat} {tpos : Pos} {a b z p q l m : Addr} (S : Hp → Addr → List V → Prop) (Sq : Heap → Addr → Array Value → Prop) (Lt : Heap → Addr → Addr → Nat → Prop) (D : ZipApart z p q l m a b)
    (get : ∀ {X : Cx} {pins : List (Addr × Obj)} {σ : L2.St} {H : Hp} {s : Shared} {a : Addr} {vs : List V}, X.K = K → Inv X pins σ H s → S H a vs → ∃ us : List Value, Vals vs us ∧ Sq s.heap a us.toArray)
    (inj : ∀ {X : Cx} {pins : List (Addr × Obj)} {σ : L2.St} {H : Hp} {s : Shared} {a : Addr} {vs ws : List V}, X.K = K → Inv X pins σ H s → S H a vs → S H a ws → vs = ws)
    (ob : ∀ {h : Heap} {i c : Addr} {k : Nat}, Lt h i c k → ∃ o, h.get? i = some o ∧ ∀ v, o.data ≠ .cell v)
    (at_ : ∀ {h g : Heap} {i c : Addr} {k : Nat}, Lt h i c k → (∀ o, h.get? i = some o → g.get? i = some o) → Lt g i c k)
    (step : ∀ {A : Around} {E : Value → Shared → Prop} {s : Shared} {k : Nat} {xs ys : Array Value} {x y u v : Value} {R : Option Value → Shared → Prop}, IsZip s.heap z p q .none → IsPair s.heap p (.ref l) (.ref m) → IsPair s.heap q u v → Lt s.heap l a k → Lt s.heap m b k → Sq s.heap a xs → Sq s.heap b ys → xs[k]? = some x → ys[k]? = some y →
      (∀ g, IsZip g z p q (rawInt s.heap.objs.size) → IsPair g q x y → Lt g l a (k + 1) → Lt g m b (k + 1) → IsPair g s.heap.objs.size x y → (∀ c o, c ≠ z → c ≠ q → c ≠ l → c ≠ m → s.heap.get? c = some o → g.get? c = some o) → R (some (.ref s.heap.objs.size)) { s with heap := g }) →
      wpAny (model P w) A (pyNext (.ref z)) R E s)
    (fin : ∀ {A : Around} {E : Value → Shared → Prop} {s : Shared} {k : Nat} {xs ys : Array Value} {u v : Value} {R : Option Value → Shared → Prop}, A.handled = none → IsZip s.heap z p q .none → IsPair s.heap p (.ref l) (.ref m) → IsPair s.heap q u v → Lt s.heap l a k → Lt s.heap m b k → Sq s.heap a xs → Sq s.heap b ys → xs[k]? = none ∨ ys[k]? = none →
      (∀ g, (∀ c o, c ≠ z → c ≠ q → c ≠ l → c ≠ m → s.heap.get? c = some o → g.get? c = some o) → R none { s with heap := g }) → wpAny (model P w) A (pyNext (.ref z)) R E s) :
    Turn P w K (.Tuple elts kk tpos) (ItzN S a b) [z, p, q, l, m] z (ZipSt Lt z p q l m a b) where
  mem := List.mem_cons_self
  obj := fun k h ⟨sz, sp, ⟨_, _, sq⟩, sl, sm⟩ c hc => of5 (P := fun c => ∃ o, h.get? c = some o ∧ ∀ v, o.data ≠ .cell v) hc ⟨_, sz, fun _ e => nomatch e⟩ ⟨_, sp, fun _ e => nomatch e⟩ ⟨_, sq, fun _ e => nomatch e⟩ (ob sl) (ob sm)
  keep := fun k h g ⟨sz, sp, ⟨x, y, sq⟩, sl, sm⟩ e => ⟨e z (by simp) _ sz, e p (by simp) _ sp, ⟨x, y, e q (by simp) _ sq⟩, at_ sl (e l (by simp)), at_ sm (e m (by simp))⟩
  item := by
    intro X hP hw hK _ k pins s σ H E I hf ⟨sz, sp, ⟨x0, y0, sq⟩, sl, sm⟩ ⟨vs, ws, v, t, ha, hb, hv, ht⟩
    subst hP hw
    obtain ⟨us, ru, pa⟩ := get hK I ha
    obtain ⟨ts, rt, pb⟩ := get hK I hb
    obtain ⟨u, hu, rv⟩ := ru.get hv
    obtain ⟨y, hy, ry⟩ := rt.get ht
    refine step sz sp sq sl sm pa pb (by simpa using hu) (by simpa using hy) fun g gz gq gl gm gT gk => ⟨_, rfl, wpAny_letOwnedTupleGo_zip (s := { s with heap := g }) gz fun f fz sb => ?_⟩
    have lz : z < s.heap.objs.size := Heap.lt_size sz
    have fT : f.get? s.heap.objs.size = some (tupObj [u, y]) := (sb.2 _ (Nat.ne_of_gt lz)).trans gT
    have I1 := I.turnedNew (t' := s.toks) (h' := f) (ch := [z, p, q, l, m]) (fun c o hc e => by
      obtain ⟨h1, h2, h3, h4, h5⟩ := nin5 hc
      exact (sb.2 c h1).trans (gk c o h1 h3 h4 h5 e)) hf (Nat.le_refl _) (ob_tup (xs := [v, t]) (by show 2 ≤ sizeLine; decide) (.cons rv (.cons ry .nil)) fT)
    refine ⟨.ref _, _, I1, rfl, ⟨_, _, v, t, rfl, I.hok.fresh (Nat.le_refl _), rfl, rfl, fun vs' h' => ?_, fun ws' h' => ?_⟩, ⟨fz, (sb.2 _ D.TIz).trans (gk _ _ D.TIz D.TITO D.TIi1 D.TIi2 sp), ⟨u, y, (sb.2 _ D.TOz).trans gq⟩, at_ gl fun o e => (sb.2 _ D.i1z).trans e, at_ gm fun o e => (sb.2 _ D.i2z).trans e⟩, fun c hc => ?_⟩
    · rw [inj hK I h' ha]; exact hv
    · rw [inj hK I h' hb]; exact ht
    · have lt : c < s.heap.objs.size := of5 (P := fun c => c < s.heap.objs.size) hc lz (Heap.lt_size sp) (Heap.lt_size sq) (Heap.lt_size (ob sl).choose_spec.1) (Heap.lt_size (ob sm).choose_spec.1)
      rw [upd_ne (Nat.ne_of_lt lt)]
      exact (hf c hc).1
  done := by
    intro X hP hw hK hc k pins s σ H E I hf ⟨sz, sp, ⟨x0, y0, sq⟩, sl, sm⟩ ⟨vs, ws, ha, hb, he⟩
    subst hP hw
    obtain ⟨us, ru, pa⟩ := get hK I ha
    obtain ⟨ts, rt, pb⟩ := get hK I hb
    have n1 := ru.length
    have n2 := rt.length
    refine fin (I.ok.hd hc) sz sp sq sl sm pa pb (he.imp (fun e => by simp; omega) fun e => by simp; omega) fun g gk => ⟨rfl, I.turnedL (t' := s.toks) (ch := [z, p, q, l, m]) (fun c o hc e => ?_) hf⟩
    obtain ⟨h1, h2, h3, h4, h5⟩ := nin5 hc
    exact gk c o h1 h3 h4 h5 e
  self := fun _ _ _ _ _ st h => wpAny_pyIter_zip st.1 h
theorem lit_ob {T : String} {h : Heap} {i c : Addr} {k : Nat} (x : h.IsListIter i c k) : ∃ o, h.get? i = some o ∧ ∀ v, o.data ≠ .cell v := by
  obtain ⟨o, e, _, d⟩ := x
  exact ⟨o, e, fun v z => by rw [d] at z; cases z⟩
theorem tit_ob {h : Heap} {i c : Addr} {k : Nat} (x : h.IsTupleIter i c k) : ∃ o, h.get? i = some o ∧ ∀ v, o.data ≠ .cell v := by
  obtain ⟨o, e, _, d⟩ := x
  exact ⟨o, e, fun v z => by rw [d] at z; cases z⟩
def iZipN (K : PySem.W.Frag) (ta : TA) : TI := fun σ H R => ta σ H fun vs H1 => ∃ (a b : Addr) (xs ys : List V), vs = [.ref a, .ref b] ∧ ((SqL K H1 a xs ∧ SqL K H1 b ys ∧ R (ItzN (SqL K) a b) H1) ∨ (SqT K H1 a xs ∧ SqT K H1 b ys ∧ R (ItzN (SqT K) a b) H1))
theorem pi_zipN {X : Cx} {e e2 : Expr} {ta : TA} {p pos tpos : Pos} {elts : List Expr} {kk : Nat} (hg : Gl X "zip") (hm : X.mg "zip" = none) (ha : PA X [e, e2] ta)
    (hs : starEach [e, e2] X.env = (false, eval e X.env) :: starEach [e2] X.env := by rfl) (hpl : (backTo pos (starEach [e2] X.env)).any (·.1) = false := by rfl) : PI X (.Tuple elts kk tpos) (.Call (.Name "zip" p) [e, e2] [] pos) (iZipN X.K ta) := by
  refine ⟨fun pins s σ H R I h => PyProof.Rows.Call_ (ld_blt I hg hm PyProof.Rows.boot_zip (PyProof.Rows.callWith_type1 (thn (ha.run pos pins s σ H _ I h) fun us s1 ⟨vs, H1, I1, r1, a, b, xs, ys, ex, q1⟩ => ?_) hs hpl))⟩
  subst ex
  obtain ⟨u, rest, rfl, ru, r2⟩ : ∃ u rest, us = u :: rest ∧ RelV (.ref a) u ∧ Vals [.ref b] rest := by
    cases r1 with
    | cons r rr => exact ⟨_, _, rfl, r, rr⟩
  obtain ⟨v, rfl, rv⟩ := vals1 r2
  cases ru
  cases rv
  have fr : ∀ c, c ∈ [s1.heap.objs.size + 4, s1.heap.objs.size + 2, s1.heap.objs.size + 3, s1.heap.objs.size, s1.heap.objs.size + 1] → FpOk X pins H1 c := fun c hc => by
    have hle : s1.heap.objs.size ≤ c := of5 (P := fun c => s1.heap.objs.size ≤ c) hc (Nat.le_add_right _ _) (Nat.le_add_right _ _) (Nat.le_add_right _ _) (Nat.le_refl _) (Nat.le_add_right _ _)
    exact I1.fpOk hle (I1.hok.fresh hle)
  rcases q1 with ⟨qx, qy, q⟩ | ⟨qx, qy, q⟩
  · obtain ⟨_, _, pa, _⟩ := I1.list qx
    obtain ⟨_, _, pb, _⟩ := I1.list qy
    refine call_zip_2 pa.isList pb.isList fun g gz gp gq gl gm _ gk => wpAny_pyIter_zip gz ?_
    refine ⟨s1.heap.objs.size + 4, [s1.heap.objs.size + 4, s1.heap.objs.size + 2, s1.heap.objs.size + 3, s1.heap.objs.size, s1.heap.objs.size + 1], ZipSt Heap.IsListIter (s1.heap.objs.size + 4) (s1.heap.objs.size + 2) (s1.heap.objs.size + 3) s1.heap.objs.size (s1.heap.objs.size + 1) a b, _, H1, rfl, I1.kept (t' := s1.toks) gk, ?_, ⟨gz, gp, ⟨_, _, gq⟩, gl, gm⟩, fr, q⟩
    have D := PySem.W.ktu_apart s1.heap.objs.size a b pa.lt pb.lt
    exact turn_zN (SqL X.K) Heap.IsList Heap.IsListIter D (fun hK I h => by obtain ⟨us, r, p, _⟩ := I.list (hK.symm ▸ h); exact ⟨us, r, p.isList⟩) (fun hK I h h' => I.list_inj (hK.symm ▸ h) (hK.symm ▸ h')) (lit_ob (T := "")) (fun x e => x.at e)
      (fun a1 a2 a3 a4 a5 a6 a7 a8 a9 k => wpAny_pyNext_zip_item D a1 a2 a3 a4 a5 a6 a7 a8 a9 fun g b1 b2 b3 b4 b5 _ b6 => k g b1 b2 b3 b4 b5 b6) (fun a0 a1 a2 a3 a4 a5 a6 a7 a8 k => wpAny_pyNext_zip_end a0 D a1 a2 a3 a4 a5 a6 a7 a8 k)
  · obtain ⟨_, _, pa, _⟩ := I1.tuple qx
    obtain ⟨_, _, pb, _⟩ := I1.tuple qy
    refine RZ.call_zipT pa pb fun g gz gp gq gl gm _ gk => wpAny_pyIter_zip gz ?_
    refine ⟨s1.heap.objs.size + 4, [s1.heap.objs.size + 4, s1.heap.objs.size + 2, s1.heap.objs.size + 3, s1.heap.objs.size, s1.heap.objs.size + 1], ZipSt Heap.IsTupleIter (s1.heap.objs.size + 4) (s1.heap.objs.size + 2) (s1.heap.objs.size + 3) s1.heap.objs.size (s1.heap.objs.size + 1) a b, _, H1, rfl, I1.kept (t' := s1.toks) gk, ?_, ⟨gz, gp, ⟨_, _, gq⟩, gl, gm⟩, fr, q⟩
    have D := PySem.W.ktu_apart s1.heap.objs.size a b (Heap.lt_size (id pa).choose_spec.1) (Heap.lt_size (id pb).choose_spec.1)
    exact turn_zN (SqT X.K) Heap.IsTuple Heap.IsTupleIter D (fun hK I h => by obtain ⟨us, r, p, _⟩ := I.tuple (hK.symm ▸ h); exact ⟨us, r, p⟩) (fun hK I h h' => I.tuple_inj (hK.symm ▸ h) (hK.symm ▸ h')) tit_ob (fun x e => x.at e)
      (fun a1 a2 a3 a4 a5 a6 a7 a8 a9 k => RZ.pyNext_zipT_item D a1 a2 a3 a4 a5 a6 a7 a8 a9 fun g b1 b2 b3 b4 b5 _ b6 => k g b1 b2 b3 b4 b5 b6) (fun a0 a1 a2 a3 a4 a5 a6 a7 a8 k => RZ.pyNext_zipT_end a0 D a1 a2 a3 a4 a5 a6 a7 a8 k)
end
theorem walk_zn {S : Hp → Addr → List V → Prop} (mo : ∀ {H1 H2 : Hp} {c : Addr} {us : List V}, Same H1 H2 → S H1 c us → S H2 c us) {a b : Addr} {vs ws : List V} {ds es : List D} (h : S HS a vs) (ra : RpAll K HI vs ds) (h' : S HS b ws) (rb : RpAll K HI ws es) :
    Walk K HI HS (ItzN S a b) (zipD ds es) := fun HI1 H s1 s2 s3 =>
  ⟨fun i hi => ⟨vs, ws, mo s3 h, mo s3 h', by rw [dpa_len ra, dpa_len rb]; exact zipD_len _ _ _ hi⟩, fun i d hd => by
    obtain ⟨x, y, hx, hy, rfl⟩ := zipD_get hd
    obtain ⟨v, hv, rv⟩ := dpa_get ra hx
    obtain ⟨w, hw, rw'⟩ := dpa_get rb hy
    refine ⟨⟨vs, ws, v, w, mo s3 h, mo s3 h', hv, hw⟩, fun q H' ⟨T, o, x', y', e1, hT, ho, e2, h1, h2⟩ => ?_⟩
    subst e1 e2
    cases (h1 vs (mo s3 h)).symm.trans hv
    cases (h2 ws (mo s3 h')).symm.trans hw
    exact ⟨_, TP.new_ s2 hT, rp_tupN ho s2 hT (.cons (dp_mono s1 rv) (.cons (dp_mono s1 rw') .nil))⟩⟩
def zipOf : D → D → Option (List D)
  | .list xs, .list ys => some (zipD xs ys)
  | .tuple xs, .tuple ys => some (zipD xs ys)
  | _, _ => none
def fZip (fa fb : M (D × List Nat)) : M (List D × List Nat) := mbind fa fun p => mbind fb fun q => mlift ((zipOf p.1 q.1).map fun xs => (xs, p.2 ++ q.2))
theorem rpS_mono {HI' HS' : Hp} {v : V} {d : D} (e : Same HI HI') (e' : Same HS HS') (h : RpS K HI HS v d) : RpS K HI' HS' v d := by
  cases h with
  | lst h ra => exact .lst (seqL_mono e' h) (dpa_mono e ra)
  | tup h ra => exact .tup (seqT_mono e' h) (dpa_mono e ra)
  | str z => exact .str z
theorem ri_zip (h1 : RdL K W C ta fa) (h2 : RdL K W C tb fb) : RdI K W C (iZipN K (tCons ta (tCons tb tNil))) (fZip fa fb) := by
  intro ρ HI H σ R so p
  refine h1 ρ HI H σ _ so ?_
  unfold fZip at p
  cases hf : fa ρ with
  | none => rw [mb_none hf] at p; exact p
  | some r =>
    cases r with
    | ex c ρ1 => rw [mb_ex hf] at p; exact p
    | ok a ρ1 =>
      obtain ⟨d, l1⟩ := a
      rw [mb_ok hf] at p
      intro HI1 H1 tr1 so1 v HS1 hS1 hO1 hF1 rv
      refine h2 ρ1 HI1 H1 σ _ so1 ?_
      cases hf2 : fb ρ1 with
      | none => rw [mb_none hf2] at p; exact p
      | some r =>
        cases r with
        | ex c ρ2 => rw [mb_ex hf2] at p; exact fun HI' H' tr so' => p HI' H' (tr1.trans tr) so'
        | ok a ρ2 =>
          obtain ⟨e, l2⟩ := a
          rw [mb_ok hf2] at p
          intro HI2 H2 tr2 so2 w HS2 hS2 hO2 hF2 rw'
          have k1 : Same HS1 H2 := fun b o q => tr2.keep b o (hS1 b o q) (hO1 b (by rw [q]; exact Option.some_ne_none o))
          have n1 : ∀ b, HS1 b ≠ none → ¬ Own σ ρ2 b := fun b q z => hO1 b q (tr2.own b z)
          have hU : ∃ HS, Same HS1 HS ∧ Same HS2 HS ∧ Same HS H2 ∧ (∀ b, HS b ≠ none → ¬ Own σ ρ2 b) ∧ (l1 ++ l2 = [] → Same HS HI2) := by
            refine ⟨fun b => match HS1 b with | some o => some o | none => HS2 b, fun b o q => by simp [q], fun b o q => ?_, fun b o q => ?_, fun b q => ?_, fun z b o q => ?_⟩
            · cases q1 : HS1 b with
              | none => simpa [q1] using q
              | some o' =>
                have z1 := k1 b o' q1
                have z2 := hS2 b o q
                rw [z1] at z2
                simpa [q1] using z2
            · cases q1 : HS1 b with
              | none => exact hS2 b o (by simpa [q1] using q)
              | some o' => exact k1 b o (by rw [q1]; simpa [q1] using q)
            · cases q1 : HS1 b with
              | none => exact hO2 b (by simpa [q1] using q)
              | some o' => exact n1 b (by rw [q1]; exact Option.some_ne_none o')
            · rw [List.append_eq_nil_iff] at z
              cases q1 : HS1 b with
              | none => exact hF2 z.2 b o (by simpa [q1] using q)
              | some o' => exact tr2.exI b o (hF1 z.1 b o (by rw [q1]; simpa [q1] using q))
          obtain ⟨HS, u1, u2, u3, u4, u5⟩ := hU
          have rv' := rpS_mono tr2.exI u1 rv
          have rw2 := rpS_mono (Same.refl HI2) u2 rw'
          cases rv' with
          | lst x1 ra =>
            cases rw2 with
            | lst x2 rb => exact ⟨_, _, _, _, rfl, .inl ⟨same_l x1 u3, same_l x2 u3, p HI2 H2 (tr1.trans tr2) so2 _ HS u3 u4 u5 (walk_zn (S := SqL K) (fun e h => seqL_mono e h) x1 ra x2 rb)⟩⟩
            | _ => exact False.elim p
          | tup x1 ra =>
            cases rw2 with
            | tup x2 rb => exact ⟨_, _, _, _, rfl, .inr ⟨seqT_mono u3 x1, seqT_mono u3 x2, p HI2 H2 (tr1.trans tr2) so2 _ HS u3 u4 u5 (walk_zn (S := SqT K) (fun e h => seqT_mono e h) x1 ra x2 rb)⟩⟩
            | _ => exact False.elim p
          | str z => cases rw2 <;> exact False.elim p
def enumD (n : Int) : List D → List D
  | [] => []
  | x :: xs => .tuple [.int n, x] :: enumD (n + 1) xs
theorem enumD_len : ∀ (xs : List D) (n : Int), (enumD n xs).length = xs.length
  | [], _ => rfl
  | x :: xs, n => by rw [enumD, List.length_cons, List.length_cons, enumD_len xs]
theorem enumD_get : ∀ {xs : List D} {n : Int} {i : Nat} {d : D}, (enumD n xs)[i]? = some d → ∃ x, xs[i]? = some x ∧ d = .tuple [.int (n + i), x]
  | [], _, i, d, h => by simp [enumD] at h
  | x :: xs, n, 0, d, h => by simp [enumD] at h; exact ⟨x, rfl, by rw [← h]; simp⟩
  | x :: xs, n, i + 1, d, h => by
    obtain ⟨y, h1, h2⟩ := enumD_get (xs := xs) (n := n + 1) (i := i) (by simpa [enumD] using h)
    refine ⟨y, by simpa using h1, ?_⟩
    rw [h2]
    congr 3
    omega
theorem walk_e {a : Addr} {vs : List V} {ds : List D} (h : SqL K HS a vs) (ra : RpAll K HI vs ds) : Walk K HI HS (Ite K a) (enumD 0 ds) := fun HI1 H s1 s2 s3 =>
  ⟨fun i hi => ⟨vs, same_l h s3, by rw [enumD_len] at hi; rw [dpa_len ra]; exact hi⟩, fun i d hd => by
    obtain ⟨x, hx, rfl⟩ := enumD_get hd
    obtain ⟨v, hv, rv⟩ := dpa_get ra hx
    refine ⟨⟨vs, v, same_l h s3, hv⟩, fun q H' ⟨T, x', e1, hT, e2, h1⟩ => ?_⟩
    subst e1 e2
    have z1 := (h1 vs (same_l h s3)).symm.trans hv
    cases z1
    rw [Int.zero_add]
    exact pair_new s2 hT (.int _) (dp_mono s1 rv) rfl⟩
def fEnum (f : M (D × List Nat)) : M (List D × List Nat) := mbind f fun p => mlift (match p.1 with | .list xs => some (enumD 0 xs, p.2) | _ => none)
theorem ri_enum (h : RdL K W C te f) : RdI K W C (iEnum K (tCons te tNil)) (fEnum f) := by
  intro ρ HI H σ R so p
  refine h ρ HI H σ _ so ?_
  unfold fEnum at p
  cases hf : f ρ with
  | none => rw [mb_none hf] at p; exact p
  | some r =>
    cases r with
    | ex c ρ1 => rw [mb_ex hf] at p; exact p
    | ok a ρ1 =>
      obtain ⟨d, lks⟩ := a
      rw [mb_ok hf] at p
      intro HI' H' tr so' v HS hS hO hF rv
      cases rv with
      | lst h1 ra => exact ⟨_, _, rfl, same_l h1 hS, p HI' H' tr so' _ HS hS hO hF (walk_e h1 ra)⟩
      | _ => exact False.elim p
end
end Ev
set_option Elab.async false
set_option linter.all false
set_option autoImplicit false
set_option maxRecDepth 100000
namespace Ev
open PySem PySem.Spec L2

inductive So where
  | nx (r : Rho)
  | rt (fr : Bool) (d : D) (r : Rho)
  | bk (r : Rho)
  | ct (r : Rho)
  | ex (c : Xc) (r : Rho)
abbrev MS := Rho → Option So
/-- where a body stands beside its entry; Ps: the parameters that are changed for the caller -/
structure Ent (Ps : List (Nat × Addr)) (HB HI0 H0 HI H : Hp) (σ : L2.St) (ρ : Rho) : Prop where
  base : Same HB HI
  exI : Same HI0 HI
  new : ∀ a, HI0 a = none → HI a ≠ none → H0 a = none ∨ ∃ j, (j, a) ∈ Ps
  keep : ∀ b o, H0 b = some o → (¬ ∃ j, (j, b) ∈ Ps) → H b = some o
  dom : ∀ b, H b = none → H0 b = none
  own : ∀ (i : Nat) (l : Sl) (d : D) (a : Addr), ρ[i]? = some l → owd l = some d → σ[i]? = some (some (V.ref a)) → (i, a) ∈ Ps ∨ H0 a = none
  par : ∀ p ∈ Ps, σ[p.1]? = some (some (V.ref p.2))
section
variable {K : PySem.W.Frag} {Ps : List (Nat × Addr)} {HB HI0 H0 HI H HI1 H1 : Hp} {σ : L2.St} {ρ ρ1 : Rho}
theorem Ent.own' (e : Ent Ps HB HI0 H0 HI H σ ρ) {a : Addr} (h : Own σ ρ a) : (∃ j, (j, a) ∈ Ps) ∨ H0 a = none := by
  obtain ⟨i, d, h1, h2⟩ := h
  rcases e.own i _ d a h1 rfl h2 with q | q
  · exact .inl ⟨i, q⟩
  · exact .inr q
theorem Ent.tr (s : SOk K HI H σ ρ) (e : Ent Ps HB HI0 H0 HI H σ ρ) (t : Tr σ ρ HI H ρ1 HI1 H1) : Ent Ps HB HI0 H0 HI1 H1 σ ρ1 := by
  refine ⟨e.base.trans t.exI, e.exI.trans t.exI, fun a h h2 => ?_, fun b o h n => ?_, fun b h => e.dom b (t.dom b h), fun i l d a h hl hs => ?_, e.par⟩
  · cases q : HI a with
    | none =>
      rcases t.new a q h2 with z | z
      · exact .inl (e.dom a z)
      · rcases e.own' z with w | w
        · exact .inr w
        · exact .inl w
    | some o => exact e.new a h (by rw [q]; exact Option.some_ne_none o)
  · refine t.keep b o (e.keep b o h n) fun z => ?_
    rcases e.own' z with w | w
    · exact n w
    · rw [h] at w; cases w
  · obtain ⟨l0, d0, q1, q2⟩ := t.ows i l d h hl
    exact e.own i l0 d0 a q1 q2 hs
/-- slots changed: what is owned behind was owned ahead -/
theorem Ent.slots {σ1 : L2.St} (e : Ent Ps HB HI0 H0 HI H σ ρ) (h : ∀ (i : Nat) (l : Sl) (d : D), ρ1[i]? = some l → owd l = some d → ρ[i]? = some l ∧ σ1[i]? = σ[i]?) (hp : ∀ p ∈ Ps, σ1[p.1]? = σ[p.1]?) : Ent Ps HB HI0 H0 HI H σ1 ρ1 :=
  ⟨e.base, e.exI, e.new, e.keep, e.dom, fun i l d a h1 h2 h3 => by
    obtain ⟨q1, q2⟩ := h i l d h1 h2
    exact e.own i l d a q1 h2 (by rw [← q2]; exact h3), fun p hm => by rw [hp p hm]; exact e.par p hm⟩
end
section
variable (K : PySem.W.Frag) (W : WX) (C : Exc)
def PtS (Ps : List (Nat × Addr)) (HB HI0 H0 : Hp) (r : Option So) (D : Ends) : Prop := match r with
  | none => False
  | some (.nx ρ) => ∀ HI H σ, SOk K HI H σ ρ → Ent Ps HB HI0 H0 HI H σ ρ → D.nx σ H
  | some (.bk ρ) => ∀ HI H σ, SOk K HI H σ ρ → Ent Ps HB HI0 H0 HI H σ ρ → D.bk σ H
  | some (.ct ρ) => ∀ HI H σ, SOk K HI H σ ρ → Ent Ps HB HI0 H0 HI H σ ρ → D.ct σ H
  | some (.ex c ρ) => ∀ HI H σ, SOk K HI H σ ρ → Ent Ps HB HI0 H0 HI H σ ρ → WC K C (fun cls d H => W cls d σ H) c HI H
  | some (.rt false d ρ) => ∀ HI H σ, SOk K HI H σ ρ → Ent Ps HB HI0 H0 HI H σ ρ → ∀ v, Rp K HI v d → D.rt v H
  | some (.rt true (.list ds) ρ) => ∀ HI H σ, SOk K HI H σ ρ → Ent Ps HB HI0 H0 HI H σ ρ → ∀ p vs, H p = none → RpAll K HI vs ds → D.rt (.ref p) (upd H p (.lst vs))
  | some (.rt true _ _) => False
/-- PI: the parameters that are changed for the caller -/
def RdS (PI : List Nat) (t : TS) (g : MS) : Prop := ∀ (Ps : List (Nat × Addr)) (HB HI0 H0 : Hp), (∀ p ∈ Ps, p.1 ∈ PI) → ∀ ρ HI H σ D, SOk K HI H σ ρ → Ent Ps HB HI0 H0 HI H σ ρ → PtS K W C Ps HB HI0 H0 (g ρ) D → t D σ H
end
/-- an expression, then a statement's end -/
def sbind {α : Type} (f : M α) (g : α → MS) : MS := fun r => match f r with
  | none => none
  | some (.ok a r') => g a r'
  | some (.ex c r') => some (.ex c r')
theorem sb_none {α : Type} {f : M α} {g : α → MS} {ρ : Rho} (h : f ρ = none) : sbind f g ρ = none := by unfold sbind; rw [h]
theorem sb_ok {α : Type} {f : M α} {g : α → MS} {ρ ρ1 : Rho} {a : α} (h : f ρ = some (.ok a ρ1)) : sbind f g ρ = g a ρ1 := by unfold sbind; rw [h]
theorem sb_ex {α : Type} {f : M α} {g : α → MS} {ρ ρ1 : Rho} {c : Xc} (h : f ρ = some (.ex c ρ1)) : sbind f g ρ = some (.ex c ρ1) := by unfold sbind; rw [h]
section
variable {K : PySem.W.Frag} {W : WX} {C : Exc} {PI : List Nat} {te : TE} {fe : M D} {t u : TS} {f g : MS}
/-- the general step: an expression's reading, then k -/
theorem rds_of {α β : Type} {R : Hp → Hp → β → α → Prop} {tx : L2.St → Hp → (β → Hp → Prop) → Prop} {fx : M α} {k : α → MS} {u : β → TS} (h : RdG K W C R H0 tx fx)
    (hk : ∀ (Ps : List (Nat × Addr)) (HB HI0 H0 : Hp), (∀ p ∈ Ps, p.1 ∈ PI) → ∀ ρ HI H σ D a b, SOk K HI H σ ρ → Ent Ps HB HI0 H0 HI H σ ρ → R HI H b a → PtS K W C Ps HB HI0 H0 (k a ρ) D → u b D σ H) : RdS K W C PI (fun D σ H => tx σ H fun b H1 => u b D σ H1) (sbind fx k) := by
  intro Ps HB HI0 H0 hps ρ HI H σ D so en p
  refine h ρ HI H σ _ same_H0 so ?_
  cases hf : fx ρ with
  | none => rw [sb_none hf] at p; exact False.elim p
  | some r =>
    cases r with
    | ex c ρ1 =>
      rw [sb_ex hf] at p
      exact fun HI' H' tr so' => p HI' H' σ so' (en.tr so tr)
    | ok a ρ1 =>
      rw [sb_ok hf] at p
      exact fun HI' H' tr so' b rb => hk Ps HB HI0 H0 hps ρ1 HI' H' σ D a b so' (en.tr so tr) rb p
/-- target = value -/
theorem rs_asg {gt : TG} {tf : D → Rho → Option Rho} {is : List Nat} (he : Rd K W C te fe) (hg : TgOk K gt tf is) (hp : ∀ i ∈ is, i ∉ PI) : RdS K W C PI (tAsg te gt) (sbind fe fun d r => (tf d r).map .nx) :=
  rds_of (u := fun x D σ H => gt x σ H D.nx) he fun Ps HB HI0 H0 hps ρ HI H σ D d v so en rv p => by
    cases ht : tf d ρ with
    | none => rw [ht] at p; exact False.elim p
    | some ρ1 =>
      rw [ht] at p
      refine hg v d ρ ρ1 σ HI H _ so rv ht fun σ1 s1 o1 k1 l1 => p HI H σ1 s1 (en.slots o1 fun q hq => ?_)
      exact (k1 q.1 fun z => hp q.1 z (hps q hq)).1
theorem rs_ret (he : Rd K W C te fe) : RdS K W C PI (tRet te) (sbind fe fun d r => some (.rt false d r)) :=
  rds_of (u := fun x D σ H => D.rt x H) he fun Ps HB HI0 H0 hps ρ HI H σ D d v so en rv p => p HI H σ so en v rv
theorem rs_retN : RdS K W C PI tRetN (fun r => some (.rt false .none r)) := fun Ps HB HI0 H0 hps ρ HI H σ D so en p => p HI H σ so en _ .non
theorem rs_retF {fl : M (List D)} (he : RdF K W C te fl) : RdS K W C PI (tRet te) (sbind fl fun ds r => some (.rt true (.list ds) r)) := by
  intro Ps HB HI0 H0 hps ρ HI H σ D so en p
  refine he ρ HI H σ _ so ?_
  cases hf : fl ρ with
  | none => rw [sb_none hf] at p; exact False.elim p
  | some r =>
    cases r with
    | ex c ρ1 => rw [sb_ex hf] at p; exact fun HI' H' tr so' => p HI' H' σ so' (en.tr so tr)
    | ok ds ρ1 => rw [sb_ok hf] at p; exact fun HI' H' tr so' q vs hq ra => p HI' H' σ so' (en.tr so tr) q vs hq ra
/-- a new list of one's own -/
theorem rs_setM {i : Nat} {fl : M (List D)} (he : RdF K W C te fl) (hi : i ∉ PI) : RdS K W C PI (tAsg te (gName i)) (sbind fl fun ds r => some (.nx (r.set i (.mu (.list ds))))) := by
  intro Ps HB HI0 H0 hps ρ HI H σ D so en p
  refine he ρ HI H σ _ so ?_
  cases hf : fl ρ with
  | none => rw [sb_none hf] at p; exact False.elim p
  | some r =>
    cases r with
    | ex c ρ1 => rw [sb_ex hf] at p; exact fun HI' H' tr so' => p HI' H' σ so' (en.tr so tr)
    | ok ds ρ1 =>
      rw [sb_ok hf] at p
      intro HI' H' tr so' q vs hq ra
      have en' := en.tr so tr
      have tp := TP.fresh (o := .lst vs) so'.sub hq
      have s2 := so'.tp tp
      have offq : Off σ ρ1 q := off_of so' hq
      have nI : HI' q = none := so'.sub.free hq
      refine p HI' (upd H' q (.lst vs)) (σ.set i (some (.ref q))) ⟨s2.sub, by rw [List.length_set, List.length_set]; exact s2.len, fun j d h => ?_, fun j l d h hl => ?_, fun j k l m d e a h1 l1 h2 l2 z1 z2 => ?_⟩
        ⟨en'.base, en'.exI, fun a h h2 => en'.new a h h2, fun b o h n => ?_, fun b h => ?_, fun j l d a h hl hs => ?_, fun r hr => ?_⟩
      · rcases get_set h with ⟨rfl, z, hi⟩ | ⟨hij, h⟩
        · cases z
        · obtain ⟨v, e, w⟩ := s2.im j d h
          exact ⟨v, by rw [List.getElem?_set_ne hij]; exact e, w⟩
      · rcases get_set h with ⟨rfl, z, hlt⟩ | ⟨hij, h⟩
        · subst z
          cases hl
          exact ⟨q, by rw [List.getElem?_set_self (by rw [s2.len]; exact hlt)], nI, vs, upd_same, ra⟩
        · obtain ⟨a, e, w⟩ := s2.mu j l d h hl
          exact ⟨a, by rw [List.getElem?_set_ne hij]; exact e, w⟩
      · rcases get_set h1 with ⟨rfl, y1, hlt⟩ | ⟨hij, h1⟩
        · rcases get_set h2 with ⟨rfl, y2, _⟩ | ⟨hik, h2⟩
          · rfl
          · rw [List.getElem?_set_self (by rw [s2.len]; exact hlt)] at z1
            rw [List.getElem?_set_ne hik] at z2
            cases z1
            exact absurd z2 (offq k m e h2 l2)
        · rcases get_set h2 with ⟨rfl, y2, hlt⟩ | ⟨hik, h2⟩
          · rw [List.getElem?_set_self (by rw [s2.len]; exact hlt)] at z2
            rw [List.getElem?_set_ne hij] at z1
            cases z2
            exact absurd z1 (offq j l d h1 l1)
          · rw [List.getElem?_set_ne hij] at z1
            rw [List.getElem?_set_ne hik] at z2
            exact s2.inj j k l m d e a h1 l1 h2 l2 z1 z2
      · exact tp.ex b o (en'.keep b o h n)
      · by_cases hb : b = q
        · subst hb; rw [upd_same] at h; cases h
        · rw [upd_ne hb] at h; exact en'.dom b h
      · rcases get_set h with ⟨rfl, z, hlt⟩ | ⟨hij, h⟩
        · rw [List.getElem?_set_self (by rw [so'.len]; exact hlt)] at hs
          cases hs
          exact .inr (en'.dom q hq)
        · rw [List.getElem?_set_ne hij] at hs
          exact en'.own j l d a h hl hs
      · have : i ≠ r.1 := fun z => hi (z ▸ hps r hr)
        rw [List.getElem?_set_ne this]
        exact en'.par r hr
/-! ### blocks -/
def mseq (f g : MS) : MS := fun r => match f r with
  | some (.nx r') => g r'
  | x => x
theorem rs_nil : RdS K W C PI tNext (fun r => some (.nx r)) := fun Ps HB HI0 H0 hps ρ HI H σ D so en p => p HI H σ so en
theorem rs_seq (h1 : RdS K W C PI t f) (h2 : RdS K W C PI u g) : RdS K W C PI (tSeq t u) (mseq f g) := by
  intro Ps HB HI0 H0 hps ρ HI H σ D so en p
  refine h1 Ps HB HI0 H0 hps ρ HI H σ _ so en ?_
  unfold mseq at p
  cases hf : f ρ with
  | none => rw [hf] at p; exact p
  | some r =>
    rw [hf] at p
    cases r with
    | nx ρ1 => exact fun HI1 H1 σ1 so1 en1 => h2 Ps HB HI0 H0 hps ρ1 HI1 H1 σ1 D so1 en1 p
    | bk ρ1 => exact p
    | ct ρ1 => exact p
    | ex c ρ1 => exact p
    | rt fr d ρ1 =>
      cases fr with
      | false => exact p
      | true => cases d <;> exact p
theorem rs_if {tc : TT} {fc : M Bool} (hc : RdT K W C tc fc) (h1 : RdS K W C PI t f) (h2 : RdS K W C PI u g) : RdS K W C PI (tIfS tc t u) (sbind fc fun b => if b then f else g) :=
  rds_of (u := fun b D σ H => if b = true then t D σ H else u D σ H) hc fun Ps HB HI0 H0 hps ρ HI H σ D a b so en e p => by
    have e : b = a := e
    subst e
    cases b with
    | true => exact h1 Ps HB HI0 H0 hps ρ HI H σ D so en p
    | false => exact h2 Ps HB HI0 H0 hps ρ HI H σ D so en p
theorem rs_pass : RdS K W C PI tNext (fun r => some (.nx r)) := rs_nil
theorem rs_break : RdS K W C PI tBreak (fun r => some (.bk r)) := fun Ps HB HI0 H0 hps ρ HI H σ D so en p => p HI H σ so en
theorem rs_cont : RdS K W C PI tCont (fun r => some (.ct r)) := fun Ps HB HI0 H0 hps ρ HI H σ D so en p => p HI H σ so en
/-- an expression whose value is dropped -/
theorem rs_drop (he : Rd K W C te fe) : RdS K W C PI (tDrop te) (sbind fe fun _ r => some (.nx r)) :=
  rds_of (u := fun x D σ H => D.nx σ H) he fun Ps HB HI0 H0 hps ρ HI H σ D d v so en rv p => p HI H σ so en
/-- two names at once: stored from the right -/
theorem rs_par {i j : Nat} {ta : TA} {fl : M (List D)} (hij : i ≠ j) (hi : i ∉ PI) (hj : j ∉ PI) (he : RdA K W C ta fl) : RdS K W C PI (tPar i j ta) (sbind fl fun ds r => match ds with | [d, e] => some (.nx ((r.set i (.im d)).set j (.im e))) | _ => none) :=
  rds_of (u := fun vs D σ H => ∃ v w, vs = [v, w] ∧ D.nx ((σ.set i (some v)).set j (some w)) H) he fun Ps HB HI0 H0 hps ρ HI H σ D ds vs so en ra p => by
    cases ra with
    | nil => exact False.elim p
    | @cons v vs d ds rv ra =>
      cases ra with
      | nil => exact False.elim p
      | @cons w vs e ds rw' ra =>
        cases ra with
        | cons _ _ => exact False.elim p
        | nil =>
          refine ⟨v, w, rfl, p HI H _ ((so.set_im rv).set_im rw') (en.slots (fun k l x h hl => ?_) fun q hq => ?_)⟩
          · rcases get_set h with ⟨_, z, _⟩ | ⟨h1, h⟩
            · subst z; cases hl
            · rcases get_set h with ⟨_, z, _⟩ | ⟨h2, h⟩
              · subst z; cases hl
              · exact ⟨h, by rw [List.getElem?_set_ne h1, List.getElem?_set_ne h2]⟩
          · have z1 : i ≠ q.1 := fun z => hi (z ▸ hps q hq)
            have z2 : j ≠ q.1 := fun z => hj (z ▸ hps q hq)
            rw [List.getElem?_set_ne z2, List.getElem?_set_ne z1]
end
end Ev
set_option Elab.async false
set_option linter.all false
set_option autoImplicit false
set_option maxRecDepth 100000
namespace Ev
open PySem PySem.Spec L2

/-! ### for -/
def forL (tf : D → Rho → Option Rho) (body : MS) : List D → MS
  | [], r => some (.nx r)
  | d :: ds, r => match tf d r with
    | none => none
    | some r1 => match body r1 with
      | some (.nx r2) => forL tf body ds r2
      | some (.ct r2) => forL tf body ds r2
      | some (.bk r2) => some (.nx r2)
      | x => x
def fFor (fi : M (List D × List Nat)) (tf : D → Rho → Option Rho) (body : MS) : MS := sbind fi fun p => if p.2.isEmpty then forL tf body p.1 else fun _ => none
section
variable {K : PySem.W.Frag} {W : WX} {C : Exc} {PI : List Nat} {te : TE} {fe : M D} {t u : TS} {f g : MS}
theorem rs_for {wi : TI} {gt : TG} {fi : M (List D × List Nat)} {tf : D → Rho → Option Rho} {is : List Nat} (hi : RdI K W C wi fi) (hg : TgOk K gt tf is) (hp : ∀ i ∈ is, i ∉ PI) (hb : RdS K W C PI t f) : RdS K W C PI (tFor wi gt t) (fFor fi tf f) := by
  intro Ps HB HI0 H0 hps ρ HI H σ D so en p
  refine hi ρ HI H σ _ so ?_
  unfold fFor at p
  cases hf : fi ρ with
  | none => rw [sb_none hf] at p; exact False.elim p
  | some r =>
    cases r with
    | ex c ρ1 => rw [sb_ex hf] at p; exact fun HI' H' tr so' => p HI' H' σ so' (en.tr so tr)
    | ok a ρ1 =>
      obtain ⟨ds, lks⟩ := a
      rw [sb_ok hf] at p
      cases lks with
      | cons _ _ => exact False.elim p
      | nil =>
      have p : PtS K W C Ps HB HI0 H0 (forL tf f ds ρ1) D := p
      intro HI1 H1 tr1 so1 J HS hS hO hF hw
      have hF := hF rfl
      have en1 := en.tr so tr1
      refine ⟨fun i m σ' H' => m = ds.length - i ∧ i ≤ ds.length ∧ ∃ HIi ρi, SOk K HIi H' σ' ρi ∧ Ent Ps HB HI0 H0 HIi H' σ' ρi ∧ Same HI1 HIi ∧ PtS K W C Ps HB HI0 H0 (forL tf f (ds.drop i) ρi) D,
        ⟨ds.length, by simp, Nat.zero_le _, HI1, ρ1, so1, en1, Same.refl _, by rw [List.drop_zero]; exact p⟩, ?_⟩
      rintro i m σ2 H2 ⟨rfl, hile, HIi, ρi, soi, eni, hsi, pi⟩
      obtain ⟨hstop, hgo⟩ := hw HIi H2 hsi soi.sub fun b o q => soi.sub b o (hsi b o (hF b o q))
      by_cases hlt : i < ds.length
      · obtain ⟨d, hd⟩ : ∃ d, ds[i]? = some d := ⟨_, List.getElem?_eq_getElem hlt⟩
        obtain ⟨go, step⟩ := hgo i d hd
        refine .inr ⟨go, fun σ' H' => i + 1 ≤ ds.length ∧ ∃ HIi ρi, SOk K HIi H' σ' ρi ∧ Ent Ps HB HI0 H0 HIi H' σ' ρi ∧ Same HI1 HIi ∧ PtS K W C Ps HB HI0 H0 (forL tf f (ds.drop (i + 1)) ρi) D, fun σ' H' q => ⟨ds.length - (i + 1), by omega, rfl, q.1, q.2⟩, fun x H3 hy => ?_⟩
        obtain ⟨HI3, tp3, rx⟩ := step x H3 hy
        have so3 := soi.tp tp3
        have en3 := eni.tr soi (tp3.tr (σ := σ2) (ρ := ρi))
        have hdrop : ds.drop i = d :: ds.drop (i + 1) := by
          rw [List.drop_eq_getElem_cons hlt]
          congr 1
          exact Option.some.inj ((List.getElem?_eq_getElem hlt).symm.trans hd)
        rw [hdrop] at pi
        unfold forL at pi
        cases htf : tf d ρi with
        | none => rw [htf] at pi; exact False.elim pi
        | some ρt =>
          rw [htf] at pi
          dsimp only at pi
          refine hg x d ρi ρt σ2 HI3 H3 _ so3 rx htf fun σ4 s4 o4 k4 l4 => ?_
          have en4 : Ent Ps HB HI0 H0 HI3 H3 σ4 ρt := en3.slots o4 fun q hq => (k4 q.1 fun z => hp q.1 z (hps q hq)).1
          have en5 : Ent Ps HI3 HI0 H0 HI3 H3 σ4 ρt := ⟨Same.refl _, en4.exI, en4.new, en4.keep, en4.dom, en4.own, en4.par⟩
          refine hb Ps HI3 HI0 H0 hps ρt HI3 H3 σ4 _ s4 en5 ?_
          have back : ∀ {HI' H' : Hp} {σ' : L2.St} {ρ' : Rho}, Ent Ps HI3 HI0 H0 HI' H' σ' ρ' → Ent Ps HB HI0 H0 HI' H' σ' ρ' := fun {HI' H' σ' ρ'} q => ⟨en4.base.trans q.base, q.exI, q.new, q.keep, q.dom, q.own, q.par⟩
          have again : ∀ {ρ' : Rho}, PtS K W C Ps HB HI0 H0 (forL tf f (ds.drop (i + 1)) ρ') D → ∀ HI' H' σ', SOk K HI' H' σ' ρ' → Ent Ps HI3 HI0 H0 HI' H' σ' ρ' → i + 1 ≤ ds.length ∧ ∃ HIi ρi, SOk K HIi H' σ' ρi ∧ Ent Ps HB HI0 H0 HIi H' σ' ρi ∧ Same HI1 HIi ∧ PtS K W C Ps HB HI0 H0 (forL tf f (ds.drop (i + 1)) ρi) D :=
            fun {ρ'} q HI' H' σ' s' e' => ⟨hlt, HI', ρ', s', back e', hsi.trans (tp3.exI.trans e'.base), q⟩
          cases hbo : f ρt with
          | none => rw [hbo] at pi; exact False.elim pi
          | some r =>
            rw [hbo] at pi
            cases r with
            | nx ρ' => exact again pi
            | ct ρ' => exact again pi
            | bk ρ' => exact fun HI' H' σ' s' e' => pi HI' H' σ' s' (back e')
            | ex c ρ' => exact fun HI' H' σ' s' e' => pi HI' H' σ' s' (back e')
            | rt fr d ρ' =>
              cases fr with
              | false => exact fun HI' H' σ' s' e' => pi HI' H' σ' s' (back e')
              | true =>
                cases d with
                | list es => exact fun HI' H' σ' s' e' => pi HI' H' σ' s' (back e')
                | _ => exact False.elim pi
      · have e : i = ds.length := by omega
        subst e
        rw [List.drop_length] at pi
        exact .inl ⟨hstop _ (Nat.le_refl _), pi HIi H2 σ2 soi eni⟩
/-! ### lists of one's own -/
theorem mu_upd {HI H : Hp} {σ : L2.St} {ρ : Rho} {i : Nat} {ds es : List D} {a : Addr} {vs : List V} (s : SOk K HI H σ ρ) (h : ρ[i]? = some (Sl.mu (.list ds))) (ha : σ[i]? = some (some (V.ref a))) (nI : HI a = none) (ra : RpAll K HI vs es) :
    SOk K HI (upd H a (.lst vs)) σ (ρ.set i (.mu (.list es))) := by
  refine ⟨fun b o q => ?_, by rw [List.length_set]; exact s.len, fun j d q => ?_, fun j l d q hl => ?_, fun j k l m d e b q1 l1 q2 l2 z1 z2 => ?_⟩
  · rw [upd_ne (fun z => by subst z; rw [nI] at q; cases q)]; exact s.sub b o q
  · rcases get_set q with ⟨_, z, _⟩ | ⟨_, q⟩
    · cases z
    · exact s.im j d q
  · rcases get_set q with ⟨rfl, z, _⟩ | ⟨hij, q⟩
    · subst z; cases hl; exact ⟨a, ha, nI, vs, upd_same, ra⟩
    · obtain ⟨b, z, n, w⟩ := s.mu j l d q hl
      have hb : b ≠ a := fun e => hij (s.inj i j _ l _ d a h rfl q hl ha (e ▸ z))
      refine ⟨b, z, n, ?_⟩
      cases d with
      | list fs => obtain ⟨us, w1, w2⟩ := w; exact ⟨us, by rw [upd_ne hb]; exact w1, w2⟩
      | _ => exact w.elim
  · rcases get_set q1 with ⟨rfl, z, _⟩ | ⟨_, q1⟩
    · rcases get_set q2 with ⟨rfl, y, _⟩ | ⟨_, q2⟩
      · rfl
      · exact s.inj i k _ m _ e b h rfl q2 l2 z1 z2
    · rcases get_set q2 with ⟨rfl, y, _⟩ | ⟨_, q2⟩
      · exact s.inj j i l _ d _ b q1 l1 h rfl z1 z2
      · exact s.inj j k l m d e b q1 l1 q2 l2 z1 z2
theorem mu_tr {HI H : Hp} {σ : L2.St} {ρ : Rho} {i : Nat} {ds es : List D} {a : Addr} {o : HO} (s : SOk K HI H σ ρ) (h : ρ[i]? = some (Sl.mu (.list ds))) (ha : σ[i]? = some (some (V.ref a))) : Tr σ ρ HI H (ρ.set i (.mu (.list es))) HI (upd H a o) := by
  have own : Own σ ρ a := ⟨i, _, h, ha⟩
  refine ⟨Same.refl _, fun _ x y => absurd x y, fun b u q n => ?_, fun b q => ?_, fun b ⟨j, d, q, z⟩ => ?_, fun j l d q hl => ?_⟩
  · rw [upd_ne (fun z => n (by rw [z]; exact own))]; exact q
  · by_cases hb : b = a
    · subst hb; rw [upd_same] at q; cases q
    · rw [upd_ne hb] at q; exact q
  · rcases get_set q with ⟨rfl, _, _⟩ | ⟨_, q⟩
    · exact ⟨i, _, h, z⟩
    · exact ⟨j, d, q, z⟩
  · rcases get_set q with ⟨rfl, _, _⟩ | ⟨_, q⟩
    · exact ⟨_, _, h, rfl⟩
    · exact ⟨l, d, q, hl⟩
def muAt (r : Rho) (i : Nat) : Option (List D) := match r[i]? with
  | some (.mu (.list ds)) => some ds
  | _ => none
theorem muAt_some {r : Rho} {i : Nat} {ds : List D} (h : muAt r i = some ds) : r[i]? = some (Sl.mu (.list ds)) := by
  unfold muAt at h
  split at h
  · rename_i e; cases h; exact e
  · cases h
/-- a list of one's own is changed: what it holds ahead, by its slot -/
theorem mu_has {HI H : Hp} {σ : L2.St} {ρ : Rho} {i : Nat} {ds : List D} {a : Addr} (s : SOk K HI H σ ρ) (h : muAt ρ i = some ds) (ha : σ[i]? = some (some (V.ref a))) : HI a = none ∧ ∃ vs, H a = some (.lst vs) ∧ RpAll K HI vs ds := by
  obtain ⟨b, z, n, w⟩ := s.mu i _ _ (muAt_some h) rfl
  rw [ha] at z
  cases z
  exact ⟨n, w⟩
theorem mu_ref {HI H : Hp} {σ : L2.St} {ρ : Rho} {i : Nat} {ds : List D} (s : SOk K HI H σ ρ) (h : muAt ρ i = some ds) : ∃ a vs, σ[i]? = some (some (V.ref a)) ∧ H a = some (.lst vs) ∧ RpAll K HI vs ds := by
  obtain ⟨b, z, n, vs, w1, w2⟩ := s.mu i _ _ (muAt_some h) rfl
  exact ⟨b, vs, z, w1, w2⟩
/-- a method of a list of one's own: g gives what comes and what the list holds behind -/
def fMu (i : Nat) (fl : M (List D)) (g : List D → List D → Option (D × List D)) : M D := fun r => match muAt r i with
  | none => none
  | some _ => mbind fl (fun ys r1 => match muAt r1 i with
    | none => none
    | some ds => match g ds ys with
      | none => none
      | some (d, es) => some (.ok d (r1.set i (.mu (.list es))))) r
theorem rd_mu {i : Nat} {ta : TA} {fl : M (List D)} {r : V → List V → Hp → VK → Prop} {g : List D → List D → Option (D × List D)} (hl : RdA K W C ta fl)
    (hr : ∀ (HI H : Hp) (a : Addr) (vs ws : List V) (ds ys : List D) (d : D) (es : List D) (Q : VK), Same HI H → H a = some (.lst vs) → RpAll K HI vs ds → RpAll K HI ws ys → g ds ys = some (d, es) → (∀ v us, Rp K HI v d → RpAll K HI us es → Q v (upd H a (.lst us))) → r (.ref a) ws H Q) :
    Rd K W C (tBM K "list" r (tVar i) ta) (fMu i fl g) := by
  intro ρ HI H σ Q _ so p
  unfold fMu at p
  cases h0 : muAt ρ i with
  | none => rw [h0] at p; exact False.elim p
  | some ds0 =>
    rw [h0] at p
    dsimp only at p
    obtain ⟨a, vs0, ha, hv0, rp0⟩ := mu_ref so h0
    refine ⟨V.ref a, ha, .inl ⟨rfl, vs0, .inl (.inl hv0)⟩, ?_⟩
    refine hl ρ HI H σ _ same_H0 so ?_
    cases hf : fl ρ with
    | none => rw [mb_none hf] at p; exact p
    | some o =>
      cases o with
      | ex c ρ1 => rw [mb_ex hf] at p; exact p
      | ok ys ρ1 =>
        rw [mb_ok hf] at p
        intro HI1 H1 tr so1 ws rw1
        cases h1 : muAt ρ1 i with
        | none => rw [h1] at p; exact False.elim p
        | some ds =>
          rw [h1] at p
          dsimp only at p
          obtain ⟨nI, vs, hv, rp⟩ := mu_has so1 h1 ha
          cases hg : g ds ys with
          | none => rw [hg] at p; exact False.elim p
          | some de =>
            obtain ⟨d, es⟩ := de
            rw [hg] at p
            exact hr HI1 H1 a vs ws ds ys d es Q so1.sub hv rp rw1 hg fun v us rv rus => p HI1 _ (tr.trans (mu_tr so1 (muAt_some h1) ha)) (mu_upd so1 (muAt_some h1) ha nI rus) v rv
def gApp (ds ys : List D) : Option (D × List D) := match ys with
  | [d] => if szOk ds.length then some (.none, ds ++ [d]) else none
  | _ => none
/-- x.append(e), x a list of one's own -/
theorem rd_app {i : Nat} {ta : TA} {fl : M (List D)} (hl : RdA K W C ta fl) : Rd K W C (tBM K "list" rAppend (tVar i) ta) (fMu i fl gApp) :=
  rd_mu hl fun HI H a vs ws ds ys d es Q sub hv rp rws hg q => by
    unfold gApp at hg
    split at hg
    · split at hg
      · rename_i hs
        cases hg
        cases rws with
        | @cons v _ _ _ rv rn =>
          cases rn
          exact ⟨a, vs, v, rfl, rfl, hv, by rw [dpa_len rp]; exact szOk_lt hs, q _ _ .non (dpa_app rp (.cons rv .nil))⟩
      · cases hg
    · cases hg
theorem dpa_drop1 {H : Hp} : ∀ {vs : List V} {ds : List D}, RpAll K H vs ds → RpAll K H vs.dropLast ds.dropLast
  | _, _, .nil => .nil
  | _, _, .cons h .nil => .nil
  | _, _, .cons h (.cons h2 a) => .cons h (dpa_drop1 (.cons h2 a))
theorem dpa_erase {H : Hp} : ∀ {vs : List V} {ds : List D} (k : Nat), RpAll K H vs ds → RpAll K H (vs.eraseIdx k) (ds.eraseIdx k)
  | _, _, _, .nil => .nil
  | _, _, 0, .cons h a => a
  | _, _, k + 1, .cons h a => .cons h (dpa_erase k a)
theorem dpa_set {H : Hp} {v : V} {d : D} (hv : Rp K H v d) : ∀ {vs : List V} {ds : List D} (k : Nat), RpAll K H vs ds → RpAll K H (vs.set k v) (ds.set k d)
  | _, _, _, .nil => .nil
  | _, _, 0, .cons h a => .cons hv a
  | _, _, k + 1, .cons h a => .cons h (dpa_set hv k a)
def gPop (ds ys : List D) : Option (D × List D) := match ys with
  | [] => match ds[ds.length - 1]? with
    | some d => some (d, ds.dropLast)
    | none => none
  | [.int j] => if j = 0 then match ds with
      | d :: es => some (d, es)
      | [] => none
    else none
  | _ => none
/-! ### store into a list of one's own: x[e] = d -/
def fSet (i : Nat) (fe fk : M D) : MS := sbind fe fun d => sbind fk fun k r => match muAt r i with
  | some ds => match k with
    | .int n => match ixN ds.length n with
      | some j => some (.nx (r.set i (.mu (.list (ds.set j d)))))
      | none => none
    | _ => none
  | none => none
variable {PI : List Nat} {tk : TE} {fk : M D}
theorem Ent.mu {Ps : List (Nat × Addr)} {HB HI0 H0 HI H : Hp} {σ : L2.St} {ρ : Rho} {i : Nat} {ds es : List D} {a : Addr} {o : HO} (en : Ent Ps HB HI0 H0 HI H σ ρ) (s : SOk K HI H σ ρ) (h : ρ[i]? = some (Sl.mu (.list ds))) (ha : σ[i]? = some (some (V.ref a))) : Ent Ps HB HI0 H0 HI (upd H a o) σ (ρ.set i (.mu (.list es))) :=
  en.tr s (mu_tr s h ha)
theorem rs_set {i : Nat} (he : Rd K W C te fe) (hk : Rd K W C tk fk) : RdS K W C PI (tAsg te (gSub (tVar i) tk rSetL)) (sbind fe fun d r0 => match muAt r0 i with
    | none => none
    | some _ => sbind fk (fun k r => match muAt r i with
      | some ds => match k with
        | .int n => match ixN ds.length n with
          | some j => some (.nx (r.set i (.mu (.list (ds.set j d)))))
          | none => none
        | _ => none
      | none => none) r0) :=
  rds_of (u := fun x D σ H => gSub (tVar i) tk rSetL x σ H D.nx) he fun Ps HB HI0 H0 hps ρ HI H σ D d v so en rv p => by
    cases h0 : muAt ρ i with
    | none => rw [h0] at p; exact False.elim p
    | some ds0 =>
      rw [h0] at p
      dsimp only at p
      obtain ⟨a, vs0, ha, hv0, rp0⟩ := mu_ref so h0
      refine ⟨V.ref a, ha, ?_⟩
      refine hk ρ HI H σ _ same_H0 so ?_
      cases hf : fk ρ with
      | none => rw [sb_none hf] at p; exact p
      | some o =>
        cases o with
        | ex c ρ1 => rw [sb_ex hf] at p; exact fun HI' H' tr so' => p HI' H' σ so' (en.tr so tr)
        | ok k ρ1 =>
          rw [sb_ok hf] at p
          intro HI1 H1 tr so1 w rw1
          cases h1 : muAt ρ1 i with
          | none => rw [h1] at p; exact False.elim p
          | some ds =>
            rw [h1] at p
            dsimp only at p
            obtain ⟨nI, vs, hv, rp⟩ := mu_has so1 h1 ha
            cases k with
            | int n =>
              dsimp only at p
              cases hj : ixN ds.length n with
              | none => rw [hj] at p; exact False.elim p
              | some j =>
                rw [hj] at p
                cases rw1
                exact ⟨a, vs, n, j, rfl, rfl, hv, by rw [dpa_len rp]; exact hj, p HI1 _ σ (mu_upd so1 (muAt_some h1) ha nI (dpa_set (dp_mono tr.exI rv) j rp)) ((en.tr so tr).mu so1 (muAt_some h1) ha)⟩
            | _ => exact False.elim p
/-! ### borrowed: a list of one's own is read, and stays one's own -/
mutual
def eqD : D → D → Bool
  | .none, .none => true
  | .bool a, .bool b => a == b
  | .int a, .int b => a == b
  | .str a, .str b => decide (a = b)
  | .list a, .list b => eqDs a b
  | .tuple a, .tuple b => eqDs a b
  | .dict a, .dict b => eqKs a b
  | _, _ => false
def eqKs : List (D × D) → List (D × D) → Bool
  | [], [] => true
  | (k, a) :: as, (l, b) :: bs => eqD k l && (eqD a b && eqKs as bs)
  | _, _ => false
def eqDs : List D → List D → Bool
  | [], [] => true
  | a :: as, b :: bs => eqD a b && eqDs as bs
  | _, _ => false
end
mutual
theorem eqD_eq : ∀ {a b : D}, eqD a b = true → a = b
  | .none, b, h => by cases b <;> first | rfl | exact absurd h (by simp [eqD])
  | .bool a, b, h => by cases b <;> first | (simp only [eqD, beq_iff_eq] at h; rw [h]) | exact absurd h (by simp [eqD])
  | .int a, b, h => by cases b <;> first | (simp only [eqD, beq_iff_eq] at h; rw [h]) | exact absurd h (by simp [eqD])
  | .str a, b, h => by cases b <;> first | (simp only [eqD, decide_eq_true_eq] at h; rw [h]) | exact absurd h (by simp [eqD])
  | .list a, b, h => by cases b <;> first | (simp only [eqD] at h; rw [eqDs_eq h]) | exact absurd h (by simp [eqD])
  | .tuple a, b, h => by cases b <;> first | (simp only [eqD] at h; rw [eqDs_eq h]) | exact absurd h (by simp [eqD])
  | .dict a, b, h => by cases b <;> first | (simp only [eqD] at h; rw [eqKs_eq h]) | exact absurd h (by simp [eqD])
theorem eqKs_eq : ∀ {a b : List (D × D)}, eqKs a b = true → a = b
  | [], b, h => by cases b <;> first | rfl | exact absurd h (by simp [eqKs])
  | (k, a) :: as, b, h => by
    cases b with
    | nil => exact absurd h (by simp [eqKs])
    | cons q bs =>
      obtain ⟨l, b⟩ := q
      simp only [eqKs, Bool.and_eq_true] at h
      rw [eqD_eq h.1, eqD_eq h.2.1, eqKs_eq h.2.2]
theorem eqDs_eq : ∀ {a b : List D}, eqDs a b = true → a = b
  | [], b, h => by cases b <;> first | rfl | exact absurd h (by simp [eqDs])
  | a :: as, b, h => by
    cases b with
    | nil => exact absurd h (by simp [eqDs])
    | cons b bs =>
      simp only [eqDs, Bool.and_eq_true] at h
      rw [eqD_eq h.1, eqDs_eq h.2]
end
mutual
theorem eqD_rf : ∀ (a : D), eqD a a = true
  | .none => rfl
  | .bool a => by simp [eqD]
  | .int a => by simp [eqD]
  | .str a => by simp [eqD]
  | .list a => by simp only [eqD]; exact eqDs_rf a
  | .tuple a => by simp only [eqD]; exact eqDs_rf a
  | .dict a => by simp only [eqD]; exact eqKs_rf a
theorem eqKs_rf : ∀ (a : List (D × D)), eqKs a a = true
  | [] => rfl
  | (k, a) :: as => by simp [eqKs, eqD_rf k, eqD_rf a, eqKs_rf as]
theorem eqDs_rf : ∀ (a : List D), eqDs a a = true
  | [] => rfl
  | a :: as => by simp [eqDs, eqD_rf a, eqDs_rf as]
end
def eqSl : Sl → Sl → Bool
  | .un, .un => true
  | .im a, .im b => eqD a b
  | .mu a, .mu b => eqD a b
  | .lk a, .lk b => eqD a b
  | _, _ => false
theorem eqSl_eq : ∀ {a b : Sl}, eqSl a b = true → a = b
  | .un, b, h => by cases b <;> first | rfl | exact absurd h (by simp [eqSl])
  | .im a, b, h => by cases b <;> first | (simp only [eqSl] at h; rw [eqD_eq h]) | exact absurd h (by simp [eqSl])
  | .mu a, b, h => by cases b <;> first | (simp only [eqSl] at h; rw [eqD_eq h]) | exact absurd h (by simp [eqSl])
  | .lk a, b, h => by cases b <;> first | (simp only [eqSl] at h; rw [eqD_eq h]) | exact absurd h (by simp [eqSl])
def eqR : Rho → Rho → Bool
  | [], [] => true
  | a :: as, b :: bs => eqSl a b && eqR as bs
  | _, _ => false
theorem eqR_eq : ∀ {a b : Rho}, eqR a b = true → a = b
  | [], b, h => by cases b <;> first | rfl | exact absurd h (by simp [eqR])
  | a :: as, b, h => by
    cases b with
    | nil => exact absurd h (by simp [eqR])
    | cons b bs =>
      simp only [eqR, Bool.and_eq_true] at h
      rw [eqSl_eq h.1, eqR_eq h.2]
/-- what holds no object -/
def flatD : D → Bool
  | .none => true
  | .bool _ => true
  | .int _ => true
  | .str _ => true
  | _ => false
def flatDs (ds : List D) : Bool := ds.all flatD
theorem flat_rp {HI HI' : Hp} {v : V} {d : D} (hf : flatD d = true) (h : Rp K HI v d) : Rp K HI' v d := by
  cases h with
  | non => exact .non
  | bl b => exact .bl b
  | int i => exact .int i
  | str x => exact .str x
  | lst _ _ => exact absurd hf (by simp [flatD])
  | tup _ _ => exact absurd hf (by simp [flatD])
  | dic _ _ => exact absurd hf (by simp [flatD])
theorem flat_rpa {HI HI' : Hp} : ∀ {vs : List V} {ds : List D}, flatDs ds = true → RpAll K HI vs ds → RpAll K HI' vs ds
  | _, _, _, .nil => .nil
  | _, _, hf, .cons h a => by
    simp only [flatDs, List.all_cons, Bool.and_eq_true] at hf
    exact .cons (flat_rp hf.1 h) (flat_rpa hf.2 a)
def flatSl : Sl → Bool
  | .mu (.list ds) => flatDs ds
  | .lk (.list ds) => flatDs ds
  | .mu _ => false
  | .lk _ => false
  | _ => true
theorem flatSl_of {l : Sl} {d : D} (h : flatSl l = true) (hl : owd l = some d) : ∃ ds, d = .list ds ∧ flatDs ds = true := by
  cases l with
  | mu e => cases hl; cases d <;> first | exact ⟨_, rfl, h⟩ | exact absurd h (by simp [flatSl])
  | lk e => cases hl; cases d <;> first | exact ⟨_, rfl, h⟩ | exact absurd h (by simp [flatSl])
  | _ => cases hl
def flatX (c : Xc) : Bool := c.2.all fun p => flatD p.2
theorem wc_flat {HI HI' H : Hp} {F : Value → Option Addr → Hp → Prop} {c : Xc} (hc : flatX c = true) (h : WC K C F c HI H) : WC K C F c HI' H := by
  unfold WC at h ⊢
  unfold flatX at hc
  split
  · rename_i e; rw [e] at h; exact h
  · rename_i fd r e
    rw [e] at h hc
    rw [List.all_cons, Bool.and_eq_true] at hc
    exact fun dd v h1 h2 => h dd v h1 (flat_rp hc.1 h2)
def fBor {α : Type} (flat : α → Bool) (i : Nat) (f : M α) : M α := fun r => match muAt r i with
  | none => none
  | some ds => if (r.set i .un).all flatSl then match f (r.set i (.im (.list ds))) with
    | some (.ok a r1) => if flat a && eqR r1 (r.set i (.im (.list ds))) then some (.ok a r) else none
    | some (.ex c r1) => if flatX c && eqR r1 (r.set i (.im (.list ds))) then some (.ex c r) else none
    | none => none
    else none
theorem bor_back {HI H HI' H' : Hp} {σ : L2.St} {ρ : Rho} {i : Nat} {ds : List D} {a : Addr} {vs : List V} (so : SOk K HI H σ ρ) (e0 : ρ[i]? = some (Sl.mu (.list ds))) (hfl : (ρ.set i .un).all flatSl = true) (z : σ[i]? = some (some (V.ref a))) (n : HI a = none) (ha : H a = some (.lst vs)) (rp : RpAll K HI vs ds)
    (tr' : Tr σ (ρ.set i (.im (.list ds))) (upd HI a (.lst vs)) H (ρ.set i (.im (.list ds))) HI' H') (so2 : SOk K HI' H' σ (ρ.set i (.im (.list ds)))) : SOk K HI H' σ ρ ∧ Tr σ ρ HI H ρ HI H' := by
  have sub1 : ∀ b, Own σ (ρ.set i (.im (.list ds))) b → b ≠ a ∧ Own σ ρ b ∧ HI b = none := by
    rintro b ⟨j, d, q1, q2⟩
    rcases get_set q1 with ⟨_, q1, _⟩ | ⟨hij, q1⟩
    · cases q1
    · obtain ⟨c, w1, w2, _⟩ := so.mu j _ d q1 rfl
      have ec : b = c := by rw [q2] at w1; cases w1; rfl
      subst ec
      exact ⟨fun e => hij (so.inj i j _ _ _ d a e0 rfl q1 rfl z (by rw [← e]; exact q2)), ⟨j, d, q1, q2⟩, w2⟩
  refine ⟨⟨fun b o q => ?_, so.len, so.im, fun j l d q hl => ?_, so.inj⟩, ⟨Same.refl _, fun _ x y => absurd x y, fun b o q nn => tr'.keep b o q fun w => nn (sub1 b w).2.1, tr'.dom, fun _ q => q, fun _ _ _ e q => ⟨_, _, e, q⟩⟩⟩
  · refine tr'.keep b o (so.sub b o q) fun w => ?_
    have := (sub1 b w).2.2
    rw [q] at this; cases this
  · by_cases hij : i = j
    · subst hij
      rw [e0] at q
      cases q
      cases hl
      exact ⟨a, z, n, vs, tr'.keep a _ ha fun w => (sub1 a w).1 rfl, rp⟩
    · obtain ⟨b, w1, w2, w3⟩ := so.mu j l d q hl
      refine ⟨b, w1, w2, ?_⟩
      have q' : (ρ.set i (.im (.list ds)))[j]? = some l := by rw [List.getElem?_set_ne hij]; exact q
      obtain ⟨c, y1, y2, y3⟩ := so2.mu j l d q' hl
      rw [w1] at y1
      cases y1
      have hf : flatSl l = true := by
        have hm : l ∈ ρ.set i .un := List.mem_of_getElem? (i := j) (by rw [List.getElem?_set_ne hij]; exact q)
        exact List.all_eq_true.mp hfl l hm
      obtain ⟨es, rfl, hes⟩ := flatSl_of hf hl
      obtain ⟨us, u1, u2⟩ := y3
      exact ⟨us, u1, flat_rpa hes u2⟩
theorem bor {α β : Type} {R : Hp → Hp → β → α → Prop} {t : L2.St → Hp → (β → Hp → Prop) → Prop} {f : M α} {i : Nat} (flat : α → Bool) (hflat : ∀ a b HI H HI' H', flat a = true → R HI H b a → R HI' H' b a) (h : RdG K W C R H0 t f) : RdG K W C R H0 t (fBor flat i f) := by
  intro ρ HI H σ Q _ so p
  unfold fBor at p
  cases h0 : muAt ρ i with
  | none => rw [h0] at p; exact False.elim p
  | some ds =>
    rw [h0] at p
    dsimp only at p
    have e0 := muAt_some h0
    obtain ⟨a, vs, z, n, ha, rp, so', tr⟩ := freeze so e0
    by_cases hfl : (ρ.set i .un).all flatSl = true
    · rw [if_pos hfl] at p
      refine h _ _ H σ Q same_H0 so' ?_
      cases hf : f (ρ.set i (.im (.list ds))) with
      | none => rw [hf] at p; exact p
      | some o =>
        rw [hf] at p
        cases o with
        | ok x r1 =>
          dsimp only at p
          by_cases hc : (flat x && eqR r1 (ρ.set i (.im (.list ds)))) = true
          · rw [if_pos hc] at p
            rw [Bool.and_eq_true] at hc
            have e1 := eqR_eq hc.2
            subst e1
            intro HI' H' tr' so2 b rb
            obtain ⟨s3, t3⟩ := bor_back so e0 hfl z n ha rp tr' so2
            exact p HI H' t3 s3 b (hflat x b HI' H' HI H' hc.1 rb)
          · rw [if_neg hc] at p; exact False.elim p
        | ex c r1 =>
          dsimp only at p
          by_cases hc : (flatX c && eqR r1 (ρ.set i (.im (.list ds)))) = true
          · rw [if_pos hc] at p
            rw [Bool.and_eq_true] at hc
            have e1 := eqR_eq hc.2
            subst e1
            intro HI' H' tr' so2
            obtain ⟨s3, t3⟩ := bor_back so e0 hfl z n ha rp tr' so2
            exact wc_flat hc.1 (p HI H' t3 s3)
          · rw [if_neg hc] at p; exact False.elim p
    · rw [if_neg hfl] at p; exact False.elim p
theorem rd_bor (i : Nat) (h : Rd K W C te fe) : Rd K W C te (fBor flatD i fe) := bor flatD (fun _ _ _ _ _ _ hf h => flat_rp hf h) h
theorem rt_bor (i : Nat) {tt : TT} {ft : M Bool} (h : RdT K W C tt ft) : RdT K W C tt (fBor (fun _ => true) i ft) := bor _ (fun _ _ _ _ _ _ _ h => h) h
theorem ra_bor (i : Nat) {ta : TA} {fl : M (List D)} (h : RdA K W C ta fl) : RdA K W C ta (fBor flatDs i fl) := bor flatDs (fun _ _ _ _ _ _ hf h => flat_rpa hf h) h
end
end Ev
set_option Elab.async false
set_option linter.all false
set_option autoImplicit false
set_option maxRecDepth 100000
namespace Ev
open PySem PySem.Spec L2 PyProof.Rows

/-! ### functions -/
abbrev FM := Rho → Option So
def PtF (K : PySem.W.Frag) (C : Exc) (σ : L2.St) (ρ : Rho) (HI H : Hp) (r : Option So) (Q : VK) (E : XK) : Prop := match r with
  | some (.rt false d ρ') => ∀ HI' H', Tr σ ρ HI H ρ' HI' H' → SOk K HI' H' σ ρ' → ∀ v, Rp K HI' v d → Q v H'
  | some (.rt true (.list ds) ρ') => ∀ HI' H', Tr σ ρ HI H ρ' HI' H' → SOk K HI' H' σ ρ' → ∀ p vs, H' p = none → RpAll K HI' vs ds → Q (.ref p) (upd H' p (.lst vs))
  | some (.ex c ρ') => ∀ HI' H', Tr σ ρ HI H ρ' HI' H' → SOk K HI' H' σ ρ' → WC K C E c HI' H'
  | _ => False
def SpF (K : PySem.W.Frag) (C : Exc) (n : Nat) (g : FM) : Sp := fun vs H Q E => vs.length = n ∧ ∃ HI ρ, SOk K HI H (vs.map some) ρ ∧ PtF K C (vs.map some) ρ HI H (g ρ) Q E
/-- the parameters behind the body: those of PI as they are now, the others as they were -/
def back : List Nat → Rho → Rho → Option Rho
  | [], ρ, _ => some ρ
  | i :: is, ρ, r => match muAt r i with
    | some ds => match muAt ρ i with
      | some _ => back is (ρ.set i (.mu (.list ds))) r
      | none => none
    | none => none
def onlyIm : Nat → List Nat → Rho → Bool
  | _, _, [] => true
  | i, PI, l :: ρ => (match l with
    | .im _ => true
    | .mu (.list _) => PI.contains i
    | _ => false) && onlyIm (i + 1) PI ρ
def mBody (PI : List Nat) (n N : Nat) (f : MS) : FM := fun ρ => if onlyIm 0 PI ρ then match f (ρ ++ List.replicate (N - n) .un) with
  | some (.nx r) => (back PI ρ r).map (.rt false .none)
  | some (.rt fr d r) => (back PI ρ r).map (.rt fr d)
  | some (.ex c r) => (back PI ρ r).map (.ex c)
  | _ => none
  else none
theorem onlyIm_at : ∀ {ρ : Rho} {k i : Nat} {PI : List Nat} {l : Sl}, onlyIm k PI ρ = true → ρ[i]? = some l → (∃ d, l = .im d) ∨ ((k + i) ∈ PI ∧ ∃ ds, l = .mu (.list ds))
  | [], _, _, _, _, _, h => by simp at h
  | m :: ρ, k, 0, PI, l, e, h => by
    simp only [List.getElem?_cons_zero, Option.some.injEq] at h
    subst h
    simp only [onlyIm, Bool.and_eq_true] at e
    obtain ⟨e, _⟩ := e
    split at e
    · exact .inl ⟨_, rfl⟩
    · exact .inr ⟨by simpa using e, _, rfl⟩
    · cases e
  | m :: ρ, k, i + 1, PI, l, e, h => by
    simp only [onlyIm, Bool.and_eq_true] at e
    rcases onlyIm_at (i := i) e.2 (by simpa using h) with q | ⟨q1, q2⟩
    · exact .inl q
    · exact .inr ⟨by rw [show k + (i + 1) = k + 1 + i by omega]; exact q1, q2⟩
/-- ρ1 is ρ but for lists of one's own, which hold what r's hold -/
structure Bk (ρ ρ1 r : Rho) : Prop where
  len : ρ1.length = ρ.length
  im : ∀ (i : Nat) (d : D), ρ1[i]? = some (Sl.im d) → ρ[i]? = some (Sl.im d)
  mu : ∀ (i : Nat) (l : Sl) (d : D), ρ1[i]? = some l → owd l = some d → (∃ l0, ρ[i]? = some l0 ∧ (l0 = l ∨ (l = .mu d ∧ ∃ d0, l0 = .mu d0 ∧ r[i]? = some (.mu d))))
theorem back_bk : ∀ {PI : List Nat} {ρ r ρ1 : Rho}, back PI ρ r = some ρ1 → Bk ρ ρ1 r ∧ (∀ i ∈ PI, ∃ d, ρ1[i]? = some (.mu d) ∧ r[i]? = some (.mu d))
  | [], ρ, r, ρ1, h => by
    cases h
    exact ⟨⟨rfl, fun _ _ e => e, fun i l d e _ => ⟨l, e, .inl rfl⟩⟩, fun i z => absurd z List.not_mem_nil⟩
  | j :: is, ρ, r, ρ1, h => by
    unfold back at h
    cases h1 : muAt r j with
    | none => rw [h1] at h; cases h
    | some ds =>
      rw [h1] at h
      dsimp only at h
      cases h2 : muAt ρ j with
      | none => rw [h2] at h; cases h
      | some es =>
        rw [h2] at h
        dsimp only at h
        obtain ⟨b, q⟩ := back_bk h
        have e1 := muAt_some h1
        have e2 := muAt_some h2
        refine ⟨⟨by rw [b.len, List.length_set], fun i d e => ?_, fun i l d e hl => ?_⟩, fun i hi => ?_⟩
        · rcases get_set (b.im i d e) with ⟨_, z, _⟩ | ⟨_, z⟩
          · cases z
          · exact z
        · obtain ⟨l0, z, w⟩ := b.mu i l d e hl
          rcases get_set z with ⟨rfl, z, _⟩ | ⟨_, z⟩
          · subst z
            rcases w with w | ⟨w, d0, w0, w1⟩
            · subst w
              cases hl
              exact ⟨_, e2, .inr ⟨rfl, _, rfl, e1⟩⟩
            · exact ⟨_, e2, .inr ⟨w, _, rfl, w1⟩⟩
          · exact ⟨l0, z, w⟩
        · by_cases hm : i ∈ is
          · exact q i hm
          · have hij : i = j := by
              rcases List.mem_cons.mp hi with z | z
              · exact z
              · exact absurd z hm
            subst hij
            refine ⟨_, ?_, e1⟩
            have : ρ1[i]? = (ρ.set i (.mu (.list ds)))[i]? := back_out h hm
            rw [this, List.getElem?_set_self (List.getElem?_eq_some_iff.mp e2).1]
where
  back_out : ∀ {PI : List Nat} {ρ r ρ1 : Rho} {i : Nat}, back PI ρ r = some ρ1 → i ∉ PI → ρ1[i]? = ρ[i]?
    | [], _, _, _, _, h, _ => by cases h; rfl
    | j :: is, ρ, r, ρ1, i, h, hi => by
      unfold back at h
      cases h1 : muAt r j with
      | none => rw [h1] at h; cases h
      | some ds =>
        rw [h1] at h
        dsimp only at h
        cases h2 : muAt ρ j with
        | none => rw [h2] at h; cases h
        | some es =>
          rw [h2] at h
          dsimp only at h
          rw [back_out h fun z => hi (List.mem_cons_of_mem _ z), List.getElem?_set_ne (fun z : j = i => hi (by rw [← z]; exact List.mem_cons_self))]

section
variable {K : PySem.W.Frag} {C : Exc}
/-- the parameters' addresses -/
theorem pars_ex {HI H : Hp} {σ : L2.St} {ρ : Rho} (so : SOk K HI H σ ρ) : ∀ (PI : List Nat), (∀ i ∈ PI, ∃ d, ρ[i]? = some (Sl.mu d)) → ∃ Ps : List (Nat × Addr), (∀ p ∈ Ps, p.1 ∈ PI ∧ σ[p.1]? = some (some (V.ref p.2))) ∧ ∀ i ∈ PI, ∃ a, (i, a) ∈ Ps
  | [], _ => ⟨[], fun _ z => absurd z List.not_mem_nil, fun _ z => absurd z List.not_mem_nil⟩
  | i :: is, h => by
    obtain ⟨Ps, h1, h2⟩ := pars_ex so is fun j hj => h j (List.mem_cons_of_mem _ hj)
    obtain ⟨d, hd⟩ := h i List.mem_cons_self
    obtain ⟨a, ha, _⟩ := so.mu i _ d hd rfl
    refine ⟨(i, a) :: Ps, fun p hp => ?_, fun j hj => ?_⟩
    · rcases List.mem_cons.mp hp with z | z
      · subst z; exact ⟨List.mem_cons_self, ha⟩
      · exact ⟨List.mem_cons_of_mem _ (h1 p z).1, (h1 p z).2⟩
    · rcases List.mem_cons.mp hj with z | z
      · subst z; exact ⟨a, List.mem_cons_self⟩
      · obtain ⟨b, hb⟩ := h2 j z
        exact ⟨b, List.mem_cons_of_mem _ hb⟩
/-- behind the body: the parameters -/
theorem ent_back {HI0 H0 HI H : Hp} {σ0 σ : L2.St} {ρ ρ1 r : Rho} {PI : List Nat} {Ps : List (Nat × Addr)} (s0 : SOk K HI0 H0 σ0 ρ) (only : onlyIm 0 PI ρ = true) (hps : ∀ p ∈ Ps, p.1 ∈ PI ∧ σ0[p.1]? = some (some (V.ref p.2))) (hpi : ∀ i ∈ PI, ∃ a, (i, a) ∈ Ps)
    (s : SOk K HI H σ r) (e : Ent Ps HI0 HI0 H0 HI H σ r) (hb : back PI ρ r = some ρ1) : Tr σ0 ρ HI0 H0 ρ1 HI H ∧ SOk K HI H σ0 ρ1 := by
  obtain ⟨b, bm⟩ := back_bk hb
  have hPs : ∀ j a, (j, a) ∈ Ps → Own σ0 ρ a := fun j a hm => by
    obtain ⟨h1, h2⟩ := hps _ hm
    obtain ⟨d, q1, _⟩ := bm j h1
    obtain ⟨l0, z, w⟩ := b.mu j _ d q1 rfl
    rcases w with w | ⟨_, d0, w0, _⟩
    · subst w; exact ⟨j, d, z, h2⟩
    · subst w0; exact ⟨j, d0, z, h2⟩
  have hmu : ∀ (i : Nat) (l : Sl) (d : D), ρ1[i]? = some l → owd l = some d → ∃ a d0, (i, a) ∈ Ps ∧ ρ[i]? = some (Sl.mu d0) ∧ r[i]? = some (.mu d) ∧ σ0[i]? = some (some (V.ref a)) := fun i l d h hl => by
    obtain ⟨l0, z, w⟩ := b.mu i l d h hl
    have hi : i ∈ PI ∧ ∃ d0, l0 = .mu d0 := by
      rcases onlyIm_at only z with ⟨d', q⟩ | ⟨q1, ds, q2⟩
      · subst q
        rcases w with w | ⟨_, d0, w0, _⟩
        · subst w; cases hl
        · cases w0
      · exact ⟨by simpa using q1, _, q2⟩
    obtain ⟨a, ha⟩ := hpi i hi.1
    obtain ⟨d0, rfl⟩ := hi.2
    obtain ⟨d1, w1, w2⟩ := bm i hi.1
    rw [h] at w1
    cases w1
    cases hl
    exact ⟨a, d0, ha, z, w2, (hps _ ha).2⟩
  refine ⟨⟨e.exI, fun a h h2 => ?_, fun c o h n => e.keep c o h fun ⟨j, hj⟩ => n (hPs j c hj), e.dom, fun a ⟨i, d, q, z⟩ => ?_, fun i l d h hl => ?_⟩, ⟨s.sub, by rw [b.len]; exact s0.len, fun i d h => ?_, fun i l d h hl => ?_, fun i j l m d d' a q1 l1 q2 l2 z1 z2 => ?_⟩⟩
  · rcases e.new a h h2 with q | ⟨j, hj⟩
    · exact .inl q
    · exact .inr (hPs j a hj)
  · obtain ⟨a', d0, h1, h2, h3, h4⟩ := hmu i _ d q rfl
    exact ⟨i, d0, h2, z⟩
  · obtain ⟨a', d0, h1, h2, h3, h4⟩ := hmu i l d h hl
    exact ⟨_, d0, h2, rfl⟩
  · obtain ⟨v, q1, q2⟩ := s0.im i d (b.im i d h)
    exact ⟨v, q1, dp_mono e.exI q2⟩
  · obtain ⟨a', d0, h1, h2, h3, h4⟩ := hmu i l d h hl
    obtain ⟨c, w1, w2, w3⟩ := s.mu i _ d h3 rfl
    have := e.par _ h1
    rw [w1] at this
    cases this
    exact ⟨_, h4, w2, w3⟩
  · obtain ⟨a1, d1, _, u1, _, v1⟩ := hmu i l d q1 l1
    obtain ⟨a2, d2, _, u2, _, v2⟩ := hmu j m d' q2 l2
    exact s0.inj i j _ _ _ _ a u1 rfl u2 rfl z1 z2
theorem sok_start {HI H : Hp} {σ : L2.St} {ρ : Rho} {m : Nat} (s : SOk K HI H σ ρ) : SOk K HI H (σ ++ List.replicate m none) (ρ ++ List.replicate m .un) := by
  have app : ∀ (i : Nat) (l : Sl), (ρ ++ List.replicate m Sl.un)[i]? = some l → l ≠ .un → ρ[i]? = some l ∧ (σ ++ List.replicate m none)[i]? = σ[i]? := fun i l h n => by
    by_cases hi : i < ρ.length
    · rw [List.getElem?_append_left hi] at h
      exact ⟨h, List.getElem?_append_left (by rw [s.len]; exact hi)⟩
    · rw [List.getElem?_append_right (by omega), List.getElem?_replicate] at h
      split at h
      · cases h; exact absurd rfl n
      · cases h
  have nun : ∀ (l : Sl) (d : D), owd l = some d → l ≠ .un := fun l d h e => by subst e; cases h
  refine ⟨s.sub, by rw [List.length_append, List.length_append, List.length_replicate, List.length_replicate, s.len], fun i d h => ?_, fun i l d h hl => ?_, fun i j l k d e a q1 l1 q2 l2 z1 z2 => ?_⟩
  · obtain ⟨h1, h2⟩ := app i _ h (fun z => by cases z)
    obtain ⟨v, q1, q2⟩ := s.im i d h1
    exact ⟨v, by rw [h2]; exact q1, q2⟩
  · obtain ⟨h1, h2⟩ := app i _ h (nun l d hl)
    obtain ⟨a, q1, q2, q3⟩ := s.mu i l d h1 hl
    exact ⟨a, by rw [h2]; exact q1, q2, q3⟩
  · obtain ⟨h1, h2⟩ := app i _ q1 (nun l d l1)
    obtain ⟨h3, h4⟩ := app j _ q2 (nun k e l2)
    exact s.inj i j l k d e a h1 l1 h3 l2 (by rw [← h2]; exact z1) (by rw [← h4]; exact z2)
/-- THE RULE: a def by its body's mirror -/
theorem fn_ok {P : Program} {w : World} {mg : Str → Option Value} {base : Heap} {x qual : Str} {st : Stmt} {f : Addr} {fd : FuncData} {N ps : List Str} {k : Nat} {PI : List Nat} {m : MS} (F : Fun K x qual st f fd) (S : FnScope N ps (defScope st)) (hpi : ∀ i ∈ PI, i < ps.length)
    (hb : ∀ (cdv : Value) (A : Around) (outer : List Env) (s : Shared) (H : Hp) (E : XK), Room k (A.deeper (envOfC qual (defScope st) s.heap.objs.size f cdv)) →
      ∃ t, PSs (cxOf (L2.CX P w) P w K mg base N qual (defScope st) f cdv A outer s H E) (defBody st) t ∧ RdS K (fun cls d _ H => E cls d H) C PI t m) : FnOk P w K mg base (L2.CX P w) (k + 1) f fd ps (SpF K C ps.length (mBody PI ps.length N.length m)) := by
  refine F.okX S (fun vs H Q E h => h.1) fun cdv A outer s H vs Q E hr hsp => ?_
  obtain ⟨hl, HI, ρ, so, p⟩ := hsp
  obtain ⟨t, ht, rd⟩ := hb cdv A outer s H E hr
  refine ⟨t, ht, ?_⟩
  unfold mBody at p
  by_cases ho : onlyIm 0 PI ρ = true
  · rw [if_pos ho] at p
    have rl : ρ.length = ps.length := by rw [← so.len, List.length_map]; exact hl
    have par : ∀ i ∈ PI, (∃ d, ρ[i]? = some (Sl.mu d)) ∨ ∀ r, back PI ρ r = none := fun i hi => by
      cases h : muAt ρ i with
      | some ds => exact .inl ⟨_, muAt_some h⟩
      | none =>
        refine .inr fun r => ?_
        cases q : back PI ρ r with
        | none => rfl
        | some ρ1 =>
          obtain ⟨b, bm⟩ := back_bk q
          obtain ⟨d, q1, q2⟩ := bm i hi
          obtain ⟨l0, z, w⟩ := b.mu i _ d q1 rfl
          rcases onlyIm_at ho z with ⟨d', y⟩ | ⟨_, ds, y⟩
          · subst y
            rcases w with w | ⟨_, d0, w0, _⟩
            · cases w
            · cases w0
          · subst y
            unfold muAt at h
            rw [z] at h
            cases h
    by_cases hall : ∀ i ∈ PI, ∃ d, ρ[i]? = some (Sl.mu d)
    · obtain ⟨Ps, h1, h2⟩ := pars_ex so PI hall
      have hsv : L2.start N vs = vs.map some ++ List.replicate (N.length - ps.length) none := by unfold L2.start; rw [hl]
      rw [hsv]
      have s2 := sok_start (m := N.length - ps.length) so
      have left : ∀ i, i < ps.length → (vs.map some ++ List.replicate (N.length - ps.length) none)[i]? = (vs.map some)[i]? := fun i hi => List.getElem?_append_left (by rw [List.length_map, hl]; exact hi)
      have en : Ent Ps HI HI H HI H (vs.map some ++ List.replicate (N.length - ps.length) none) (ρ ++ List.replicate (N.length - ps.length) .un) := by
        refine ⟨Same.refl _, Same.refl _, fun _ x y => absurd x y, fun _ _ e _ => e, fun _ e => e, fun i l d a q hl' hs => ?_, fun p hp => ?_⟩
        · by_cases hi : i < ps.length
          · rw [List.getElem?_append_left (by rw [rl]; exact hi)] at q
            rcases onlyIm_at ho q with ⟨d', y⟩ | ⟨y1, ds, y2⟩
            · subst y; cases hl'
            · obtain ⟨b, hb⟩ := h2 i (by simpa using y1)
              have := (h1 _ hb).2
              rw [left i hi] at hs
              rw [hs] at this
              cases this
              exact .inl hb
          · rw [List.getElem?_append_right (by rw [rl]; omega), List.getElem?_replicate] at q
            split at q
            · cases q; cases hl'
            · cases q
        · obtain ⟨q1, q2⟩ := h1 p hp
          rw [left p.1 (hpi _ q1)]
          exact q2
      refine rd Ps HI HI H (fun p hp => (h1 p hp).1) _ HI H _ _ s2 en ?_
      cases hm : m (ρ ++ List.replicate (N.length - ps.length) .un) with
      | none => rw [hm] at p; exact False.elim p
      | some o =>
        rw [hm] at p
        cases o with
        | nx r =>
          intro HI' H' σ so' en'
          cases hbk : back PI ρ r with
          | none => dsimp only at p; rw [hbk] at p; exact False.elim p
          | some ρ1 =>
            dsimp only at p
            rw [hbk] at p
            obtain ⟨tr, s3⟩ := ent_back so ho h1 h2 so' en' hbk
            exact p HI' H' tr s3 _ .non
        | bk r => exact False.elim p
        | ct r => exact False.elim p
        | ex c r =>
          intro HI' H' σ so' en'
          cases hbk : back PI ρ r with
          | none => dsimp only at p; rw [hbk] at p; exact False.elim p
          | some ρ1 =>
            dsimp only at p
            rw [hbk] at p
            obtain ⟨tr, s3⟩ := ent_back so ho h1 h2 so' en' hbk
            exact p HI' H' tr s3
        | rt fr d r =>
          dsimp only at p
          cases hbk : back PI ρ r with
          | none => rw [hbk] at p; exact False.elim p
          | some ρ1 =>
            rw [hbk] at p
            cases fr with
            | false =>
              intro HI' H' σ so' en' v rv
              obtain ⟨tr, s3⟩ := ent_back so ho h1 h2 so' en' hbk
              exact p HI' H' tr s3 v rv
            | true =>
              cases d with
              | list ds =>
                intro HI' H' σ so' en' q us hq ra
                obtain ⟨tr, s3⟩ := ent_back so ho h1 h2 so' en' hbk
                exact p HI' H' tr s3 q us hq ra
              | _ => exact False.elim p
    · exfalso
      obtain ⟨i, hi⟩ := Classical.not_forall.mp hall
      obtain ⟨hi, hn⟩ := Classical.not_imp.mp hi
      rcases par i hi with q | q
      · exact hn q
      · cases hm : m (ρ ++ List.replicate (N.length - ps.length) .un) with
        | none => rw [hm] at p; exact p
        | some o =>
          rw [hm] at p
          cases o with
          | nx r => dsimp only at p; rw [q r] at p; exact p
          | bk r => exact p
          | ct r => exact p
          | ex c r => dsimp only at p; rw [q r] at p; exact p
          | rt fr d r => dsimp only at p; rw [q r] at p; exact p
  · rw [if_neg ho] at p; exact False.elim p
end
end Ev
set_option Elab.async false
set_option linter.all false
set_option autoImplicit false
set_option maxRecDepth 100000
namespace Ev
open PySem PySem.Spec L2

/-! ### calls -/
section
variable {K : PySem.W.Frag} {W : WX} {C : Exc}
theorem tr_tp {HI H HI' H' : Hp} {σ : L2.St} {ρ ρ' : Rho} (no : ∀ a, ¬ Own σ ρ a) (t : Tr σ ρ HI H ρ' HI' H') (sub : Same HI' H') : TP HI H HI' H' :=
  ⟨t.exI, fun b o e => t.keep b o e (no b), sub, fun a h h2 => by
    rcases t.new a h h2 with q | q
    · exact q
    · exact absurd q (no a)⟩
theorem map_im {ds : List D} {i : Nat} {l : Sl} (h : (ds.map Sl.im)[i]? = some l) : ∃ d, l = .im d ∧ ds[i]? = some d := by
  rw [List.getElem?_map] at h
  cases e : ds[i]? with
  | none => rw [e] at h; cases h
  | some d => rw [e] at h; cases h; exact ⟨d, rfl, rfl⟩
theorem no_own {σ : L2.St} {ds : List D} (a : Addr) : ¬ Own σ (ds.map Sl.im) a := fun ⟨i, d, h, _⟩ => by
  obtain ⟨e, z, _⟩ := map_im h
  cases z
theorem sok_args {HI H : Hp} {vs : List V} {ds : List D} (sub : Same HI H) (ra : RpAll K HI vs ds) : SOk K HI H (vs.map some) (ds.map Sl.im) := by
  refine ⟨sub, by rw [List.length_map, List.length_map]; exact dpa_len ra, fun i d h => ?_, fun i l d h hl => ?_, fun i j l m d e a h1 l1 h2 l2 z1 z2 => ?_⟩
  · obtain ⟨e, z, w⟩ := map_im h
    cases z
    obtain ⟨v, q1, q2⟩ := dpa_get ra w
    exact ⟨v, by rw [List.getElem?_map, q1]; rfl, q2⟩
  · obtain ⟨e, z, w⟩ := map_im h
    subst z; cases hl
  · obtain ⟨e, z, w⟩ := map_im h1
    subst z; cases l1
/-- what a call's mirror gives, no list handed over -/
def fRes (r : Option So) : M D := fun ρ => match r with
  | some (.rt false d _) => some (.ok d ρ)
  | some (.rt true (.list ds) _) => some (.ok (.list ds) ρ)
  | some (.ex c _) => some (.ex c ρ)
  | _ => none
def fCall (n : Nat) (g : FM) (fl : M (List D)) : M D := mbind fl fun ds => if ds.length = n then fRes (g (ds.map .im)) else fun _ => none
theorem res_ok {HI H : Hp} {σ σc : L2.St} {ρ ρc : Rho} {r : Option So} {Q : VK} {E : XK} (hE : ∀ c d H, W c d σ H → E c d H) (so : SOk K HI H σ ρ) (no : ∀ a, ¬ Own σc ρc a)
    (p : Pt K W C σ ρ HI H (fRes r ρ) (fun a HI' H' => ∀ b, Rp K HI' b a → Q b H')) : PtF K C σc ρc HI H r Q E := by
  unfold fRes at p
  cases r with
  | none => exact p
  | some o =>
    cases o with
    | nx r => exact p
    | bk r => exact p
    | ct r => exact p
    | ex c r => exact fun HI' H' tr so' => WC.imp (fun c d => hE c d _) (p HI' H' (tr_tp no tr so'.sub).tr (so.tp (tr_tp no tr so'.sub)))
    | rt fr d r =>
      cases fr with
      | false => exact fun HI' H' tr so' v rv => p HI' H' (tr_tp no tr so'.sub).tr (so.tp (tr_tp no tr so'.sub)) v rv
      | true =>
        cases d with
        | list ds =>
          intro HI' H' tr so' q us hq ra
          have tp := tr_tp no tr so'.sub
          have tp2 := tp.trans (TP.new_ (o := .lst us) so'.sub hq)
          exact p _ _ tp2.tr (so.tp tp2) _ (.lst (.inl (.inl upd_same)) (dpa_mono (TP.new_ (o := .lst us) so'.sub hq).exI ra))
        | _ => exact p
theorem rd_call {n : Nat} {g : FM} {tl : TA} {fl : M (List D)} (h : RdA K W C tl fl) : Rd K W C (tCallS (SpF K C n g) (WE W) tl) (fCall n g fl) :=
  RdG.bind (u := fun vs σ H Q => SpF K C n g vs H Q (WE W σ)) h fun HI1 H1 vs ds _ ra => by
    intro ρ HI H σ Q s so p
    by_cases hn : ds.length = n
    · rw [if_pos hn] at p
      exact ⟨by rw [dpa_len ra]; exact hn, HI, _, sok_args so.sub (dpa_mono s ra), res_ok (σ := σ) (ρ := ρ) (fun _ _ _ z => z) so no_own p⟩
    · rw [if_neg hn] at p
      exact False.elim p
/-- f() : no exception -/
def fCall0 (g : FM) : M D := fun ρ => match g [] with
  | some (.ex _ _) => none
  | r => fRes r ρ
theorem rd_call0 {g : FM} : Rd K W C (tCall (SpF K C 0 g) [] E0 tNil) (fCall0 g) := by
  intro ρ HI H σ Q _ so p
  refine ⟨rfl, HI, [], sok_args (ds := []) so.sub .nil, ?_⟩
  unfold fCall0 at p
  cases hg : g [] with
  | none => rw [hg] at p; exact False.elim p
  | some o =>
    rw [hg] at p
    cases o with
    | ex c r => exact False.elim p
    | nx r => exact False.elim p
    | bk r => exact False.elim p
    | ct r => exact False.elim p
    | rt fr d r => exact res_ok (W := fun _ _ _ _ => False) (C := C) (σ := σ) (ρ := ρ) (fun _ _ _ z => z) so (no_own (ds := [])) (by
        cases fr with
        | false => exact p
        | true => cases d <;> exact p)
/-- .. whose keywords are given in another order -/
def fCallK (n : Nat) (g : FM) (perm : List D → List D) (fl : M (List D)) : M D := mbind fl fun ds => if (perm ds).length = n then match g ((perm ds).map .im) with
    | some (.ex _ _) => fun _ => none
    | r => fRes r
  else fun _ => none
/-- a call's new list stays one's own -/
def fResF (r : Option So) : M (List D) := fun ρ => match r with
  | some (.rt true (.list ds) _) => some (.ok ds ρ)
  | some (.ex c _) => some (.ex c ρ)
  | _ => none
theorem resF_ok {HI H : Hp} {σ σc : L2.St} {ρ ρc : Rho} {r : Option So} {Q : VK} {E : XK} (hE : ∀ c d H, W c d σ H → E c d H) (so : SOk K HI H σ ρ) (no : ∀ a, ¬ Own σc ρc a)
    (p : Pt K W C σ ρ HI H (fResF r ρ) (fun ds HI' H' => ∀ p vs, H' p = none → RpAll K HI' vs ds → Q (.ref p) (upd H' p (.lst vs)))) : PtF K C σc ρc HI H r Q E := by
  unfold fResF at p
  cases r with
  | none => exact p
  | some o =>
    cases o with
    | nx r => exact p
    | bk r => exact p
    | ct r => exact p
    | ex c r => exact fun HI' H' tr so' => WC.imp (fun c d => hE c d _) (p HI' H' (tr_tp no tr so'.sub).tr (so.tp (tr_tp no tr so'.sub)))
    | rt fr d r =>
      cases fr with
      | false => exact False.elim p
      | true =>
        cases d with
        | list ds => exact fun HI' H' tr so' q us hq ra => p HI' H' (tr_tp no tr so'.sub).tr (so.tp (tr_tp no tr so'.sub)) q us hq ra
        | _ => exact p
def fCallF (n : Nat) (g : FM) (fl : M (List D)) : M (List D) := mbind fl fun ds => if ds.length = n then fResF (g (ds.map .im)) else fun _ => none
theorem rf_call {n : Nat} {g : FM} {tl : TA} {fl : M (List D)} (h : RdA K W C tl fl) : RdF K W C (tCallS (SpF K C n g) (WE W) tl) (fCallF n g fl) := by
  intro ρ HI H σ Q so p
  refine h ρ HI H σ _ same_H0 so ?_
  unfold fCallF at p
  cases hf : fl ρ with
  | none => rw [mb_none hf] at p; exact p
  | some r =>
    cases r with
    | ex c ρ1 => rw [mb_ex hf] at p; exact p
    | ok ds ρ1 =>
      rw [mb_ok hf] at p
      intro HI' H' tr so' vs ra
      by_cases hn : ds.length = n
      · rw [if_pos hn] at p
        exact ⟨by rw [dpa_len ra]; exact hn, HI', _, sok_args so'.sub ra, resF_ok (σ := σ) (ρ := ρ1) (fun _ _ _ z => z) so' no_own (Pt.from tr p)⟩
      · rw [if_neg hn] at p; exact False.elim p
def fCallF0 (g : FM) : M (List D) := fun ρ => match g [] with
  | some (.ex _ _) => none
  | r => fResF r ρ
theorem rf_call0 {g : FM} : RdF K W C (tCall (SpF K C 0 g) [] E0 tNil) (fCallF0 g) := by
  intro ρ HI H σ Q so p
  refine ⟨rfl, HI, [], sok_args (ds := []) so.sub .nil, ?_⟩
  unfold fCallF0 at p
  cases hg : g [] with
  | none => rw [hg] at p; exact False.elim p
  | some o =>
    rw [hg] at p
    cases o with
    | ex c r => exact False.elim p
    | nx r => exact False.elim p
    | bk r => exact False.elim p
    | ct r => exact False.elim p
    | rt fr d r => exact resF_ok (W := fun _ _ _ _ => False) (C := C) (σ := σ) (ρ := ρ) (fun _ _ _ z => z) so (no_own (ds := [])) (by
        cases fr with
        | false => exact p
        | true => cases d <;> exact p)
/-! ### a list of one's own is handed over, first -/
theorem own_cons {σ : L2.St} {v : V} {vs : List V} {ds0 : List D} {ds : List D} {b : Addr} (h : Own ((v :: vs).map some) (Sl.mu (.list ds0) :: ds.map Sl.im) b) : v = .ref b := by
  obtain ⟨i, d, h1, h2⟩ := h
  cases i with
  | zero =>
    simp only [List.map_cons, List.getElem?_cons_zero, Option.some.injEq] at h2
    exact h2
  | succ i =>
    obtain ⟨e, z, _⟩ := map_im (i := i) (l := .mu d) (ds := ds) (by simpa using h1)
    cases z
theorem sok_io {HI H : Hp} {a : Addr} {vs us : List V} {ds es : List D} (sub : Same HI H) (nI : HI a = none) (ha : H a = some (.lst us)) (ru : RpAll K HI us es) (ra : RpAll K HI vs ds) : SOk K HI H ((V.ref a :: vs).map some) (Sl.mu (.list es) :: ds.map Sl.im) := by
  have s := sok_args sub ra
  have ow : ∀ (i : Nat) (l : Sl) (d : D), (Sl.mu (.list es) :: ds.map Sl.im)[i]? = some l → owd l = some d → i = 0 ∧ d = .list es := fun i l d h hl => by
    cases i with
    | zero =>
      simp only [List.getElem?_cons_zero, Option.some.injEq] at h
      subst h; cases hl
      exact ⟨rfl, rfl⟩
    | succ i =>
      obtain ⟨e, z, _⟩ := map_im (i := i) (l := l) (ds := ds) (by simpa using h)
      subst z; cases hl
  refine ⟨sub, by rw [List.map_cons, List.length_cons, List.length_cons, s.len], fun i d h => ?_, fun i l d h hl => ?_, fun i j l m d e b h1 l1 h2 l2 z1 z2 => ?_⟩
  · cases i with
    | zero => simp at h
    | succ i =>
      obtain ⟨v, q1, q2⟩ := s.im i d (by simpa using h)
      exact ⟨v, by simpa using q1, q2⟩
  · obtain ⟨rfl, rfl⟩ := ow i l d h hl
    exact ⟨a, rfl, nI, us, ha, ru⟩
  · rw [(ow i l d h1 l1).1, (ow j m e h2 l2).1]
/-- the caller's slots behind such a call -/
theorem io_back {HI H HI' H' : Hp} {σ : L2.St} {ρ ρc : Rho} {i : Nat} {a : Addr} {vs : List V} {ds es es' : List D} (so : SOk K HI H σ ρ) (h : ρ[i]? = some (Sl.mu (.list es))) (ha : σ[i]? = some (some (V.ref a)))
    (t : Tr ((V.ref a :: vs).map some) (Sl.mu (.list es) :: ds.map Sl.im) HI H ρc HI' H') (s' : SOk K HI' H' ((V.ref a :: vs).map some) ρc) (h' : muAt ρc 0 = some es') :
    Tr σ ρ HI H (ρ.set i (.mu (.list es'))) HI' H' ∧ SOk K HI' H' σ (ρ.set i (.mu (.list es'))) := by
  have ow : ∀ b, Own ((V.ref a :: vs).map some) (Sl.mu (.list es) :: ds.map Sl.im) b → b = a := fun b q => by
    have := own_cons (σ := σ) q
    cases this; rfl
  have owa : Own σ ρ a := ⟨i, _, h, ha⟩
  refine ⟨⟨t.exI, fun b x y => ?_, fun b o q n => t.keep b o q fun z => n (by rw [ow b z]; exact owa), t.dom, fun b ⟨j, d, q, z⟩ => ?_, fun j l d q hl => ?_⟩, ⟨s'.sub, by rw [List.length_set]; exact so.len, fun j d q => ?_, fun j l d q hl => ?_, fun j k l m d e b q1 l1 q2 l2 z1 z2 => ?_⟩⟩
  · rcases t.new b x y with q | q
    · exact .inl q
    · exact .inr (by rw [ow b q]; exact owa)
  · rcases get_set q with ⟨rfl, _, _⟩ | ⟨_, q⟩
    · exact ⟨i, _, h, z⟩
    · exact ⟨j, d, q, z⟩
  · rcases get_set q with ⟨rfl, _, _⟩ | ⟨_, q⟩
    · exact ⟨_, _, h, rfl⟩
    · exact ⟨l, d, q, hl⟩
  · rcases get_set q with ⟨_, z, _⟩ | ⟨_, q⟩
    · cases z
    · obtain ⟨v, w1, w2⟩ := so.im j d q
      exact ⟨v, w1, dp_mono t.exI w2⟩
  · rcases get_set q with ⟨rfl, z, _⟩ | ⟨hij, q⟩
    · subst z
      cases hl
      obtain ⟨n, w⟩ := mu_has (i := 0) (a := a) s' h' rfl
      exact ⟨a, ha, n, w⟩
    · obtain ⟨b, w1, w2, w3⟩ := so.mu j l d q hl
      have hb : b ≠ a := fun e => hij (so.inj i j _ l _ d a h rfl q hl ha (e ▸ w1))
      have nb : ¬ Own ((V.ref a :: vs).map some) (Sl.mu (.list es) :: ds.map Sl.im) b := fun z => hb (ow b z)
      cases d with
      | list fs =>
        obtain ⟨us, u1, u2⟩ := w3
        refine ⟨b, w1, ?_, us, t.keep b _ u1 nb, dpa_mono t.exI u2⟩
        cases e : HI' b with
        | none => rfl
        | some o =>
          rcases t.new b w2 (by rw [e]; exact Option.some_ne_none o) with z | z
          · rw [u1] at z; cases z
          · exact absurd z nb
      | _ => exact w3.elim
  · rcases get_set q1 with ⟨rfl, z, _⟩ | ⟨_, q1⟩
    · rcases get_set q2 with ⟨rfl, y, _⟩ | ⟨_, q2⟩
      · rfl
      · exact so.inj i k _ m _ e b h rfl q2 l2 z1 z2
    · rcases get_set q2 with ⟨rfl, y, _⟩ | ⟨_, q2⟩
      · exact so.inj j i l _ d _ b q1 l1 h rfl z1 z2
      · exact so.inj j k l m d e b q1 l1 q2 l2 z1 z2
def fResM (i : Nat) (r : Option So) : M D := fun ρ => match r with
  | some (.rt false d ρc) => match muAt ρc 0 with
    | some es => some (.ok d (ρ.set i (.mu (.list es))))
    | none => none
  | some (.rt true (.list ds) ρc) => match muAt ρc 0 with
    | some es => some (.ok (.list ds) (ρ.set i (.mu (.list es))))
    | none => none
  | some (.ex c ρc) => match muAt ρc 0 with
    | some es => some (.ex c (ρ.set i (.mu (.list es))))
    | none => none
  | _ => none
def fCallM (n : Nat) (g : FM) (i : Nat) (fl : M (List D)) : M D := fun r => match muAt r i with
  | none => none
  | some _ => mbind fl (fun ds r1 => match muAt r1 i with
    | none => none
    | some es => if ds.length + 1 = n then fResM i (g (.mu (.list es) :: ds.map .im)) r1 else none) r
theorem rd_callM {n : Nat} {g : FM} {i : Nat} {tl : TA} {fl : M (List D)} (h : RdA K W C tl fl) : Rd K W C (tCallS (SpF K C n g) (WE W) (tCons (tVar i) tl)) (fCallM n g i fl) := by
  intro ρ HI H σ Q _ so p
  unfold fCallM at p
  cases h0 : muAt ρ i with
  | none => rw [h0] at p; exact False.elim p
  | some ds0 =>
    rw [h0] at p
    dsimp only at p
    obtain ⟨a, vs0, ha, hv0, rp0⟩ := mu_ref so h0
    refine ⟨V.ref a, ha, ?_⟩
    refine h ρ HI H σ _ same_H0 so ?_
    cases hf : fl ρ with
    | none => rw [mb_none hf] at p; exact p
    | some o =>
      cases o with
      | ex c ρ1 => rw [mb_ex hf] at p; exact p
      | ok ds ρ1 =>
        rw [mb_ok hf] at p
        intro HI1 H1 tr so1 ws rw1
        cases h1 : muAt ρ1 i with
        | none => rw [h1] at p; exact False.elim p
        | some es =>
          rw [h1] at p
          dsimp only at p
          obtain ⟨nI, vs, hv, rp⟩ := mu_has so1 h1 ha
          by_cases hn : ds.length + 1 = n
          · rw [if_pos hn] at p
            refine ⟨by rw [List.length_cons, dpa_len rw1]; exact hn, HI1, _, sok_io so1.sub nI hv rp rw1, ?_⟩
            have p := Pt.from tr p
            unfold fResM at p
            cases hg : g (.mu (.list es) :: ds.map .im) with
            | none => rw [hg] at p; exact p
            | some o =>
              rw [hg] at p
              cases o with
              | nx r => exact p
              | bk r => exact p
              | ct r => exact p
              | ex c r =>
                intro HI' H' t s'
                dsimp only at p
                cases hm : muAt r 0 with
                | none => rw [hm] at p; exact False.elim p
                | some es' =>
                  rw [hm] at p
                  obtain ⟨t2, s2⟩ := io_back so1 (muAt_some h1) ha t s' hm
                  exact p HI' H' t2 s2
              | rt fr d r =>
                cases fr with
                | false =>
                  intro HI' H' t s' v rv
                  dsimp only at p
                  cases hm : muAt r 0 with
                  | none => rw [hm] at p; exact False.elim p
                  | some es' =>
                    rw [hm] at p
                    obtain ⟨t2, s2⟩ := io_back so1 (muAt_some h1) ha t s' hm
                    exact p HI' H' t2 s2 v rv
                | true =>
                  cases d with
                  | list fs =>
                    intro HI' H' t s' q us hq ra
                    dsimp only at p
                    cases hm : muAt r 0 with
                    | none => rw [hm] at p; exact False.elim p
                    | some es' =>
                      rw [hm] at p
                      obtain ⟨t2, s2⟩ := io_back so1 (muAt_some h1) ha t s' hm
                      have tp := TP.new_ (o := .lst us) s2.sub hq
                      exact p _ _ (t2.trans tp.tr) (s2.tp tp) _ (.lst (.inl (.inl upd_same)) (dpa_mono tp.exI ra))
                  | _ => exact p
          · rw [if_neg hn] at p; exact False.elim p
end
end Ev
set_option Elab.async false
set_option linter.all false
set_option autoImplicit false
set_option maxRecDepth 100000
namespace Ev
open PySem PySem.Spec L2 PyProof.Rows

/-! ### isinstance -/
inductive Ty where
  | bl | int | str | lst | tup | dic
deriving DecidableEq
def tyNm : Ty → String
  | .bl => "bool"
  | .int => "int"
  | .str => "str"
  | .lst => "list"
  | .tup => "tuple"
  | .dic => "dict"
inductive Dk where
  | non | bl | int | str | lst | tup | dic
def kNm : Dk → String
  | .non => "NoneType"
  | .bl => "bool"
  | .int => "int"
  | .str => "str"
  | .lst => "list"
  | .tup => "tuple"
  | .dic => "dict"
def kD : D → Dk
  | .none => .non
  | .bool _ => .bl
  | .int _ => .int
  | .str _ => .str
  | .list _ => .lst
  | .tuple _ => .tup
  | .dict _ => .dic
def isK : Ty → Dk → Bool
  | .bl, .bl => true
  | .int, .bl => true
  | .int, .int => true
  | .str, .str => true
  | .lst, .lst => true
  | .tup, .tup => true
  | .dic, .dic => true
  | _, _ => false
def dNm (d : D) : String := kNm (kD d)
def isA (T : Ty) (d : D) : Bool := isK T (kD d)
theorem kit_tab : ∀ (T : Ty) (k : Dk), kitB (kNm k) (tyNm T) = some (isK T k) := by
  intro T k
  cases T <;> cases k <;> decide +kernel
theorem kit_is {K : PySem.W.Frag} (T : Ty) (d : D) : PySem.W.kitOne K (.type (dNm d)) (.type (tyNm T)) = some (isA T d) := kit_ty (kit_tab T (kD d))
section
variable {K : PySem.W.Frag} {W : WX} {C : Exc} {te : TE} {fe : M D}
theorem rp_ty {HI : Hp} {v : V} {d : D} (h : Rp K HI v d) : TyX K HI v (.type (dNm d)) := by
  cases h with
  | non => exact .base .non
  | bl b => exact .base (.bl b)
  | int i => exact .base (.int i)
  | str x => exact .base (.str x)
  | lst h _ =>
    rcases h with (h | ⟨o, h⟩) | ⟨o, its, n, h, hc, _⟩
    · exact .base (.lst h)
    · exact .base (.frz h)
    · exact .kList h hc
  | tup h _ _ =>
    rcases h with (h | ⟨o, h⟩) | ⟨o, its, n, h, hc, _⟩
    · exact .base (.tup h)
    · exact .fTuple h
    · exact .kTuple h hc
  | dic h _ => exact .base (.dK h)
theorem tyx_mono {H H' : Hp} {v : V} {d : D} (e : Same H H') (h : Rp K H v d) : TyX K H' v (.type (dNm d)) := rp_ty (dp_mono e h)
def tyV1 (T : Ty) : V := .ty (tyNm T)
def tyA : List Ty → TA
  | [] => tNil
  | T :: Ts => tCons (tC (tyV1 T)) (tyA Ts)
theorem rd_isi (T : Ty) (h : Rd K W C te fe) : Rd K W C (tCB (rIsi K) (tCons te (tCons (tC (tyV1 T)) tNil))) (mbind fe fun d => mpure (.bool (isA T d))) :=
  RdG.bind (u := fun x σ H Q => rIsi K [x, tyV1 T] H Q) h fun HI1 H1 x dx _ rx => RdG.ret fun HI H σ Q s sub q =>
    ⟨x, _, _, _, _, rfl, .ty _, tyx_mono (s.trans sub) rx, kit_is T dx, q _ HI H (TP.refl sub) (.bl _)⟩
def isAny (Ts : List Ty) (d : D) : Bool := Ts.any fun T => isA T d
theorem kit_any {K : PySem.W.Frag} (d : D) : ∀ (Ts : List Ty), PySem.W.kitAny K (.type (dNm d)) (Ts.map fun T => .type (tyNm T)) = some (isAny Ts d)
  | [] => rfl
  | T :: Ts => by
    refine kitAny_cons (kit_is T d) (fun h => ?_) (fun h => ?_)
    · rw [show isAny (T :: Ts) d = (isA T d || isAny Ts d) from rfl, h, Bool.false_or]
      exact kit_any d Ts
    · rw [show isAny (T :: Ts) d = (isA T d || isAny Ts d) from rfl, h, Bool.true_or]
theorem tya_run {σ : L2.St} {H : Hp} {Q : List V → Hp → Prop} : ∀ {Ts : List Ty}, Q (Ts.map tyV1) H → tyA Ts σ H Q
  | [], q => q
  | T :: Ts, q => tya_run (Ts := Ts) (Q := fun xs H => Q (tyV1 T :: xs) H) q
theorem cls_all : ∀ (Ts : List Ty), Paired ClsV (Ts.map tyV1) (Ts.map fun T => .type (tyNm T))
  | [] => .nil
  | T :: Ts => .cons (.ty _) (cls_all Ts)
theorem rd_isiT (Ts : List Ty) (hs : Ts.length ≤ 100000) (h : Rd K W C te fe) : Rd K W C (tCB (rIsiT K) (tCons te (tCons (tTup (tyA Ts)) tNil))) (mbind fe fun d => mpure (.bool (isAny Ts d))) :=
  RdG.bind (u := fun x σ H Q => tTup (tyA Ts) σ H fun y H2 => rIsiT K [x, y] H2 Q) h fun HI1 H1 x dx _ rx => RdG.ret fun HI H σ Q s sub q => by
    refine tya_run (Q := fun xs H1 => xs.length ≤ sizeLine ∧ ∀ p, H1 p = none → rIsiT K [x, V.ref p] (upd H1 p (.tup xs)) Q) ⟨?_, fun p hp => ?_⟩
    · rw [List.length_map]; exact Nat.le_trans hs (by decide)
    · have tp := TP.fresh (o := .tup (Ts.map tyV1)) sub hp
      exact ⟨x, p, _, _, _, _, rfl, upd_same, cls_all Ts, tyx_mono (s.trans (sub.trans tp.ex)) rx, kit_any dx Ts, q _ HI _ tp (.bl _)⟩
end

/-! ### raise -/
section
variable {X : Cx} {Cc : Addr} {bmB : List Value} {B newId initId : String}
/-- X() -/
theorem pmk_own0 {x : Str} {p pos : Pos} (F : ExcBaseFacts B newId initId bmB) (q : PySem.W.excIn X.K Cc bmB newId = true) (gC : X.mg x = some (.ref Cc)) (kC : PySem.W.keepIn X.K (.ref Cc) = true) (r : Raises X (.ref Cc)) (hg : Gl X x)
    (hdb : (x == ("__debug__" : Str)) = false := by decide) : PMk X (.Call (.Name x p) [] [] pos) (fun _ H Q => Q (.ref Cc) none H) := by
  intro pins s σ H Q I h
  refine wpAny_Call_Name_kw (ld_glob I hg gC ?_ hdb)
  refine PySem.W.callWith_K0 I.kIn kC ?_
  show wpAny _ _ (call (.ref Cc) []) _ _ _
  obtain ⟨bm, N, nm, qn, bs, hdct, sn, sub, ab, col, dd, k0, k1, k2, k3, k5, mN, hC, hN, hni, T⟩ := exc_obj I.kIn q
  refine wpAny_call_exc_subT F T hC hN hni (fun h' e hm => ?_) (by show 0 ≤ sizeLine; exact Nat.zero_le _)
  exact mk_of I hm r h (I.hok.gone hm.new)
end
/-- what is known of an own exception class -/
structure ExF (K : PySem.W.Frag) (mg : Str → Option Value) (x : Str) (Cc : Addr) : Prop where
  gC : mg x = some (.ref Cc)
  kC : PySem.W.keepIn K (.ref Cc) = true
  q : ∃ bmB, ∃ B newId initId : String, ExcBaseFacts B newId initId bmB ∧ PySem.W.excIn K Cc bmB newId = true
  sub : PySem.W.subIn K (.ref Cc) (.type "BaseException") = some true
  ty : PySem.W.typeIn K (.ref Cc) = some (.type "type")
  is : ExcC K Cc
  ve : PySem.W.kitOne K (.ref Cc) (.type "ValueError") = some true
theorem ps_raise0 {X : Cx} {W : WX} {x : Str} {Cc : Addr} {p pos pos' : Pos} (F : ExF X.K X.mg x Cc) (hc : X.calm = true) (tk : Takes X W) (hg : Gl X x) (hdb : (x == ("__debug__" : Str)) = false := by decide) : PS X (.Raise (some (.Call (.Name x p) [] [] pos)) none pos') (fun _ σ H => W (.ref Cc) none σ H) := by
  obtain ⟨bmB, B, newId, initId, hF, hq⟩ := F.q
  exact ps_raise hc tk (pmk_own0 hF hq F.gC F.kC (raises_own F.sub F.ty) hg hdb)
section
variable {K : PySem.W.Frag} {W : WX} {C : Exc} {PI : List Nat}
theorem rs_raise {c : Nat} {Cc : Addr} (hc : C c = .ref Cc) : RdS K W C PI (fun _ σ H => W (.ref Cc) none σ H) (fun r => some (.ex (c, []) r)) := fun Ps HB HI0 H0 hps ρ HI H σ D so en p => by
  have q : W (C c) none σ H := p HI H σ so en
  rw [hc] at q
  exact q
end
end Ev
set_option Elab.async false
set_option linter.all false
set_option autoImplicit false
set_option maxRecDepth 100000
namespace Ev
open PySem PySem.Spec L2 PyProof.Rows

/-! ### try -/
section
variable {K : PySem.W.Frag} {W : WX} {C : Exc} {PI : List Nat}
theorem SOk.set_un {HI H : Hp} {σ : L2.St} {ρ : Rho} (s : SOk K HI H σ ρ) (i : Nat) (x : Option V) : SOk K HI H (σ.set i x) (ρ.set i .un) := by
  refine ⟨s.sub, by rw [List.length_set, List.length_set]; exact s.len, fun j d h => ?_, fun j l d h hl => ?_, fun j k l m d e a h1 l1 h2 l2 z1 z2 => ?_⟩
  · rcases get_set h with ⟨_, z, _⟩ | ⟨n, h⟩
    · cases z
    · rw [List.getElem?_set_ne n]; exact s.im j d h
  · rcases get_set h with ⟨_, z, _⟩ | ⟨n, h⟩
    · subst z; cases hl
    · rw [List.getElem?_set_ne n]; exact s.mu j l d h hl
  · rcases get_set h1 with ⟨_, z, _⟩ | ⟨n1, h1⟩
    · subst z; cases l1
    · rcases get_set h2 with ⟨_, z, _⟩ | ⟨n2, h2⟩
      · subst z; cases l2
      · rw [List.getElem?_set_ne n1] at z1
        rw [List.getElem?_set_ne n2] at z2
        exact s.inj j k l m d e a h1 l1 h2 l2 z1 z2
theorem Ent.set_un {Ps : List (Nat × Addr)} {HB HI0 H0 HI H : Hp} {σ : L2.St} {ρ : Rho} {i : Nat} (e : Ent Ps HB HI0 H0 HI H σ ρ) (x : Option V) (hps : ∀ p ∈ Ps, p.1 ∈ PI) (hi : i ∉ PI) : Ent Ps HB HI0 H0 HI H (σ.set i x) (ρ.set i .un) :=
  e.slots (fun j l d h hl => by
    rcases get_set h with ⟨_, z, _⟩ | ⟨n, h⟩
    · subst z; cases hl
    · exact ⟨h, List.getElem?_set_ne n⟩) fun p hp => List.getElem?_set_ne fun z => hi (by rw [z]; exact hps p hp)
theorem Ent.set_im {Ps : List (Nat × Addr)} {HB HI0 H0 HI H : Hp} {σ : L2.St} {ρ : Rho} {i : Nat} {d : D} (e : Ent Ps HB HI0 H0 HI H σ ρ) (x : Option V) (hps : ∀ p ∈ Ps, p.1 ∈ PI) (hi : i ∉ PI) : Ent Ps HB HI0 H0 HI H (σ.set i x) (ρ.set i (.im d)) :=
  e.slots (fun j l d h hl => by
    rcases get_set h with ⟨_, z, _⟩ | ⟨n, h⟩
    · subst z; cases hl
    · exact ⟨h, List.getElem?_set_ne n⟩) fun p hp => List.getElem?_set_ne fun z => hi (by rw [z]; exact hps p hp)
/-- ['..', isinstance(e, ValueError)], e what is caught -/
def teE (K : PySem.W.Frag) (Dc a : Addr) (i : Nat) (z : Str) : TE := tLst (tCons (tC (.str z)) (tCons (tCB (rIsE K Dc a) (tCons (tVar i) (tCons (tC (.ty "ValueError")) tNil))) tNil))
theorem teE_run {Dc a : Addr} {i : Nat} {z : Str} {σ : L2.St} {H : Hp} {Q : V → Hp → Prop} (hσ : σ[i]? = some (some (V.ref a))) (ve : PySem.W.kitOne K (.ref Dc) (.type "ValueError") = some true) (q : ∀ p, H p = none → Q (.ref p) (upd H p (.lst [.str z, .bl true]))) : teE K Dc a i z σ H Q :=
  ⟨V.ref a, hσ, .ty "ValueError", .type "ValueError", true, rfl, fun _ r => r, ve, by show 2 ≤ sizeLine; decide, q⟩
theorem pe_teE {X : Cx} {y : Str} {Dc a : Addr} {oe : Obj} {pn : List (Addr × Obj)} {i : Nat} {z n : Str} {j : Nat} {k1 k2 k3 k4 k5 k6 : Pos} (F : ExF X.K X.mg y Dc) (hz : Zc (.ref Dc) none oe) (hf : ∃ vs, oe.data = .fields vs) (h1 : Gl X "isinstance") (h2 : Gl X "ValueError") (m1 : X.mg "isinstance" = none) (m2 : X.mg "ValueError" = none)
    (hv : PE (X.suite a ((a, oe) :: pn)) (.Name n k3) (tVar i))
    (he : starEach [Expr.Name n k3, Expr.Name "ValueError" k4] (X.suite a ((a, oe) :: pn)).env = (false, eval (.Name n k3) (X.suite a ((a, oe) :: pn)).env) :: starEach [Expr.Name "ValueError" k4] (X.suite a ((a, oe) :: pn)).env := by rfl)
    (hpl : (backTo k5 (starEach [Expr.Name "ValueError" k4] (X.suite a ((a, oe) :: pn)).env)).any (·.1) = false := by rfl) :
    PE (X.suite a ((a, oe) :: pn)) (.List [.Constant (.str z) j k1, .Call (.Name "isinstance" k2) [.Name n k3, .Name "ValueError" k4] [] k5] k6) (teE X.K Dc a i z) :=
  pe_lst (pa_cons pe_str (pa_cons (pe_callB (call_isE F.is hz hf) h1 m1 PyProof.Rows.boot_isinstance (pa_cons hv (pa_cons (pe_bltn h2 m2 boot_ValueError rfl) pa_nil)) (by decide) (by decide) he hpl) pa_nil))
def tsW (Dc : Addr) (t : Addr → TS) : Addr → Value → Option Addr → TS := fun a cls d => fun Dn σ H => cls = .ref Dc ∧ d = none ∧ t a Dn σ H
theorem pss_tsW {X : Cx} {ss : List Stmt} {Dc : Addr} {t : Addr → TS} (h : ∀ (a : Addr) (oe : Obj) (pn : List (Addr × Obj)), Zc (.ref Dc) none oe → (∃ vs, oe.data = .fields vs) → PSs (X.suite a ((a, oe) :: pn)) ss (t a)) :
    ∀ (a : Addr) (oe : Obj) (cls : Value) (d : Option Addr) (pn : List (Addr × Obj)), Zc cls d oe → (∃ vs, oe.data = .fields vs) → PSs (X.suite a ((a, oe) :: pn)) ss (tsW Dc t a cls d) := fun a oe cls d pn hz hf => by
  constructor
  intro pins s σ H D I hh
  obtain ⟨e1, e2, hh⟩ := hh
  subst e1 e2
  exact (h a oe pn hz hf).run pins s σ H D I hh
/-- try: .., except .. as e: return ['..', isinstance(e, ValueError)] -/
def fTryR (NE c0 i : Nat) (z : Str) (f : MS) : MS := fun r => match f r with
  | some (.ex (_, _ :: _) _) => none
  | some (.ex (c, []) r1) => if c < NE ∧ i < r1.length then (if c = c0 then some (.rt true (.list [.str z, .bool true]) r1) else some (.ex (c, []) r1)) else none
  | x => x
theorem rs_try_ret {tb : WX → TS} {f : MS} {NE c0 i : Nat} {z : Str} {Dc : Addr} (hC : C c0 = .ref Dc) (hx : ∀ c, c < NE → PySem.W.exmOne K (C c) (C c0) = some (c == c0)) (ve : PySem.W.kitOne K (.ref Dc) (.type "ValueError") = some true)
    (hb : ∀ W, RdS K W C PI (tb W) f) : RdS K W C PI (fun D σ H => tb (wAs K (.ref Dc) i (tsW Dc fun a => tRet (teE K Dc a i z)) W D) D σ H) (fTryR NE c0 i z f) := by
  intro Ps HB HI0 H0 hps ρ HI H σ D so en p
  refine hb _ Ps HB HI0 H0 hps ρ HI H σ D so en ?_
  unfold fTryR at p
  cases hf : f ρ with
  | none => rw [hf] at p; exact p
  | some o =>
    rw [hf] at p
    cases o with
    | nx r => exact p
    | bk r => exact p
    | ct r => exact p
    | rt fr d r =>
      cases fr with
      | false => exact p
      | true => cases d <;> exact p
    | ex cf r =>
      obtain ⟨c, fs⟩ := cf
      cases fs with
      | cons _ _ => exact False.elim p
      | nil =>
      intro HI' H' σ' so' en'
      dsimp only at p
      by_cases hc : c < NE ∧ i < r.length
      · rw [if_pos hc] at p
        refine ⟨c == c0, by rw [← hC]; exact hx c hc.1, fun e a ha => ?_, fun e => ?_⟩
        · have e : c = c0 := by simpa using e
          rw [if_pos e] at p
          refine ⟨by rw [e]; exact hC, rfl, teE_run (List.getElem?_set_self (by rw [so'.len]; exact hc.2)) ve fun q hq => ?_⟩
          exact p HI' H' σ' so' en' q _ hq (.cons (.str _) (.cons (.bl _) .nil))
        · have e : ¬ c = c0 := by simpa using e
          rw [if_neg e] at p
          exact p HI' H' σ' so' en'
      · rw [if_neg hc] at p; exact False.elim p
/-- .. x = ['..', isinstance(e, ValueError)] -/
def fTryA (NE c0 i j : Nat) (z : Str) (f : MS) : MS := fun r => match f r with
  | some (.ex (_, _ :: _) _) => none
  | some (.ex (c, []) r1) => if c < NE ∧ i < r1.length then (if c = c0 then some (.nx ((r1.set j (.im (.list [.str z, .bool true]))).set i .un)) else some (.ex (c, []) r1)) else none
  | x => x
theorem rs_try_asg {tb : WX → TS} {f : MS} {NE c0 i j : Nat} {z : Str} {Dc : Addr} (hij : i ≠ j) (hi : i ∉ PI) (hj : j ∉ PI) (hC : C c0 = .ref Dc) (hx : ∀ c, c < NE → PySem.W.exmOne K (C c) (C c0) = some (c == c0)) (ve : PySem.W.kitOne K (.ref Dc) (.type "ValueError") = some true)
    (hb : ∀ W, RdS K W C PI (tb W) f) : RdS K W C PI (fun D σ H => tb (wAs K (.ref Dc) i (tsW Dc fun a => tAsg (teE K Dc a i z) (gName j)) W D) D σ H) (fTryA NE c0 i j z f) := by
  intro Ps HB HI0 H0 hps ρ HI H σ D so en p
  refine hb _ Ps HB HI0 H0 hps ρ HI H σ D so en ?_
  unfold fTryA at p
  cases hf : f ρ with
  | none => rw [hf] at p; exact p
  | some o =>
    rw [hf] at p
    cases o with
    | nx r => exact p
    | bk r => exact p
    | ct r => exact p
    | rt fr d r =>
      cases fr with
      | false => exact p
      | true => cases d <;> exact p
    | ex cf r =>
      obtain ⟨c, fs⟩ := cf
      cases fs with
      | cons _ _ => exact False.elim p
      | nil =>
      intro HI' H' σ' so' en'
      dsimp only at p
      by_cases hc : c < NE ∧ i < r.length
      · rw [if_pos hc] at p
        refine ⟨c == c0, by rw [← hC]; exact hx c hc.1, fun e a ha => ?_, fun e => ?_⟩
        · have e : c = c0 := by simpa using e
          rw [if_pos e] at p
          refine ⟨by rw [e]; exact hC, rfl, teE_run (List.getElem?_set_self (by rw [so'.len]; exact hc.2)) ve fun q hq => ?_⟩
          have tp := TP.new_ (o := .lst [.str z, .bl true]) so'.sub hq
          have rv : Rp K (upd HI' q (.lst [.str z, .bl true])) (.ref q) (.list [.str z, .bool true]) := .lst (.inl (.inl upd_same)) (.cons (.str _) (.cons (.bl _) .nil))
          have en2 : Ent Ps HB HI0 H0 (upd HI' q (.lst [.str z, .bl true])) (upd H' q (.lst [.str z, .bl true])) σ' r := en'.tr so' tp.tr
          have p2 := p _ _ _ (((so'.tp tp).set_im (i := j) rv).set_un i none) ((en2.set_im (i := j) (d := .list [.str z, .bool true]) (some (.ref q)) hps hj).set_un none hps hi)
          show D.nx (((σ'.set i (some (.ref a))).set j (some (.ref q))).set i none) _
          rw [List.set_comm _ _ hij, List.set_set]
          exact p2
        · have e : ¬ c = c0 := by simpa using e
          rw [if_neg e] at p
          exact p HI' H' σ' so' en'
      · rw [if_neg hc] at p; exact False.elim p
end
end Ev
set_option Elab.async false
set_option linter.all false
set_option autoImplicit false
set_option maxRecDepth 100000
namespace Ev
open PySem PySem.Spec L2 PyProof.Rows

/-! ### a def by its mirror -/
structure Fn (P : Program) (w : World) (K : PySem.W.Frag) (mg : Str → Option Value) (base : Heap) (C : Exc) (x : Str) (S : Stmt) (k : Nat) (ps : List Str) (g : FM) : Prop where
  ex : ∃ f fd, Fun K x x S f fd ∧ FnOk P w K mg base (L2.CX P w) k f fd ps (SpF K C ps.length g) ∧ mg x = some (.ref f) ∧ PySem.W.keepIn K (.ref f) = true ∧ Binds K fd ps []
/-- a def of the text -/
structure Tx (K : PySem.W.Frag) (mg : Str → Option Value) (x : Str) (S : Stmt) (ps : List Str) : Prop where
  ex : ∃ f fd, Fun K x x S f fd ∧ mg x = some (.ref f) ∧ Binds K fd ps []
section
variable {X : Cx} {P : Program} {w : World} {K : PySem.W.Frag} {mg : Str → Option Value} {base : Heap} {A : Around} {C : Exc} {W : WX} {x : Str} {S : Stmt} {k k' : Nat} {ps : List Str} {g : FM} {p pos : Pos} {e : Expr} {es : List Expr} {t : TA}
theorem pe_fn (F : Fn P w K mg base C x S k ps g) (hr : Room k' A) (hk : k ≤ k') (tk : Takes X W) (hg : Gl X x) (ha : PA X (e :: es) t) (h1 : X.prog = P := by rfl) (h2 : X.w = w := by rfl) (h3 : X.K = K := by rfl) (h4 : X.mg = mg := by rfl) (h5 : X.base = base := by rfl) (h6 : X.A = A := by rfl) (hdb : (x == ("__debug__" : Str)) = false := by decide)
    (he : starEach (e :: es) X.env = (false, eval e X.env) :: starEach es X.env := by rfl) (hpl : (backTo pos (starEach es X.env)).any (·.1) = false := by rfl) : PE X (.Call (.Name x p) (e :: es) [] pos) (tCallS (SpF K C ps.length g) (WE W) t) := by
  subst h1 h2 h3 h4 h5 h6
  obtain ⟨f, fd, _, h1, h2, h3, h4⟩ := F.ex
  exact pe_callS (h1.mono hk) hr hg h2 h3 h4 (passAt tk) ha hdb he hpl
theorem pe_fn0 (F : Fn P w K mg base C x S k [] g) (hr : Room k' A) (hk : k ≤ k') (hg : Gl X x) (h1 : X.prog = P := by rfl) (h2 : X.w = w := by rfl) (h3 : X.K = K := by rfl) (h4 : X.mg = mg := by rfl) (h5 : X.base = base := by rfl) (h6 : X.A = A := by rfl) (hdb : (x == ("__debug__" : Str)) = false := by decide) : PE X (.Call (.Name x p) [] [] pos) (tCall (SpF K C 0 g) [] E0 tNil) := by
  subst h1 h2 h3 h4 h5 h6
  obtain ⟨f, fd, _, h1, h2, h3, h4⟩ := F.ex
  exact pe_call0 (h1.mono hk) hr hg h2 h3 h4 .nil passL hdb
/-- from a def's body to the def -/
theorem fn_mk {P : Program} {w : World} {K : PySem.W.Frag} {mg : Str → Option Value} {base : Heap} {C : Exc} {x : Str} {S : Stmt} {N ps : List Str} {k : Nat} {PI : List Nat} {m : MS} (T : Tx K mg x S ps) (sc : FnScope N ps (defScope S)) (hpi : ∀ i ∈ PI, i < ps.length)
    (hb : ∀ (f : Addr) (cdv : Value) (A : Around) (outer : List Env) (s : Shared) (H : Hp) (E : XK), Room k (A.deeper (envOfC x (defScope S) s.heap.objs.size f cdv)) →
      ∃ t, PSs (cxOf (L2.CX P w) P w K mg base N x (defScope S) f cdv A outer s H E) (defBody S) t ∧ RdS K (fun cls d _ H => E cls d H) C PI t m) : Fn P w K mg base C x S (k + 1) ps (mBody PI ps.length N.length m) := by
  obtain ⟨f, fd, h1, h2, h3⟩ := T.ex
  exact ⟨f, fd, h1, fn_ok h1 sc hpi (hb f), h2, h1.kp, h3⟩
/-- .. that calls itself: n turns -/
def mRec (m : FM → MS) (PI : List Nat) (n N : Nat) : Nat → FM
  | 0 => fun _ => none
  | j + 1 => mBody PI n N (m (mRec m PI n N j))
theorem fn_rec {P : Program} {w : World} {K : PySem.W.Frag} {mg : Str → Option Value} {base : Heap} {C : Exc} {x : Str} {S : Stmt} {N ps : List Str} {k : Nat} {PI : List Nat} {m : FM → MS} (T : Tx K mg x S ps) (sc : FnScope N ps (defScope S)) (hpi : ∀ i ∈ PI, i < ps.length)
    (hb : ∀ (j : Nat) (g : FM), Fn P w K mg base C x S (k + j) ps g → ∀ (f : Addr) (cdv : Value) (A : Around) (outer : List Env) (s : Shared) (H : Hp) (E : XK), Room (k + j) (A.deeper (envOfC x (defScope S) s.heap.objs.size f cdv)) →
      ∃ t, PSs (cxOf (L2.CX P w) P w K mg base N x (defScope S) f cdv A outer s H E) (defBody S) t ∧ RdS K (fun cls d _ H => E cls d H) C PI t (m g)) : ∀ j, Fn P w K mg base C x S (k + j) ps (mRec m PI ps.length N.length j)
  | 0 => by
    obtain ⟨f, fd, h1, h2, h3⟩ := T.ex
    exact ⟨f, fd, h1, ⟨fun vs H Q E h => h.1, fun A outer s H args us vs Q E hr he hb hv hs => by
      obtain ⟨_, HI, ρ, _, p⟩ := hs
      exact False.elim p⟩, h2, h1.kp, h3⟩
  | j + 1 => fn_mk T sc hpi fun f => hb j _ (fn_rec T sc hpi hb j) f
end
section
variable {K : PySem.W.Frag} {W : WX} {C : Exc} {te ta tb : TE} {fe fa fb : M D} {tl : TA} {fl : M (List D)}
theorem rt_yes : RdT K W C tYes (mpure true) := RdG.ret fun HI H σ Q _ sub q => q true HI H (TP.refl sub) rfl
/-! ### lists -/
def FO2 (K : PySem.W.Frag) (g : D → D → Option (List D)) : R2 := fun x y H Q => ∃ HI d e r, Same HI H ∧ Rp K HI x d ∧ Rp K HI y e ∧ g d e = some r ∧ ∀ p vs, H p = none → RpAll K HI vs r → Q (.ref p) (upd H p (.lst vs))
def gCat : D → D → Option (List D)
  | .list xs, .list ys => if szOk (xs.length + ys.length) then some (xs ++ ys) else none
  | _, _ => none
theorem opf_add {X : Cx} : OpR X (binaryOp .Add) (FO2 X.K gCat) := by
  intro pins s σ H x y v u Q I rx ry ⟨HI, d, e, r, sub, dx, dy, eg, q⟩
  cases dx with
  | @lst l xs ds h1 a1 =>
    cases dy with
    | @lst b zs es h2 a2 =>
      obtain ⟨hz, rfl⟩ := ifs eg
      cases rx
      cases ry
      obtain ⟨its, r, pl, z⟩ := I.list (seqL_mono sub h1)
      obtain ⟨its2, r2, pl2, z2⟩ := I.list (seqL_mono sub h2)
      have hz2 := szOk_le hz
      rw [← dpa_len a1, ← dpa_len a2] at hz2
      refine addL pl.isList pl2.isList ?_ (by rw [← r.length, ← r2.length]; exact hz2)
      exact ⟨.ref _, _, I.lnew (t' := s.toks) (r.append r2) (by rw [List.length_append]; exact hz2), rfl, q _ _ I.fresh (dpa_app a1 a2)⟩
    | _ => cases eg
  | _ => cases dy <;> cases eg
/-- the general end of a fresh list -/
def RF (HI H : Hp) (Q : VK) (K : PySem.W.Frag) (r : List D) : Prop := ∀ p vs, H p = none → RpAll K HI vs r → Q (.ref p) (upd H p (.lst vs))
theorem rf_op2 {g : D → D → Option (List D)} (ha : Rd K W C ta fa) (hb : Rd K W C tb fb) : RdF K W C (tOp (FO2 K g) ta tb) (mbind fa fun x => mbind fb fun y => mlift (g x y)) := by
  intro ρ HI H σ Q so p
  refine ha ρ HI H σ _ same_H0 so ?_
  cases hf : fa ρ with
  | none => rw [mb_none hf] at p; exact p
  | some o =>
    cases o with
    | ex c ρ1 => rw [mb_ex hf] at p; exact p
    | ok dx ρ1 =>
      rw [mb_ok hf] at p
      intro HI1 H1 tr1 so1 x rx
      refine hb ρ1 HI1 H1 σ _ same_H0 so1 ?_
      cases hf2 : fb ρ1 with
      | none => rw [mb_none hf2] at p; exact p
      | some o =>
        cases o with
        | ex c ρ2 => rw [mb_ex hf2] at p; exact fun HI2 H2 tr2 so2 => p HI2 H2 (tr1.trans tr2) so2
        | ok dy ρ2 =>
          rw [mb_ok hf2] at p
          intro HI2 H2 tr2 so2 y ry
          cases hg : g dx dy with
          | none => rw [hg] at p; exact False.elim p
          | some r =>
            rw [hg] at p
            exact ⟨HI2, dx, dy, r, so2.sub, dp_mono tr2.exI rx, ry, hg, p HI2 H2 (tr1.trans tr2) so2⟩
/-- a builtin that makes a new list -/
theorem rf_cb {g : List D → Option (List D)} (ha : RdA K W C tl fl) : RdF K W C (tCB (FOL K g) tl) (mbind fl fun x => mlift (g x)) := by
  intro ρ HI H σ Q so p
  refine ha ρ HI H σ _ same_H0 so ?_
  cases hf : fl ρ with
  | none => rw [mb_none hf] at p; exact p
  | some o =>
    cases o with
    | ex c ρ1 => rw [mb_ex hf] at p; exact p
    | ok ds ρ1 =>
      rw [mb_ok hf] at p
      intro HI1 H1 tr1 so1 vs rvs
      cases hg : g ds with
      | none => rw [hg] at p; exact False.elim p
      | some r =>
        rw [hg] at p
        exact ⟨HI1, ds, r, so1.sub, rvs, hg, p HI1 H1 tr1 so1⟩
/-- [..] * n -/
theorem rd_rep (ha : RdF K W C ta fl) (hb : Rd K W C tb fb) : Rd K W C (tOp rRep ta tb) (mbind fl fun xs => mbind fb fun y => mlift (gRep (.list xs) y)) := by
  intro ρ HI H σ Q _ so p
  refine ha ρ HI H σ _ so ?_
  cases hf : fl ρ with
  | none => rw [mb_none hf] at p; exact p
  | some o =>
    cases o with
    | ex c ρ1 => rw [mb_ex hf] at p; exact p
    | ok xs ρ1 =>
      rw [mb_ok hf] at p
      intro HI1 H1 tr1 so1 q vs hq rvs
      have tp := TP.new_ (o := .lst vs) so1.sub hq
      have so2 := so1.tp tp
      have p2 := Pt.from (tr1.trans tp.tr) p
      have rx : Rp K (upd HI1 q (.lst vs)) (.ref q) (.list xs) := .lst (.inl (.inl upd_same)) (dpa_mono tp.exI rvs)
      refine hb ρ1 _ _ σ _ same_H0 so2 ?_
      cases hf2 : fb ρ1 with
      | none => rw [mb_none hf2] at p2; exact p2
      | some o =>
        cases o with
        | ex c ρ2 => rw [mb_ex hf2] at p2; exact p2
        | ok dy ρ2 =>
          rw [mb_ok hf2] at p2
          intro HI2 H2 tr2 so3 y ry
          cases hg : gRep (.list xs) dy with
          | none => rw [hg] at p2; exact False.elim p2
          | some r =>
            rw [hg] at p2
            cases ry with
            | int k =>
              obtain ⟨hz, rfl⟩ := ifs hg
              rw [Bool.and_eq_true, Bool.and_eq_true, decide_eq_true_eq, decide_eq_true_eq] at hz
              obtain ⟨⟨z1, z2⟩, z3⟩ := hz
              have z3 := szOk_le z3
              rw [← dpa_len rvs] at z3
              refine ⟨q, k, vs, rfl, rfl, so3.sub _ _ (tr2.exI _ _ upd_same), by omega, by omega, z3, fun p' hp => ?_⟩
              have tp2 := TP.new_ (o := .lst (List.replicate k.toNat vs).flatten) so3.sub hp
              exact p2 _ _ (tr2.trans tp2.tr) (so3.tp tp2) _ (.lst (.inl (.inl upd_same)) (dpa_mono (tp.exI.trans (tr2.exI.trans tp2.exI)) (dpa_rep rvs _)))
            | _ => cases hg
end
/-! ### list(x) -/
section
variable {X : Cx}
def gList : List D → Option (List D)
  | [.list xs] => some xs
  | [.tuple xs] => some xs
  | _ => none
theorem cf_list : CallR X (.type "list") (FOL X.K gList) := by
  intro pins s σ H xs us Q I r ⟨HI, ds, z, sub, ra, eg, q⟩
  cases ra with
  | nil => cases eg
  | @cons v vs d ds rv ra =>
    cases ra with
    | cons _ _ => cases rv <;> cases eg
    | nil =>
      cases rv with
      | lst h1 a1 => cases eg; exact call_list_of pins s σ H _ us Q I r ⟨_, _, rfl, .inl (seqL_mono sub h1), fun l hl => q l _ hl a1⟩
      | tup h1 n1 a1 => cases eg; exact call_list_of pins s σ H _ us Q I r ⟨_, _, rfl, .inr (seqT_mono sub h1), fun l hl => q l _ hl a1⟩
      | _ => cases eg
def gMin2 (f : Int → Int → Int) : List D → Option D
  | [.int i, .int j] => some (.int (f i j))
  | _ => none
theorem cd_int2 {f : Value} {h : Int → Int → Int} {r : List V → Hp → VK → Prop} (hc : CallR X f r) (k : ∀ i j H (Q : VK), Q (.int (h i j)) H → r [.int i, .int j] H Q) : CallR X f (DOL X.K (gMin2 h)) := by
  intro pins s σ H xs us Q I r ⟨HI, ds, z, sub, ra, eg, q⟩
  cases ra with
  | nil => cases eg
  | cons rv ra =>
    cases ra with
    | nil => cases rv <;> cases eg
    | cons rw ra =>
      cases ra with
      | cons _ _ => cases rv <;> cases rw <;> cases eg
      | nil =>
        cases rv with
        | int i =>
          cases rw with
          | int j => cases eg; exact hc pins s σ H _ us Q I r (k i j H Q (q _ HI H (TP.refl sub) (.int _)))
          | _ => cases eg
        | _ => cases rw <;> cases eg
theorem cd_max2 (hc : X.calm = true) : CallR X (.builtin "max") (DOL X.K (gMin2 fun i j => if j > i then j else i)) := cd_int2 (call_max2 hc) fun i j H Q q => ⟨i, j, rfl, q⟩
theorem cd_min2 (hc : X.calm = true) : CallR X (.builtin "min") (DOL X.K (gMin2 fun i j => if j < i then j else i)) := cd_int2 (call_min2 hc) fun i j H Q q => ⟨i, j, rfl, q⟩
end
end Ev
set_option Elab.async false
set_option linter.all false
set_option autoImplicit false
set_option maxRecDepth 100000
namespace Ev
open PySem PySem.Spec L2 PyProof.Rows

abbrev gMulI : D → D → Option D := gI gMulF
abbrev gFdiv : D → D → Option D := gI fun i j => if decide (0 < j) && Nat.ble j.natAbs.log2 8000 then some (i / j) else none
abbrev gMod : D → D → Option D := gI fun i j => if decide (0 < j) then some (i % j) else none
abbrev gPow : D → D → Option D := gI fun i j => if decide (0 ≤ j) && decide (j ≤ 1000) && Nat.ble i.natAbs 1000000 then some (i ^ j.toNat) else none
abbrev fSl (m : M D) (m1 m2 : M (Option Int)) : M D := mbind m fun d => mbind m1 fun lo => mbind m2 fun hi => mlift (gSl d lo hi)
abbrev fSt (i : Nat) (fe fk : M D) : MS := sbind fe fun d r0 => match muAt r0 i with
    | none => none
    | some _ => sbind fk (fun k r => match muAt r i with
      | some ds => match k with
        | .int n => match ixN ds.length n with
          | some j => some (.nx (r.set i (.mu (.list (ds.set j d)))))
          | none => none
        | _ => none
      | none => none) r0
def fPar3 (i j l : Nat) (m : M (List D)) : MS := sbind m fun ds r => match ds with
  | [d, e, f] => some (.nx (((r.set i (.im d)).set j (.im e)).set l (.im f)))
  | _ => none
section
variable {K : PySem.W.Frag} {W : WX} {C : Exc} {PI : List Nat}
theorem rs_par3 {i j l : Nat} {ta : TA} {fl : M (List D)} (hij : i ≠ j) (hil : i ≠ l) (hjl : j ≠ l) (hi : i ∉ PI) (hj : j ∉ PI) (hl : l ∉ PI) (he : RdA K W C ta fl) : RdS K W C PI (tPar3 i j l ta) (fPar3 i j l fl) :=
  rds_of (u := fun vs D σ H => ∃ u v w, vs = [u, v, w] ∧ D.nx (((σ.set i (some u)).set j (some v)).set l (some w)) H) he fun Ps HB HI0 H0 hps ρ HI H σ D ds vs so en ra p => by
    cases ra with
    | nil => exact False.elim p
    | @cons u vs d ds ru ra =>
      cases ra with
      | nil => exact False.elim p
      | @cons v vs e ds rv ra =>
        cases ra with
        | nil => exact False.elim p
        | @cons w vs f ds rw' ra =>
          cases ra with
          | cons _ _ => exact False.elim p
          | nil => exact ⟨u, v, w, rfl, p HI H _ (((so.set_im ru).set_im rv).set_im rw') (((en.set_im (d := d) (some u) hps hi).set_im (d := e) (some v) hps hj).set_im (d := f) (some w) hps hl)⟩
end
/-- the context of a def's body -/
abbrev cxE (P : Program) (w : World) (K : PySem.W.Frag) (mg : Str → Option Value) (base : Heap) (N : List Str) (x : Str) (S : Stmt) (f : Addr) (cdv : Value) (A : Around) (outer : List Env) (s : Shared) (H : Hp) (E : XK) : Cx := cxOf (L2.CX P w) P w K mg base N x (defScope S) f cdv A outer s H E
section
variable {P : Program} {w : World} {K : PySem.W.Frag} {mg : Str → Option Value} {base : Heap} {N : List Str} {x : Str} {S : Stmt} {f : Addr} {cdv : Value} {A : Around} {outer : List Env} {s : Shared} {H : Hp} {E : XK} {k : Nat}
theorem tkE : Takes (cxE P w K mg base N x S f cdv A outer s H E) (fun cls d _ H => E cls d H) := takes_of rfl rfl rfl rfl
theorem hpE : PassesOwn (model P w) (cxE P w K mg base N x S f cdv A outer s H E).A (cxE P w K mg base N x S f cdv A outer s H E).env (cxE P w K mg base N x S f cdv A outer s H E).xe := passes_of rfl
theorem huE (hr : Room k A) : A.units + 64 < cLine := by have := hr.un; omega
theorem hvE (hr : Room k A) : A.units + 65 < cLine := by have := hr.un; omega
end
theorem hu1 {A : Around} (h : A.units + 64 < cLine) : A.units + 1 < cLine := by omega
theorem pe_ty {X : Cx} {x : Str} {pos : Pos} (T : Ty) (hg : Gl X x) (hm : X.mg x = none) (hv : bootBuiltins x = some (.type (tyNm T))) (hn : x ≠ "__name__" := by decide) (hd : (x == ("__debug__" : Str)) = false := by decide) : PE X (.Name x pos) (tC (tyV1 T)) :=
  pe_bltn hg hm hv rfl hn hd
end Ev
set_option Elab.async false
set_option linter.all false
set_option autoImplicit false
set_option maxRecDepth 100000
namespace Ev
open PySem PySem.Spec L2 PyProof.Rows PySem.W PySem.Calls

/-! ### sorted -/
section
variable {prog : Program} {w : World} {A : Around} {E : Value → Shared → Prop} {s : Shared}
/-- the heap behind the collecting of a list, a tuple -/
def gotHeap (h : Heap) (vs : List Value) : Heap := (h.push (seqObj "list" #[] 0)).update h.objs.size (Obj.mapSeq (· ++ vs.toArray))
theorem got_old {h : Heap} {vs : List Value} {b : Addr} {o : Obj} (e : h.get? b = some o) : (gotHeap h vs).get? b = some o := by
  unfold gotHeap
  rw [Heap.get?_update_ne _ _ _ _ (Nat.ne_of_lt (Heap.lt_size e)), Heap.get?_push_of_some _ e]
theorem got_size (h : Heap) (vs : List Value) : (gotHeap h vs).objs.size = h.objs.size + 1 := by
  unfold gotHeap
  rw [Heap.size_update, size_push']
theorem collect_seqT {T : String} (hT : T = "list" ∨ T = "tuple") {l : Addr} {o : Obj} {vs : List Value} {n : Nat} {Q : List Value → Shared → Prop} (ho : s.heap.get? l = some o) (hc : o.cls = .type T) (hd : o.data = .seq vs.toArray n)
    (hz : vs.length ≤ sizeLine) (h : Q vs { s with heap := gotHeap s.heap vs }) : wpAny (model prog w) A (collect (.ref l)) Q E s := by
  have e0 : s.heap.get? l = some o := ho
  unfold collect
  refine wpAny_bind (wpAny_runValue (codeAny_builtin PySem.F.entry_proto_collect ?_))
  rw [Around.under_plainId PySem.F.plain_proto_collect _]
  show wpAny _ A.in1 (newList [] >>= fun t => again (.builtin "list.__iadd__" ⟨[t, .ref l], []⟩)) _ _ s
  refine wpAny_bind (wpAny_newObj_type ?_)
  refine wpAny_pure ⟨plainId_quiet PySem.F.plain_list_iadd _, codeAny_builtin PySem.F.entry_list_iadd ?_⟩
  rw [Around.under_plainId PySem.F.plain_list_iadd _]
  have e1 : (s.heap.push (seqObj "list" #[] 0)).get? l = some o := Heap.get?_push_of_some _ e0
  have e2 : (s.heap.push (seqObj "list" #[] 0)).get? s.heap.objs.size = some (seqObj "list" #[] 0) := Heap.get?_push_size _ rfl
  show wpAny _ A.in1 (Builtin.List.listExtendWith (.ref s.heap.objs.size) (.ref l) (.ref s.heap.objs.size)) _ _ { s with heap := s.heap.push (seqObj "list" #[] 0) }
  unfold Builtin.List.listExtendWith
  refine wpAny_bind (wpAny_typeOf (T := T) ⟨o, e1, hc⟩ ?_)
  have ht : (Builtin.List.listSameRef (.ref s.heap.objs.size) (.ref l) || Value.type T == Value.type "list" || Value.type T == Value.type "tuple") = true := by
    rcases hT with e | e <;> subst e <;> simp
  rw [if_pos ht]
  refine wpAny_bind (listItems_at e1 hd ?_)
  refine wpAny_bind (listItems_at (xs := #[]) (n := 0) e2 rfl ?_)
  rw [if_neg (by simp)]
  refine wpAny_bind (listUpdate_at (xs := #[]) (n := 0) e2 rfl ?_ (Nat.zero_le _) (by rw [Array.empty_append, List.size_toArray]; omega))
  refine wpAny_pure ?_
  show wpAny (model prog w) A _ Q E { s with heap := gotHeap s.heap vs }
  refine wpAny_bind (wpAny_load (get?_update_seq e2 _) ?_)
  show wpAny _ _ (pure ((#[] : Array Value) ++ vs.toArray).toList) Q E _
  rw [Array.empty_append]
  exact wpAny_pure h
/-- sorted(x), x anything whose items are collected -/
theorem sorted_of {src : Value} {kw : List (Str × Value)} {Q : Value → Shared → Prop} {P : List Value → Shared → Prop} (ha1 : argsOk "sorted" ⟨[src], kw⟩) (ha2 : ∀ x, argsOk "list.sort" ⟨[.ref x], kw⟩)
    (hc : ∀ (A' : Around) (E' : Value → Shared → Prop) (Q' : List Value → Shared → Prop), A'.handled = A.handled → (∀ vs s1, P vs s1 → Q' vs s1) → wpAny (model prog w) A' (collect src) Q' E' s) (hL : ∀ vs s1, P vs s1 → vs.length ≤ sizeLine)
    (body : ∀ vs s1, P vs s1 → ∀ E' : Value → Shared → Prop, wpAny (model prog w) A.in1.in1 (Builtin.«list.sort» ⟨[.ref s1.heap.objs.size], kw⟩) (fun f s' => f = .done (.ret .none) ∧ Q (.ref s1.heap.objs.size) s') E' { s1 with heap := s1.heap.push (seqObj "list" vs.toArray 0) }) :
    wpAny (model prog w) A (call (.builtin "sorted") [src] kw) Q E s := by
  refine call_function_entry_kw kind_sorted plain_sorted entry_sorted ha1 ?_
  unfold Builtin.«sorted»
  refine wpAny_bind (m := checkCount "sorted" 1 1 _) (wpAny_pure (wpAny_bind (hc _ _ _ rfl fun vs s1 hP => wpAny_bind (wpAny_newList ?_ (hL vs s1 hP)))))
  have hg : (s1.heap.push (seqObj "list" vs.toArray 0)).get? s1.heap.objs.size = some (seqObj "list" vs.toArray 0) := Heap.get?_push_size _ rfl
  refine wpAny_bind (wpAny_holding (wpAny_call_entry_kw slot_list_sort ⟨_, hg, rfl⟩ entry_list_sort ?_ (ha2 _)))
  refine wpAny_mono (body vs s1 hP _) ?_ fun _ _ e => e
  rintro f s' ⟨rfl, hq⟩
  exact ⟨_, rfl, wpAny_pure ⟨_, rfl, hq⟩⟩
end
/-! values that stand for data, in a list -/
section
variable {X : Cx} {pins : List (Addr × Obj)} {σ : L2.St} {H HI : Hp} {s : Shared}
def RVD (K : PySem.W.Frag) (HI : Hp) (u : Value) (d : D) : Prop := ∃ x, RelV x u ∧ Rp K HI x d
theorem each_rvd {K : PySem.W.Frag} : ∀ {xs : List V} {us : List Value} {ds : List D}, Vals xs us → RpAll K HI xs ds → EachIs (RVD K HI) us ds
  | _, _, _, .nil, .nil => .nil
  | _, _, _, .cons r t, .cons h a => .cons ⟨_, r, h⟩ (each_rvd t a)
theorem rvd_each {K : PySem.W.Frag} : ∀ {us : List Value} {ds : List D}, EachIs (RVD K HI) us ds → ∃ xs, Vals xs us ∧ RpAll K HI xs ds
  | _, _, .nil => ⟨[], .nil, .nil⟩
  | _, _, .cons ⟨x, r, h⟩ t => by
    obtain ⟨xs, a, b⟩ := rvd_each t
    exact ⟨x :: xs, .cons r a, .cons h b⟩
theorem each_reads (I : Inv X pins σ H s) (sub : Same HI H) : ∀ {us : List Value} {ds : List D}, EachIs (RVD X.K HI) us ds → nds ds = true → EachIs (fun u d => ∃ as, Reads s.heap u d as) us ds
  | _, _, .nil, _ => .nil
  | _, _, .cons ⟨x, r, h⟩ t, n => by
    rw [nds, Bool.and_eq_true] at n
    exact .cons (Dp.reads I _ x _ ((dp_mono sub h).dp n.1) r) (each_reads I sub t n.2)
end
/-! the order -/
def leD (rev : Bool) (a b : D) : Bool := cond rev (!dataLt a b) (!dataLt b a)
def insD (le : D → D → Bool) (a : D) : List D → List D
  | [] => [a]
  | b :: bs => if le a b then a :: b :: bs else b :: insD le a bs
def sortD (le : D → D → Bool) : List D → List D
  | [] => []
  | a :: as => insD le a (sortD le as)
theorem insD_at {le : D → D → Bool} {a : D} : ∀ {l1 l2 : List D}, (∀ b ∈ l1, le a b = false) → (∀ b ∈ l2, le a b = true) → insD le a (l1 ++ l2) = l1 ++ a :: l2
  | [], [], _, _ => rfl
  | [], b :: bs, _, h => by
    rw [List.nil_append, insD, if_pos (h b List.mem_cons_self)]
    rfl
  | b :: l1, l2, h1, h2 => by
    rw [List.cons_append, insD, if_neg (by rw [h1 b List.mem_cons_self]; exact Bool.false_ne_true), insD_at (fun c hc => h1 c (List.mem_cons_of_mem _ hc)) h2]
    rfl
theorem sortD_eq {le : D → D → Bool} (tr : ∀ a b c, le a b → le b c → le a c) (tot : ∀ a b, le a b || le b a) : ∀ (l : List D), sortD le l = l.mergeSort le
  | [] => by rw [sortD, List.mergeSort_nil]
  | a :: as => by
    obtain ⟨l1, l2, e1, e2, h⟩ := List.mergeSort_cons tr tot a as
    rw [sortD, sortD_eq tr tot as, e2, e1]
    refine insD_at (fun b hb => by simpa using h b hb) fun b hb => ?_
    have hs : (l1 ++ a :: l2).Pairwise (le · ·) := by rw [← e1]; exact List.pairwise_mergeSort tr tot _
    exact (List.pairwise_cons.mp (List.pairwise_append.mp hs).2.1).1 b hb
theorem leD_tr (rev : Bool) : ∀ a b c, leD rev a b → leD rev b c → leD rev a c := fun a b c => (sortLe_total (listOrd itemOrd) rev keyToks).trans a b c
theorem leD_tot (rev : Bool) : ∀ a b, leD rev a b || leD rev b a := fun a b => Bool.or_eq_true _ _ ▸ (sortLe_total (listOrd itemOrd) rev keyToks).total a b
theorem sortD_le (rev : Bool) (l : List D) : sortD (leD rev) l = l.mergeSort (dataLe rev id) := sortD_eq (leD_tr rev) (leD_tot rev) l
/-- may be compared: alike as far as the comparing goes -/
def wk : List D → List D → Bool
  | x :: xs, y :: ys => alike x y && (if PyData.eqv x y then wk xs ys else true)
  | _, _ => true
def wkD : D → D → Bool
  | .tuple (x :: xs), .tuple (y :: ys) => wk (x :: xs) (y :: ys)
  | .tuple _, _ => false
  | _, .tuple _ => false
  | .none, _ => false
  | d, e => alike d e
/-- may be sorted -/
def okSort (ds : List D) : Bool := nds ds && ds.all (fun d => ds.all (wkD d)) && ds.all (fun d => Nat.ble d.depth 60) && szOk ds.length
theorem wk_unique {h : Heap} : ∀ (xs ys : List D) (vs : List Value) (as bs : List Addr), wk xs ys = true → ReadsAll h vs xs as → ReadsAll h vs ys bs → xs = ys
  | [], [], _, _, _, _, _, _ => rfl
  | [], _ :: _, _, _, _, _, ra, rb => by cases ra; cases rb
  | _ :: _, [], _, _, _, _, ra, rb => by cases rb; cases ra
  | x :: xs, y :: ys, _, _, _, h, ra, rb => by
    rw [wk, Bool.and_eq_true] at h
    cases ra with
    | cons r rs =>
      cases rb with
      | cons r' rs' =>
        have e : x = y := alike_unique x y _ _ _ h.1 r r'
        subst e
        rw [eqv_refl_alike x h.1, if_pos rfl] at h
        rw [wk_unique xs ys _ _ _ h.2 rs rs']
theorem wkD_unique {h : Heap} {d e : D} {v : Value} {as bs : List Addr} (hw : wkD d e = true) (ra : Reads h v d as) (rb : Reads h v e bs) : d = e := by
  cases d with
  | tuple xs =>
    cases xs with
    | nil => cases e <;> simp [wkD] at hw
    | cons x xs =>
      cases e with
      | tuple ys =>
        cases ys with
        | nil => simp [wkD] at hw
        | cons y ys =>
          cases ra with
          | tuple h1 h2 h3 h4 =>
            cases rb with
            | tuple k1 k2 k3 k4 =>
              rw [h1] at k1
              cases k1
              rw [h3] at k3
              cases k3
              rw [wk_unique _ _ _ _ _ hw h4 k4]
      | _ => simp [wkD] at hw
  | none => cases e <;> simp [wkD] at hw
  | _ =>
    cases e with
    | tuple ys => simp [wkD] at hw
    | _ => exact alike_unique _ _ _ _ _ hw ra rb
def AllWk (ds : List D) : Prop := ∀ d, d ∈ ds → ∀ e, e ∈ ds → wkD d e = true
theorem wk_some {h : Heap} {ds : List D} (hal : AllWk ds) {v : Value} {d : D} {as : List Addr} (hd : d ∈ ds) (r : Reads h v d as) : (dataKind h ds).keyOf v = some (keyToks d) := by
  have q : ∃ d, d ∈ ds ∧ ∃ as, Reads h v d as := ⟨d, hd, as, r⟩
  have e : (dataKind h ds).keyOf v = some (keyToks q.choose) := by
    show (open Classical in if q : ∃ d, d ∈ ds ∧ ∃ as, Reads h v d as then some (keyToks q.choose) else none) = _
    exact dif_pos q
  obtain ⟨m1, bs, m2⟩ := q.choose_spec
  rw [e, wkD_unique (hal _ m1 _ hd) m2 r]
section
variable {prog : Program} {w : World} {A : Around} {E : Value → Shared → Prop} {s : Shared}
theorem katLex_wk {b fin : Bool} {Q : Bool → Shared → Prop} : ∀ (xs ys : List D) (i : Nat) (vs ws : List Value) (as bs : List Addr), ReadsAll s.heap vs xs as → ReadsAll s.heap ws ys bs → wk xs ys = true →
    A.units + min (PyData.depthAll xs) (PyData.depthAll ys) < cLine → (b = true → i = 0 → ∀ x r t, xs = x :: r → x ≠ .tuple t) → fin = decide (xs.length < ys.length) → Q (PyProof.Rows.lexLt itemOrd (keyToksAll xs) (keyToksAll ys)) s → KatLex prog w A b fin Q (vs.zip ws) i s
  | [], ys, i, _, _, _, _, ra, rb, _, hu, hb, hf, hq => katLex_alike [] ys i _ _ _ _ ra rb (by simp [alikeAll]) hu hb hf hq
  | x :: xs, [], i, _, _, _, _, ra, rb, _, hu, hb, hf, hq => katLex_alike (x :: xs) [] i _ _ _ _ ra rb (by simp [alikeAll]) hu hb hf hq
  | x :: xs, y :: ys, i, _, _, _, _, ra, rb, h, hu, hb, hf, hq => by
    rw [wk, Bool.and_eq_true] at h
    obtain ⟨h1, h2⟩ := h
    cases ra with
    | cons r rs =>
      cases rb with
      | cons r' rs' =>
        rw [List.zip_cons_cons]
        refine kat_cons (eqAt_alike x y A s _ _ _ _ r r' h1 (SeqAt.room_head hu) prog w _ _ ?_)
        cases hx : PyData.eqv x y with
        | true =>
          rw [dataLt_all_yes h1 hx] at hq
          rw [hx, if_pos rfl] at h2
          exact kat_yes (katLex_wk xs ys (i + 1) _ _ _ _ rs rs' h2 (SeqAt.room_tail hu) (fun _ z => absurd z (Nat.succ_ne_zero i)) (by rw [hf]; simp only [List.length_cons, Nat.add_lt_add_iff_right]) hq)
        | false =>
          rw [dataLt_all_no h1 hx] at hq
          refine kat_no (oneLt_alike (fun z t => ?_) r r' h1 (ne_none_of h1 hx) (SeqAt.room_head hu) hq)
          rw [Bool.and_eq_true] at z
          exact hb z.1 (by simpa using z.2) x xs t rfl
theorem wkD_tup {x : D} {xs : List D} {e : D} (h : wkD (.tuple (x :: xs)) e = true) : ∃ y ys, e = .tuple (y :: ys) ∧ wk (x :: xs) (y :: ys) = true := by
  cases e with
  | tuple ys =>
    cases ys with
    | nil => simp [wkD] at h
    | cons y ys => exact ⟨y, ys, rfl, h⟩
  | _ => simp [wkD] at h
theorem sorts_wk {vs : List Value} {ds : List D} (e : EachIs (fun v d => ∃ as, Reads s.heap v d as) vs ds) (hal : AllWk ds) (hu : ∀ d, d ∈ ds → A.units + d.depth < cLine) : SortsAt prog w A s (dataKind s.heap ds) vs := by
  by_cases ht : ∀ d, d ∈ ds → ∃ x r, d = .tuple (x :: r)
  · refine ⟨fun v hv => ?_, ?_⟩
    · obtain ⟨d, hd, as, r⟩ := e.left v hv
      exact ⟨_, wk_some hal hd r⟩
    · cases ds with
      | nil =>
        cases e
        exact ⟨general', fun E x y a b Q ha _ _ => (by
          obtain ⟨d, _, hd, _⟩ := dataKind_inv ha
          cases hd), fun h2 => absurd h2 (by simp)⟩
      | cons d₀ ds₀ =>
        obtain ⟨x₀, r₀, e₀⟩ := ht d₀ List.mem_cons_self
        have first : ∀ x r, PyData.tuple (x :: r) ∈ d₀ :: ds₀ → alike x x₀ = true := by
          intro x r hm
          have z := hal _ hm d₀ List.mem_cons_self
          rw [e₀] at z
          have z : wk (x :: r) (x₀ :: r₀) = true := z
          rw [wk, Bool.and_eq_true] at z
          exact z.1
        refine ⟨tuples' (dataType x₀ != Value.type "tuple"), fun E x y a b Q ha hb hq => ?_, fun h2 E Q hq => ?_⟩
        · obtain ⟨d, as, hd, ra, rfl⟩ := dataKind_inv ha
          obtain ⟨d', as', hd', rb, rfl⟩ := dataKind_inv hb
          have hroom : A.units + min d.depth d'.depth < cLine := Nat.lt_of_le_of_lt (Nat.add_le_add_left (Nat.min_le_left _ _) _) (hu d hd)
          have hw := hal d hd d' hd'
          obtain ⟨x1, r1, rfl⟩ := ht d hd
          obtain ⟨x2, r2, rfl⟩ := ht d' hd'
          have hq : Q (dataLt (.tuple (x1 :: r1)) (.tuple (x2 :: r2))) s := hq
          rw [dataLt_tuple] at hq
          cases ra with
          | @tuple l o xs n _ _ h1 h2 h3 h4 =>
            cases rb with
            | @tuple l' o' xs' n' _ _ k1 k2 k3 k4 =>
              have n1 : xs.size = (x1 :: r1).length := by simpa using SeqAt.ReadsAll.length _ _ _ h4
              have n2 : xs'.size = (x2 :: r2).length := by simpa using SeqAt.ReadsAll.length _ _ _ k4
              refine kat_lt h1 h3 k1 k3 (katLex_wk (x1 :: r1) (x2 :: r2) 0 _ _ _ _ h4 k4 hw (by have z := SeqAt.room_in hroom; omega) (fun hb _ x r t ex => ?_) (by rw [n1, n2]) hq)
              obtain ⟨rfl, rfl⟩ := List.cons.inj ex
              have z := dataType_alike (first _ _ hd)
              rw [← z] at hb
              exact dataType_tuple hb t
        · obtain ⟨fs, t1, t2, t3⟩ := each_katTups e ht
          refine kat_kind (T := dataType x₀) t1 (by omega) (fun f hf => ?_) (beq_self_eq_true _) hq
          obtain ⟨x, r, as, m1, m2⟩ := t3 f hf
          rw [← dataType_alike (first x r m1)]
          exact looks_reads m2
  · -- no tuple at all
    have other : ∀ d, d ∈ ds → d ≠ .none ∧ ∀ xs, d ≠ .tuple xs := by
      obtain ⟨d0, hd0⟩ := Classical.not_forall.mp ht
      obtain ⟨m0, n0⟩ := Classical.not_imp.mp hd0
      have nt : ∀ xs, d0 ≠ .tuple xs := by
        intro xs e0
        subst e0
        cases xs with
        | nil => have := hal _ m0 _ m0; simp [wkD] at this
        | cons x xs => exact n0 ⟨x, xs, rfl⟩
      intro d hd
      refine ⟨fun e1 => ?_, fun xs e1 => ?_⟩
      · subst e1
        have := hal _ hd _ hd
        simp [wkD] at this
      · subst e1
        have z := hal _ hd _ m0
        cases xs with
        | nil => cases d0 <;> simp [wkD] at z
        | cons x xs =>
          obtain ⟨y, ys, e2, _⟩ := wkD_tup z
          exact nt _ e2
    have al : AllAlike ds := by
      intro d hd e he
      have z := hal d hd e he
      have o1 := other d hd
      have o2 := other e he
      cases d with
      | tuple xs => exact absurd rfl (o1.2 xs)
      | none => exact absurd rfl o1.1
      | _ =>
        cases e with
        | tuple ys => exact absurd rfl (o2.2 ys)
        | _ => exact z
    exact SortsAt.data e al (.inr other) hu
theorem keys_wk {h : Heap} {ds : List D} (hal : AllWk ds) {vs : List Value} (e : EachIs (fun v d => ∃ as, Reads h v d as) vs ds) : EachIs (fun v d => (dataKind h ds).keyOf v = some (keyToks d)) vs ds :=
  (each_mem e).mono fun _ _ ⟨⟨_, r⟩, hd⟩ => wk_some hal hd r
end
theorem okSort_of {ds : List D} (h : okSort ds = true) : AllWk ds ∧ (∀ d ∈ ds, d.depth ≤ 60) ∧ ds.length ≤ sizeLine ∧ nds ds = true := by
  unfold okSort at h
  rw [Bool.and_eq_true, Bool.and_eq_true, Bool.and_eq_true] at h
  obtain ⟨⟨⟨h0, h1⟩, h3⟩, h4⟩ := h
  exact ⟨fun d hd e he => List.all_eq_true.mp (List.all_eq_true.mp h1 d hd) e he, fun d hd => Nat.le_of_ble_eq_true (List.all_eq_true.mp h3 d hd), szOk_le h4, h0⟩
def gSort (rev : Bool) : List D → Option (List D)
  | [.list ds] => if okSort ds then some (sortD (leD rev) ds) else none
  | [.tuple ds] => if okSort ds then some (sortD (leD rev) ds) else none
  | _ => none
def kwRev : Bool → List (Str × Value)
  | true => [(Str.ofString "reverse", .bool true)]
  | false => []
section
variable {X : Cx}
/-- the common end: a list of values that stand for ds is sorted -/
theorem sort_end {pins : List (Addr × Obj)} {σ : L2.St} {H HI : Hp} {s s1 : Shared} {Q : VK} {rev : Bool} {vs : List Value} {ds : List D} {E' : Value → Shared → Prop} (hu : X.A.units + 64 < cLine) (I : Inv X pins σ H s) (sub : Same HI H) (ok : okSort ds = true) (ev : EachIs (RVD X.K HI) vs ds)
    (k : ∀ b o, s.heap.get? b = some o → s1.heap.get? b = some o) (hz : s.heap.objs.size ≤ s1.heap.objs.size) (hg : s1.gens = s.gens) (hos : s1.os = s.os) (hdr : s1.drawn = s.drawn) (q : ∀ p xs, H p = none → RpAll X.K HI xs (sortD (leD rev) ds) → Q (.ref p) (upd H p (.lst xs))) :
    wpAny (model X.prog X.w) X.A.in1.in1 (Builtin.«list.sort» ⟨[.ref s1.heap.objs.size], kwRev rev⟩) (fun f s' => f = .done (.ret .none) ∧ EP X pins σ Q (.ref s1.heap.objs.size) s') E' { s1 with heap := s1.heap.push (seqObj "list" vs.toArray 0) } := by
  obtain ⟨hal, hd, hL, hn⟩ := okSort_of ok
  have hlen : vs.length = ds.length := ev.length
  have ho : (s1.heap.push (seqObj "list" vs.toArray 0)).get? s1.heap.objs.size = some (seqObj "list" vs.toArray 0) := Heap.get?_push_size _ rfl
  have old : ∀ b o, s.heap.get? b = some o → (sortingHeap (s1.heap.push (seqObj "list" vs.toArray 0)) s1.heap.objs.size vs).get? b = some o := fun b o e => sortingHeap_old (Nat.ne_of_lt (Nat.lt_of_lt_of_le (Heap.lt_size e) hz)) (Heap.get?_push_of_some _ (k b o e))
  have er := each_reads I sub ev hn
  have er' : EachIs (fun u d => ∃ as, Reads (sortingHeap (s1.heap.push (seqObj "list" vs.toArray 0)) s1.heap.objs.size vs) u d as) vs ds := er.mono fun _ _ ⟨as, r⟩ => ⟨as, PyProof.Rows.Reads.keeps old r⟩
  have S := sorts_wk (prog := X.prog) (w := X.w) (A := X.A.in1.in1) (s := { s1 with heap := sortingHeap (s1.heap.push (seqObj "list" vs.toArray 0)) s1.heap.objs.size vs }) er' hal fun d hd' => by
    have := hd d hd'
    show X.A.units + 1 + 1 + d.depth < cLine
    omega
  have fin : ∀ out : List Value, EachIs (RVD X.K HI) out (sortD (leD rev) ds) → EP X pins σ Q (.ref s1.heap.objs.size) { s1 with heap := sortedHeap (s1.heap.push (seqObj "list" vs.toArray 0)) s1.heap.objs.size vs out.toArray } := by
    intro out eo
    obtain ⟨xs, r1, r2⟩ := rvd_each eo
    obtain ⟨c, hc⟩ := sortedHeap_at (vs := vs) (out := out.toArray) ho
    have hp : H s1.heap.objs.size = none := I.hok.fresh hz
    have lx : xs.length ≤ sizeLine := by
      rw [dpa_len r2, sortD_le, List.length_mergeSort]; exact hL
    obtain ⟨hh, g, dr, tk, os⟩ := s1
    dsimp only at hg hos hdr
    subst hg hos hdr
    exact ⟨.ref hh.objs.size, _, I.laid (t' := tk) (fun b o e => (sortedHeap_old (Nat.ne_of_lt (Nat.lt_of_lt_of_le (Heap.lt_size e) hz)) (by rw [size_push']; exact Nat.lt_succ_of_lt (Nat.lt_of_lt_of_le (Heap.lt_size e) hz))).trans (Heap.get?_push_of_some _ (k b o e))) hz (show ObjOk X.prog X.w _ _ _ (.lst xs) from ⟨lx, out, c, r1, hc⟩), rfl, q _ xs hp r2⟩
  have key := sortVals_each (κ := dataKind (sortingHeap (s1.heap.push (seqObj "list" vs.toArray 0)) s1.heap.objs.size vs) ds) (rev := rev) (fun b => keyToks b) ev (keys_wk hal er')
  have eo : EachIs (RVD X.K HI) (sortVals (dataKind (sortingHeap (s1.heap.push (seqObj "list" vs.toArray 0)) s1.heap.objs.size vs) ds) rev vs vs) (sortD (leD rev) ds) := by rw [sortD_le]; exact key
  cases rev with
  | true => exact list_sort_rev_vals ho S (by rw [hlen]; exact hL) ⟨rfl, fin _ eo⟩
  | false => exact list_sort_vals ho S (by rw [hlen]; exact hL) ⟨rfl, fin _ eo⟩
theorem gSort_cases {rev : Bool} {ds : List D} {z : List D} (h : gSort rev ds = some z) : ∃ xs, (ds = [.list xs] ∨ ds = [.tuple xs]) ∧ okSort xs = true ∧ z = sortD (leD rev) xs := by
  unfold gSort at h
  split at h
  · obtain ⟨a, b⟩ := ifs h
    exact ⟨_, .inl rfl, a, b.symm⟩
  · obtain ⟨a, b⟩ := ifs h
    exact ⟨_, .inr rfl, a, b.symm⟩
  · cases h
theorem sorted_run {rev : Bool} (hu : X.A.units + 64 < cLine) (pins : List (Addr × Obj)) (s : Shared) (σ : L2.St) (H : Hp) (x : V) (u : Value) (Q : VK) (I : Inv X pins σ H s) (rx : RelV x u) {HI : Hp} {d : D} {z : List D} (sub : Same HI H) (hx : Rp X.K HI x d) (hz : gSort rev [d] = some z)
    (q : ∀ p vs, H p = none → RpAll X.K HI vs z → Q (.ref p) (upd H p (.lst vs))) : wpAny (model X.prog X.w) X.A (call (.builtin "sorted") [u] (kwRev rev)) (EP X pins σ Q) X.xe s := by
  obtain ⟨xs, hd, ok, rfl⟩ := gSort_cases hz
  have hL := (okSort_of ok).2.2.1
  obtain ⟨T, hT, l, vs, its, o, n, eu, ho, hc, hd, r, ra⟩ : ∃ (T : String), (T = "list" ∨ T = "tuple") ∧ ∃ (l : Addr) (vs : List V) (its : List Value) (o : Obj) (n : Nat), u = .ref l ∧ s.heap.get? l = some o ∧ o.cls = .type T ∧ o.data = .seq its.toArray n ∧ Vals vs its ∧ RpAll X.K HI vs xs := by
    rcases hd with e | e
    · cases e
      cases hx with
      | lst h1 a1 =>
        cases rx
        obtain ⟨its, r, ⟨o, n, e1, e2, _, e4⟩, _⟩ := I.list (seqL_mono sub h1)
        exact ⟨"list", .inl rfl, _, _, its, o, n, rfl, e1, e2, e4, r, a1⟩
    · cases e
      cases hx with
      | tup h1 n1 a1 =>
        cases rx
        obtain ⟨its, r, ⟨o, e1, e2, n, e4⟩, _⟩ := I.tuple (seqT_mono sub h1)
        exact ⟨"tuple", .inr rfl, _, _, its, o, n, rfl, e1, e2, e4, r, a1⟩
  subst eu
  have hlen : its.length ≤ sizeLine := by rw [← r.length, dpa_len ra]; exact hL
  refine sorted_of (P := fun us s1 => us = its ∧ s1 = { s with heap := gotHeap s.heap its }) ?_ (fun y => ?_) (fun A' E' Q' _ hq => collect_seqT hT ho hc hd hlen (hq _ _ ⟨rfl, rfl⟩)) (fun us s1 h => by rw [h.1]; exact hlen) fun us s1 h E' => ?_
  · cases rev with
    | true => exact args_sorted_rev _ _
    | false => exact args_sorted1 _
  · cases rev with
    | true => exact args_list_sort_rev _ _
    | false => exact args_list_sort _
  · obtain ⟨e1, e2⟩ := h
    subst e1 e2
    exact sort_end hu I sub ok (each_rvd r ra) (fun b o e => got_old e) (by rw [got_size]; omega) rfl rfl rfl fun p vs hp rv => q p vs hp rv
theorem cf_sorted (hu : X.A.units + 64 < cLine) : CallR X (.builtin "sorted") (FOL X.K (gSort false)) := by
  intro pins s σ H xs us Q I r ⟨HI, ds, z, sub, ra, eg, q⟩
  obtain ⟨ys, hd, _, _⟩ := gSort_cases eg
  have : ∃ d, ds = [d] := by rcases hd with e | e <;> exact ⟨_, e⟩
  obtain ⟨d, rfl⟩ := this
  cases ra with
  | cons rv rn =>
    cases rn
    obtain ⟨u, rfl, ru⟩ := vals1 r
    exact sorted_run (rev := false) hu pins s σ H _ u Q I ru sub rv eg q
end
end Ev
set_option Elab.async false
set_option linter.all false
set_option autoImplicit false
set_option maxRecDepth 100000
namespace Ev
open PySem PySem.Spec L2 PyProof.Rows

/-! ### calls by keywords alone -/
def pick {α : Type} : List Nat → List α → List α
  | [], _ => []
  | i :: is, l => match l[i]? with
    | some x => x :: pick is l
    | none => pick is l
theorem pick_vals {zs : List V} {ws : List Value} (r : Vals zs ws) : ∀ (is : List Nat), Vals (pick is zs) (pick is ws)
  | [] => .nil
  | i :: is => by
    unfold pick
    cases h : zs[i]? with
    | some v =>
      obtain ⟨u, e, ru⟩ := r.get h
      rw [e]
      exact .cons ru (pick_vals r is)
    | none =>
      have : ws[i]? = none := by
        rw [List.getElem?_eq_none_iff] at h ⊢
        rw [← r.length]; exact h
      rw [this]
      exact pick_vals r is
theorem pick_rp {K : PySem.W.Frag} {H : Hp} {zs : List V} {ds : List D} (r : RpAll K H zs ds) : ∀ (is : List Nat), RpAll K H (pick is zs) (pick is ds)
  | [] => .nil
  | i :: is => by
    unfold pick
    cases h : zs[i]? with
    | some v =>
      obtain ⟨d, e, ru⟩ := dpa_get' r h
      rw [e]
      exact .cons ru (pick_rp r is)
    | none =>
      have : ds[i]? = none := by
        rw [List.getElem?_eq_none_iff] at h ⊢
        rw [← dpa_len r]; exact h
      rw [this]
      exact pick_rp r is
def tCallP (sp : Sp) (is : List Nat) (n : Nat) (E : L2.St → XK) (t : TA) : TE := fun σ H Q => t σ H fun zs H1 => zs.length = n ∧ sp (pick is zs) H1 Q (E σ)
section
variable {X : Cx} {P : Program} {w : World} {K : PySem.W.Frag} {mg : Str → Option Value} {base : Heap} {A : Around} {C : Exc} {W : WX} {x : Str} {S : Stmt} {k k' : Nat} {ps ks : List Str} {g : FM} {p pos : Pos} {kws : List Keyword} {t : TA} {is : List Nat}
theorem pe_fnK (F : Fn P w K mg base C x S k ps g) (hr : Room k' A) (hk : k ≤ k') (tk : Takes X W) (hg : Gl X x)
    (hb : ∀ (kV doc pm : Value) (an : Option Addr) (cdv ct : Value) (ws : List Value), ws.length = ks.length → bindArgs (PySem.W.fnOf x x (defArgs S) (defBody S) (defScope S) .none kV doc pm an cdv ct) ⟨[], ks.zip ws⟩ = pure (ps.zip (pick is ws)))
    (ha : PK X kws t) (h1 : X.prog = P := by rfl) (h2 : X.w = w := by rfl) (h3 : X.K = K := by rfl) (h4 : X.mg = mg := by rfl) (h5 : X.base = base := by rfl) (h6 : X.A = A := by rfl) (hdb : (x == ("__debug__" : Str)) = false := by decide)
    (hall : (backToKw pos (keywordEach kws X.env)).all (·.1.isSome) = true := by rfl) (hks : (backToKw pos (keywordEach kws X.env)).filterMap (·.1) = ks := by rfl)
    (hpl : ((backTo pos (starEach [] X.env)).any (·.1) || (backToKw pos (keywordEach kws X.env)).any (·.1.isNone)) = false := by rfl) :
    PE X (.Call (.Name x p) [] kws pos) (tCallP (SpF K C ps.length g) is ks.length (WE W) t) := by
  subst h1 h2 h3 h4 h5 h6
  obtain ⟨f, fd, hF, h1, h2, h3, h4⟩ := F.ex
  obtain ⟨oc, od, kV, doc, pm, an, cdv, ct, osl, rfl, lk, hcd⟩ := hF.ex
  refine ⟨fun pins s σ H Q I h => ?_⟩
  refine wpAny_Call_Name_kw (ld_glob I hg h2 ?_ hdb)
  refine PySem.W.callWith_KW0 (h₀ := X.base) I.ok.mod.kin h3 hall (thn (ha.run pos pins s σ H _ I h) fun ws s1 ⟨zs, H1, I1, r, hl, q⟩ => ⟨I1.kIn, ?_⟩) hpl
  rw [hks]
  have hlw : ws.length = ks.length := by rw [← r.length]; exact hl
  refine wpAny_call (codeAny_mono (h1.run X.A X.stack s1 H1 ⟨[], ks.zip ws⟩ (pick is ws) (pick is zs) Q (WE W σ) (hr.mono hk) I1.env0 (.of_eq (hb kV doc pm an cdv ct ws hlw)) (pick_vals r is) q) fun r s' hq => ?_)
  cases r with
  | error e => exact passAt tk σ pins H1 s1 e s' I1 hq
  | ok fl =>
    cases fl with
    | ret u => exact I1.after hq
    | next => exact False.elim hq
    | brk => exact False.elim hq
    | cont => exact False.elim hq
end
def fCallP (n m : Nat) (g : FM) (is : List Nat) (fl : M (List D)) : M D := mbind fl fun ds => if ds.length = m ∧ (pick is ds).length = n then fRes (g ((pick is ds).map .im)) else fun _ => none
section
variable {K : PySem.W.Frag} {W : WX} {C : Exc} {te ta tb tk : TE} {fe fa fb fk : M D} {tl : TA} {fl : M (List D)}
theorem rd_callP {n m : Nat} {g : FM} {is : List Nat} (h : RdA K W C tl fl) : Rd K W C (tCallP (SpF K C n g) is m (WE W) tl) (fCallP n m g is fl) :=
  RdG.bind (u := fun vs σ H Q => vs.length = m ∧ SpF K C n g (pick is vs) H Q (WE W σ)) h fun HI1 H1 vs ds _ ra => by
    intro ρ HI H σ Q s so p
    by_cases hn : ds.length = m ∧ (pick is ds).length = n
    · rw [if_pos hn] at p
      have ra' := pick_rp ra is
      exact ⟨by rw [dpa_len ra]; exact hn.1, by rw [dpa_len ra']; exact hn.2, HI, _, sok_args so.sub (dpa_mono s ra'), res_ok (σ := σ) (ρ := ρ) (fun _ _ _ z => z) so no_own p⟩
    · rw [if_neg hn] at p
      exact False.elim p
/-! ### a def chosen from a list: [f, g][k](..) -/
def selA : List Addr → TA
  | [] => tNil
  | f :: fs => tCons (tC (.ref f)) (selA fs)
theorem selA_run {σ : L2.St} {H : Hp} {Q : List V → Hp → Prop} : ∀ {fs : List Addr}, Q (fs.map V.ref) H → selA fs σ H Q
  | [], q => q
  | f :: fs, q => selA_run (fs := fs) (Q := fun xs H => Q (V.ref f :: xs) H) q
def rAtL (K : PySem.W.Frag) : R2 := fun x y H Q => ∃ a xs i v, x = V.ref a ∧ y = .int i ∧ H a = some (.lst xs) ∧ atI xs i = some v ∧ Q v H
theorem ixAtL {X : Cx} : IxR X (rAtL X.K) := fun value slice pins s σ H x y v u Q I rx ry ⟨a, xs, i, z, e1, e2, h, ha, q⟩ hs => ix_list value slice pins s σ H x y v u Q I rx ry ⟨a, xs, i, z, e1, e2, .inl (.inl h), ha, q⟩ hs
def tCallE (Cs : List (Addr × Sp)) (E : L2.St → XK) (tf : TE) (t : TA) : TE := fun σ H Q => tf σ H fun v H1 => ∃ f sp, v = .ref f ∧ (f, sp) ∈ Cs ∧ t σ H1 fun vs H2 => sp vs H2 Q (E σ)
/-- what is known of the defs that stand in the list -/
inductive Sels (P : Program) (w : World) (K : PySem.W.Frag) (mg : Str → Option Value) (base : Heap) (C : Exc) (k : Nat) : List Str → List (Nat × FM) → List (Addr × Sp) → Prop
  | nil : Sels P w K mg base C k [] [] []
  | cons {x : Str} {ps : List Str} {g : FM} {xs : List Str} {gs : List (Nat × FM)} {Cs : List (Addr × Sp)} {f : Addr} {fd : FuncData} : FnOk P w K mg base (L2.CX P w) k f fd ps (SpF K C ps.length g) → mg x = some (.ref f) → PySem.W.keepIn K (.ref f) = true → Binds K fd ps [] → Sels P w K mg base C k xs gs Cs →
      Sels P w K mg base C k (x :: xs) ((ps.length, g) :: gs) ((f, SpF K C ps.length g) :: Cs)
theorem Sels.has {P : Program} {w : World} {mg : Str → Option Value} {base : Heap} {k : Nat} {xs : List Str} {gs : List (Nat × FM)} {Cs : List (Addr × Sp)} (h : Sels P w K mg base C k xs gs Cs) {f : Addr} {sp : Sp} (hm : (f, sp) ∈ Cs) :
    ∃ fd ps, FnOk P w K mg base (L2.CX P w) k f fd ps sp ∧ PySem.W.keepIn K (.ref f) = true ∧ Binds K fd ps [] := by
  induction h with
  | nil => cases hm
  | cons h1 h2 h3 h4 _ ih =>
    rcases List.mem_cons.mp hm with e | e
    · cases e; exact ⟨_, _, h1, h3, h4⟩
    · exact ih e
theorem Sels.at {P : Program} {w : World} {mg : Str → Option Value} {base : Heap} {k : Nat} {xs : List Str} {gs : List (Nat × FM)} {Cs : List (Addr × Sp)} (h : Sels P w K mg base C k xs gs Cs) : ∀ {i : Nat} {n : Nat} {g : FM}, gs[i]? = some (n, g) → ∃ f, Cs[i]? = some (f, SpF K C n g) := by
  induction h with
  | nil => intro i n g e; simp at e
  | cons h1 h2 h3 h4 _ ih =>
    intro i n g e
    cases i with
    | zero => simp at e; obtain ⟨rfl, rfl⟩ := e; exact ⟨_, rfl⟩
    | succ i => exact ih (i := i) (by simpa using e)
theorem Sels.len {P : Program} {w : World} {mg : Str → Option Value} {base : Heap} {k : Nat} {xs : List Str} {gs : List (Nat × FM)} {Cs : List (Addr × Sp)} (h : Sels P w K mg base C k xs gs Cs) : Cs.length = gs.length := by
  induction h with
  | nil => rfl
  | cons _ _ _ _ _ ih => simp [ih]
def fSel (gs : List (Nat × FM)) (fk : M D) (fl : M (List D)) : M D := mbind fk fun k => match k with
  | .int i => match atI gs i with
    | some (n, g) => mbind fl fun ds => if ds.length = n then fRes (g (ds.map .im)) else fun _ => none
    | none => fun _ => none
  | _ => fun _ => none
theorem atI_map {α β : Type} (f : α → β) (l : List α) (i : Int) : atI (l.map f) i = (atI l i).map f := by
  unfold atI
  rw [List.length_map]
  cases ixN l.length i with
  | none => rfl
  | some j => simp
theorem rd_sel {P : Program} {w : World} {mg : Str → Option Value} {base : Heap} {k : Nat} {xs : List Str} {gs : List (Nat × FM)} {Cs : List (Addr × Sp)} (hS : Sels P w K mg base C k xs gs Cs) (hz : Cs.length ≤ 1000) (hk : Rd K W C tk fk) (hl : RdA K W C tl fl) :
    Rd K W C (tCallE Cs (WE W) (tOp (rAtL K) (tLst (selA (Cs.map (·.1)))) tk) tl) (fSel gs fk fl) := by
  intro ρ HI H σ Q _ so p
  refine selA_run (fs := Cs.map (·.1)) (Q := fun xs H1 => xs.length ≤ sizeLine ∧ ∀ p, H1 p = none → (tk σ (upd H1 p (.lst xs)) fun y H3 => rAtL K (V.ref p) y H3 fun v H4 => ∃ f sp, v = .ref f ∧ (f, sp) ∈ Cs ∧ tl σ H4 fun vs H5 => sp vs H5 Q (WE W σ))) ⟨by rw [List.length_map, List.length_map]; exact Nat.le_trans hz (by decide), fun q hq => ?_⟩
  have offq := off_of so hq
  have tp := TP.fresh (o := .lst ((Cs.map (·.1)).map V.ref)) so.sub hq
  have so1 := so.tp tp
  have p := Pt.from tp.tr p
  unfold fSel at p
  refine hk ρ HI _ σ _ same_H0 so1 ?_
  cases hf : fk ρ with
  | none => rw [mb_none hf] at p; exact p
  | some o =>
    cases o with
    | ex c ρ1 => rw [mb_ex hf] at p; exact p
    | ok d ρ1 =>
      rw [mb_ok hf] at p
      intro HI1 H1 tr1 so2 v rv
      cases rv with
      | int i =>
        dsimp only at p
        cases hg : atI gs i with
        | none => rw [hg] at p; exact False.elim p
        | some ng =>
          obtain ⟨n, g⟩ := ng
          rw [hg] at p
          dsimp only at p
          have eq : H1 q = some (.lst ((Cs.map (·.1)).map V.ref)) := tr1.keep q _ upd_same (off_own offq)
          obtain ⟨j, hj, hgj⟩ : ∃ j, ixN gs.length i = some j ∧ gs[j]? = some (n, g) := by
            unfold atI at hg
            cases hx : ixN gs.length i with
            | none => rw [hx] at hg; cases hg
            | some j => rw [hx] at hg; exact ⟨j, rfl, hg⟩
          obtain ⟨f, hfj⟩ := hS.at hgj
          have hat : atI Cs i = some (f, SpF K C n g) := by
            unfold atI
            rw [hS.len, hj]
            exact hfj
          refine ⟨q, _, i, V.ref f, rfl, rfl, eq, by rw [atI_map, atI_map, hat]; rfl, f, _, rfl, List.mem_of_getElem? hfj, ?_⟩
          refine hl ρ1 HI1 H1 σ _ same_H0 so2 ?_
          have p := Pt.from tr1 p
          cases hfl : fl ρ1 with
          | none => rw [mb_none hfl] at p; exact p
          | some o =>
            cases o with
            | ex c ρ2 => rw [mb_ex hfl] at p; exact p
            | ok ds ρ2 =>
              rw [mb_ok hfl] at p
              intro HI2 H2 tr2 so3 vs ra
              by_cases hn : ds.length = n
              · rw [if_pos hn] at p
                exact ⟨by rw [dpa_len ra]; exact hn, HI2, _, sok_args so3.sub ra, res_ok (σ := σ) (ρ := ρ2) (fun _ _ _ z => z) so3 no_own (Pt.from tr2 p)⟩
              · rw [if_neg hn] at p; exact False.elim p
      | _ => exact False.elim p
end
section
variable {X : Cx} {W : WX} {P : Program} {w : World} {K : PySem.W.Frag} {mg : Str → Option Value} {base : Heap} {A : Around} {C : Exc} {k k' : Nat} {xs : List Str} {gs : List (Nat × FM)} {Cs : List (Addr × Sp)} {pos : Pos} {t : TA} {tf : TE} {func : Expr}
/-- the call of a value; hc: it stands for no name, no attribute -/
theorem pe_sel {e : Expr} {es : List Expr} (hS : Sels P w K mg base C k xs gs Cs) (hr : Room k A) (tk : Takes X W) (hf : PE X func tf) (ha : PA X (e :: es) t) (h1 : X.prog = P := by rfl) (h2 : X.w = w := by rfl) (h3 : X.K = K := by rfl) (h4 : X.mg = mg := by rfl) (h5 : X.base = base := by rfl) (h6 : X.A = A := by rfl)
    (hc : eval (.Call func (e :: es) [] pos) X.env = (do callWith pos (← eval func X.env) [] (backTo pos (starEach (e :: es) X.env)) (backToKw pos (keywordEach [] X.env))) := by rfl)
    (he : starEach (e :: es) X.env = (false, eval e X.env) :: starEach es X.env := by rfl) (hpl : (backTo pos (starEach es X.env)).any (·.1) = false := by rfl) : PE X (.Call func (e :: es) [] pos) (tCallE Cs (WE W) tf t) := by
  subst h1 h2 h3 h4 h5 h6
  refine ⟨fun pins s σ H Q I h => ?_⟩
  refine Call_ (thn (hf.run pins s σ H _ I h) fun u s1 ⟨v, H1, I1, r1, f, sp, ev, hm, q⟩ => ?_) hc
  subst ev
  cases r1
  obtain ⟨fd, ps, F, hk, hb⟩ := hS.has hm
  refine PySem.W.callWith_K (h₀ := X.base) I.ok.mod.kin hk (thn (ha.run pos pins s1 σ H1 _ I1 q) fun us s2 ⟨vs, H2, I2, r, q2⟩ => ⟨I2.kIn, ?_⟩) he hpl
  exact run_fnS F hr hb (passAt tk σ) I2 r q2
theorem pe_sel0 (hS : Sels P w K mg base C k xs gs Cs) (hr : Room k A) (tk : Takes X W) (hf : PE X func tf) (h1 : X.prog = P := by rfl) (h2 : X.w = w := by rfl) (h3 : X.K = K := by rfl) (h4 : X.mg = mg := by rfl) (h5 : X.base = base := by rfl) (h6 : X.A = A := by rfl)
    (hc : eval (.Call func [] [] pos) X.env = (do callWith pos (← eval func X.env) [] (backTo pos (starEach [] X.env)) (backToKw pos (keywordEach [] X.env))) := by rfl) : PE X (.Call func [] [] pos) (tCallE Cs (WE W) tf tNil) := by
  subst h1 h2 h3 h4 h5 h6
  refine ⟨fun pins s σ H Q I h => ?_⟩
  refine Call_ (thn (hf.run pins s σ H _ I h) fun u s1 ⟨v, H1, I1, r1, f, sp, ev, hm, q⟩ => ?_) hc
  subst ev
  cases r1
  obtain ⟨fd, ps, F, hk, hb⟩ := hS.has hm
  refine PySem.W.callWith_K0 I1.kIn hk ?_
  exact run_fnS F hr hb (passAt tk σ) I1 .nil q
/-- the list of the defs -/
theorem pe_sels {es : List Expr} {pl : Pos} (hS : Sels P w K mg base C k xs gs Cs) (hA : PA X es (selA (Cs.map (·.1)))) : PE X (.List es pl) (tLst (selA (Cs.map (·.1)))) := pe_lst hA
end
/-- the defs that stand in the list, one by one -/
theorem Sels.of {P : Program} {w : World} {K : PySem.W.Frag} {mg : Str → Option Value} {base : Heap} {C : Exc} {x : Str} {S : Stmt} {j k : Nat} {ps : List Str} {g : FM} {xs : List Str} {gs : List (Nat × FM)} (F : Fn P w K mg base C x S j ps g) (hk : j ≤ k) (h : ∃ Cs, Sels P w K mg base C k xs gs Cs ∧ Cs.length ≤ xs.length) :
    ∃ Cs, Sels P w K mg base C k (x :: xs) ((ps.length, g) :: gs) Cs ∧ Cs.length ≤ (x :: xs).length := by
  obtain ⟨f, fd, _, h1, h2, h3, h4⟩ := F.ex
  obtain ⟨Cs, a, b⟩ := h
  exact ⟨_, .cons (h1.mono hk) h2 h3 h4 a, Nat.succ_le_succ b⟩
/-- the names in the list, as arguments -/
theorem pa_sels {X : Cx} {P : Program} {w : World} {K : PySem.W.Frag} {mg : Str → Option Value} {base : Heap} {C : Exc} {k : Nat} (hmg : X.mg = mg) : ∀ {xs : List Str} {gs : List (Nat × FM)} {Cs : List (Addr × Sp)}, Sels P w K mg base C k xs gs Cs → ∀ {es : List Expr}, Paired (fun (x : Str) (e : Expr) => (∃ p, e = .Name x p) ∧ Gl X x ∧ (x == ("__debug__" : Str)) = false) xs es →
      (∀ (y : Str) (p : Pos) (r : List Expr), starEach (.Name y p :: r) X.env = (false, eval (.Name y p) X.env) :: starEach r X.env) → PA X es (selA (Cs.map (·.1)))
  | _, _, _, .nil, _, .nil, _ => pa_nil
  | _, _, _, .cons _ h2 _ _ h, _, .cons ⟨⟨p, e⟩, hg, hd⟩ hp, hst => by
    subst e
    exact pa_cons (pe_glob hg (by rw [hmg]; exact h2) rfl hd) (pa_sels hmg h hp hst) (hst _ p _)
end Ev
set_option Elab.async false
set_option linter.all false
set_option autoImplicit false
set_option maxRecDepth 100000
namespace Ev
open PySem PySem.Spec L2 PyProof.Rows

/-! ### x[::-1] -/
section
variable {prog : Program} {w : World} {A : Around} {E : Value → Shared → Prop} {s : Shared}
theorem adj_rev (n : Nat) : Builtin.Slice.sliceAdjust none none (-1) (n : Int) = ((n : Int) - 1, -1) := by
  unfold Builtin.Slice.sliceAdjust
  simp
theorem places_rev (n : Nat) : Builtin.Slice.slicePlaces ((n : Int) - 1) (-1) (-1) = n := by
  unfold Builtin.Slice.slicePlaces
  have h1 : ¬ ((-1 : Int) > 0) := by omega
  simp only [h1, if_false]
  split
  · rw [show (- -1 : Int) = 1 by decide, Int.ediv_one]; omega
  · omega
theorem picks_rev (xs : Array Value) : ((List.range xs.size).filterMap fun (k : Nat) => xs[(((xs.size : Int) - 1) + (k : Int) * -1).toNat]?) = xs.toList.reverse := by
  have e : ((List.range xs.size).filterMap fun (k : Nat) => xs[(((xs.size : Int) - 1) + (k : Int) * -1).toNat]?) = ((List.range xs.size).map fun k => xs.size - 1 - k).filterMap (xs[·]?) := by
    rw [List.filterMap_map]
    congr 1
    funext k
    show xs[(((xs.size : Int) - 1) + (k : Int) * -1).toNat]? = xs[xs.size - 1 - k]?
    rw [show (((xs.size : Int) - 1) + (k : Int) * -1).toNat = xs.size - 1 - k by omega]
  rw [e, PySem.W.krv_range, List.filterMap_reverse, PySem.W.krv_all]
theorem getItem_tuple_rev {t sl : Addr} {items : Array Value} {vl vu vs : Value} {Q : Value → Shared → Prop} (ht : IsTup s.heap t items) (hs : s.heap.IsSliceOf sl vl vu vs) (pl : IsPart vl none) (pu : IsPart vu none) (ps : IsPart vs (some (-1)))
    (h : Q (.ref s.heap.objs.size) { s with heap := s.heap.push { cls := .type "tuple", data := .seq items.toList.reverse.toArray } }) (hsz : items.size ≤ sizeLine) : wpAny (model prog w) A (getItem (.ref t) (.ref sl)) Q E s := by
  have hfit : sizeOk (.seq items.toList.reverse.toArray) := by
    show items.toList.reverse.toArray.size ≤ sizeLine
    rw [List.size_toArray, List.length_reverse, Array.length_toList]
    exact hsz
  obtain ⟨os, hos, hcs, hds⟩ := id hs
  have hT : s.TypeIs (.ref sl) "slice" := ⟨os, hos, hcs⟩
  unfold getItem
  try with_reducible refine wpAny_holding ?_
  first | refine wpAny_bind (wpAny_pure ?_) | skip
  refine wpAny_bind (wpAny_sequenceKey ht.typeIs (by decide) ?_)
  refine wpAny_bind (wpAny_callSpecial?_slot (name := Str.ofString "__getitem__") ht.typeIs PyProof.Rows.slot_tuple_getitem (wpAny_call_entry PyProof.Rows.slot_tuple_getitem ht.typeIs entry_tuple_getitem ?_ (args_tuple_getitem _ _)))
  show wpAny _ _ (Builtin.Tuple.tupleItemsOf (.ref t) >>= _) _ _ s
  refine wpAny_bind (tupleItemsOf_ ht (wpAny_bind (wpAny_typeOf hT ?_)))
  rw [if_pos (by decide)]
  have ap : ∀ {Q' : Int × Int × Nat → Shared → Prop}, Q' ((items.size : Int) - 1, -1, items.size) s → wpAny (model prog w) A.in1 (Builtin.Slice.sliceApplied (.ref sl) (pure (items.size : Int))) Q' (fun _ _ => True) s → True := fun _ _ => trivial
  refine wpAny_bind (m := Builtin.Slice.sliceApplied (.ref sl) (pure (items.size : Int))) ?_
  unfold Builtin.Slice.sliceApplied Builtin.Slice.sliceFields
  refine wpAny_bind (wpAny_bind (wpAny_field hos hds (x := vl) rfl (wpAny_bind (wpAny_field hos hds (x := vu) rfl (wpAny_bind (wpAny_field hos hds (x := vs) rfl (wpAny_pure ?_)))))))
  refine wpAny_bind (HT.slicePart_ ps ?_)
  show wpAny _ _ (if ((-1 : Int) == 0) = true then _ else _) _ _ s
  rw [if_neg (by decide)]
  refine wpAny_bind (HT.slicePart_ pl (wpAny_bind (HT.slicePart_ pu (wpAny_bind (wpAny_pure ?_)))))
  show wpAny _ _ (match Builtin.Slice.sliceAdjust none none (-1) (items.size : Int) with | (lo, hi) => pure (lo, (-1 : Int), Builtin.Slice.slicePlaces lo hi (-1))) _ _ s
  rw [adj_rev]
  show wpAny _ _ (pure (((items.size : Int) - 1), (-1 : Int), Builtin.Slice.slicePlaces ((items.size : Int) - 1) (-1) (-1))) _ _ s
  rw [places_rev]
  refine wpAny_pure ?_
  have hno : ¬ ((((items.size : Int) - 1) == 0 && (-1 : Int) == 1 && items.size == items.size) = true) := by
    intro q
    rw [Bool.and_eq_true, Bool.and_eq_true] at q
    exact absurd q.1.2 (by decide)
  show wpAny _ _ (if (((items.size : Int) - 1) == 0 && (-1 : Int) == 1 && items.size == items.size) = true then _ else _) _ _ s
  rw [if_neg hno, picks_rev]
  first
    | exact wpAny_bind (m := Builtin.Tuple.tupleExact _) (wpAny_newObj_type (wpAny_pure ⟨_, rfl, wpAny_pure h⟩) hfit)
    | exact wpAny_bind (wpAny_bind (m := Builtin.Tuple.tupleExact _) (wpAny_newObj_type (wpAny_pure (wpAny_pure ⟨_, rfl, wpAny_pure h⟩)) hfit))
    | exact wpAny_bind (wpAny_bind (m := Builtin.Tuple.tupleExact _) (wpAny_newObj_type (wpAny_pure ⟨_, rfl, wpAny_pure h⟩) hfit))
end
theorem dpa_rev {K : PySem.W.Frag} {H : Hp} : ∀ {vs : List V} {ds : List D}, RpAll K H vs ds → RpAll K H vs.reverse ds.reverse
  | _, _, .nil => .nil
  | _, _, .cons h a => by
    rw [List.reverse_cons, List.reverse_cons]
    exact dpa_app (dpa_rev a) (.cons h .nil)
def gRev : D → Option D
  | .list xs => some (.list xs.reverse)
  | .tuple xs => some (.tuple xs.reverse)
  | _ => none
section
variable {X : Cx}
theorem pe_rev {e : Expr} {te : TE} {k : Nat} {p1 p2 p3 pos : Pos} (he : PE X e te) : PE X (.Subscript e (.Slice none none (some (.UnaryOp .USub (.Constant (.int 1) k p1) p2)) p3) pos) (tUn (DO1 X.K gRev) te) := by
  refine ⟨fun pins s σ H Q I h => ?_⟩
  refine Subscript_ (thn (he.run pins s σ H _ I h) fun v s1 ⟨x, H1, I1, r1, q1⟩ => ?_)
  obtain ⟨HI, d, r, sub, dx, eg, q⟩ := q1
  have hst : PO X (some (.UnaryOp .USub (.Constant (.int 1) k p1) p2)) (tPart (tUn (rU fun i => .int (-i)) (tC (.int 1)))) := po_some (pe_un un_neg pe_int)
  refine wpAny_Slice (thn (po_none.run pins s1 σ H1 (fun o H2 => o = none ∧ H2 = H1) I1 ⟨rfl, rfl⟩) fun vl s2 ⟨l, H2, I2, pl, el, e2⟩ => ?_)
  subst el e2
  refine thn (po_none.run pins s2 σ H2 (fun o H3 => o = none ∧ H3 = H2) I2 ⟨rfl, rfl⟩) fun vu s3 ⟨u, H3, I3, pu, eu, e3⟩ => ?_
  subst eu e3
  refine thn (hst.run pins s3 σ H3 (fun o H4 => o = some (-1) ∧ H4 = H3) I3 ⟨1, rfl, -1, rfl, rfl, rfl⟩) fun vs s4 ⟨o, H4, I4, ps, eo, e4⟩ => ?_
  subst eo e4
  have I5 : Inv X pins σ H4 { s4 with heap := s4.heap.push { cls := .type "slice", data := .fields #[vl, vu, vs] } } := I4.kept (t' := s4.toks) fun b ob q => Heap.get?_push_of_some _ q
  show wpAny (model X.prog X.w) X.A (subscriptTail e (.Slice none none (some (.UnaryOp .USub (.Constant (.int 1) k p1) p2)) p3) v (.ref s4.heap.objs.size)) (EP X pins σ Q) X.xe { s4 with heap := s4.heap.push { cls := .type "slice", data := .fields #[vl, vu, vs] } }
  cases dx with
  | @lst a xs ds h1 a1 =>
    cases eg
    cases r1
    obtain ⟨its, r, ht, hz⟩ := I5.list (seqL_mono sub h1)
    have hlen := r.length
    refine tail_any (ops := [.ref a, .ref s4.heap.objs.size]) ht.isList.typeIs (PySem.slot_list_getitem.lookup) ?_ (by with_unfolding_all rfl)
    refine wpAny_getItem_list_slice ht.isList (Heap.IsSliceOf.new _ vl vu vs) pl pu ps (by decide) ?_ (by rw [List.size_toArray]; omega)
    rw [PySem.W.krv_pick]
    exact ⟨.ref _, _, I5.laid (t' := s4.toks) (o := .lst xs.reverse) (fun b ob q => Heap.get?_push_of_some _ q) (Nat.le_refl _) ⟨by rw [List.length_reverse]; exact hz, _, 0, r.reverse, Heap.get?_push_size _ rfl⟩, rfl, q_lst q sub (I5.hok.fresh (Nat.le_refl _)) (dpa_rev a1)⟩
  | @tup a xs ds h1 n1 a1 =>
    cases eg
    cases r1
    obtain ⟨its, r, ht, hz⟩ := I5.tuple (seqT_mono sub h1)
    have hlen := r.length
    refine tail_any (ops := [.ref a, .ref s4.heap.objs.size]) ht.typeIs PyProof.Rows.slot_tuple_getitem.lookup ?_ (by with_unfolding_all rfl)
    refine getItem_tuple_rev ht (Heap.IsSliceOf.new _ vl vu vs) pl pu ps ?_ (by rw [List.size_toArray]; omega)
    exact ep_tup I5 q sub (by rw [List.length_reverse]; exact hz) r.reverse (dpa_rev a1)
  | _ => cases eg
end
end Ev
set_option Elab.async false
set_option linter.all false
set_option autoImplicit false
set_option maxRecDepth 100000
namespace Ev
open PySem PySem.Spec L2 PyProof.Rows PySem.W PySem.Calls

/-! ### sets: what comes of them in order -/
def putK (ks : List L2.Key) (k : L2.Key) : List L2.Key := if (ks.any fun j => decide (j = k)) = true then ks else ks ++ [k]
def keysL : List D → Option (List L2.Key)
  | [] => some []
  | d :: ds => match keyOf d with
    | some k => match keysL ds with
      | some ks => some (k :: ks)
      | none => none
    | none => none
def setK (ds : List D) : Option (List D) := if Nat.ble ds.length 4000 then (match keysL ds with
  | some ks => some ((ks.foldl putK []).map keyD)
  | none => none) else none
def gSet (ds : List D) : Option (List D) := match setK ds with
  | some s => if okSort s then some (sortD (leD false) s) else none
  | none => none
/-- in, unless it is there -/
def putN (ks : List NestedKey) (k : NestedKey) : List NestedKey := if (ks.any fun j => NestedKey.beq j k) = true then ks else ks ++ [k]
mutual
def nkD : D → Option NestedKey
  | .none => some .none
  | .int i => some (.num i)
  | .str x => some (.text x)
  | .tuple ds => match nksD ds with
    | some ks => some (.tup ks)
    | Option.none => Option.none
  | _ => Option.none
def nksD : List D → Option (List NestedKey)
  | [] => some []
  | d :: ds => match nkD d with
    | some k => match nksD ds with
      | some ks => some (k :: ks)
      | Option.none => Option.none
    | Option.none => Option.none
end
mutual
def kN : NestedKey → D
  | .none => .none
  | .num i => .int i
  | .text x => .str x
  | .tup ks => .tuple (kNs ks)
def kNs : List NestedKey → List D
  | [] => []
  | k :: ks => kN k :: kNs ks
end
def apart : List D → Bool
  | [] => true
  | d :: ds => ds.all (fun e => dataLt d e || dataLt e d) && apart ds
def isTupD : D → Bool
  | .tuple _ => true
  | _ => false
def setT (ds : List D) : Option (List D) := if Nat.ble ds.length 62 && ds.all (fun d => isTupD d && Nat.ble d.depth 8) then (match nksD ds with
  | some ks => if ks.all (fun k => Nat.ble k.depth 8) && apart ((ks.foldl putN []).map kN) then some ((ks.foldl putN []).map kN) else none
  | none => none) else none
def setD (ds : List D) : Option (List D) := match setK ds with
  | some s => some s
  | none => setT ds
def gSet2 (ds : List D) : Option (List D) := match setD ds with
  | some s => if okSort s then some (sortD (leD false) s) else none
  | none => none
def gSetSort : List D → Option (List D)
  | [.list xs] => gSet2 xs
  | [.tuple xs] => gSet2 xs
  | _ => none
def gSetLen : List D → Option D
  | [.list xs] => (setD xs).map fun s => .int s.length
  | [.tuple xs] => (setD xs).map fun s => .int s.length
  | _ => none
/-- must be a number or a text -/
def fK (fe : M D) : M D := mbind fe fun d => if (keyOf d).isSome then mpure d else fun _ => none
/-! ### dicts -/
def putD (kvs : List (D × D)) (k : L2.Key) (v : D) : List (D × D) := if (kvs.any fun e => decide (keyOf e.1 = some k)) = true then kvs.map (fun e => if keyOf e.1 = some k then (e.1, v) else e) else kvs ++ [(keyD k, v)]
def pairD : D → Option (L2.Key × D)
  | .tuple [k, v] => (keyOf k).map fun k => (k, v)
  | .list [k, v] => (keyOf k).map fun k => (k, v)
  | _ => none
def pairsD : List D → List (D × D) → Option (List (D × D))
  | [], acc => some acc
  | x :: xs, acc => match pairD x with
    | some (k, v) => pairsD xs (putD acc k v)
    | none => none
def gDict : List D → Option D
  | [.list xs] => if szOk xs.length then (pairsD xs []).map .dict else none
  | [.tuple xs] => if szOk xs.length then (pairsD xs []).map .dict else none
  | _ => none
def gGet1 (d k : D) : Option D := match d with
  | .dict kvs => (keyOf k).map fun k => (findK k kvs).getD .none
  | _ => none
def gGet2 (d k z : D) : Option D := match d with
  | .dict kvs => (keyOf k).map fun k => (findK k kvs).getD z
  | _ => none
/-! ### x.extend(..), a new list handed over, x or y -/
def fExt (i : Nat) (fl : M (List D)) : M D := fun r => match muAt r i with
  | none => none
  | some _ => mbind fl (fun zs r1 => match muAt r1 i with
    | none => none
    | some ds => if szOk (ds.length + zs.length) then some (.ok .none (r1.set i (.mu (.list (ds ++ zs))))) else none) r
def fCallMF (n : Nat) (g : FM) (ff fl : M (List D)) : M D := mbind ff fun es => mbind fl fun ds => if ds.length + 1 = n then (fun ρ => match g (.mu (.list es) :: ds.map .im) with
    | some (.rt false d _) => some (.ok d ρ)
    | some (.rt true (.list xs) _) => some (.ok (.list xs) ρ)
    | some (.ex c _) => some (.ex c ρ)
    | _ => none) else fun _ => none
def fOrL (fa fb : M (List D)) : M (List D) := mbind fa fun xs => if xs.isEmpty then fb else mpure xs
/-! ### [e for x in xs for y in ys] -/
def innerL (tf : D → Rho → Option Rho) (vs : List Nat) (ft : M Bool) (fe : M D) : List D → M (List D)
  | [], r => some (.ok [] r)
  | d :: ds, r => match tf d r with
    | none => none
    | some r1 => match ft r1 with
      | some (.ok true r2) => match fe r2 with
        | some (.ok y r3) => match innerL tf vs ft fe ds (wipeR r3 vs) with
          | some (.ok ys r4) => some (.ok (y :: ys) r4)
          | _ => none
        | _ => none
      | some (.ok false r2) => innerL tf vs ft fe ds (wipeR r2 vs)
      | _ => none
def compL2 (tf : D → Rho → Option Rho) (vs : List Nat) (ft : M Bool) (fi1 : M (List D × List Nat)) (tf1 : D → Rho → Option Rho) (vs1 : List Nat) (ft1 : M Bool) (fe : M D) : List D → M (List D)
  | [], r => some (.ok [] r)
  | d :: ds, r => match tf d (wipeR r vs) with
    | none => none
    | some r1 => match ft r1 with
      | some (.ok true r2) => match fi1 r2 with
        | some (.ok (es, []) r3) => if szOk es.length then match innerL tf1 vs1 ft1 fe es (wipeR r3 vs1) with
          | some (.ok ys r4) => match compL2 tf vs ft fi1 tf1 vs1 ft1 fe ds (backR r r4 vs) with
            | some (.ok zs r5) => some (.ok (ys ++ zs) r5)
            | _ => none
          | _ => none
          else none
        | _ => none
      | some (.ok false r2) => compL2 tf vs ft fi1 tf1 vs1 ft1 fe ds (backR r r2 vs)
      | _ => none
def fComp2 (fi : M (List D × List Nat)) (tf : D → Rho → Option Rho) (vs : List Nat) (ft : M Bool) (fi1 : M (List D × List Nat)) (tf1 : D → Rho → Option Rho) (vs1 : List Nat) (ft1 : M Bool) (fe : M D) : M (List D) := fun r => match fi r with
  | none => none
  | some (.ex c r1) => some (.ex c r1)
  | some (.ok (ds, lks) r1) => if szOk ds.length && lks.isEmpty then (match compL2 tf vs ft fi1 tf1 vs1 ft1 fe ds r1 with
    | some (.ok ys r2) => if szOk ys.length then some (.ok ys r2) else none
    | _ => none) else none
end Ev
set_option Elab.async false
set_option linter.all false
set_option autoImplicit false
set_option maxRecDepth 100000
namespace Ev
open PySem PySem.Spec L2 PyProof.Rows
section
variable {K : PySem.W.Frag} {W : WX} {C : Exc} {te ta tb tf : TE} {tl : TA} {fl fa fb ff : M (List D)}
/-! ### x.extend(a new list) -/
theorem rd_ext {i : Nat} (hl : RdF K W C te fl) : Rd K W C (tBM K "list" rExtend (tVar i) (tCons te tNil)) (fExt i fl) := by
  intro ρ HI H σ Q _ so p
  unfold fExt at p
  cases h0 : muAt ρ i with
  | none => rw [h0] at p; exact False.elim p
  | some ds0 =>
    rw [h0] at p
    dsimp only at p
    obtain ⟨a, vs0, ha, hv0, rp0⟩ := mu_ref so h0
    refine ⟨V.ref a, ha, .inl ⟨rfl, vs0, .inl (.inl hv0)⟩, ?_⟩
    refine hl ρ HI H σ _ so ?_
    cases hf : fl ρ with
    | none => rw [mb_none hf] at p; exact p
    | some o =>
      cases o with
      | ex c ρ1 => rw [mb_ex hf] at p; exact p
      | ok zs ρ1 =>
        rw [mb_ok hf] at p
        intro HI1 H1 tr so1 q ws hq rws
        cases h1 : muAt ρ1 i with
        | none => rw [h1] at p; exact False.elim p
        | some ds =>
          rw [h1] at p
          dsimp only at p
          obtain ⟨nI, vs, hv, rp⟩ := mu_has so1 h1 ha
          cases hz : szOk (ds.length + zs.length) with
          | false => rw [hz] at p; exact False.elim p
          | true =>
            rw [hz] at p
            have tp := TP.fresh (o := .lst ws) so1.sub hq
            have so2 := so1.tp tp
            have hv2 : (upd H1 q (.lst ws)) a = some (.lst vs) := tp.ex _ _ hv
            refine ⟨a, q, vs, ws, rfl, rfl, hv2, upd_same, by rw [dpa_len rp, dpa_len rws]; exact szOk_le hz, ?_⟩
            exact p HI1 _ (tr.trans ((tp.tr).trans (mu_tr so2 (muAt_some h1) ha))) (mu_upd so2 (muAt_some h1) ha nI (dpa_app rp rws)) _ .non
/-! ### x or y, both new lists -/
theorem rf_or (ha : RdF K W C ta fa) (hb : RdF K W C tb fb) : RdF K W C (tOrT K ta tb) (fOrL fa fb) := by
  intro ρ HI H σ Q so p
  refine ha ρ HI H σ _ so ?_
  unfold fOrL at p
  cases hf : fa ρ with
  | none => rw [mb_none hf] at p; exact p
  | some o =>
    cases o with
    | ex c ρ1 => rw [mb_ex hf] at p; exact p
    | ok xs ρ1 =>
      rw [mb_ok hf] at p
      intro HI1 H1 tr1 so1 q vs hq rvs
      have hl := dpa_len rvs
      refine ⟨!xs.isEmpty, ?_, ?_⟩
      · refine .inl ⟨vs, .inl (.inl upd_same), ?_⟩
        cases vs <;> cases xs <;> first | rfl | simp at hl
      · cases hx : xs.isEmpty with
        | false =>
          rw [hx] at p
          exact p HI1 H1 tr1 so1 q vs hq rvs
        | true =>
          rw [hx] at p
          have tp := TP.fresh (o := .lst vs) so1.sub hq
          exact hb ρ1 HI1 _ σ Q (so1.tp tp) (Pt.from (tr1.trans tp.tr) p)
/-! ### f(a new list, ..), f changes it -/
theorem rd_callMF {n : Nat} {g : FM} (hf : RdF K W C tf ff) (hl : RdA K W C tl fl) : Rd K W C (tCallS (SpF K C n g) (WE W) (tCons tf tl)) (fCallMF n g ff fl) := by
  intro ρ HI H σ Q _ so p
  refine hf ρ HI H σ _ so ?_
  unfold fCallMF at p
  cases hff : ff ρ with
  | none => rw [mb_none hff] at p; exact p
  | some o =>
    cases o with
    | ex c ρ1 => rw [mb_ex hff] at p; exact p
    | ok es ρ1 =>
      rw [mb_ok hff] at p
      intro HI1 H1 tr1 so1 q ws hq rws
      have offq := off_of so1 hq
      have tp := TP.fresh (o := .lst ws) so1.sub hq
      have so2 := so1.tp tp
      have p := Pt.from tr1 p
      refine hl ρ1 HI1 _ σ _ same_H0 so2 ?_
      cases hfl : fl ρ1 with
      | none => rw [mb_none hfl] at p; exact p
      | some o =>
        cases o with
        | ex c ρ2 => rw [mb_ex hfl] at p; exact fun HI' H' t s' => p HI' H' ((tp.tr).trans t) s'
        | ok ds ρ2 =>
          rw [mb_ok hfl] at p
          intro HI2 H2 tr2 so3 vs ra
          by_cases hn : ds.length + 1 = n
          · rw [if_pos hn] at p
            have eq2 : H2 q = some (.lst ws) := tr2.keep q _ upd_same (off_own offq)
            have nI1 : HI1 q = none := so1.sub.free hq
            have nI2 : HI2 q = none := by
              cases e : HI2 q with
              | none => rfl
              | some o =>
                rcases tr2.new q nI1 (by rw [e]; exact Option.some_ne_none o) with z | z
                · rw [upd_same] at z; cases z
                · exact absurd z (off_own offq)
            have offq2 : Off σ ρ2 q := off_tr tr2 offq
            -- behind the call: all but q is as it was
            have go : ∀ {ρc : Rho} {HI' H' : Hp}, Tr ((V.ref q :: vs).map some) (Sl.mu (.list es) :: ds.map Sl.im) HI2 H2 ρc HI' H' → SOk K HI' H' ((V.ref q :: vs).map some) ρc → SOk K HI' H' σ ρ2 ∧ Tr σ ρ1 HI1 H1 ρ2 HI' H' := fun {ρc HI' H'} t s' => by
              have ow : ∀ b, Own ((V.ref q :: vs).map some) (Sl.mu (.list es) :: ds.map Sl.im) b → b = q := fun b z => by
                have := own_cons (σ := σ) z
                cases this; rfl
              refine ⟨⟨s'.sub, so3.len, fun j d h => ?_, fun j l d h hl => ?_, so3.inj⟩, ⟨tr2.exI.trans t.exI, fun b x y => ?_, fun b o e n => ?_, fun b e => ?_, tr2.own, tr2.ows⟩⟩
              · obtain ⟨v, w1, w2⟩ := so3.im j d h
                exact ⟨v, w1, dp_mono t.exI w2⟩
              · obtain ⟨b, w1, w2, w3⟩ := so3.mu j l d h hl
                have hb : b ≠ q := fun e => offq2 j l d h hl (by rw [← e]; exact w1)
                have nb : ¬ Own ((V.ref q :: vs).map some) (Sl.mu (.list es) :: ds.map Sl.im) b := fun z => hb (ow b z)
                cases d with
                | list fs =>
                  obtain ⟨us, u1, u2⟩ := w3
                  refine ⟨b, w1, ?_, us, t.keep b _ u1 nb, dpa_mono t.exI u2⟩
                  cases e : HI' b with
                  | none => rfl
                  | some o =>
                    rcases t.new b w2 (by rw [e]; exact Option.some_ne_none o) with z | z
                    · rw [u1] at z; cases z
                    · exact absurd z nb
                | _ => exact w3.elim
              · cases e : HI2 b with
                | some o =>
                  rcases tr2.new b x (by rw [e]; exact Option.some_ne_none o) with z | z
                  · by_cases hb : b = q
                    · subst hb; exact .inl hq
                    · rw [upd_ne hb] at z; exact .inl z
                  · exact .inr z
                | none =>
                  rcases t.new b e y with z | z
                  · exact .inl (tp.ex.free (tr2.dom b z))
                  · rw [ow b z]; exact .inl hq
              · have hb : b ≠ q := ne_of_none e hq
                exact t.keep b o (tr2.keep b o (by rw [upd_ne hb]; exact e) n) fun z => hb (ow b z)
              · exact tp.ex.free (tr2.dom b (t.dom b e))
            refine ⟨by rw [List.length_cons, dpa_len ra]; exact hn, HI2, _, sok_io so3.sub nI2 eq2 (dpa_mono tr2.exI rws) ra, ?_⟩
            cases hg : g (.mu (.list es) :: ds.map .im) with
            | none => rw [hg] at p; exact p
            | some o =>
              rw [hg] at p
              cases o with
              | nx r => exact p
              | bk r => exact p
              | ct r => exact p
              | ex c r => exact fun HI' H' t s' => p HI' H' (go t s').2 (go t s').1
              | rt fr d r =>
                cases fr with
                | false => exact fun HI' H' t s' v rv => p HI' H' (go t s').2 (go t s').1 v rv
                | true =>
                  cases d with
                  | list fs =>
                    intro HI' H' t s' q2 us hq2 rus
                    obtain ⟨s2, t2⟩ := go t s'
                    have tp2 := TP.new_ (o := .lst us) s2.sub hq2
                    exact p _ _ (t2.trans tp2.tr) (s2.tp tp2) _ (.lst (.inl (.inl upd_same)) (dpa_mono tp2.exI rus))
                  | _ => exact p
          · rw [if_neg hn] at p; exact False.elim p
end
end Ev
set_option Elab.async false
set_option linter.all false
set_option autoImplicit false
set_option maxRecDepth 100000
namespace Ev
open PySem PySem.Spec L2

/-- the turns of a loop that adds to a list -/
def loopL (tf : D → Rho → Option Rho) (vs : List Nat) (ft : M Bool) (fb : M (List D)) : List D → M (List D)
  | [], r => some (.ok [] r)
  | d :: ds, r => match tf d (wipeR r vs) with
    | none => none
    | some r1 => match ft r1 with
      | some (.ok true r2) => match fb r2 with
        | some (.ok y r3) => match loopL tf vs ft fb ds (backR r r3 vs) with
          | some (.ok ys r4) => some (.ok (y ++ ys) r4)
          | _ => none
        | _ => none
      | some (.ok false r2) => loopL tf vs ft fb ds (backR r r2 vs)
      | _ => none
section
variable {K : PySem.W.Frag} {C : Exc}
/-- what a body that adds to the list at D asks -/
def AddsTo (K : PySem.W.Frag) (so : List V → List PyData → HO) (D : Addr) (G : List PyData → Prop) (fb : M (List PyData)) (B : L2.St → Hp → (Hp → Prop) → Prop) : Prop := ∀ (ρ : Rho) (HI H : Hp) (σ : L2.St) (Nx : Hp → Prop) (acc : List V) (dacc ys : List PyData) (ρ' : Rho), SOk K HI (mask D H) σ ρ → HI D = none → Off σ ρ D → H D = some (so acc dacc) → RpAll K HI acc dacc → fb ρ = some (.ok ys ρ') → dacc.length + ys.length ≤ 4000 → G (dacc ++ ys) →
  (∀ HI' H' acc', H' D = some (so acc' (dacc ++ ys)) → HI' D = none → SOk K HI' (mask D H') σ ρ' → Tr σ ρ HI (mask D H) ρ' HI' (mask D H') → RpAll K HI' acc' (dacc ++ ys) → Nx H') → B σ H Nx
theorem wipeR_out {ρ : Rho} {j : Nat} : ∀ {vs : List Nat}, j ∉ vs → (wipeR ρ vs)[j]? = ρ[j]?
  | [], _ => rfl
  | v :: vs, h => by
    rw [List.mem_cons, not_or] at h
    unfold wipeR
    rw [List.getElem?_set_ne (fun e => h.1 e.symm)]
    exact wipeR_out h.2
theorem loopD {so : List V → List PyData → HO} {D : Addr} {G : List PyData → Prop} (hG : ∀ a b, G (a ++ b) → G a) {tf : PyData → Rho → Option Rho} {g : TG} {is vs : List Nat} {tt : TT} {ft : M Bool} {fb : M (List PyData)} {B : L2.St → Hp → (Hp → Prop) → Prop} (hg : TgOk K g tf is) (his : ∀ i ∈ is, i ∈ vs) (ht : RdT K WF C tt ft) (hb : AddsTo K so D G fb B)
    {J : It} {HS HI1 H1 : Hp} {σ : L2.St} {ρ1 ρ2 : Rho} {ds ys dacc0 : List PyData} {acc0 : List V} {Fin : Hp → Prop} (so1 : SOk K HI1 (mask D H1) σ ρ1) (nD1 : HI1 D = none) (hoff : Off σ ρ1 D) (e1D : H1 D = some (so acc0 dacc0)) (ra0 : RpAll K HI1 acc0 dacc0) (hcl : loopL tf vs ft fb ds ρ1 = some (.ok ys ρ2)) (hsz : dacc0.length + ys.length ≤ 4000) (hy0 : G (dacc0 ++ ys))
    (hOD : HS D = none) (hS : Same HS (mask D H1)) (hO : ∀ b, HS b ≠ none → ¬ Own σ ρ1 b) (hw : Walk K HI1 HS J ds)
    (fin : ∀ HI' H' acc', H' D = some (so acc' (dacc0 ++ ys)) → HI' D = none → SOk K HI' (mask D H') σ ρ2 → Tr σ ρ1 HI1 (mask D H1) ρ2 HI' (mask D H') → RpAll K HI' acc' (dacc0 ++ ys) → Fin H') :
    ∃ W : Nat → Nat → Hp → Prop, (∃ m, W 0 m H1) ∧ ∀ i m H, W i m H → (J.stop i H ∧ Fin H) ∨ (J.go i H ∧ ∃ Nx : Hp → Prop, (∀ H', Nx H' → ∃ m', m' < m ∧ W (i + 1) m' H') ∧ ∀ x H', J.yld i H x H' → g x (L2.wipe σ vs) H' fun σ2 H2 => L2.wipe σ2 vs = L2.wipe σ vs ∧ tt σ2 H2 fun b H3 => if b = true then B σ2 H3 Nx else Nx H3) := by
  refine ⟨fun i m H' => m = ds.length - i ∧ i ≤ ds.length ∧ ∃ HIi ρi acc dacc rest, H' D = some (so acc dacc) ∧ HIi D = none ∧ SOk K HIi (mask D H') σ ρi ∧ Tr σ ρ1 HI1 (mask D H1) ρi HIi (mask D H') ∧ RpAll K HIi acc dacc ∧
      loopL tf vs ft fb (ds.drop i) ρi = some (.ok rest ρ2) ∧ dacc ++ rest = dacc0 ++ ys, ⟨ds.length, by simp, Nat.zero_le _, HI1, ρ1, acc0, dacc0, ys, e1D, nD1, so1, Tr.refl, ra0, by rw [List.drop_zero]; exact hcl, rfl⟩, ?_⟩
  rintro i m H2 ⟨rfl, hile, HIi, ρi, acc, dacc, rest, eD, nD, soi, tri, ra, hcomp, hsum⟩
  have soH : SOk K HIi H2 σ ρi := sok_at soi eD
  have hoffi : Off σ ρi D := off_tr tri hoff
  have hlen : dacc.length + rest.length = dacc0.length + ys.length := by rw [← List.length_append, hsum, List.length_append]
  have hkeep : Same HS H2 := fun b o q => by
    have hb : b ≠ D := fun z => by subst z; rw [hOD] at q; cases q
    have := tri.keep b o (hS b o q) (hO b (by rw [q]; exact Option.some_ne_none o))
    rw [mask_ne hb] at this
    exact this
  obtain ⟨hstop, hgo⟩ := hw HIi H2 tri.exI soH.sub hkeep
  by_cases hlt : i < ds.length
  · obtain ⟨d, hd⟩ : ∃ d, ds[i]? = some d := ⟨_, List.getElem?_eq_getElem hlt⟩
    obtain ⟨go, step⟩ := hgo i d hd
    refine .inr ⟨go, fun H' => (i + 1) ≤ ds.length ∧ ∃ HIi ρi acc dacc rest, H' D = some (so acc dacc) ∧ HIi D = none ∧ SOk K HIi (mask D H') σ ρi ∧ Tr σ ρ1 HI1 (mask D H1) ρi HIi (mask D H') ∧ RpAll K HIi acc dacc ∧
      loopL tf vs ft fb (ds.drop (i + 1)) ρi = some (.ok rest ρ2) ∧ dacc ++ rest = dacc0 ++ ys, fun H' q => ⟨ds.length - (i + 1), by omega, rfl, q.1, q.2⟩, fun x H3 hy => ?_⟩
    obtain ⟨HI3, tp3, rx⟩ := step x H3 hy
    have so3 := soH.tp tp3
    have e3D : H3 D = some (so acc dacc) := tp3.ex _ _ eD
    have n3D : HI3 D = none := by
      cases q : HI3 D with
      | none => rfl
      | some o =>
        have := tp3.new D nD (by rw [q]; exact Option.some_ne_none o)
        rw [eD] at this; cases this
    have hdrop : ds.drop i = d :: ds.drop (i + 1) := by
      rw [List.drop_eq_getElem_cons hlt]
      congr 1
      exact Option.some.inj ((List.getElem?_eq_getElem hlt).symm.trans hd)
    rw [hdrop] at hcomp
    unfold loopL at hcomp
    cases htf : tf d (wipeR ρi vs) with
    | none => rw [htf] at hcomp; cases hcomp
    | some ρt =>
      rw [htf] at hcomp
      dsimp only at hcomp
      refine hg x d (wipeR ρi vs) ρt (L2.wipe σ vs) HI3 H3 _ (so3.wipe vs) rx htf fun σ1 sot ot kt lt => ?_
      have hσ1 : ∀ j, j ∉ vs → σ1[j]? = σ[j]? := fun j hj => by rw [(kt j fun z => hj (his j z)).1, wipe_out hj]
      have hρt : ∀ j, j ∉ vs → ρt[j]? = ρi[j]? := fun j hj => by rw [(kt j fun z => hj (his j z)).2, wipeR_out hj]
      have hl1 : σ1.length = σ.length := lt.trans (wipe_length σ vs)
      have how : ∀ (j : Nat) (l : Sl) (e : PyData), ρt[j]? = some l → owd l = some e → ρi[j]? = some l ∧ σ1[j]? = σ[j]? := fun j l e h1 h2 => by
        obtain ⟨q1, q2⟩ := ot j l e h1 h2
        rcases wipeR_get q1 with z | ⟨hj, z⟩
        · subst z; cases h2
        · exact ⟨z, hσ1 j hj⟩
      have ho1 : ∀ a, Own σ1 ρt a → Own σ ρi a := fun a ⟨j, e, h1, h2⟩ => by
        obtain ⟨q1, q2⟩ := how j _ e h1 rfl
        exact ⟨j, e, q1, by rw [← q2]; exact h2⟩
      have hoff1 : Off σ1 ρt D := fun j l e h1 h2 z => by
        obtain ⟨q1, q2⟩ := how j l e h1 h2
        exact hoffi j l e q1 h2 (by rw [← q2]; exact z)
      -- a turn's end, seen from around
      have hout : ∀ {r3 : Rho} {HI4 H4 : Hp}, Tr σ1 ρt HI3 (mask D H3) r3 HI4 (mask D H4) → SOk K HI4 (mask D H4) σ1 r3 → SOk K HI4 (mask D H4) σ (backR ρi r3 vs) ∧ Tr σ ρ1 HI1 (mask D H1) (backR ρi r3 vs) HI4 (mask D H4) := fun {r3 HI4 H4} t4 s4 => by
        have so3m : SOk K HI3 (mask D H3) σ ρi := sok_mask so3 n3D hoffi
        exact ⟨so3m.back t4.exI s4 hl1 hσ1, tri.trans ((tr_mask (tp3.tr (σ := σ) (ρ := ρi))).trans (tr_back (is := is) t4 hσ1 ho1 hρt))⟩
      refine ⟨wipe_eq hl1 hσ1, ht ρt HI3 H3 σ1 _ same_H0 sot ?_⟩
      cases hft : ft ρt with
      | none => rw [hft] at hcomp; cases hcomp
      | some rt =>
        cases rt with
        | ex c r2 => rw [hft] at hcomp; cases hcomp
        | ok b r2 =>
          rw [hft] at hcomp
          intro HI4 H4 t4 s4 b' eb
          subst eb
          have e4 : H4 D = some (so acc dacc) := t4.keep D _ e3D (off_own hoff1)
          have n4 : HI4 D = none := by
            cases q : HI4 D with
            | none => rfl
            | some o =>
              rcases t4.new D n3D (by rw [q]; exact Option.some_ne_none o) with z | z
              · rw [e3D] at z; cases z
              · exact absurd z (off_own hoff1)
          have off4 : Off σ1 r2 D := off_tr t4 hoff1
          have s4m : SOk K HI4 (mask D H4) σ1 r2 := sok_mask s4 n4 off4
          have t4m : Tr σ1 ρt HI3 (mask D H3) r2 HI4 (mask D H4) := tr_mask t4
          have ra4 : RpAll K HI4 acc dacc := dpa_mono (tp3.exI.trans t4.exI) ra
          cases b' with
          | false =>
            dsimp only at hcomp
            obtain ⟨sb, tb⟩ := hout t4m s4m
            exact ⟨hlt, HI4, _, acc, dacc, rest, e4, n4, sb, tb, ra4, hcomp, hsum⟩
          | true =>
            dsimp only at hcomp
            rw [if_pos rfl]
            cases hfb : fb r2 with
            | none => rw [hfb] at hcomp; cases hcomp
            | some ro =>
              cases ro with
              | ex c r3 => rw [hfb] at hcomp; cases hcomp
              | ok y r3 =>
                rw [hfb] at hcomp
                dsimp only at hcomp
                cases hcl2 : loopL tf vs ft fb (ds.drop (i + 1)) (backR ρi r3 vs) with
                | none => rw [hcl2] at hcomp; cases hcomp
                | some ro =>
                  cases ro with
                  | ex c r4 => rw [hcl2] at hcomp; cases hcomp
                  | ok zs r4 =>
                    rw [hcl2] at hcomp
                    cases hcomp
                    refine hb r2 HI4 H4 σ1 _ acc dacc y r3 s4m n4 off4 e4 ra4 hfb (by rw [List.length_append] at hlen; omega) (hG _ zs (by rw [List.append_assoc, hsum]; exact hy0)) fun HI5 H5 acc' e5 n5 s5 t5 ra5 => ?_
                    obtain ⟨sb, tb⟩ := hout (t4m.trans t5) s5
                    exact ⟨hlt, HI5, _, acc', dacc ++ y, zs, e5, n5, sb, tb, ra5, hcl2, by rw [List.append_assoc]; exact hsum⟩
  · have e : i = ds.length := by omega
    subst e
    rw [List.drop_length] at hcomp
    cases hcomp
    rw [List.append_nil] at hsum
    subst hsum
    exact .inl ⟨hstop _ (Nat.le_refl _), fin HIi H2 acc eD nD soi tri ra⟩
/-- one element -/
theorem adds_of {sh : List V → List PyData → HO} {D : Addr} {G : List PyData → Prop} {te : TE} {fe : M PyData} {Y : (Hp → Prop) → V → Hp → Prop} (he : Rd K WF C te fe)
    (hY : ∀ (Nx : Hp → Prop) y H acc HI dacc dy, H D = some (sh acc dacc) → acc.length < 4000 → Same HI (mask D H) → RpAll K HI (acc ++ [y]) (dacc ++ [dy]) → G (dacc ++ [dy]) → Nx (upd H D (sh (acc ++ [y]) (dacc ++ [dy]))) → Y Nx y H) :
    AddsTo K sh D G (mbind fe fun y => mpure [y]) (fun σ H Nx => te σ H (Y Nx)) := by
  intro ρ HI H σ Nx acc dacc ys ρ' so nD hoff eD ra hfb hlen hg nx
  have soH := sok_at so eD
  refine he ρ HI H σ _ same_H0 soH ?_
  cases hf : fe ρ with
  | none => rw [mb_none hf] at hfb; cases hfb
  | some o =>
    cases o with
    | ex c ρ1 => rw [mb_ex hf] at hfb; cases hfb
    | ok y ρ1 =>
      rw [mb_ok hf] at hfb
      cases hfb
      intro HI1 H1 t1 s1 v rv
      have e1 : H1 D = some (sh acc dacc) := t1.keep D _ eD (off_own hoff)
      have n1 : HI1 D = none := by
        cases q : HI1 D with
        | none => rfl
        | some o =>
          rcases t1.new D nD (by rw [q]; exact Option.some_ne_none o) with z | z
          · rw [eD] at z; cases z
          · exact absurd z (off_own hoff)
      have s2 := sok_mask s1 n1 (off_tr t1 hoff)
      have ra2 := dpa_app (dpa_mono t1.exI ra) (.cons rv .nil)
      refine hY Nx v H1 acc HI1 dacc y e1 ?_ s2.sub ra2 hg ?_
      · have := dpa_len ra
        have h2 : [y].length = 1 := rfl
        rw [h2] at hlen
        omega
      · exact nx HI1 _ _ upd_same n1 (by rw [mask_upd']; exact s2) (by rw [mask_upd']; exact tr_mask t1) ra2
/-- .. in the book by its values -/
theorem adds_one {N : Nat} (hN : 4000 ≤ N) {sh : List V → HO} {D : Addr} {te : TE} {fe : M PyData} (he : Rd K WF C te fe) : AddsTo K (fun a _ => sh a) D (fun _ => True) (mbind fe fun y => mpure [y]) (fun σ H Nx => te σ H fun y H4 => ∃ acc, H4 D = some (sh acc) ∧ acc.length < N ∧ Nx (upd H4 D (sh (acc ++ [y])))) :=
  adds_of he fun Nx y H acc HI dacc dy e l _ _ _ nx => ⟨acc, e, Nat.lt_of_lt_of_le l hN, nx⟩
/-- .. in the book by what they stand for, too -/
def AddD (K : PySem.W.Frag) (sh : List V → List PyData → HO) (D : Addr) (G : List PyData → Prop) (Nx : Hp → Prop) (y : V) (H : Hp) : Prop :=
  ∃ acc HI dacc dy, H D = some (sh acc dacc) ∧ acc.length < 4000 ∧ Same HI (mask D H) ∧ RpAll K HI (acc ++ [y]) (dacc ++ [dy]) ∧ G (dacc ++ [dy]) ∧ Nx (upd H D (sh (acc ++ [y]) (dacc ++ [dy])))
theorem adds_oneD {sh : List V → List PyData → HO} {D : Addr} {G : List PyData → Prop} {te : TE} {fe : M PyData} (he : Rd K WF C te fe) : AddsTo K sh D G (mbind fe fun y => mpure [y]) (fun σ H Nx => te σ H (AddD K sh D G Nx)) :=
  adds_of he fun Nx y H acc HI dacc dy e l s r g nx => ⟨acc, HI, dacc, dy, e, l, s, r, g, nx⟩
/-- an inner loop -/
def fInner (fi1 : M (List PyData × List Nat)) (tf1 : PyData → Rho → Option Rho) (vs1 : List Nat) (ft1 : M Bool) (fe : M PyData) : M (List PyData) := fun r => match fi1 r with
  | some (.ok (es, []) r3) => loopL tf1 vs1 ft1 (mbind fe fun y => mpure [y]) es r3
  | _ => none
theorem adds_loop {sh : List V → List PyData → HO} {D : Addr} {G : List PyData → Prop} (hG : ∀ a b, G (a ++ b) → G a) {Y : (Hp → Prop) → V → Hp → Prop} {wi1 : TI} {g1 : TG} {tt1 : TT} {te : TE} {fi1 : M (List PyData × List Nat)} {tf1 : PyData → Rho → Option Rho} {is1 vs1 : List Nat} {ft1 : M Bool} {fe : M PyData} (hi1 : RdI K WF C wi1 fi1) (hg1 : TgOk K g1 tf1 is1) (his1 : ∀ i ∈ is1, i ∈ vs1) (ht1 : RdT K WF C tt1 ft1)
    (hone : AddsTo K sh D G (mbind fe fun y => mpure [y]) (fun σ H Nx => te σ H (Y Nx))) :
    AddsTo K sh D G (fInner fi1 tf1 vs1 ft1 fe) (fun σ2 H3 Nx => wi1 σ2 H3 fun J1 H4 => ∃ W1 : Nat → Nat → Hp → Prop, (∃ m, W1 0 m H4) ∧ ∀ j k H, W1 j k H →
      (J1.stop j H ∧ Nx H) ∨ (J1.go j H ∧ ∃ Nx1 : Hp → Prop, (∀ H', Nx1 H' → ∃ k', k' < k ∧ W1 (j + 1) k' H') ∧ ∀ x H', J1.yld j H x H' → g1 x (L2.wipe σ2 vs1) H' fun σ3 H5 => L2.wipe σ3 vs1 = L2.wipe σ2 vs1 ∧ tt1 σ3 H5 fun b H6 =>
        if b = true then te σ3 H6 (Y Nx1) else Nx1 H6)) := by
  intro ρ HI H σ Nx acc dacc ys ρ' so nD hoff eD ra hfb hlen hgy nx
  have soH := sok_at so eD
  refine hi1 ρ HI H σ _ soH ?_
  unfold fInner at hfb
  cases hf : fi1 ρ with
  | none => rw [hf] at hfb; cases hfb
  | some o =>
    cases o with
    | ex c ρ1 => rw [hf] at hfb; cases hfb
    | ok a ρ1 =>
      obtain ⟨es, lks⟩ := a
      cases lks with
      | cons _ _ => rw [hf] at hfb; cases hfb
      | nil =>
        rw [hf] at hfb
        dsimp only at hfb
        intro HI1 H1 t1 s1 J HS hS hO hF hw
        have hF := hF rfl
        have e1 : H1 D = some (sh acc dacc) := t1.keep D _ eD (off_own hoff)
        have n1 : HI1 D = none := by
          cases q : HI1 D with
          | none => rfl
          | some o =>
            rcases t1.new D nD (by rw [q]; exact Option.some_ne_none o) with z | z
            · rw [eD] at z; cases z
            · exact absurd z (off_own hoff)
        have off1 : Off σ ρ1 D := off_tr t1 hoff
        have hOD : HS D = none := by
          cases q : HS D with
          | none => rfl
          | some o => rw [hF D o q] at n1; cases n1
        exact loopD hG hg1 his1 ht1 hone (sok_mask s1 n1 off1) n1 off1 e1 (dpa_mono t1.exI ra) hfb hlen hgy hOD (fun b o q => by
          rw [mask_ne (fun z => by subst z; rw [hOD] at q; cases q)]; exact hS b o q) hO hw fun HI' H' acc' e' n' s' t' ra' => nx HI' H' acc' e' n' s' ((tr_mask t1).trans t') ra'
/-- [e for x in xs for y in ys] -/
def fLc2 (fi : M (List PyData × List Nat)) (tf : PyData → Rho → Option Rho) (vs : List Nat) (ft : M Bool) (fi1 : M (List PyData × List Nat)) (tf1 : PyData → Rho → Option Rho) (vs1 : List Nat) (ft1 : M Bool) (fe : M PyData) : M (List PyData) := fun r => match fi r with
  | none => none
  | some (.ex c r1) => some (.ex c r1)
  | some (.ok (ds, lks) r1) => if lks.isEmpty then (match loopL tf vs ft (fInner fi1 tf1 vs1 ft1 fe) ds r1 with
    | some (.ok ys r2) => if szOk ys.length then some (.ok ys r2) else none
    | _ => none) else none
theorem line_4000 : 4000 ≤ sizeLine := by rw [sizeLine_eq]; decide
theorem rf_lc2 {W : WX} {wi wi1 : TI} {g g1 : TG} {tt tt1 : TT} {te : TE} {fi fi1 : M (List PyData × List Nat)} {tf tf1 : PyData → Rho → Option Rho} {is is1 vs vs1 : List Nat} {ft ft1 : M Bool} {fe : M PyData} (hi : RdI K W C wi fi) (hg : TgOk K g tf is) (his : ∀ i ∈ is, i ∈ vs) (ht : RdT K WF C tt ft)
    (hi1 : RdI K WF C wi1 fi1) (hg1 : TgOk K g1 tf1 is1) (his1 : ∀ i ∈ is1, i ∈ vs1) (ht1 : RdT K WF C tt1 ft1) (he : Rd K WF C te fe) : RdF K W C (tLc2 wi g tt wi1 g1 tt1 te vs vs1) (fLc2 fi tf vs ft fi1 tf1 vs1 ft1 fe) := by
  intro ρ HI H σ Q so p
  refine hi ρ HI H σ _ so ?_
  unfold fLc2 at p
  cases hf : fi ρ with
  | none => rw [hf] at p; exact False.elim p
  | some r =>
    cases r with
    | ex c ρ1 => rw [hf] at p; exact p
    | ok a ρ1 =>
      obtain ⟨ds, lks⟩ := a
      rw [hf] at p
      cases lks with
      | cons _ _ => exact False.elim p
      | nil =>
        dsimp only [List.isEmpty_nil] at p
        rw [if_pos rfl] at p
        intro HI1 H1 tr1 so1 J HS hS hO hF hw D hD
        cases hcl : loopL tf vs ft (fInner fi1 tf1 vs1 ft1 fe) ds ρ1 with
        | none => rw [hcl] at p; exact False.elim p
        | some r =>
          cases r with
          | ex c r2 => rw [hcl] at p; exact False.elim p
          | ok ys ρ2 =>
            rw [hcl] at p
            dsimp only at p
            cases hz : szOk ys.length with
            | false => rw [hz] at p; exact False.elim p
            | true =>
              rw [hz] at p
              have hI1 : HI1 D = none := so1.sub.free hD
              have hOD : HS D = none := hS.free hD
              have hm : mask D (upd H1 D (.lst [])) = H1 := by rw [mask_upd', mask_no hD]
              refine loopD (so := fun a _ => HO.lst a) (G := fun _ => True) (fun _ _ _ => trivial) hg his ht (adds_loop (fun _ _ _ => trivial) hi1 hg1 his1 ht1 (adds_one line_4000 he)) (dacc0 := []) (acc0 := []) (by rw [hm]; exact so1) hI1 (off_of so1 hD) upd_same .nil hcl (by rw [List.length_nil, Nat.zero_add]; exact Nat.le_of_ble_eq_true hz) trivial hOD (by rw [hm]; exact hS) hO hw fun HI' H' acc' e' n' s' t' ra' => ?_
              rw [hm] at t'
              have := p HI' (mask D H') (tr1.trans t') s' D acc' mask_D ra'
              rw [mask_upd e'] at this
              exact this
/-! ### sorted({e for x in xs}): so acc is the set, filled with acc -/
def SEnd (K : PySem.W.Frag) (so : List V → List PyData → HO) (D : Addr) (gs : List PyData → Option (List PyData)) (Q : VK) (H : Hp) : Prop := ∃ acc HI ds r, H D = some (so acc ds) ∧ Same HI (mask D H) ∧ RpAll K HI acc ds ∧ gs ds = some r ∧ ∀ p vs, H p = none → RpAll K HI vs r → Q (.ref p) (upd H p (.lst vs))
def tSs (K : PySem.W.Frag) (G : List PyData → Prop) (gs : List PyData → Option (List PyData)) (wi : TI) (g : TG) (tt : TT) (te : TE) (vs : List Nat) : TE := fun σ H Q => wi σ H fun J H1 => ∀ (so : List V → List PyData → HO) (D : Addr), H1 D = none → ∃ W : Nat → Nat → Hp → Prop, (∃ m, W 0 m (upd H1 D (so [] []))) ∧ ∀ i m H, W i m H →
  (J.stop i H ∧ SEnd K so D gs Q H) ∨ (J.go i H ∧ ∃ Nx : Hp → Prop, (∀ H', Nx H' → ∃ m', m' < m ∧ W (i + 1) m' H') ∧ ∀ x H', J.yld i H x H' → g x (L2.wipe σ vs) H' fun σ2 H2 => L2.wipe σ2 vs = L2.wipe σ vs ∧ tt σ2 H2 fun b H3 =>
    if b = true then te σ2 H3 (AddD K so D G Nx) else Nx H3)
def tSs2 (K : PySem.W.Frag) (G : List PyData → Prop) (gs : List PyData → Option (List PyData)) (wi : TI) (g : TG) (tt : TT) (wi1 : TI) (g1 : TG) (tt1 : TT) (te : TE) (vs vs1 : List Nat) : TE := fun σ H Q => wi σ H fun J H1 => ∀ (so : List V → List PyData → HO) (D : Addr), H1 D = none → ∃ W : Nat → Nat → Hp → Prop, (∃ m, W 0 m (upd H1 D (so [] []))) ∧ ∀ i m H, W i m H →
  (J.stop i H ∧ SEnd K so D gs Q H) ∨ (J.go i H ∧ ∃ Nx : Hp → Prop, (∀ H', Nx H' → ∃ m', m' < m ∧ W (i + 1) m' H') ∧ ∀ x H', J.yld i H x H' → g x (L2.wipe σ vs) H' fun σ2 H2 => L2.wipe σ2 vs = L2.wipe σ vs ∧ tt σ2 H2 fun b H3 =>
    if b = true then wi1 σ2 H3 fun J1 H4 => ∃ W1 : Nat → Nat → Hp → Prop, (∃ m, W1 0 m H4) ∧ ∀ j k H, W1 j k H →
      (J1.stop j H ∧ Nx H) ∨ (J1.go j H ∧ ∃ Nx1 : Hp → Prop, (∀ H', Nx1 H' → ∃ k', k' < k ∧ W1 (j + 1) k' H') ∧ ∀ x H', J1.yld j H x H' → g1 x (L2.wipe σ2 vs1) H' fun σ3 H5 => L2.wipe σ3 vs1 = L2.wipe σ2 vs1 ∧ tt1 σ3 H5 fun b H6 =>
        if b = true then te σ3 H6 (AddD K so D G Nx1) else Nx1 H6)
    else Nx H3)
def fSs (gs : List PyData → Option (List PyData)) (fi : M (List PyData × List Nat)) (fl : List PyData → M (List PyData)) : M (List PyData) := fun r => match fi r with
  | none => none
  | some (.ex c r1) => some (.ex c r1)
  | some (.ok (ds, lks) r1) => if lks.isEmpty then (match fl ds r1 with
    | some (.ok ys r2) => if szOk ys.length then (match gs ys with
      | some zs => some (.ok zs r2)
      | none => none) else none
    | _ => none) else none
theorem rf_ss_of {W : WX} {gs : List PyData → Option (List PyData)} {G : List PyData → Prop} (hG : ∀ a b, G (a ++ b) → G a) (hgs0 : ∀ l r, gs l = some r → G l) {wi : TI} {g : TG} {tt : TT} {B : (List V → List PyData → HO) → Addr → L2.St → Hp → (Hp → Prop) → Prop} {fi : M (List PyData × List Nat)} {tf : PyData → Rho → Option Rho} {is vs : List Nat} {ft : M Bool} {fb : M (List PyData)} (hi : RdI K W C wi fi) (hg : TgOk K g tf is) (his : ∀ i ∈ is, i ∈ vs) (ht : RdT K WF C tt ft)
    (hb : ∀ so D, AddsTo K so D G fb (B so D)) : RdF K W C (fun σ H Q => wi σ H fun J H1 => ∀ (so : List V → List PyData → HO) (D : Addr), H1 D = none → ∃ W : Nat → Nat → Hp → Prop, (∃ m, W 0 m (upd H1 D (so [] []))) ∧ ∀ i m H, W i m H →
      (J.stop i H ∧ SEnd K so D gs Q H) ∨ (J.go i H ∧ ∃ Nx : Hp → Prop, (∀ H', Nx H' → ∃ m', m' < m ∧ W (i + 1) m' H') ∧ ∀ x H', J.yld i H x H' → g x (L2.wipe σ vs) H' fun σ2 H2 => L2.wipe σ2 vs = L2.wipe σ vs ∧ tt σ2 H2 fun b H3 =>
        if b = true then B so D σ2 H3 Nx else Nx H3)) (fSs gs fi (loopL tf vs ft fb)) := by
  intro ρ HI H σ Q so p
  refine hi ρ HI H σ _ so ?_
  unfold fSs at p
  cases hf : fi ρ with
  | none => rw [hf] at p; exact False.elim p
  | some r =>
    cases r with
    | ex c ρ1 => rw [hf] at p; exact p
    | ok a ρ1 =>
      obtain ⟨ds, lks⟩ := a
      rw [hf] at p
      cases lks with
      | cons _ _ => exact False.elim p
      | nil =>
        dsimp only [List.isEmpty_nil] at p
        rw [if_pos rfl] at p
        intro HI1 H1 tr1 so1 J HS hS hO hF hw s0 D hD
        cases hcl : loopL tf vs ft fb ds ρ1 with
        | none => rw [hcl] at p; exact False.elim p
        | some r =>
          cases r with
          | ex c r2 => rw [hcl] at p; exact False.elim p
          | ok ys ρ2 =>
            rw [hcl] at p
            dsimp only at p
            cases hz : szOk ys.length with
            | false => rw [hz] at p; exact False.elim p
            | true =>
              rw [hz, if_pos rfl] at p
              cases hgs : gs ys with
              | none => rw [hgs] at p; exact False.elim p
              | some zs =>
                rw [hgs] at p
                have hI1 : HI1 D = none := so1.sub.free hD
                have hOD : HS D = none := hS.free hD
                have hm : mask D (upd H1 D (s0 [] [])) = H1 := by rw [mask_upd', mask_no hD]
                refine loopD (so := s0) hG hg his ht (hb s0 D) (dacc0 := []) (acc0 := []) (by rw [hm]; exact so1) hI1 (off_of so1 hD) upd_same .nil hcl (by rw [List.length_nil, Nat.zero_add]; exact Nat.le_of_ble_eq_true hz) (hgs0 _ _ hgs) hOD (by rw [hm]; exact hS) hO hw fun HI' H' acc' e' n' s' t' ra' => ?_
                rw [hm] at t'
                refine ⟨acc', HI', ys, zs, e', s'.sub, ra', hgs, fun q us hq rus => ?_⟩
                have tp := TP.fresh (o := s0 acc' ([] ++ ys)) s'.sub mask_D
                rw [mask_upd e'] at tp
                exact p HI' H' ((tr1.trans t').trans tp.tr) (s'.tp tp) q us hq rus
theorem rf_ss {W : WX} {gs : List PyData → Option (List PyData)} {G : List PyData → Prop} (hG : ∀ a b, G (a ++ b) → G a) (hgs0 : ∀ l r, gs l = some r → G l) {wi : TI} {g : TG} {tt : TT} {te : TE} {fi : M (List PyData × List Nat)} {tf : PyData → Rho → Option Rho} {is vs : List Nat} {ft : M Bool} {fe : M PyData} (hi : RdI K W C wi fi) (hg : TgOk K g tf is) (his : ∀ i ∈ is, i ∈ vs) (ht : RdT K WF C tt ft) (he : Rd K WF C te fe) :
    RdF K W C (tSs K G gs wi g tt te vs) (fSs gs fi (loopL tf vs ft (mbind fe fun y => mpure [y]))) := rf_ss_of hG hgs0 hi hg his ht fun so D => adds_oneD he
theorem rf_ss2 {W : WX} {gs : List PyData → Option (List PyData)} {G : List PyData → Prop} (hG : ∀ a b, G (a ++ b) → G a) (hgs0 : ∀ l r, gs l = some r → G l) {wi wi1 : TI} {g g1 : TG} {tt tt1 : TT} {te : TE} {fi fi1 : M (List PyData × List Nat)} {tf tf1 : PyData → Rho → Option Rho} {is is1 vs vs1 : List Nat} {ft ft1 : M Bool} {fe : M PyData} (hi : RdI K W C wi fi) (hg : TgOk K g tf is) (his : ∀ i ∈ is, i ∈ vs) (ht : RdT K WF C tt ft)
    (hi1 : RdI K WF C wi1 fi1) (hg1 : TgOk K g1 tf1 is1) (his1 : ∀ i ∈ is1, i ∈ vs1) (ht1 : RdT K WF C tt1 ft1) (he : Rd K WF C te fe) : RdF K W C (tSs2 K G gs wi g tt wi1 g1 tt1 te vs vs1) (fSs gs fi (loopL tf vs ft (fInner fi1 tf1 vs1 ft1 fe))) := rf_ss_of hG hgs0 hi hg his ht fun so D => adds_loop hG hi1 hg1 his1 ht1 (adds_oneD he)
end
end Ev
set_option Elab.async false
set_option linter.all false
set_option autoImplicit false
set_option maxRecDepth 100000
namespace Ev
open PySem PySem.Spec L2 PyProof.Rows
/-! ### a set of whole numbers and texts, told by its rows -/
abbrev Row := Int × Value
/-- row e is key k's -/
structure RowOf (P : Program) (w : World) (k : L2.Key) (e : Row) : Prop where
  key : (mixKind P w).is k e.2 = true
  num : e.1 = (mixKind P w).hash k
theorem RowOf.plain {P : Program} {w : World} {k : L2.Key} {e : Row} (r : RowOf P w k e) : e.2.scannable = true := by
  rcases keyIs_shape r.key with ⟨_, _, _, h⟩ | ⟨_, _, _, h⟩ <;> (rw [h]; rfl)
inductive KR (P : Program) (w : World) : List L2.Key → List Row → Prop
  | nil : KR P w [] []
  | cons {k : L2.Key} {e : Row} {ks : List L2.Key} {es : List Row} : RowOf P w k e → KR P w ks es → KR P w (k :: ks) (e :: es)
section
variable {P : Program} {w : World}
theorem KR.row : ∀ {ks : List L2.Key} {es : List Row}, KR P w ks es → ∀ e ∈ es, ∃ k ∈ ks, RowOf P w k e
  | _, _, .nil, _, h => nomatch h
  | _, _, .cons r t, e, h => by
    rcases List.mem_cons.mp h with rfl | h
    · exact ⟨_, List.mem_cons_self, r⟩
    · obtain ⟨k, hk, q⟩ := t.row e h
      exact ⟨k, List.mem_cons_of_mem _ hk, q⟩
theorem KR.key : ∀ {ks : List L2.Key} {es : List Row}, KR P w ks es → ∀ k ∈ ks, ∃ e ∈ es, RowOf P w k e
  | _, _, .nil, _, h => nomatch h
  | _, _, .cons r t, k, h => by
    rcases List.mem_cons.mp h with rfl | h
    · exact ⟨_, List.mem_cons_self, r⟩
    · obtain ⟨e, he, q⟩ := t.key k h
      exact ⟨e, List.mem_cons_of_mem _ he, q⟩
theorem KR.snoc {k : L2.Key} {e : Row} : ∀ {ks : List L2.Key} {es : List Row}, KR P w ks es → RowOf P w k e → KR P w (ks ++ [k]) (es ++ [e])
  | _, _, .nil, r => .cons r .nil
  | _, _, .cons a t, r => .cons a (t.snoc r)
theorem KR.len : ∀ {ks : List L2.Key} {es : List Row}, KR P w ks es → es.length = ks.length
  | _, _, .nil => rfl
  | _, _, .cons _ t => congrArg (· + 1) t.len
theorem KR.elems {ks : List L2.Key} {rows es : List Row} (r : KR P w ks rows) (p : es.Perm rows) : ElemsOf (mixKind P w) es := fun e he => by
  obtain ⟨k, _, q⟩ := r.row e (p.mem_iff.mp he)
  exact ⟨⟨k, q.key, q.num⟩, q.plain⟩
/-- what the table keeps -/
structure Tab (w : World) (es : Array Row) (t : SetTable) : Prop where
  small : es.size < scanBound
  fit : t.fits es.size = true
  rise : Ris t.place.toList
  told : w.params.followText "set-order" = true ∨ t.led = true
/-- at a stands the set of these keys -/
def KSet (P : Program) (w : World) (h : Heap) (a : Addr) (ks : List L2.Key) : Prop :=
  ∃ (o : Obj) (es : Array Row) (ep : Nat) (t : SetTable) (rows : List Row), h.get? a = some o ∧ o.ExactSet ∧ o.data = .set es ep t ∧ Tab w es t ∧ es.toList.Perm rows ∧ KR P w ks rows
theorem putK_in {ks : List L2.Key} {k : L2.Key} (h : k ∈ ks) : putK ks k = ks := if_pos (List.any_eq_true.mpr ⟨k, h, decide_eq_true rfl⟩)
theorem putK_out {ks : List L2.Key} {k : L2.Key} (h : k ∉ ks) : putK ks k = ks ++ [k] := if_neg fun z => by
  obtain ⟨j, hj, e⟩ := List.any_eq_true.mp z
  exact h (of_decide_eq_true e ▸ hj)
theorem KSet.at {h h' : Heap} {a : Addr} {ks : List L2.Key} (R : KSet P w h a ks) (q : ∀ o, h.get? a = some o → h'.get? a = some o) : KSet P w h' a ks := by
  obtain ⟨o, es, ep, t, rows, ho, z⟩ := R
  exact ⟨o, es, ep, t, rows, q o ho, z⟩
theorem kset_new {h : Heap} {a : Addr} (ho : h.get? a = some { cls := .type "set", dict := none, data := .set #[] 0 (.fresh 0 0 (!w.params.followText "set-order")) }) : KSet P w h a [] :=
  ⟨_, #[], 0, _, [], ho, ⟨rfl, rfl, rfl⟩, rfl, ⟨by decide, by rfl, List.Pairwise.nil, by cases q : w.params.followText "set-order" <;> simp [q, SetTable.fresh]⟩, .nil, .nil⟩
end
section
variable {P : Program} {w : World} {A : Around} {E : Value → Shared → Prop} {s : Shared} {a : Addr}
theorem kset_end {f : Bool → Sem Unit} (hf : ∀ (c : Bool) (s' : Shared) (B : Unit → Shared → Prop), B () s' → wpAny (model P w) A (f c) B E s') {o : Obj} {es0 es : Array Row} {ep : Nat} {t0 t : SetTable} {ks : List L2.Key} {rows : List Row} (ho : s.heap.get? a = some o) (hx : o.ExactSet) (hd : o.data = .set es0 ep t0)
    (T : Tab w es t) (p : es.toList.Perm rows) (r : KR P w ks rows) {du : Bool} {B : Option Bool → Shared → Prop} (hB : ∀ h', Heap.SameBut a s.heap h' → KSet P w h' a ks → B (some true) { s with heap := h' }) :
    wpAny (model P w) A (do
      storeSet a es t
      if (!du && t.tooFull) = true then do
        f (relayAll t es (SetTable.grown es.size)).2.2
        storeSet a (relayAll t es (SetTable.grown es.size)).1 (relayAll t es (SetTable.grown es.size)).2.1
        pure (some true)
      else pure (some true)) B E s := by
  refine wpAny_bind (wpAny_storeSet_of ho hd ?_ (fits_of_scanBound T.small))
  have g1 := L2.store_at (es' := es) (t' := t) ho hd
  have b1 := Heap.SameBut.update s.heap a (Obj.putSet es t)
  split
  · have rp := relayAll_perm t es (SetTable.grown es.size)
    have rf := relayAll_fits t es (SetTable.grown es.size)
    have rr := relayAll_ris t es (SetTable.grown es.size)
    have rl := relayAll_led t es (SetTable.grown es.size)
    revert rp rf rr rl
    generalize relayAll t es (SetTable.grown es.size) = z
    obtain ⟨es2, t2, c⟩ := z
    intro rp rf rr rl
    dsimp only at rp rf rr rl ⊢
    have e2 : es2.size = es.size := by simpa using rp.length_eq
    have T2 : Tab w es2 t2 := ⟨e2 ▸ T.small, rf, rr, T.told.imp id fun q => rl.trans q⟩
    refine wpAny_bind (hf _ _ _ (wpAny_bind (wpAny_storeSet_of g1 rfl (wpAny_pure (hB _ (b1.trans (Heap.SameBut.update _ a _)) ?_)) (fits_of_scanBound T2.small))))
    exact ⟨_, es2, _, t2, rows, L2.store_at g1 rfl, hx, rfl, T2, rp.trans p, r⟩
  · exact wpAny_pure (hB _ b1 ⟨_, es, _, t, rows, g1, hx, rfl, T, p, r⟩)
theorem kset_put {x : Value} {k : L2.Key} {ks : List L2.Key} {Q : Bool → Shared → Prop} (R : KSet P w s.heap a ks) (hk : (mixKind P w).is k x = true) (room : ks.length + 1 < scanBound)
    (hQ : ∀ h' b, Heap.SameBut a s.heap h' → KSet P w h' a (putK ks k) → Q b { s with heap := h' }) : wpAny (model P w) A (setAddHashed a x ((mixKind P w).hash k)) Q E s := by
  obtain ⟨o, es, ep, t, rows, ho, hx, hd, T, p, r⟩ := R
  have rk : RowOf P w k ((mixKind P w).hash k, x) := ⟨hk, rfl⟩
  have hsc : x.scannable = true := rk.plain
  have el := r.elems p
  unfold setAddHashed setAddHashedIn
  refine wpAny_holding (wpAny_bind (wpAny_setState_of ho hd T.fit ?_))
  dsimp only
  rw [byScan_of hsc T.small el]
  simp only [↓reduceIte]
  unfold setAddByScan
  refine wpAny_bind (wpAny_bind (wpAny_rule (wpAny_bind (wpAny_setScan_of hk ho hd T.fit el ?_))))
  cases q : List.findIdx? (fun e => (mixKind P w).is k e.2) es.toList with
  | some j =>
    obtain ⟨lt, pj, _⟩ := List.findIdx?_eq_some_iff_getElem.mp q
    have hin : k ∈ ks := by
      obtain ⟨k2, h2, r2⟩ := r.row _ (p.mem_iff.mp (List.getElem_mem lt))
      rw [(mixKind P w).inj _ _ _ pj r2.key]
      exact h2
    refine wpAny_pure (wpAny_pure (hQ s.heap _ (Heap.SameBut.refl a s.heap) ?_))
    rw [putK_in hin]
    exact ⟨o, es, ep, t, rows, ho, hx, hd, T, p, r⟩
  | none =>
    have hout : k ∉ ks := fun z => by
      obtain ⟨e, he, re⟩ := r.key k z
      have := List.findIdx?_eq_none_iff.mp q e (p.mem_iff.mpr he)
      rw [re.key] at this
      cases this
    rw [putK_out hout] at hQ
    have quiet : ∀ (c : Bool) (s' : Shared) (B : Unit → Shared → Prop), B () s' → wpAny (model P w) A (match c with | true => rule "set.scan.the-table-gave-way" | false => pure ()) B E s' := fun c s' B z => by
      cases c
      · exact wpAny_pure z
      · exact wpAny_rule z
    have lp := layNew_perm t es ((mixKind P w).hash k) x
    have lf := layNew_fits t es ((mixKind P w).hash k) x
    have lr := layNew_ris t es ((mixKind P w).hash k) x T.rise
    have ll := layNew_led t es ((mixKind P w).hash k) x
    revert lp lf lr ll
    dsimp only
    generalize layNew t es ((mixKind P w).hash k) x = z
    obtain ⟨es1, t1, du, gv⟩ := z
    intro lp lf lr ll
    dsimp only at lp lf lr ll ⊢
    rw [Array.toList_push] at lp
    have p1 : es1.toList.Perm (rows ++ [((mixKind P w).hash k, x)]) := lp.trans (p.append (.refl _))
    have r1 := r.snoc rk
    have n1 : es1.size = ks.length + 1 := by
      have := p1.length_eq
      rw [r1.len] at this
      simpa using this
    have T1 : Tab w es1 t1 := ⟨by omega, lf, lr, T.told.imp id fun q => ll.trans q⟩
    refine wpAny_bind (quiet _ _ _ ?_)
    split
    · refine wpAny_bind ?_
      rw [hashByValue_scannable 8 hsc]
      refine wpAny_pure (kset_end quiet ho hx hd (t := _) (rows := _) (ks := ks ++ [k]) ?_ p1 r1 fun h' sb kr => wpAny_pure (hQ h' true sb kr))
      first
        | exact T1
        | (split
           · exact T1
           · exact ⟨T1.small, SetTable.fits_plain_off T1.fit, T1.rise, T1.told⟩)
        | (split
           · exact ⟨T1.small, SetTable.fits_plain_off T1.fit, T1.rise, T1.told⟩
           · exact T1)
    · refine wpAny_bind (wpAny_pure ?_)
      simp only [↓reduceIte]
      exact kset_end quiet ho hx hd T1 p1 r1 fun h' sb kr => wpAny_pure (hQ h' true sb kr)
end
end Ev
set_option Elab.async false
set_option linter.all false
set_option autoImplicit false
set_option maxRecDepth 100000
set_option maxHeartbeats 4000000
namespace Ev
open PySem PySem.Spec L2 PyProof.Rows
theorem putK_len (ks : List L2.Key) (k : L2.Key) : (putK ks k).length ≤ ks.length + 1 := by
  by_cases h : k ∈ ks
  · rw [putK_in h]; exact Nat.le_succ _
  · rw [putK_out h]; simp
abbrev emptySet (w : World) : Obj := { cls := .type "set", dict := none, data := .set #[] 0 (.fresh 0 0 (!w.params.followText "set-order")) }
section
variable {P : Program} {w : World} {A : Around} {E : Value → Shared → Prop} {s : Shared}
theorem kset_loop {J S : Addr} {fp wr : List Addr} {G : Array GenState → Array GenState → Prop} {Pv : Nat → Value → Prop} {St : Nat → Shared → Prop} {B : Result → Shared → Prop} {ks : List L2.Key} (W : WalksS P w A.in1 J fp wr G ks.length Pv St) (off : S ∉ fp) (room : ks.length + 1 < scanBound)
    (hv : ∀ i v, Pv i v → ∃ k, ks[i]? = some k ∧ (mixKind P w).is k v = true) : ∀ (todo i : Nat) (s : Shared) (acc : List L2.Key), i + todo = ks.length → St i s → KSet P w s.heap S acc → acc.length ≤ i →
      (∀ s', Moved (S :: wr) G s s' → KSet P w s'.heap S ((ks.drop i).foldl putK acc) → B (.ok (.ret .none)) s') → codeAny (model P w) A (.builtin "set.update.loop" ⟨[.ref S, .ref J], []⟩) B s := by
  have offw : S ∉ wr := fun z => off (W.sub _ z)
  have up : ∀ b ∈ wr, b ∈ S :: wr := fun b z => List.mem_cons_of_mem _ z
  intro todo
  induction todo with
  | zero =>
    intro i s acc hi hst R _ hB
    obtain rfl : i = ks.length := hi
    rw [List.drop_length] at hB
    refine codeAny_builtin F.entry_set_update_loop ?_
    rw [Around.under_plainId F.plain_set_update_loop _]
    show wpAny _ A.in1 (pyNext (.ref J) >>= _) _ _ s
    refine wpAny_bind (W.done s _ _ hst fun s1 mv => ?_)
    show wpAny _ A.in1 (ret Value.none) _ _ s1
    exact wpAny_pure (hB s1 (mv.mono up) (R.at fun o q => mv.heap S o offw q))
  | succ todo ih =>
    intro i s acc hi hst R hl hB
    have lt : i < ks.length := by omega
    refine codeAny_builtin F.entry_set_update_loop ?_
    rw [Around.under_plainId F.plain_set_update_loop _]
    show wpAny _ A.in1 (pyNext (.ref J) >>= _) _ _ s
    refine wpAny_bind (W.item i s _ _ lt hst fun v s1 pv st1 mv => ?_)
    obtain ⟨k, hk, is⟩ := hv i v pv
    have R1 : KSet P w s1.heap S acc := R.at fun o q => mv.heap S o offw q
    show wpAny _ A.in1 (holding [v] (setAdd S v) >>= _) _ _ s1
    refine wpAny_bind (wpAny_holding ?_)
    unfold setAdd
    refine wpAny_holding (wpAny_bind ((mixKind P w).pyHash is ?_))
    refine kset_put (s := { s1 with toks := s1.toks + 1 }) R1 is (by omega) fun h2 _ sb R2 => ?_
    have dr : ks.drop i = k :: ks.drop (i + 1) := by
      rw [List.drop_eq_getElem_cons lt]
      congr 1
      exact Option.some.inj ((List.getElem?_eq_getElem lt).symm.trans hk)
    rw [dr] at hB
    have same : ∀ b, b ≠ S → ∀ o, s1.heap.get? b = some o → h2.get? b = some o := fun b hb o q => (sb.2 b hb).trans q
    refine wpAny_pure ⟨plainId_quiet F.plain_set_update_loop _, ih (i + 1) _ (putK acc k) (by omega) (W.frame _ s1 _ _ st1 (Nat.le_succ _) fun b hb o q => same b (fun z => off (z ▸ hb)) o q) R2 (Nat.le_trans (putK_len _ _) (Nat.succ_le_succ hl)) fun s3 mv3 R3 => ?_⟩
    exact hB s3 (Moved.trans W.gtrans ((mv.mono up).then_heap (Nat.le_succ _) fun b o hb q => same b (fun z => hb (z ▸ List.mem_cons_self)) o q) mv3) R3
/-- set(xs): what the class does, the loop's meaning left open -/
theorem set_call {l : Addr} {T : String} {items : Array Value} {n : Nat} {Rs : Heap → Prop} {Q : Value → Shared → Prop} (hh : A.handled = none) (hl : (T = "list" ∧ s.heap.IsList l items) ∨ (T = "tuple" ∧ s.heap.IsTuple l items)) (hn : items.size = n)
    (loop : ∀ (A' : Around) (J : Addr) (fp wr : List Addr) (G : Array GenState → Array GenState → Prop) (St : Nat → Shared → Prop) (s1 : Shared) (B : Result → Shared → Prop), A'.in1.units = A.units + 3 → WalksS P w A'.in1 J fp wr G n (fun i v => items[i]? = some v) St → s.heap.objs.size ∉ fp → (∀ b ∈ wr, s.heap.get? b = none) → St 0 s1 →
      s1.heap.get? s.heap.objs.size = some (emptySet w) → (∀ b o, s.heap.get? b = some o → s1.heap.get? b = some o) → (∀ s', Moved (s.heap.objs.size :: wr) G s1 s' → Rs s'.heap → B (.ok (.ret .none)) s') → codeAny (model P w) A' (.builtin "set.update.loop" ⟨[.ref s.heap.objs.size, .ref J], []⟩) B s1)
    (h : ∀ (h' : Heap) (tk : Nat), Rs h' → (∀ b o, s.heap.get? b = some o → h'.get? b = some o) → Q (.ref s.heap.objs.size) { s with heap := h', toks := tk }) :
    wpAny (model P w) A (call (.type "set") [.ref l]) Q E s := by
  obtain ⟨_, _, q1⟩ := F.called_set.mro
  have q2 := F.called_set.made
  have q3 := F.called_set.sub
  refine wpAny_call (codeAny_of_tree ?_)
  show wpAny _ _ (callAny (.type "set") _) _ _ _
  refine wpAny_pure ⟨Code.quiet_builtin _ (by decide +kernel), codeAny_builtin F.entry_type_call ?_⟩
  rw [Around.under_plain (weight_type_call_type "set" [.ref l] []) rfl]
  have q4 := F.called_set.notType
  have q5 := F.called_set.canCreate
  have q6 := F.typeCall_set_1 (.ref l)
  (repeat (any_goals (first | assumption | wp_step)))
  refine codeAny_mono (L2.code_set_led1 (.ref l) (E := E) (Q₁ := fun v s1 => v = .ref s.heap.objs.size ∧ s1 = { s with heap := s.heap.push (emptySet w) }) ⟨rfl, rfl⟩) fun r s1 hr => ?_
  cases r with
  | error _ => exact hr
  | ok fl =>
    cases fl with
    | ret v =>
      obtain ⟨rfl, rfl⟩ := hr
      have hS : (s.heap.push (emptySet w)).get? s.heap.objs.size = some (emptySet w) := Heap.get?_push_size _ rfl
      have hT : Shared.TypeIs { s with heap := s.heap.push (emptySet w) } (.ref s.heap.objs.size) "set" := ⟨_, hS, rfl⟩
      have q7 := F.called_set.init.lookup
      have q8 := F.called_set.init.bind (.ref s.heap.objs.size)
      (repeat (any_goals (first | assumption | wp_step)))
      refine codeAny_mono (codeAny_call_builtin (R := wants (fun r s2 => r = .none ∧ ∃ h' tk, s2 = { s with heap := h', toks := tk } ∧ Rs h' ∧ ∀ b o, s.heap.get? b = some o → h'.get? b = some o) E) F.called_set.init.plain F.entry_set_init (check_set_init_1 hT ?_)) fun r2 s2 hr2 => ?_
      · rcases hl with ⟨eT, lay⟩ | ⟨eT, lay⟩
        · subst eT
          have kp1 : ∀ b u, s.heap.get? b = some u → (s.heap.push (emptySet w)).get? b = some u := fun b u e => Heap.get?_push_of_some _ e
          have lay1 : (s.heap.push (emptySet w)).IsList l items := lay.push _
          have ll : l < s.heap.objs.size := by
            obtain ⟨_, z, _⟩ := lay
            exact Heap.lt_size z
          obtain ⟨⟨oc, od, oD, oS⟩, g0, c0, n0, d0⟩ := lay
          simp only at c0 d0
          subst c0 d0
          have g1 := kp1 l _ g0
          have z1 := F.sub_list_set
          have z2 := F.sub_list_frozenset
          have z3 : (Value.type "list" == Value.type "dict") = false := by decide
          unfold Builtin.«set.__init__» noKeywords Builtin.Frozenset.updateFrom
          generalize hit : pyIter = itOf
          wp_walk
          subst hit
          refine wpAny_pyIter_list lay1 (wpAny_bind (wpAny_runValue ?_))
          have sz : (s.heap.push (emptySet w)).objs.size = s.heap.objs.size + 1 := Heap.size_push ..
          have nl : l ≠ (s.heap.push (emptySet w)).objs.size := by rw [sz]; exact Nat.ne_of_lt (Nat.lt_succ_of_lt ll)
          have off : s.heap.objs.size ∉ [(s.heap.push (emptySet w)).objs.size, l] := fun z => by
            rw [sz] at z
            rcases List.mem_cons.mp z with z | z
            · exact absurd z (Nat.ne_of_lt (Nat.lt_succ_self _))
            · exact absurd (List.mem_singleton.mp z) (Nat.ne_of_gt ll)
          refine loop _ _ _ _ _ _ _ _ rfl (hn ▸ (Walks.list (by simp [hh]) _ l nl items).toS) off (fun b hb => ?_) ⟨⟨_, Heap.get?_push_size _ rfl, rfl, rfl⟩, lay1.push _⟩ (Heap.get?_push_of_some _ hS) (fun b u e => Heap.get?_push_of_some _ (kp1 b u e)) fun s3 mv R3 => ?_
          · rw [List.mem_singleton.mp hb]
            exact Heap.get?_none_of_le (by rw [sz]; exact Nat.le_succ _)
          obtain ⟨h3, g3, d3, t3, o3⟩ := s3
          obtain rfl : g3 = s.gens := mv.gens
          obtain rfl : d3 = s.drawn := mv.drawn
          obtain rfl : o3 = s.os := mv.os
          show wpAny _ _ _ _ _ _
          refine wpAny_pure ?_
          show wpAny _ _ (ret Value.none) _ _ _
          refine wpAny_pure ⟨rfl, h3, t3, rfl, R3, fun b u e => mv.heap b u (fun z => ?_) (Heap.get?_push_of_some _ (kp1 b u e))⟩
          have lt := Heap.lt_size e
          rcases List.mem_cons.mp z with z | z
          · rw [z] at lt
            exact absurd lt (Nat.lt_irrefl _)
          · rw [List.mem_singleton.mp z, sz] at lt
            exact absurd lt (Nat.not_lt_of_le (Nat.le_succ _))
        · subst eT
          have kp1 : ∀ b u, s.heap.get? b = some u → (s.heap.push (emptySet w)).get? b = some u := fun b u e => Heap.get?_push_of_some _ e
          have lay1 : (s.heap.push (emptySet w)).IsTuple l items := lay.push _
          have ll : l < s.heap.objs.size := by
            obtain ⟨_, z, _⟩ := lay
            exact Heap.lt_size z
          obtain ⟨⟨oc, od, oD, oS⟩, g0, c0, n0, d0⟩ := lay
          simp only at c0 d0
          subst c0 d0
          have g1 := kp1 l _ g0
          have z1 := F.sub_tuple_set
          have z2 := F.sub_tuple_frozenset
          have z3 : (Value.type "tuple" == Value.type "dict") = false := by decide
          unfold Builtin.«set.__init__» noKeywords Builtin.Frozenset.updateFrom
          generalize hit : pyIter = itOf
          wp_walk
          subst hit
          refine wpAny_pyIter_tuple lay1 (wpAny_bind (wpAny_runValue ?_))
          have sz : (s.heap.push (emptySet w)).objs.size = s.heap.objs.size + 1 := Heap.size_push ..
          have nl : l ≠ (s.heap.push (emptySet w)).objs.size := by rw [sz]; exact Nat.ne_of_lt (Nat.lt_succ_of_lt ll)
          have off : s.heap.objs.size ∉ [(s.heap.push (emptySet w)).objs.size, l] := fun z => by
            rw [sz] at z
            rcases List.mem_cons.mp z with z | z
            · exact absurd z (Nat.ne_of_lt (Nat.lt_succ_self _))
            · exact absurd (List.mem_singleton.mp z) (Nat.ne_of_gt ll)
          refine loop _ _ _ _ _ _ _ _ rfl (hn ▸ (Walks.tuple (by simp [hh]) _ l nl items).toS) off (fun b hb => ?_) ⟨⟨_, Heap.get?_push_size _ rfl, rfl, rfl⟩, lay1.push _⟩ (Heap.get?_push_of_some _ hS) (fun b u e => Heap.get?_push_of_some _ (kp1 b u e)) fun s3 mv R3 => ?_
          · rw [List.mem_singleton.mp hb]
            exact Heap.get?_none_of_le (by rw [sz]; exact Nat.le_succ _)
          obtain ⟨h3, g3, d3, t3, o3⟩ := s3
          obtain rfl : g3 = s.gens := mv.gens
          obtain rfl : d3 = s.drawn := mv.drawn
          obtain rfl : o3 = s.os := mv.os
          show wpAny _ _ _ _ _ _
          refine wpAny_pure ?_
          show wpAny _ _ (ret Value.none) _ _ _
          refine wpAny_pure ⟨rfl, h3, t3, rfl, R3, fun b u e => mv.heap b u (fun z => ?_) (Heap.get?_push_of_some _ (kp1 b u e))⟩
          have lt := Heap.lt_size e
          rcases List.mem_cons.mp z with z | z
          · rw [z] at lt
            exact absurd lt (Nat.lt_irrefl _)
          · rw [List.mem_singleton.mp z, sz] at lt
            exact absurd lt (Nat.not_lt_of_le (Nat.le_succ _))
      · cases r2 with
        | error _ => exact hr2
        | ok fl2 =>
          cases fl2 with
          | ret r =>
            obtain ⟨rfl, h', tk, rfl, hk, kp⟩ := hr2
            (repeat (any_goals (first | assumption | wp_step)))
            exact h _ _ hk kp
          | _ => exact hr2.elim
    | _ => exact hr.elim
theorem kset_call {l : Addr} {T : String} {items : Array Value} {ks : List L2.Key} {Q : Value → Shared → Prop} (hh : A.handled = none) (hl : (T = "list" ∧ s.heap.IsList l items) ∨ (T = "tuple" ∧ s.heap.IsTuple l items)) (hn : items.size = ks.length) (room : ks.length + 1 < scanBound)
    (hv : ∀ (i : Nat) (v : Value), items[i]? = some v → ∃ k, ks[i]? = some k ∧ (mixKind P w).is k v = true)
    (h : ∀ (h' : Heap) (tk : Nat), KSet P w h' s.heap.objs.size (ks.foldl putK []) → (∀ b o, s.heap.get? b = some o → h'.get? b = some o) → Q (.ref s.heap.objs.size) { s with heap := h', toks := tk }) :
    wpAny (model P w) A (call (.type "set") [.ref l]) Q E s :=
  set_call hh hl hn (fun A' J fp wr G St s1 B _ W off _ st hS _ fin => kset_loop W off room hv ks.length 0 s1 [] (Nat.zero_add _) st (kset_new hS) (Nat.le_refl 0) fun s' mv R => fin s' mv R) h
end
end Ev
set_option Elab.async false
set_option linter.all false
set_option autoImplicit false
set_option maxRecDepth 100000
namespace Ev
open PySem PySem.Spec L2 PyProof.Rows PySem.W PySem.Calls
/-! ### what the sorting of keys gives does not hang on their order -/
theorem nds_all : ∀ (l : List D), nds l = l.all nd
  | [] => by simp [nds]
  | x :: xs => by rw [nds, nds_all xs, List.all_cons]
theorem all_perm {f : D → Bool} {a b : List D} (p : a.Perm b) (h : a.all f = true) : b.all f = true := List.all_eq_true.mpr fun x hx => List.all_eq_true.mp h x (p.mem_iff.mpr hx)
theorem okSort_perm {a b : List D} (p : a.Perm b) (h : okSort a = true) : okSort b = true := by
  unfold okSort at h ⊢
  rw [Bool.and_eq_true, Bool.and_eq_true, Bool.and_eq_true] at h ⊢
  obtain ⟨⟨⟨h0, h1⟩, h2⟩, h3⟩ := h
  rw [nds_all] at h0 ⊢
  refine ⟨⟨⟨all_perm p h0, ?_⟩, all_perm p h2⟩, by rw [← p.length_eq]; exact h3⟩
  exact all_perm p (List.all_eq_true.mpr fun x hx => all_perm p (List.all_eq_true.mp h1 x hx))
theorem leD_key {a b : L2.Key} (h : wkD (keyD a) (keyD b) = true) (h1 : leD false (keyD a) (keyD b) = true) (h2 : leD false (keyD b) (keyD a) = true) : keyD a = keyD b := by
  have g1 : (!dataLt (keyD b) (keyD a)) = true := h1
  have g2 : (!dataLt (keyD a) (keyD b)) = true := h2
  cases a with
  | inl i =>
    cases b with
    | inl j =>
      have e1 : dataLt (.int j) (.int i) = false := (Bool.not_eq_true' _).mp g1
      have e2 : dataLt (.int i) (.int j) = false := (Bool.not_eq_true' _).mp g2
      rw [dataLt_int] at e1 e2
      have : i = j := by
        have := of_decide_eq_false e1
        have := of_decide_eq_false e2
        omega
      rw [this]
    | inr y => cases h
  | inr x =>
    cases b with
    | inl j => cases h
    | inr y =>
      have e1 : dataLt (.str y) (.str x) = false := (Bool.not_eq_true' _).mp g1
      have e2 : dataLt (.str x) (.str y) = false := (Bool.not_eq_true' _).mp g2
      rw [dataLt_str] at e1 e2
      have := of_decide_eq_false e1
      have := of_decide_eq_false e2
      have e : x = y := str_of_cps (List.le_antisymm (List.not_lt.mp ‹_›) (List.not_lt.mp ‹_›))
      rw [e]
theorem sortD_perm {a b : List D} (p : a.Perm b) (ok : okSort a = true) (hk : ∀ d ∈ a, ∃ k, d = keyD k) : sortD (leD false) a = sortD (leD false) b := by
  have hw := (okSort_of ok).1
  rw [sortD_eq (leD_tr false) (leD_tot false), sortD_eq (leD_tr false) (leD_tot false)]
  refine List.Perm.eq_of_pairwise (le := fun x y => leD false x y = true) (fun x y hx hy h1 h2 => ?_) (List.pairwise_mergeSort (leD_tr false) (leD_tot false) a) (List.pairwise_mergeSort (leD_tr false) (leD_tot false) b) ((List.mergeSort_perm a _).trans (p.trans (List.mergeSort_perm b _).symm))
  have hx := List.mem_mergeSort.mp hx
  have hy := p.mem_iff.mpr (List.mem_mergeSort.mp hy)
  obtain ⟨k, rfl⟩ := hk x hx
  obtain ⟨j, rfl⟩ := hk y hy
  exact leD_key (hw _ hx _ hy) h1 h2
/-! ### sorted(s), s a set of keys -/
def vD : Value → D
  | .int i _ => .int i
  | .str x _ => .str x
  | _ => .none
theorem vD_key {P : Program} {w : World} {k : L2.Key} {v : Value} (h : (mixKind P w).is k v = true) : vD v = keyD k := by
  rcases keyIs_shape h with ⟨_, _, rfl, rfl⟩ | ⟨_, _, rfl, rfl⟩ <;> rfl
theorem vD_rvd {P : Program} {w : World} {K : PySem.W.Frag} {HI : Hp} {k : L2.Key} {v : Value} (h : (mixKind P w).is k v = true) : RVD K HI v (vD v) := by
  rcases keyIs_shape h with ⟨i, t, rfl, rfl⟩ | ⟨x, t, rfl, rfl⟩
  · exact ⟨.int i, ⟨t, rfl⟩, .int i⟩
  · exact ⟨.str x, ⟨t, rfl⟩, .str x⟩
theorem each_fun {α β : Type} {R : α → β → Prop} {f : α → β} : ∀ {l : List α}, (∀ a ∈ l, R a (f a)) → EachIs R l (l.map f)
  | [], _ => .nil
  | a :: l, h => .cons (h a List.mem_cons_self) (each_fun fun b hb => h b (List.mem_cons_of_mem _ hb))
theorem KR.data {P : Program} {w : World} : ∀ {ks : List L2.Key} {es : List Row}, KR P w ks es → es.map (fun e => vD e.2) = ks.map keyD
  | _, _, .nil => rfl
  | _, _, .cons r t => by rw [List.map_cons, List.map_cons, vD_key r.key, t.data]
section
variable {X : Cx}
theorem kset_sorted {pins : List (Addr × Obj)} {s : Shared} {σ : L2.St} {H HI : Hp} {a : Addr} {ks : List L2.Key} {Q : VK} (hc : X.calm = true) (hu : X.A.units + 64 < cLine) (I : Inv X pins σ H s) (sub : Same HI H) (R : KSet X.prog X.w s.heap a ks) (ok : okSort (ks.map keyD) = true)
    (q : ∀ p vs, H p = none → RpAll X.K HI vs (sortD (leD false) (ks.map keyD)) → Q (.ref p) (upd H p (.lst vs))) : wpAny (model X.prog X.w) X.A (call (.builtin "sorted") [.ref a]) (EP X pins σ Q) X.xe s := by
  obtain ⟨o, es, ep, t, rows, ho, hx, hd, T, p, r⟩ := R
  refine sorted_of (P := fun us s1 => us.Perm (es.toList.map (·.2)) ∧ (∀ b u, s.heap.get? b = some u → s1.heap.get? b = some u) ∧ s.heap.objs.size ≤ s1.heap.objs.size ∧ s1.gens = s.gens ∧ s1.os = s.os) (args_sorted1 _) (fun _ => args_list_sort _) (fun A' E' Q' hA hq => ?_) (fun us s1 h => ?_) fun us s1 h E' => ?_
  · exact collect_set (hA.trans (I.ok.hd hc)) ⟨o, ho, hx.1, hd⟩ T.fit T.small T.rise T.told fun s1 out k z g os pm => hq _ _ ⟨pm, k, z, g, os⟩
  · rw [h.1.length_eq, List.length_map, Array.length_toList]
    exact fits_of_scanBound T.small
  · obtain ⟨pm, k, z, g, os⟩ := h
    have is : ∀ u ∈ us, ∃ k, (mixKind X.prog X.w).is k u = true := fun u hm => by
      obtain ⟨e, he, rfl⟩ := List.mem_map.mp (pm.mem_iff.mp hm)
      obtain ⟨k, _, re⟩ := r.row e (p.mem_iff.mp he)
      exact ⟨k, re.key⟩
    have pd : (ks.map keyD).Perm (us.map vD) := by
      have e1 : (es.toList.map (·.2)).map vD = es.toList.map (fun e => vD e.2) := by rw [List.map_map]; rfl
      have := (pm.map vD).trans (e1 ▸ p.map (fun e : Row => vD e.2))
      rw [r.data] at this
      exact this.symm
    have hk : ∀ d ∈ ks.map keyD, ∃ k, d = keyD k := fun d hd => by
      obtain ⟨k, _, e⟩ := List.mem_map.mp hd
      exact ⟨k, e.symm⟩
    have I0 : Inv X pins σ H { s with drawn := s1.drawn } := I.call' (ch := []) rfl (Un.kept fun _ _ e => e) (I.hok.kept fun _ _ e => e) I.bare (fun _ z => nomatch z)
    refine sort_end (s := { s with drawn := s1.drawn }) (rev := false) hu I0 sub (okSort_perm pd ok) (each_fun fun u hm => ?_) k z g os rfl fun p2 vs hp rv => q p2 vs hp (by rw [sortD_perm pd ok hk]; exact rv)
    obtain ⟨k, e⟩ := is u hm
    exact vD_rvd e
/-! ### set(x) -/
theorem keysL_all {K : PySem.W.Frag} {H : Hp} : ∀ {ds : List D} {ks : List L2.Key} {vs : List V}, keysL ds = some ks → RpAll K H vs ds → vs = ks.map kV
  | [], _, _, h, r => by cases h; cases r; rfl
  | d :: ds, _, _, h, r => by
    unfold keysL at h
    cases hk : keyOf d with
    | none => rw [hk] at h; cases h
    | some k =>
      rw [hk] at h
      dsimp only at h
      cases hl : keysL ds with
      | none => rw [hl] at h; cases h
      | some ks =>
        rw [hl] at h
        cases h
        cases r with
        | cons r1 r2 =>
          rw [List.map_cons, keysL_all hl r2]
          congr 1
          cases r1 <;> first | (cases hk; rfl) | (cases hk)
theorem vals_keys {P : Program} {w : World} : ∀ {ks : List L2.Key} {us : List Value}, Vals (ks.map kV) us → ∀ (i : Nat) (v : Value), us[i]? = some v → ∃ k, ks[i]? = some k ∧ (mixKind P w).is k v = true
  | [], _, .nil, i, v, h => by simp at h
  | k :: ks, _, .cons r t, 0, v, h => by
    cases h
    exact ⟨k, rfl, kV_is r⟩
  | _ :: ks, _, .cons r t, i + 1, v, h => vals_keys t i v h
theorem setK_some {ds z : List D} (h : setK ds = some z) : ∃ ks, keysL ds = some ks ∧ z = (ks.foldl putK []).map keyD ∧ ds.length ≤ 4000 := by
  unfold setK at h
  obtain ⟨h1, h2⟩ := (show Nat.ble ds.length 4000 = true ∧ _ from by
    split at h
    · exact ⟨‹_›, h⟩
    · cases h)
  cases q : keysL ds with
  | none => rw [q] at h2; cases h2
  | some ks =>
    rw [q] at h2
    cases h2
    exact ⟨ks, rfl, rfl, Nat.le_of_ble_eq_true h1⟩
theorem keysL_len : ∀ {ds : List D} {ks : List L2.Key}, keysL ds = some ks → ks.length = ds.length
  | [], _, h => by cases h; rfl
  | d :: ds, _, h => by
    unfold keysL at h
    cases hk : keyOf d with
    | none => rw [hk] at h; cases h
    | some k =>
      rw [hk] at h
      dsimp only at h
      cases hl : keysL ds with
      | none => rw [hl] at h; cases h
      | some ks =>
        rw [hl] at h
        cases h
        rw [List.length_cons, List.length_cons, keysL_len hl]
/-- set(v), v a list or a tuple of keys: the set stands on the heap and is in no one's book -/
theorem kset_of {pins : List (Addr × Obj)} {s : Shared} {σ : L2.St} {H HI : Hp} {v : V} {u : Value} {d : D} {xs z : List D} {E : Value → Shared → Prop} {B : Value → Shared → Prop} (hc : X.calm = true) (I : Inv X pins σ H s) (sub : Same HI H) (rv : RelV v u) (rd : Rp X.K HI v d) (hd : d = .list xs ∨ d = .tuple xs) (hz : setK xs = some z)
    (k : ∀ s1 a ks, Inv X pins σ H s1 → KSet X.prog X.w s1.heap a ks → ks.map keyD = z → B (.ref a) s1) : wpAny (model X.prog X.w) X.A (call (.type "set") [u]) B E s := by
  obtain ⟨ks, hk, rfl, hl⟩ := setK_some hz
  have hn := keysL_len hk
  have hb : ks.length + 1 < scanBound := by
    show ks.length + 1 < 4096
    omega
  obtain ⟨T, l, its, vs, rfl, lay, r, ra⟩ : ∃ (T : String) (l : Addr) (its : List Value) (vs : List V), u = .ref l ∧ ((T = "list" ∧ s.heap.IsList l its.toArray) ∨ (T = "tuple" ∧ s.heap.IsTuple l its.toArray)) ∧ Vals vs its ∧ RpAll X.K HI vs xs := by
    rcases hd with e | e
    · cases e
      cases rd with
      | lst h1 a1 =>
        cases rv
        obtain ⟨its, r, pl, _⟩ := I.list (seqL_mono sub h1)
        exact ⟨"list", _, its, _, rfl, .inl ⟨rfl, pl.isList⟩, r, a1⟩
    · cases e
      cases rd with
      | tup h1 n1 a1 =>
        cases rv
        obtain ⟨its, r, pl, _⟩ := I.tuple (seqT_mono sub h1)
        exact ⟨"tuple", _, its, _, rfl, .inr ⟨rfl, pl⟩, r, a1⟩
  have ek := keysL_all hk ra
  subst ek
  have hsz : its.toArray.size = ks.length := by rw [List.size_toArray, ← r.length, List.length_map]
  exact kset_call (I.ok.hd hc) lay hsz hb (fun i v e => vals_keys r i v (by simpa using e)) fun h' tk R kp => k _ _ _ (I.kept (t' := tk) kp) R rfl
end
end Ev
set_option Elab.async false
set_option linter.all false
set_option autoImplicit false
set_option maxRecDepth 100000
set_option maxHeartbeats 2000000
namespace Ev
open PySem PySem.Spec L2 PyProof.Rows PySem.W PySem.Calls
theorem fold_len : ∀ (l acc : List L2.Key), (l.foldl putK acc).length ≤ acc.length + l.length
  | [], _ => Nat.le_refl _
  | k :: l, acc => by
    have := fold_len l (putK acc k)
    have := putK_len acc k
    rw [List.foldl_cons, List.length_cons]
    omega
theorem kset_add {P : Program} {w : World} {A : Around} {E : Value → Shared → Prop} {s : Shared} {a : Addr} {x : Value} {k : L2.Key} {ks : List L2.Key} {Q : Value → Shared → Prop} (R : KSet P w s.heap a ks) (hk : (mixKind P w).is k x = true) (room : ks.length + 1 < scanBound)
    (hQ : ∀ h', Heap.SameBut a s.heap h' → KSet P w h' a (putK ks k) → Q .none { s with heap := h', toks := s.toks + 1 }) : wpAny (model P w) A (call (.builtin "set.add") [.ref a, x]) Q E s := by
  have hT : s.TypeIs (.ref a) "set" := by
    obtain ⟨o, _, _, _, _, ho, hx, _⟩ := R
    exact ⟨o, ho, hx.1⟩
  refine wpAny_call_entry F.slot_set_add hT F.entry_set_add ?_ (F.args_set_add_2 _ _)
  unfold Builtin.«set.add» Builtin.Frozenset.oneOther
  simp only [List.isEmpty_nil, bind_assoc]
  unfold Builtin.Frozenset.addrOf setAdd
  refine wpAny_bind (wpAny_pure ?_)
  try dsimp only
  refine wpAny_bind (wpAny_pure ?_)
  try dsimp only
  refine wpAny_bind (wpAny_holding (wpAny_bind ((mixKind P w).pyHash hk ?_)))
  refine kset_put (s := { s with toks := s.toks + 1 }) R hk room fun h' _ sb r => ?_
  show wpAny _ _ (ret Value.none) _ _ _
  exact wpAny_pure ⟨_, rfl, hQ h' sb r⟩
end Ev
set_option Elab.async false
set_option linter.all false
set_option autoImplicit false
set_option maxRecDepth 100000
namespace Ev
open PySem PySem.Spec L2 PyProof.Rows PySem.W PySem.Calls
/-! ### dict(xs), xs a list of pairs -/
/-- one pair: its key, its value; both as they stand -/
structure Itm where
  k : L2.Key
  v : V
  d : D
  key : Value
  u : Value
  t : Addr
structure GoodI (P : Program) (w : World) (K : PySem.W.Frag) (HI : Hp) (h : Heap) (e : Itm) : Prop where
  key : (mixKind P w).is e.k e.key = true
  val : RelV e.v e.u
  dat : Rp K HI e.v e.d
  pos : PairAt h e.t e.key e.u
section
variable {X : Cx} {pins : List (Addr × Obj)} {σ : L2.St} {H HI : Hp} {s : Shared}
theorem two_vals {K : PySem.W.Frag} {vs : List V} {its : List Value} {dk dv : D} (r : Vals vs its) (ra : RpAll K HI vs [dk, dv]) : ∃ a b x y, vs = [a, b] ∧ its = [x, y] ∧ RelV a x ∧ RelV b y ∧ Rp K HI a dk ∧ Rp K HI b dv := by
  cases ra with
  | cons r1 ra =>
    cases ra with
    | cons r2 ra =>
      cases ra
      cases r with
      | cons q1 r =>
        cases r with
        | cons q2 r =>
          cases r
          exact ⟨_, _, _, _, rfl, rfl, q1, q2, r1, r2⟩
theorem key_rel {K : PySem.W.Frag} {P : Program} {w : World} {a : V} {x : Value} {d : D} {k : L2.Key} (hk : keyOf d = some k) (q : RelV a x) (r : Rp K HI a d) : (mixKind P w).is k x = true := by
  have e : a = kV k := by cases r <;> first | (cases hk; rfl) | (cases hk)
  subst e
  exact kV_is q
theorem itm_of (I : Inv X pins σ H s) (sub : Same HI H) {v : V} {u : Value} {d dv : D} {k : L2.Key} (rv : RelV v u) (rd : Rp X.K HI v d) (h : pairD d = some (k, dv)) : ∃ e : Itm, GoodI X.prog X.w X.K HI s.heap e ∧ u = .ref e.t ∧ e.k = k ∧ e.d = dv := by
  unfold pairD at h
  split at h
  · rename_i dk dv2
    cases hk : keyOf dk with
    | none => rw [hk] at h; cases h
    | some k2 =>
      rw [hk] at h
      cases h
      cases rd with
      | tup h1 n1 a1 =>
        cases rv
        obtain ⟨its, r, pl, _⟩ := I.tuple (seqT_mono sub h1)
        obtain ⟨a, b, x, y, rfl, rfl, q1, q2, r1, r2⟩ := two_vals r a1
        exact ⟨⟨k, b, dv, x, y, _⟩, ⟨key_rel hk q1 r1, q2, r2, .inl pl⟩, rfl, rfl, rfl⟩
  · rename_i dk dv2
    cases hk : keyOf dk with
    | none => rw [hk] at h; cases h
    | some k2 =>
      rw [hk] at h
      cases h
      cases rd with
      | lst h1 a1 =>
        cases rv
        obtain ⟨its, r, pl, _⟩ := I.list (seqL_mono sub h1)
        obtain ⟨a, b, x, y, rfl, rfl, q1, q2, r1, r2⟩ := two_vals r a1
        exact ⟨⟨k, b, dv, x, y, _⟩, ⟨key_rel hk q1 r1, q2, r2, .inr pl.isList⟩, rfl, rfl, rfl⟩
  · cases h
theorem itms_of (I : Inv X pins σ H s) (sub : Same HI H) : ∀ {ds : List D} {vs : List V} {its : List Value} {acc r : List (D × D)}, RpAll X.K HI vs ds → Vals vs its → pairsD ds acc = some r →
    ∃ q : List Itm, (∀ e ∈ q, GoodI X.prog X.w X.K HI s.heap e) ∧ its = q.map (fun e => Value.ref e.t) ∧ r = q.foldl (fun a e => putD a e.k e.d) acc
  | [], _, _, _, _, ra, rv, h => by
    cases ra
    cases rv
    cases h
    exact ⟨[], by simp, rfl, rfl⟩
  | d :: ds, _, _, acc, r, ra, rv, h => by
    cases ra with
    | cons r1 ra =>
      cases rv with
      | cons q1 rv =>
        unfold pairsD at h
        cases hp : pairD d with
        | none => rw [hp] at h; cases h
        | some kv =>
          obtain ⟨k, dv⟩ := kv
          rw [hp] at h
          dsimp only at h
          obtain ⟨e, ge, rfl, rfl, rfl⟩ := itm_of I sub q1 r1 hp
          obtain ⟨q, gq, rfl, rfl⟩ := itms_of I sub ra rv h
          exact ⟨e :: q, fun x hx => (List.mem_cons.mp hx).elim (fun z => z ▸ ge) (gq x), rfl, rfl⟩
theorem rpk_any {K : PySem.W.Frag} (k : L2.Key) : ∀ {kvs : List (L2.Key × V)} {ds : List (D × D)}, RpK K HI kvs ds → (kvs.any fun kv => decide (kv.1 = k)) = ds.any fun e => decide (keyOf e.1 = some k)
  | _, _, .nil => rfl
  | _, _, .cons (k := k2) _ t => by
    rw [List.any_cons, List.any_cons, rpk_any k t, keyOf_D]
    congr 1
    by_cases e : k2 = k
    · rw [decide_eq_true e, decide_eq_true (congrArg some e)]
    · rw [decide_eq_false e, decide_eq_false (fun z => e (Option.some.inj z))]
theorem rpk_map {K : PySem.W.Frag} {k : L2.Key} {v : V} {d : D} (r : Rp K HI v d) : ∀ {kvs : List (L2.Key × V)} {ds : List (D × D)}, RpK K HI kvs ds → RpK K HI (kvs.map fun kv => if kv.1 = k then (kv.1, v) else kv) (ds.map fun e => if keyOf e.1 = some k then (e.1, d) else e)
  | _, _, .nil => .nil
  | _, _, .cons (k := k2) a t => by
    rw [List.map_cons, List.map_cons]
    dsimp only
    rw [keyOf_D]
    by_cases e : k2 = k
    · rw [if_pos e, if_pos (congrArg some e)]
      exact .cons r (rpk_map r t)
    · rw [if_neg e, if_neg (fun z => e (Option.some.inj z))]
      exact .cons a (rpk_map r t)
theorem rpk_snoc {K : PySem.W.Frag} {k : L2.Key} {v : V} {d : D} (r : Rp K HI v d) : ∀ {kvs : List (L2.Key × V)} {ds : List (D × D)}, RpK K HI kvs ds → RpK K HI (kvs ++ [(k, v)]) (ds ++ [(keyD k, d)])
  | _, _, .nil => .cons r .nil
  | _, _, .cons a t => .cons a (rpk_snoc r t)
theorem rpk_put {K : PySem.W.Frag} {k : L2.Key} {v : V} {d : D} (r : Rp K HI v d) {kvs : List (L2.Key × V)} {ds : List (D × D)} (a : RpK K HI kvs ds) : RpK K HI (L2.putK kvs k v) (putD ds k d) := by
  unfold L2.putK putD
  rw [rpk_any k a]
  split
  · exact rpk_map r a
  · exact rpk_snoc r a
theorem fold_rpk {P : Program} {w : World} {K : PySem.W.Frag} {h : Heap} : ∀ {q : List Itm} {kvs : List (L2.Key × V)} {ds : List (D × D)}, (∀ e ∈ q, GoodI P w K HI h e) → RpK K HI kvs ds → RpK K HI (q.foldl (fun a e => L2.putK a e.k e.v) kvs) (q.foldl (fun a e => putD a e.k e.d) ds)
  | [], _, _, _, a => a
  | e :: q, _, _, g, a => fold_rpk (q := q) (fun x hx => g x (List.mem_cons_of_mem _ hx)) (rpk_put (g e List.mem_cons_self).dat a)
theorem fold_kv {P : Program} {w : World} {K : PySem.W.Frag} {h : Heap} : ∀ {q : List Itm} {kvs : List (L2.Key × V)} {vs : List (L2.Key × Value)}, (∀ e ∈ q, GoodI P w K HI h e) → KV kvs vs → KV (q.foldl (fun a e => L2.putK a e.k e.v) kvs) (merged vs (q.map fun e => (e.k, e.u)))
  | [], _, _, _, a => a
  | e :: q, _, _, g, a => fold_kv (q := q) (fun x hx => g x (List.mem_cons_of_mem _ hx)) (a.put e.k (g e List.mem_cons_self).val)
theorem pr_some {d : D} {p : L2.Key × D} (h : pairD d = some p) : isPr d = true := by
  unfold pairD at h
  split at h
  · rfl
  · rfl
  · cases h
theorem prs_some : ∀ {ds : List D} {acc r : List (D × D)}, pairsD ds acc = some r → ds.all isPr = true
  | [], _, _, _ => rfl
  | d :: ds, acc, r, h => by
    unfold pairsD at h
    cases hp : pairD d with
    | none => rw [hp] at h; cases h
    | some kv =>
      rw [hp] at h
      rw [List.all_cons, pr_some hp, Bool.true_and]
      exact prs_some h
theorem noD_at (I : Inv X pins σ H s) (sub : Same HI H) {a : Addr} (h : NoD X.K HI a) {o : Obj} (e : s.heap.get? a = some o) : o.dict = none := by
  rcases h with ⟨o', u, h, n⟩ | ⟨o', h, n⟩
  · have z := (I.hok a _ (sub _ _ h)).1
    rw [e] at z
    cases z
    exact n
  · have z := I.kIn a o' h
    rw [e] at z
    cases z
    exact n
theorem gDict_cases {d z : D} (h : gDict [d] = some z) : ∃ xs kd, (d = .list xs ∨ d = .tuple xs) ∧ szOk xs.length = true ∧ pairsD xs [] = some kd ∧ z = .dict kd := by
  unfold gDict at h
  split at h
  · rename_i xs e
    cases e
    split at h
    · obtain ⟨kd, hp, rfl⟩ := Option.map_eq_some_iff.mp h
      exact ⟨xs, kd, .inl rfl, ‹_›, hp, rfl⟩
    · cases h
  · rename_i xs e
    cases e
    split at h
    · obtain ⟨kd, hp, rfl⟩ := Option.map_eq_some_iff.mp h
      exact ⟨xs, kd, .inr rfl, ‹_›, hp, rfl⟩
    · cases h
  · cases h
theorem pairArg_of {P : Program} {w : World} {T : String} (hT : T = "list" ∨ T = "tuple") (a : Addr) (us : Array Value) (Ts : Nat → Addr) (ps : List (Value × Value)) :
    PairArg P w T a (a :: (List.range ps.length).map Ts) [] ps.length (PairRel ps) (fun h => PlainSeq T h a us ∧ PairItems h us Ts ps) := by
  rcases hT with rfl | rfl
  · exact PairArg.list a us Ts ps
  · exact PairArg.tuple a us Ts ps
theorem cd_dict (hc : X.calm = true) : CallR X (.type "dict") (DOL X.K (g1 fun d => gDict [d])) := by
  intro pins s σ H xs us Q I r ⟨HI, ds, z, sub, ra, eg, q⟩
  obtain ⟨d, rfl, e2⟩ : ∃ d, ds = [d] ∧ gDict [d] = some z := by
    match ds, eg with
    | [d], eg => exact ⟨d, rfl, eg⟩
  obtain ⟨xs, kd, hd, hs, hp, rfl⟩ := gDict_cases e2
  cases ra with
  | cons rv rn =>
    cases rn
    obtain ⟨u, rfl, ru⟩ := vals1 r
    obtain ⟨T, l, vs, its, o, n, hT, rfl, ho, hcl, hdn, hdt, rl, a1, hz⟩ : ∃ (T : String) (l : Addr) (vs : List V) (its : List Value) (o : Obj) (n : Nat), (T = "list" ∨ T = "tuple") ∧ u = .ref l ∧ s.heap.get? l = some o ∧ o.cls = .type T ∧ o.dict = none ∧ o.data = .seq its.toArray n ∧ Vals vs its ∧ RpAll X.K HI vs xs ∧ vs.length ≤ sizeLine := by
      rcases hd with rfl | rfl
      · cases rv with
        | lst h1 a1 =>
          cases ru
          obtain ⟨its, rl, ⟨o, n, ho, hcl, hdn, hdt⟩, hz⟩ := I.list (seqL_mono sub h1)
          exact ⟨_, _, _, its, o, n, .inl rfl, rfl, ho, hcl, hdn, hdt, rl, a1, hz⟩
      · cases rv with
        | tup h1 n1 a1 =>
          cases ru
          obtain ⟨its, rl, ⟨o, ho, hcl, n, hdt⟩, hz⟩ := I.tuple (seqT_mono sub h1)
          exact ⟨_, _, _, its, o, n, .inr rfl, rfl, ho, hcl, noD_at I sub (n1 (prs_some hp)) ho, hdt, rl, a1, hz⟩
    obtain ⟨q2, gq, rfl, rfl⟩ := itms_of I sub a1 rl hp
    have hlen : q2.length = vs.length := by rw [rl.length, List.length_map]
    have pit : PairItems s.heap (q2.map fun e => Value.ref e.t).toArray (fun j => (q2.map (·.t)).getD j 0) (q2.map fun e => (e.key, e.u)) := by
      refine ⟨by simp, fun j k v e => ?_⟩
      rw [List.getElem?_map] at e
      obtain ⟨x, hx, e2⟩ := Option.map_eq_some_iff.mp e
      cases e2
      have et : (q2.map (·.t)).getD j 0 = x.t := by rw [List.getD_eq_getElem?_getD, List.getElem?_map, hx]; rfl
      refine ⟨?_, ?_⟩
      · dsimp only
        rw [et, List.getElem?_toArray, List.getElem?_map, hx]; rfl
      · dsimp only
        rw [et]
        exact (gq x (List.mem_of_getElem? hx)).pos
    have hpv : PairsHave (mixKind X.prog X.w) (q2.map fun e => (e.key, e.u)).length (PairRel (q2.map fun e => (e.key, e.u))) (q2.map fun e => (e.k, e.u)) := by
      refine ⟨by simp, fun i key v e => ?_⟩
      have e : (q2.map fun e => (e.key, e.u))[i]? = some (key, v) := e
      rw [List.getElem?_map] at e
      obtain ⟨x, hx, e2⟩ := Option.map_eq_some_iff.mp e
      cases e2
      exact ⟨x.k, by rw [List.getElem?_map, hx]; rfl, (gq x (List.mem_of_getElem? hx)).key⟩
    refine call_dict_pairs (pairArg_of hT l _ _ _) (I.ok.hd hc) ⟨⟨o, n, ho, hcl, hdn, hdt⟩, pit⟩ hpv (by rw [List.length_map, hlen]; exact hz) fun h' tk dd kp => ?_
    have hf := I.hok.fresh (Nat.le_refl s.heap.objs.size)
    have kv := fold_kv gq (kvs := []) (vs := []) .nil
    have rk := fold_rpk gq (kvs := []) (ds := []) .nil
    have sz : (q2.foldl (fun a e => L2.putK a e.k e.v) []).length ≤ sizeLine := by
      rw [kv.length]
      refine Nat.le_trans (merged_length_le [] _) ?_
      rw [List.length_nil, List.length_map, Nat.zero_add, hlen]
      exact hz
    have I2 := I.laid (t' := tk) (o := .dK (q2.foldl (fun a e => L2.putK a e.k e.v) [])) (fun b u e => kp b u (fun z => nomatch z) e) (Nat.le_refl _) (dk_new sz (beq_eq_false_iff_ne.mpr (Nat.ne_of_gt I.big)) kv dd)
    have tp : TP HI H (upd HI s.heap.objs.size (.dK (q2.foldl (fun a e => L2.putK a e.k e.v) []))) (upd H s.heap.objs.size (.dK (q2.foldl (fun a e => L2.putK a e.k e.v) []))) := TP.new_ sub hf
    exact ⟨.ref s.heap.objs.size, _, I2, rfl, q _ _ _ tp (.dic upd_same (dpk_mono tp.exI rk))⟩
end
end Ev
set_option Elab.async false
set_option linter.all false
set_option autoImplicit false
set_option maxRecDepth 100000
namespace Ev
open PySem PySem.Spec L2 PyProof.Rows
/-! ### small questions asked of nested keys -/
theorem each_key {h : Heap} : ∀ {ks : List NestedKey} {vs : List Value}, NestedAll h ks vs → ∀ v ∈ vs, ∃ k, NestedIs h k v ∧ k.depth ≤ NestedKey.depthAll ks
  | _, _, .nil, _, m => nomatch m
  | k :: ks, _, .cons a t, v, m => by
    rw [NestedKey.depthAll]
    rcases List.mem_cons.mp m with rfl | m
    · exact ⟨k, a, Nat.le_max_left _ _⟩
    · obtain ⟨j, q1, q2⟩ := each_key t v m
      exact ⟨j, q1, Nat.le_trans q2 (Nat.le_max_right _ _)⟩
section
variable {P : Program} {w : World} {A : Around} {E : Value → Shared → Prop}
theorem class_no : ∀ (n : Nat) (k : NestedKey) (v : Value) (s : Shared) (Q : Bool → Shared → Prop), NestedIs s.heap k v → k.depth ≤ n → Q false s → wpAny (model P w) A (ofAClassStatement n v) Q E s := by
  intro n
  induction n with
  | zero =>
    intro k v s Q r hd h
    cases r with
    | tup _ _ _ _ => rw [NestedKey.depth] at hd; omega
    | _ => exact wpAny_pure h
  | succ n ih =>
    intro k v s Q r hd h
    cases r with
    | tup g c d all =>
      rename_i a o its m ks
      rw [NestedKey.depth] at hd
      unfold ofAClassStatement
      refine wpAny_bind (wpAny_typeOf (T := "tuple") ⟨_, g, c⟩ ?_)
      dsimp only
      have e : (("tuple" : String) == "tuple") = true := by decide
      simp only [e, if_true, Bool.not_true, Bool.false_eq_true, if_false]
      try refine wpAny_bind (wpAny_pure ?_)
      try simp only [Bool.not_true, Bool.false_eq_true, if_false]
      show wpAny _ _ (seqItems? (.ref a) >>= _) _ _ s
      refine wpAny_bind (wpAny_seqItems g d ?_)
      dsimp only
      refine wpAny_bind ?_
      show wpAny _ _ (forIn its _ _) _ _ s
      rw [← Array.forIn_toList]
      refine wpAny_forIn_list _ (fun l r s' => r.1 = none ∧ s' = s ∧ ∀ v ∈ l, ∃ k, NestedIs s.heap k v ∧ k.depth ≤ n) _ ?_ ?_ _ _ ⟨rfl, rfl, fun v hv => ?_⟩
      · rintro v l r s' ⟨hr, rfl, al⟩
        obtain ⟨k, q1, q2⟩ := al v List.mem_cons_self
        refine wpAny_bind (ih k v s' _ q1 q2 ?_)
        simp only [Bool.false_eq_true, if_false]
        exact wpAny_pure ⟨rfl, rfl, fun u hu => al u (List.mem_cons_of_mem _ hu)⟩
      · rintro ⟨r1, r2⟩ s' ⟨hr, rfl, _⟩
        simp only at hr
        subst hr
        exact wpAny_pure h
      · obtain ⟨k, q1, q2⟩ := each_key all v hv
        exact ⟨k, q1, by omega⟩
    | _ => exact wpAny_pure h
theorem hash_any : ∀ (n : Nat) (k : NestedKey) (v : Value) (s : Shared) (Q : Bool → Shared → Prop), NestedIs s.heap k v → (∀ b, Q b s) → wpAny (model P w) A (hashByValue n v) Q E s := by
  intro n
  induction n with
  | zero => intro k v s Q r h; cases r <;> exact wpAny_pure (h _)
  | succ n ih =>
    intro k v s Q r h
    cases r with
    | tup g c d all =>
      rename_i a o its m ks
      unfold hashByValue
      refine wpAny_bind (wpAny_specialOf (T := "tuple") ⟨_, g, c⟩ F.slot_tuple_hash.lookup ?_)
      show wpAny _ _ (seqItems? (.ref a) >>= _) _ _ s
      refine wpAny_bind (wpAny_seqItems g d ?_)
      refine wpAny_bind ?_
      show wpAny _ _ (forIn its _ _) _ _ s
      rw [← Array.forIn_toList]
      have done : ∀ (r : Option Bool × PUnit.{1}) (s' : Shared), s' = s → wpAny (model P w) A (match r.1 with | some b => pure b | none => pure true) Q E s' := fun r s' e => by
        subst e
        cases r.1 with
        | none => exact wpAny_pure (h _)
        | some b => exact wpAny_pure (h _)
      refine wpAny_forIn_list _ (fun l r s' => s' = s ∧ ∀ v ∈ l, ∃ k, NestedIs s.heap k v) _ ?_ ?_ _ _ ⟨rfl, fun v hv => ?_⟩
      · rintro v l r s' ⟨rfl, al⟩
        obtain ⟨k, q1⟩ := al v List.mem_cons_self
        refine wpAny_bind (ih k v s' _ q1 fun b => ?_)
        cases b with
        | false =>
          simp only [Bool.not_false, if_true]
          refine wpAny_pure ?_
          first | exact done _ _ rfl | exact wpAny_pure (h _)
        | true =>
          simp only [Bool.not_true, Bool.false_eq_true, if_false]
          exact wpAny_pure ⟨rfl, fun u hu => al u (List.mem_cons_of_mem _ hu)⟩
      · rintro ⟨r1, r2⟩ s' ⟨rfl, _⟩
        first | exact done (r1, r2) _ rfl | (cases r1 <;> exact wpAny_pure (h _))
      · obtain ⟨k, q1, _⟩ := each_key all v hv
        exact ⟨k, q1⟩
    | _ => exact wpAny_pure (h _)
/-- the tuple at b is this key -/
structure TupK (h : Heap) (k : NestedKey) (b : Addr) : Prop where
  is : NestedIs h k (.ref b)
  low : k.depth ≤ 8
theorem seen_no {s : Shared} {k : NestedKey} {b : Addr} {Q : Bool → Shared → Prop} (hk : TupK s.heap k b) {ys : List Value} (hy : ∀ y ∈ ys, ∃ j c, y = Value.ref c ∧ TupK s.heap j c) (h : Q false s) : wpAny (model P w) A (searchCouldBeSeen (.ref b) ys) Q E s := by
  unfold searchCouldBeSeen
  refine wpAny_bind (wpAny_forIn_list _ (fun l r s' => r.1 = none ∧ s' = s ∧ ∀ y ∈ l, ∃ j c, y = Value.ref c ∧ TupK s.heap j c) _ ?_ ?_ _ _ ⟨rfl, rfl, hy⟩)
  · rintro v l r s' ⟨hr, rfl, al⟩
    obtain ⟨j, c, rfl, hc⟩ := al v List.mem_cons_self
    have al' : ∀ y ∈ l, ∃ j c, y = Value.ref c ∧ TupK s'.heap j c := fun u hu => al u (List.mem_cons_of_mem _ hu)
    dsimp only
    by_cases same : (b == c || (carriedByValue (.ref b) && carriedByValue (.ref c))) = true
    · exact wp_if_pos same (wpAny_pure ⟨rfl, rfl, al'⟩)
    · refine wp_if_neg same (wpAny_bind (quiet_key k _ 8 s' hk.is hk.low _ _ _ ?_))
      simp only [Bool.not_true, Bool.false_eq_true, if_false]
      refine wpAny_bind (quiet_key j _ 8 s' hc.is hc.low _ _ _ ?_)
      simp only [Bool.not_true, Bool.false_eq_true, if_false]
      refine wpAny_bind (class_no 8 k _ s' _ hk.is hk.low ?_)
      simp only [Bool.false_eq_true, if_false]
      refine wpAny_bind (class_no 8 j _ s' _ hc.is hc.low ?_)
      simp only [Bool.false_eq_true, if_false]
      exact wpAny_pure ⟨rfl, rfl, al'⟩
  · rintro ⟨r1, r2⟩ s' ⟨hr, rfl, _⟩
    simp only at hr
    subst hr
    exact wpAny_pure h
end
/-! ### the set -/
abbrev KL := List (Addr × NestedKey)
abbrev kh (w : World) (L : KL) : List Int := L.map fun p => p.2.hash w
abbrev kr (w : World) (L : KL) : List Row := L.map fun p => (p.2.hash w, Value.ref p.1)
structure NSet (w : World) (h : Heap) (a : Addr) (L : KL) (o : Obj) (es : Array Row) (ep : Nat) (t : SetTable) : Prop where
  at_ : h.get? a = some o
  exact_ : o.ExactSet
  data : o.data = .set es ep t
  rows : es.toList = kr w L
  tab : TabOk t (kh w L)
  one : (L.map (·.2)).Nodup
  keys : ∀ p ∈ L, TupK h p.2 p.1
  told : w.params.followText "set-order" = true ∨ t.led = true
  room : L.length * 5 < t.mask * 3
  few : L.length < 64
section
variable {P : Program} {w : World} {A : Around} {E : Value → Shared → Prop} {s : Shared} {a : Addr} {L : KL} {o : Obj} {es : Array Row} {ep : Nat} {t : SetTable}
theorem NSet.size {h : Heap} (R : NSet w h a L o es ep t) : es.size = L.length := by
  have := congrArg List.length R.rows
  simpa using this
theorem NSet.fits {h : Heap} (R : NSet w h a L o es ep t) : t.fits es.size = true := by
  have h1 : t.place.size = L.length := by simpa using R.tab.sz
  have h2 := R.size
  have h3 := R.room
  unfold SetTable.fits SetTable.fill
  rw [R.tab.dm, Bool.and_eq_true, beq_iff_eq, decide_eq_true_eq]
  refine ⟨h1.trans h2.symm, ?_⟩
  show t.place.size + 0 ≤ t.mask
  omega
theorem NSet.entry {h : Heap} (R : NSet w h a L o es ep t) {i : Nat} {p : Addr × NestedKey} (q : L[i]? = some p) : es[i]? = some (p.2.hash w, Value.ref p.1) := by
  rw [← Array.getElem?_toList, R.rows, List.getElem?_map, q] <;> rfl
theorem NSet.sound {h : Heap} (R : NSet w h a L o es ep t) : ¬ t.gaveWay = true := by
  unfold SetTable.gaveWay
  rw [mask_odd R.tab.mok]
  decide
end
end Ev
set_option Elab.async false
set_option linter.all false
set_option autoImplicit false
set_option maxRecDepth 100000
namespace Ev
open PySem PySem.Spec L2 PyProof.Rows
/-- where a search for hash z stands after c steps -/
abbrev stepAt (m : Nat) (z : Int) (c : Nat) : SetTable.Probe := nth m (runAt m (SetTable.bits z % (m + 1)) (SetTable.bits z)) c
theorem step_add (m : Nat) (z : Int) (c q : Nat) : nth m (stepAt m z c) q = stepAt m z (c + q) := (nth_add m c _ q).symm
theorem step_dummy (m : Nat) : ∀ (n : Nat) (p : SetTable.Probe), p.dummy = none → (nth m p n).dummy = none
  | 0, _, h => h
  | n + 1, p, h => step_dummy m n (adv m p) (by unfold adv; split <;> exact h)
section
variable {P : Program} {w : World} {A : Around} {E : Value → Shared → Prop} {s : Shared} {a : Addr} {L : KL} {o : Obj} {es : Array Row} {ep : Nat} {t : SetTable}
theorem nset_from (R : NSet w s.heap a L o es ep t) {x : Addr} {k : NestedKey} (hx : TupK s.heap k x) (hu : A.units + 8 < cLine) {z : Int} (ez : z = k.hash w) {N : Nat} (free : way t.mask z N ∉ t.place.toList) (busy : ∀ c, c < N → way t.mask z c ∈ t.place.toList) (small : N < 10 * SetTable.turns t.mask) {Q : SetFound → Shared → Prop}
    (yes : k ∈ L.map (·.2) → Q (.there none) s) (no : k ∉ L.map (·.2) → Q (.free (way t.mask z N) false) s) : ∀ (f c : Nat) (from_ : Option SetTable.Probe), from_.getD (t.probeStart z) = stepAt t.mask z c → c ≤ N → N - c < f →
      (∀ (i : Nat) p, L[i]? = some p → p.2 = k → ∃ j, c ≤ j ∧ j < N ∧ t.place.toList[i]? = some (way t.mask z j)) → wpAny (model P w) A (setSearchFrom a (.ref x) z true f from_) Q E s
  | 0, _, _, _, _, lt, _ => absurd lt (Nat.not_lt_zero _)
  | f + 1, c, from_, hst, hc, lt, ahead => by
    rw [setSearchFrom_succ]
    refine wpAny_bind (wpAny_setState_of R.at_ R.data R.fits ?_)
    dsimp only
    refine wp_if_neg R.sound ?_
    try refine wpAny_bind (wpAny_pure ?_)
    have pl : ∀ q, (nth t.mask (stepAt t.mask z c) q).j = way t.mask z (c + q) := fun q => congrArg SetTable.Probe.j (step_add t.mask z c q)
    have rest : c + (N - c) = N := by omega
    have hashOf : ∀ (i : Nat) p, L[i]? = some p → (fun i => (es[i]?.map (·.1)).getD 0) i = p.2.hash w := fun i p hp => by
      show (es[i]?.map (·.1)).getD 0 = _
      rw [R.entry hp] <;> rfl
    rcases go_spec t R.tab.ris R.tab.dm (fun i => (es[i]?.map (·.1)).getD 0) z (10 * SetTable.turns t.mask) (N - c) (stepAt t.mask z c) (step_dummy _ _ _ rfl) (by omega) (fun q hq => by rw [pl]; exact busy (c + q) (by omega)) (by rw [pl, rest]; exact free) with ⟨q, i, lq, hi, hh, before, ans⟩ | ⟨before, ans⟩
    · have ans2 : t.probe (fun i => (es[i]?.map (·.1)).getD 0) z (from_.getD (t.probeStart z)) = some (.candidate (way t.mask z (c + q)) i (stepAt t.mask z (c + (q + 1)))) := by
        rw [hst, ← pl, ← step_add]
        exact ans
      rw [ans2]
      dsimp only
      rw [pl] at hi
      have li : i < L.length := by
        have h1 := (List.getElem?_eq_some_iff.mp hi).1
        have h2 : t.place.size = L.length := by simpa using R.tab.sz
        rw [Array.length_toList] at h1
        omega
      obtain ⟨p, hp⟩ : ∃ p, L[i]? = some p := ⟨_, List.getElem?_eq_getElem li⟩
      have inL : p ∈ L := List.mem_of_getElem? hp
      have kp := R.keys p inL
      have tail : wpAny (model P w) A (searchRest a (.ref x) z true f es t (way t.mask z (c + q)) i (stepAt t.mask z (c + (q + 1)))) Q E s := by
        unfold searchRest
        rw [R.entry hp]
        dsimp only
        have ask : A.units + min p.2.depth k.depth < cLine := by
          have := kp.low
          omega
        refine wpAny_bind (wpAny_holding (eqAt_key p.2 k A s _ _ kp.is hx.is ask _ _ _ _ ?_))
        refine wpAny_bind (wpAny_setState_of R.at_ R.data R.fits ?_)
        dsimp only
        by_cases e : p.2 = k
        · have eb : NestedKey.beq p.2 k = true := by rw [e]; exact NestedKey.beq_self k
          rw [eb]
          refine wp_if_pos rfl (wpAny_pure (yes ?_))
          exact List.mem_map.mpr ⟨p, inL, e⟩
        · have eb : NestedKey.beq p.2 k = false := by
            cases q : NestedKey.beq p.2 k with
            | false => rfl
            | true => exact absurd (NestedKey.eq_of_beq _ _ q) e
          rw [eb]
          refine wp_if_neg (by simp) ?_
          try refine wpAny_bind (wpAny_pure ?_)
          rw [sameMem]
          dsimp only
          have live : t.slot (way t.mask z (c + q)) = .live i := slot_live R.tab.ris hi
          simp only [if_true, live, R.entry hp]
          refine wpAny_bind (wpAny_isSame_ref_self (wpAny_bind (wpAny_pure ?_)))
          simp only [if_true]
          refine wp_if_neg (by simp) ?_
          refine nset_from R hx hu ez free busy small yes no f (c + (q + 1)) _ rfl (by omega) (by omega) fun i0 p0 h0 hk0 => ?_
          obtain ⟨j, a1, a2, a3⟩ := ahead i0 p0 h0 hk0
          refine ⟨j, ?_, a2, a3⟩
          rcases Nat.lt_trichotomy j (c + q) with u | u | u
          · refine absurd ((hashOf i0 p0 h0).trans (by rw [hk0, ez])) (before (j - c) i0 (by omega) ?_)
            rw [pl, show c + (j - c) = j by omega]
            exact a3
          · subst u
            have l2 := slot_live R.tab.ris a3
            rw [live] at l2
            injection l2 with l2
            rw [← l2, hp] at h0
            exact absurd ((congrArg Prod.snd (Option.some.inj h0)).trans hk0) e
          · omega
      by_cases l : t.led = true
      · refine wp_if_neg (by simp [l]) ?_
        try refine wpAny_bind (wpAny_pure ?_)
        exact tail
      · refine wp_if_pos (by simp [l]) (wpAny_bind (seen_no hx (fun y hy => ?_) ?_))
        · obtain ⟨e, he, rfl⟩ := List.mem_map.mp hy
          have h1 : e ∈ es ∧ e.1 = z := by simpa using he
          have h2 : e ∈ es.toList := by simpa using h1.1
          rw [R.rows] at h2
          obtain ⟨p2, hp2, rfl⟩ := List.mem_map.mp h2
          exact ⟨p2.2, p2.1, rfl, R.keys p2 hp2⟩
        · refine wp_if_neg (by decide) ?_
          try refine wpAny_bind (wpAny_pure ?_)
          exact tail
    · have ans2 : t.probe (fun i => (es[i]?.map (·.1)).getD 0) z (from_.getD (t.probeStart z)) = some (.empty (way t.mask z N) none) := by
        have e2 : way t.mask z N = (nth t.mask (stepAt t.mask z c) (N - c)).j := by rw [pl, rest]
        rw [hst, e2]
        exact ans
      rw [ans2]
      dsimp only
      refine wpAny_pure (no fun hm => ?_)
      obtain ⟨p0, h0, hk0⟩ := List.mem_map.mp hm
      obtain ⟨i0, li, e0⟩ := List.getElem_of_mem h0
      have h00 : L[i0]? = some p0 := by rw [List.getElem?_eq_getElem li, e0]
      obtain ⟨j, a1, a2, a3⟩ := ahead i0 p0 h00 hk0
      refine before (j - c) i0 (by omega) (by rw [pl, show c + (j - c) = j by omega]; exact a3) ?_
      exact (hashOf i0 p0 h00).trans (by rw [hk0, ez])
theorem nset_search (R : NSet w s.heap a L o es ep t) {x : Addr} {k : NestedKey} (hx : TupK s.heap k x) (hu : A.units + 8 < cLine) {Q : SetFound → Shared → Prop} (yes : k ∈ L.map (·.2) → Q (.there none) s)
    (no : ∀ N, k ∉ L.map (·.2) → way t.mask (k.hash w) N ∉ t.place.toList → (∀ c, c < N → way t.mask (k.hash w) c ∈ t.place.toList) → Q (.free (way t.mask (k.hash w) N) false) s) : wpAny (model P w) A (setSearch a (.ref x) (k.hash w) true) Q E s := by
  have rm := R.room
  obtain ⟨N, small, free, busy⟩ := R.tab.first (by rw [List.length_map]; omega) (k.hash w)
  have lim : N < 100000 := by
    have : 10 * SetTable.turns t.mask ≤ 1420 := by
      unfold SetTable.turns
      rcases R.tab.mok with e | e | e <;> omega
    omega
  unfold setSearch
  refine nset_from R hx hu rfl free busy small yes (fun out => no N out free busy) 100000 0 none rfl (Nat.zero_le _) (by omega) fun i p hp hk => ?_
  have hi : (kh w L)[i]? = some (k.hash w) := by rw [List.getElem?_map, hp, ← hk] <;> rfl
  have li : i < t.place.toList.length := by
    have h1 := (List.getElem?_eq_some_iff.mp hp).1
    have h2 : t.place.size = L.length := by simpa using R.tab.sz
    rw [Array.length_toList]
    omega
  have hj := List.getElem?_eq_getElem li
  obtain ⟨c, lc, e⟩ := R.tab.before free hi hj
  exact ⟨c, Nat.zero_le _, lc, by rw [hj, e]⟩
end
end Ev
set_option Elab.async false
set_option linter.all false
set_option autoImplicit false
set_option maxRecDepth 100000
set_option maxHeartbeats 2000000
namespace Ev
open PySem PySem.Spec L2 PyProof.Rows
theorem nested_same {h h' : Heap} {a b : Addr} {o : Obj} {es : Array Row} {ep : Nat} {t : SetTable} {k : NestedKey} (r : TupK h k b) (ho : h.get? a = some o) (hd : o.data = .set es ep t) (sb : Heap.SameBut a h h') : TupK h' k b :=
  ⟨NestedIs.at (fun c u vs n e1 e2 => by
    refine (sb.2 c fun z => ?_).trans e1
    subst z
    rw [ho] at e1
    cases e1
    rw [hd] at e2
    cases e2) k _ r.is, r.low⟩
theorem nested_keep {h h' : Heap} {b : Addr} {k : NestedKey} (r : TupK h k b) (kp : ∀ c u, h.get? c = some u → h'.get? c = some u) : TupK h' k b := ⟨NestedIs.at (fun c u _ _ e _ => kp c u e) k _ r.is, r.low⟩
theorem rows_in {w : World} (L : KL) (p : Nat) (x : Addr) (k : NestedKey) : kr w (L.take p ++ (x, k) :: L.drop p) = (kr w L).take p ++ (k.hash w, Value.ref x) :: (kr w L).drop p := by
  unfold kr
  rw [List.map_append, List.map_cons, List.map_take, List.map_drop]
/-- the rows in another order -/
theorem rows_by {w : World} {L : KL} {es : Array Row} {order : Array Nat} (hr : es.toList = kr w L) (hp : order.toList.Perm (List.range L.length)) :
    ∃ L2, (order.filterMap (es[·]?)).toList = kr w L2 ∧ L2.Perm L ∧ kh w L2 = order.toList.map fun i => (es.map (·.1)).getD i 0 := by
  have row : ∀ i, es[i]? = (L[i]?).map fun (p : Addr × NestedKey) => (p.2.hash w, Value.ref p.1) := fun i => by rw [← Array.getElem?_toList, hr]; unfold kr; rw [List.getElem?_map]
  have walk : ∀ l : List Nat, (∀ i ∈ l, i < L.length) → l.filterMap (fun i => es[i]?) = kr w (l.filterMap fun i => L[i]?) ∧ kh w (l.filterMap fun i => L[i]?) = l.map fun i => (es.map (·.1)).getD i 0 := by
    intro l
    induction l with
    | nil => intro _; exact ⟨rfl, rfl⟩
    | cons i l ih =>
      intro hl
      obtain ⟨p, hi⟩ : ∃ p, L[i]? = some p := ⟨_, List.getElem?_eq_getElem (hl i List.mem_cons_self)⟩
      obtain ⟨e1, e2⟩ := ih fun j hj => hl j (List.mem_cons_of_mem _ hj)
      have r1 : es[i]? = some (p.2.hash w, Value.ref p.1) := by rw [row i, hi]; rfl
      rw [List.filterMap_cons_some r1, List.filterMap_cons_some hi, e1]
      refine ⟨rfl, ?_⟩
      unfold kh at e2 ⊢
      rw [List.map_cons, List.map_cons, e2]
      have r2 : (es.map (·.1))[i]? = some (p.2.hash w) := by rw [Array.getElem?_map, r1]; rfl
      congr 1
      simp [Array.getD_eq_getD_getElem?, r2]
  obtain ⟨e1, e2⟩ := walk order.toList fun i hi => List.mem_range.mp (hp.mem_iff.mp hi)
  refine ⟨order.toList.filterMap fun i => L[i]?, by first | (rw [Array.toList_filterMap]; exact e1) | simpa using e1, ?_, e2⟩
  have full : (List.range L.length).filterMap (fun i => L[i]?) = L := by
    have upto : ∀ n, n ≤ L.length → (List.range n).filterMap (fun i => L[i]?) = L.take n := by
      intro n
      induction n with
      | zero => intro _; rfl
      | succ n ih =>
        intro hn
        have lt : n < L.length := hn
        rw [List.range_succ, List.filterMap_append, ih (Nat.le_of_lt lt), List.take_succ, List.getElem?_eq_getElem lt, List.filterMap_cons_some (List.getElem?_eq_getElem lt)] <;> rfl
    rw [upto L.length (Nat.le_refl _), List.take_length]
  have q := hp.filterMap (fun i => L[i]?)
  rw [full] at q
  exact q
section
variable {P : Program} {w : World} {A : Around} {E : Value → Shared → Prop} {s : Shared} {a : Addr} {L : KL} {o : Obj} {es : Array Row} {ep : Nat} {t : SetTable}
/-- there is such a set at a -/
def NSetAt (w : World) (h : Heap) (a : Addr) (L : KL) : Prop := ∃ o es ep t, NSet w h a L o es ep t
theorem nset_relay (ho : s.heap.get? a = some o) (hx : o.ExactSet) (hd : o.data = .set es ep t) (hr : es.toList = kr w L) (sz : t.place.size = es.size) (dm : t.dummies = #[]) (fl : es.size ≤ t.mask) (one : (L.map (·.2)).Nodup) (keys : ∀ p ∈ L, TupK s.heap p.2 p.1)
    (told : w.params.followText "set-order" = true ∨ t.led = true) (few : L.length < 64) {want M : Nat} (hw : SetTable.sizeAbove want - 1 = M) (hM : MaskOk M) (hw2 : SetTable.sizeAbove want ≤ 128) (hn : L.length * 5 < M * 3) {Q : Unit → Shared → Prop}
    (hQ : ∀ h' L', Heap.SameBut a s.heap h' → NSetAt w h' a L' → L'.Perm L → Q () { s with heap := h' }) : wpAny (model P w) A (setRelay a want) Q E s := by
  have sl : es.size = L.length := by
    have := congrArg List.length hr
    simpa using this
  have fits : t.fits es.size = true := by
    unfold SetTable.fits SetTable.fill
    rw [dm, Bool.and_eq_true, beq_iff_eq, decide_eq_true_eq]
    refine ⟨sz, ?_⟩
    show t.place.size + 0 ≤ t.mask
    omega
  obtain ⟨t2, order, e, hp, T, em, el, _, ed⟩ := relaid_ok t (hs := es.map (·.1)) (wanted := want) hw hM (by rw [Array.size_map, sl]; omega)
  rw [Array.size_map, sl] at hp
  obtain ⟨L2, r1, r2, r3⟩ := rows_by hr hp
  rw [← r3] at T
  have s2 : (order.filterMap (es[·]?)).size = es.size := by
    have := congrArg List.length r1
    rw [Array.length_toList, List.length_map, r2.length_eq] at this
    rw [this, sl]
  rw [setRelay_eq]
  refine wpAny_bind (wpAny_setState_of ho hd fits ?_)
  dsimp only
  refine wp_if_neg (by rw [sizeLine_eq]; omega) ?_
  try refine wpAny_bind (wpAny_pure ?_)
  rw [e]
  dsimp only
  refine wpAny_bind (wp_if_neg (by rw [s2]; simp) ?_)
  try refine wpAny_bind (wpAny_pure ?_)
  refine wpAny_pure ?_
  dsimp only
  refine wpAny_storeSet_of ho hd ?_ (by rw [s2, sl, sizeLine_eq]; omega)
  have sb : Heap.SameBut a s.heap (s.heap.update a (Obj.putSet (order.filterMap (es[·]?)) t2)) := Heap.SameBut.update ..
  refine hQ _ L2 sb ⟨_, order.filterMap (es[·]?), ep + 1, t2, _root_.L2.store_at ho hd, ⟨hx.1, hx.2.1, hx.2.2⟩, rfl, r1, T, (r2.map (·.2)).nodup_iff.mpr one, fun p hpm => nested_same (keys p (r2.mem_iff.mp hpm)) ho hd sb, by rw [el]; exact told, by rw [r2.length_eq, em]; exact hn, by rw [r2.length_eq]; exact few⟩ r2
theorem nset_put (R0 : NSetAt w s.heap a L) {x : Addr} {k : NestedKey} (hx : TupK s.heap k x) (hu : A.units + 8 < cLine) (few : L.length + 1 < 64) {Q : Bool → Shared → Prop}
    (hQ : ∀ b h' L', Heap.SameBut a s.heap h' → NSetAt w h' a L' → (k ∈ L.map (·.2) → L' = L) → (k ∉ L.map (·.2) → L'.Perm ((x, k) :: L)) → Q b { s with heap := h' }) : wpAny (model P w) A (setAddHashed a (.ref x) (k.hash w)) Q E s := by
  obtain ⟨o, es, ep, t, R⟩ := R0
  have sl := R.size
  have rm := R.room
  unfold setAddHashed
  refine wpAny_holding ?_
  rw [show (100000 : Nat) = 99999 + 1 from rfl, setAddHashedIn_succ]
  refine wpAny_bind (wpAny_setState_of R.at_ R.data R.fits ?_)
  dsimp only
  refine wp_if_neg (by simp [byScan, Value.scannable]) ?_
  try refine wpAny_bind (wpAny_pure ?_)
  refine wpAny_bind (nset_search R hx hu (fun hm => ?_) fun N out free busy => ?_)
  · dsimp only
    exact wpAny_pure (hQ false s.heap L (Heap.SameBut.refl a s.heap) ⟨o, es, ep, t, R⟩ (fun _ => rfl) fun z => absurd hm z)
  · dsimp only
    refine wpAny_bind (wpAny_setState_of R.at_ R.data R.fits ?_)
    dsimp only
    obtain ⟨q1, q2, q3, q4, q5, q6, q7, q8, q9⟩ := R.tab.put free busy
    revert q1 q3 q4 q5 q6 q7 q8 q9
    generalize t.put (way t.mask (k.hash w) N) = pt
    obtain ⟨t1, p⟩ := pt
    intro q1 q3 q4 q5 q6 q7 q8 q9
    dsimp only at q1 q3 q4 q5 q6 q7 q8 q9 ⊢
    subst q1
    -- from here on the table may have lost its plainness
    have go : ∀ t2 : SetTable, t2.place = t1.place → t2.mask = t1.mask → t2.dummies = t1.dummies → t2.led = t1.led → TabOk t2 ((kh w L).take (SetTable.below t.place (way t.mask (k.hash w) N)) ++ k.hash w :: (kh w L).drop (SetTable.below t.place (way t.mask (k.hash w) N))) → t2.fill = (kh w L).length + 1 →
        wpAny (model P w) A (do
          storeSet a (SetTable.insertAt es (SetTable.below t.place (way t.mask (k.hash w) N)) (k.hash w, Value.ref x)) t2
          if (!false && t2.tooFull) = true then setRelay a (SetTable.grown (es.size + 1))
          return true) Q E s := by
      intro t2 _ em _ el T2 fill
      have ins : (SetTable.insertAt es (SetTable.below t.place (way t.mask (k.hash w) N)) (k.hash w, Value.ref x)).toList = kr w (L.take (SetTable.below t.place (way t.mask (k.hash w) N)) ++ (x, k) :: L.drop (SetTable.below t.place (way t.mask (k.hash w) N))) := by
        rw [SetTable.toList_insertAt, rows_in, R.rows]
      revert ins T2
      generalize SetTable.insertAt es (SetTable.below t.place (way t.mask (k.hash w) N)) (k.hash w, Value.ref x) = es1
      generalize SetTable.below t.place (way t.mask (k.hash w) N) = j
      intro T2 ins
      have pm := put_perm L j (x, k)
      have hh : kh w (L.take j ++ (x, k) :: L.drop j) = (kh w L).take j ++ k.hash w :: (kh w L).drop j := by
        unfold kh
        rw [List.map_append, List.map_cons, List.map_take, List.map_drop]
      rw [← hh] at T2
      revert ins T2 pm
      generalize L.take j ++ (x, k) :: L.drop j = L1
      intro T2 ins pm
      have len : L1.length = L.length + 1 := pm.length_eq
      have one1 : (L1.map (·.2)).Nodup := (pm.map (·.2)).nodup_iff.mpr (List.nodup_cons.mpr ⟨out, R.one⟩)
      have s1 : es1.size = L.length + 1 := by
        have := congrArg List.length ins
        rw [Array.length_toList, List.length_map, len] at this
        exact this
      have fl : t2.fill = L.length + 1 := by rw [fill, List.length_map]
      have mk : t2.mask = t.mask := em.trans q4
      refine wpAny_bind (wpAny_storeSet_of R.at_ R.data ?_ (by rw [s1, sizeLine_eq]; omega))
      have sb : Heap.SameBut a s.heap (s.heap.update a (Obj.putSet es1 t2)) := Heap.SameBut.update ..
      have h1 := _root_.L2.store_at (es' := es1) (t' := t2) R.at_ R.data
      revert sb h1
      generalize s.heap.update a (Obj.putSet es1 t2) = hp1
      intro sb h1
      have keys1 : ∀ p ∈ L1, TupK hp1 p.2 p.1 := fun p hp => by
        rcases List.mem_cons.mp (pm.mem_iff.mp hp) with e | hp
        · rw [e]; exact nested_same hx R.at_ R.data sb
        · exact nested_same (R.keys p hp) R.at_ R.data sb
      have told1 : w.params.followText "set-order" = true ∨ t2.led = true := by rw [el, q5]; exact R.told
      by_cases full : t2.tooFull = true
      · have lots : (L.length + 1) * 5 ≥ t2.mask * 3 := by
          have h := full
          unfold SetTable.tooFull at h
          rw [decide_eq_true_eq, fl] at h
          exact h
        rw [sl]
        have ps : t2.place.size = es1.size := by rw [T2.sz, List.length_map, len, s1]
        have two : (t.mask = 7 ∧ L.length = 4) ∨ (t.mask = 31 ∧ L.length = 18) := by
          rw [mk] at lots
          rcases R.tab.mok with e | e | e
          · left; rw [e] at lots rm; exact ⟨e, by omega⟩
          · right; rw [e] at lots rm; exact ⟨e, by omega⟩
          · exfalso; rw [e] at lots; omega
        have grow : ∀ M, SetTable.sizeAbove (SetTable.grown (L.length + 1)) - 1 = M → MaskOk M → SetTable.sizeAbove (SetTable.grown (L.length + 1)) ≤ 128 → (L.length + 1) * 5 < M * 3 →
            wpAny (model P w) A (setRelay a (SetTable.grown (L.length + 1))) (fun _ s' => wpAny (model P w) A (pure true) Q E s') E { s with heap := hp1 } := fun M a1 a2 a3 a4 =>
          nset_relay (s := { s with heap := hp1 }) h1 ⟨R.exact_.1, R.exact_.2.1, R.exact_.2.2⟩ rfl ins ps T2.dm (by rw [s1, mk]; rcases two with ⟨e, e2⟩ | ⟨e, e2⟩ <;> omega) one1 keys1 told1 (by rw [len]; exact few) a1 a2 a3 (by rw [len]; exact a4)
            fun h' L' sb' N' pm' => wpAny_pure (hQ true h' L' (sb.trans sb') N' (fun z => absurd z out) fun _ => pm'.trans pm)
        first
          | (refine wpAny_bind ?_; refine wp_if_pos (by simp [full]) ?_)
          | (refine wp_if_pos (by simp [full]) ?_; refine wpAny_bind ?_)
        rcases two with ⟨_, e2⟩ | ⟨_, e2⟩
        · exact grow 31 (by rw [e2, size_20]) (.inr (.inl rfl)) (by rw [e2, size_20]; decide) (by omega)
        · exact grow 127 (by rw [e2, size_76]) (.inr (.inr rfl)) (by rw [e2, size_76]; decide) (by omega)
      · first
          | refine wp_if_neg (by simp [full]) ?_
          | (refine wpAny_bind ?_; refine wp_if_neg (by simp [full]) ?_; refine wpAny_pure ?_)
        refine wpAny_pure (hQ true hp1 L1 sb ⟨_, es1, ep + 1, t2, h1, ⟨R.exact_.1, R.exact_.2.1, R.exact_.2.2⟩, rfl, ins, T2, one1, keys1, told1, ?_, by rw [len]; exact few⟩ (fun z => absurd z out) fun _ => pm)
        have h := full
        unfold SetTable.tooFull at h
        rw [decide_eq_true_eq, fl] at h
        rw [len]
        omega
    have plain_off : ∀ t2 : SetTable, t2 = t1 ∨ t2 = { t1 with plain := false } → wpAny (model P w) A (do
          storeSet a (SetTable.insertAt es (SetTable.below t.place (way t.mask (k.hash w) N)) (k.hash w, Value.ref x)) t2
          if (!false && t2.tooFull) = true then setRelay a (SetTable.grown (es.size + 1))
          return true) Q E s := fun t2 e => by
      rcases e with rfl | rfl
      · exact go _ rfl rfl rfl rfl q3 q9
      · exact go _ rfl rfl rfl rfl ⟨q3.ris, q3.dm, q3.sz, q3.mok, q3.bd, q3.reach⟩ q9
    by_cases pl : t1.plain = true
    · first
        | (refine wpAny_bind ?_; refine wp_if_pos pl ?_; refine hash_any 8 k _ s _ hx.is fun b => ?_)
        | refine wp_if_pos pl (wpAny_bind (hash_any 8 k _ s _ hx.is fun b => ?_))
      cases b with
      | true => exact plain_off _ (.inl rfl)
      | false => exact plain_off _ (.inr rfl)
    · first
        | (refine wpAny_bind ?_; refine wp_if_neg pl ?_; refine wpAny_pure ?_)
        | refine wp_if_neg pl ?_
      exact plain_off _ (.inl rfl)
end
end Ev
set_option Elab.async false
set_option linter.all false
set_option autoImplicit false
set_option maxRecDepth 100000
set_option maxHeartbeats 4000000
namespace Ev
open PySem PySem.Spec L2 PyProof.Rows PySem.W PySem.Calls
theorem putN_in {ks : List NestedKey} {k : NestedKey} (h : k ∈ ks) : putN ks k = ks := by
  have e : (ks.any fun j => NestedKey.beq j k) = true := List.any_eq_true.mpr ⟨k, h, NestedKey.beq_self k⟩
  unfold putN
  rw [if_pos e]
theorem putN_out {ks : List NestedKey} {k : NestedKey} (h : k ∉ ks) : putN ks k = ks ++ [k] := if_neg fun z => by
  obtain ⟨j, hj, e⟩ := List.any_eq_true.mp z
  exact h (NestedKey.eq_of_beq _ _ e ▸ hj)
theorem putN_len (ks : List NestedKey) (k : NestedKey) : (putN ks k).length ≤ ks.length + 1 := by
  by_cases h : k ∈ ks
  · rw [putN_in h]; exact Nat.le_succ _
  · rw [putN_out h]; simp
/-- at a stands the set of these nested keys -/
def TSet (w : World) (h : Heap) (a : Addr) (ks : List NestedKey) : Prop := ∃ L, NSetAt w h a L ∧ (L.map (·.2)).Perm ks
section
variable {P : Program} {w : World} {A : Around} {E : Value → Shared → Prop} {s : Shared} {a : Addr}
theorem tset_put {ks : List NestedKey} {x : Addr} {k : NestedKey} {Q : Bool → Shared → Prop} (R : TSet w s.heap a ks) (hx : TupK s.heap k x) (hu : A.units + 8 < cLine) (few : ks.length + 1 < 64)
    (hQ : ∀ b h', Heap.SameBut a s.heap h' → TSet w h' a (putN ks k) → Q b { s with heap := h' }) : wpAny (model P w) A (setAddHashed a (.ref x) (k.hash w)) Q E s := by
  obtain ⟨L, N, pm⟩ := R
  have len : L.length = ks.length := by simpa using pm.length_eq
  refine nset_put N hx hu (by omega) fun b h' L' sb N' c1 c2 => hQ b h' sb ⟨L', N', ?_⟩
  by_cases c : k ∈ L.map (·.2)
  · rw [c1 c, putN_in (pm.mem_iff.mp c)]
    exact pm
  · rw [putN_out (fun z => c (pm.mem_iff.mpr z))]
    refine ((c2 c).map fun p : Addr × NestedKey => p.2).trans ?_
    rw [List.map_cons]
    exact (List.Perm.cons k pm).trans (List.perm_append_singleton k ks).symm
theorem tset_new {h : Heap} (ho : h.get? a = some (emptySet w)) : TSet w h a [] :=
  ⟨[], ⟨_, #[], 0, _, { at_ := ho, exact_ := ⟨rfl, rfl, rfl⟩, data := rfl, rows := rfl, one := List.nodup_nil, keys := fun p hp => (by cases hp), room := (by show 0 * 5 < 7 * 3; decide), few := (by show 0 < 64; decide)
                        tab := ⟨List.Pairwise.nil, rfl, rfl, .inl rfl, fun x hx => (by cases hx), fun i z j hi => (by simp [kh] at hi)⟩
                        told := (by
                          show _ ∨ (!w.params.followText "set-order") = true
                          cases w.params.followText "set-order"
                          · exact .inr rfl
                          · exact .inl rfl) }⟩, .nil⟩
/-- the set stays while it and the tuples do -/
theorem TSet.at {h h' : Heap} {ks : List NestedKey} (R : TSet w h a ks) (kp : ∀ b o, h.get? b = some o → h'.get? b = some o) : TSet w h' a ks := by
  obtain ⟨L, ⟨o, es, ep, t, N⟩, pm⟩ := R
  exact ⟨L, ⟨o, es, ep, t, kp _ _ N.at_, N.exact_, N.data, N.rows, N.tab, N.one, fun p hp => nested_keep (N.keys p hp) kp, N.told, N.room, N.few⟩, pm⟩
end
end Ev
set_option Elab.async false
set_option linter.all false
set_option autoImplicit false
set_option maxRecDepth 100000
set_option maxHeartbeats 4000000
namespace Ev
open PySem PySem.Spec L2 PyProof.Rows PySem.W PySem.Calls
/-- .. of each member O is known -/
def TSet0 (w : World) (O : NestedKey → Addr → Prop) (h : Heap) (a : Addr) (ks : List NestedKey) : Prop := ∃ L, NSetAt w h a L ∧ (L.map (·.2)).Perm ks ∧ ∀ p ∈ L, O p.2 p.1
section
variable {P : Program} {w : World} {A : Around} {E : Value → Shared → Prop} {s : Shared} {a : Addr}
theorem TSet0.at {O : NestedKey → Addr → Prop} {h0 h h' : Heap} {ks : List NestedKey} (hO : ∀ k b, O k b → TupK h0 k b) (R : TSet0 w O h a ks) (ha : ∀ o, h.get? a = some o → h'.get? a = some o) (kp : ∀ b o, h0.get? b = some o → h'.get? b = some o) : TSet0 w O h' a ks := by
  obtain ⟨L, ⟨o, es, ep, t, N⟩, pm, old⟩ := R
  exact ⟨L, ⟨o, es, ep, t, ha _ N.at_, N.exact_, N.data, N.rows, N.tab, N.one, fun p hp => nested_keep (hO _ _ (old p hp)) kp, N.told, N.room, N.few⟩, pm, old⟩
theorem tset0_put {O : NestedKey → Addr → Prop} {ks : List NestedKey} {x : Addr} {k : NestedKey} {Q : Bool → Shared → Prop} (R : TSet0 w O s.heap a ks) (h0x : O k x) (hx : TupK s.heap k x) (hu : A.units + 8 < cLine) (few : ks.length + 1 < 64)
    (hQ : ∀ b h', Heap.SameBut a s.heap h' → TSet0 w O h' a (putN ks k) → Q b { s with heap := h' }) : wpAny (model P w) A (setAddHashed a (.ref x) (k.hash w)) Q E s := by
  obtain ⟨L, N, pm, old⟩ := R
  have len : L.length = ks.length := by simpa using pm.length_eq
  refine nset_put N hx hu (by omega) fun b h' L' sb N' c1 c2 => hQ b h' sb ⟨L', N', ?_⟩
  by_cases c : k ∈ L.map (·.2)
  · rw [c1 c, putN_in (pm.mem_iff.mp c)]
    exact ⟨pm, old⟩
  · rw [putN_out (fun z => c (pm.mem_iff.mpr z))]
    have q := c2 c
    refine ⟨(q.map fun p : Addr × NestedKey => p.2).trans ?_, fun p hp => ?_⟩
    · rw [List.map_cons]
      exact (List.Perm.cons k pm).trans (List.perm_append_singleton k ks).symm
    · rcases List.mem_cons.mp (q.mem_iff.mp hp) with e | hp
      · rw [e]; exact h0x
      · exact old p hp
theorem tset0_new {O : NestedKey → Addr → Prop} {h : Heap} (ho : h.get? a = some (emptySet w)) : TSet0 w O h a [] := by
  obtain ⟨L, N, pm⟩ := tset_new (w := w) ho
  have e : L = [] := by
    have := pm.length_eq
    rw [List.length_map, List.length_nil] at this
    exact List.length_eq_zero_iff.mp this
  subst e
  exact ⟨[], N, pm, fun p hp => by cases hp⟩
theorem fold_few : ∀ (l acc : List NestedKey), (l.foldl putN acc).length ≤ acc.length + l.length
  | [], _ => Nat.le_refl _
  | k :: l, acc => by
    have := fold_few l (putN acc k)
    have := putN_len acc k
    rw [List.foldl_cons, List.length_cons]
    omega
/-- set.update's loop over tuples that stand in h0 -/
theorem tset_loop {J S : Addr} {fp wr : List Addr} {G : Array GenState → Array GenState → Prop} {Pv : Nat → Value → Prop} {St : Nat → Shared → Prop} {B : Result → Shared → Prop} {ks : List NestedKey} {h0 : Heap} {O : NestedKey → Addr → Prop} (hO : ∀ k b, O k b → TupK h0 k b) (W : WalksS P w A.in1 J fp wr G ks.length Pv St) (off : S ∉ fp) (new : h0.get? S = none) (neww : ∀ b ∈ wr, h0.get? b = none) (few : ks.length < 63) (hu : A.in1.units + 8 < cLine)
    (hv : ∀ i v, Pv i v → ∃ k b, ks[i]? = some k ∧ v = .ref b ∧ O k b) : ∀ (todo i : Nat) (s : Shared) (acc : List NestedKey), i + todo = ks.length → St i s → (∀ b o, h0.get? b = some o → s.heap.get? b = some o) → TSet0 w O s.heap S acc → acc.length ≤ i →
      (∀ s', Moved (S :: wr) G s s' → TSet0 w O s'.heap S ((ks.drop i).foldl putN acc) → B (.ok (.ret .none)) s') → codeAny (model P w) A (.builtin "set.update.loop" ⟨[.ref S, .ref J], []⟩) B s := by
  have offw : S ∉ wr := fun z => off (W.sub _ z)
  have up : ∀ b ∈ wr, b ∈ S :: wr := fun b z => List.mem_cons_of_mem _ z
  have stay : ∀ {s s1 : Shared}, Moved wr G s s1 → (∀ b o, h0.get? b = some o → s.heap.get? b = some o) → ∀ b o, h0.get? b = some o → s1.heap.get? b = some o := fun mv kp b o e => mv.heap b o (fun z => by rw [neww b z] at e; cases e) (kp b o e)
  intro todo
  induction todo with
  | zero =>
    intro i s acc hi hst kp R _ hB
    obtain rfl : i = ks.length := hi
    rw [List.drop_length] at hB
    refine codeAny_builtin F.entry_set_update_loop ?_
    rw [Around.under_plainId F.plain_set_update_loop _]
    show wpAny _ A.in1 (pyNext (.ref J) >>= _) _ _ s
    refine wpAny_bind (W.done s _ _ hst fun s1 mv => ?_)
    show wpAny _ A.in1 (ret Value.none) _ _ s1
    exact wpAny_pure (hB s1 (mv.mono up) (R.at hO (fun o q => mv.heap S o offw q) (stay mv kp)))
  | succ todo ih =>
    intro i s acc hi hst kp R hl hB
    have lt : i < ks.length := by omega
    refine codeAny_builtin F.entry_set_update_loop ?_
    rw [Around.under_plainId F.plain_set_update_loop _]
    show wpAny _ A.in1 (pyNext (.ref J) >>= _) _ _ s
    refine wpAny_bind (W.item i s _ _ lt hst fun v s1 pv st1 mv => ?_)
    obtain ⟨k, b, hk, rfl, tk⟩ := hv i v pv
    have kp1 := stay mv kp
    have R1 : TSet0 w O s1.heap S acc := R.at hO (fun o q => mv.heap S o offw q) kp1
    have t1 : TupK s1.heap k b := nested_keep (hO _ _ tk) kp1
    show wpAny _ A.in1 (holding [Value.ref b] (setAdd S (.ref b)) >>= _) _ _ s1
    refine wpAny_bind (wpAny_holding ?_)
    unfold setAdd
    refine wpAny_holding (wpAny_bind (pyHash_key k _ _ s1 _ t1.is (by have := t1.low; omega) ?_))
    refine tset0_put (s := { s1 with toks := s1.toks + k.draws }) R1 tk t1 hu (by omega) fun _ h2 sb R2 => ?_
    have dr : ks.drop i = k :: ks.drop (i + 1) := by
      rw [List.drop_eq_getElem_cons lt]
      congr 1
      exact Option.some.inj ((List.getElem?_eq_getElem lt).symm.trans hk)
    rw [dr] at hB
    have same : ∀ c, c ≠ S → ∀ o, s1.heap.get? c = some o → h2.get? c = some o := fun c hc o q => (sb.2 c hc).trans q
    refine wpAny_pure ⟨plainId_quiet F.plain_set_update_loop _, ih (i + 1) _ (putN acc k) (by omega) (W.frame _ s1 _ _ st1 (Nat.le_add_right _ _) fun c hc o q => same c (fun z => off (z ▸ hc)) o q) (fun c o e => same c (fun z => by rw [z, new] at e; cases e) o (kp1 c o e)) R2 (Nat.le_trans (putN_len _ _) (Nat.succ_le_succ hl)) fun s3 mv3 R3 => ?_⟩
    exact hB s3 (Moved.trans W.gtrans ((mv.mono up).then_heap (Nat.le_add_right _ _) fun c o hc q => same c (fun z => hc (z ▸ List.mem_cons_self)) o q) mv3) R3
/-- set(xs), xs nested tuples -/
theorem tset_call {l : Addr} {T : String} {items : Array Value} {ks : List NestedKey} {O : NestedKey → Addr → Prop} (hO : ∀ k b, O k b → TupK s.heap k b) {Q : Value → Shared → Prop} (hh : A.handled = none) (hl : (T = "list" ∧ s.heap.IsList l items) ∨ (T = "tuple" ∧ s.heap.IsTuple l items)) (hn : items.size = ks.length) (few : ks.length < 63) (hu : A.units + 16 < cLine)
    (hv : ∀ (i : Nat) (v : Value), items[i]? = some v → ∃ k b, ks[i]? = some k ∧ v = .ref b ∧ O k b)
    (h : ∀ (h' : Heap) (tk : Nat), TSet0 w O h' s.heap.objs.size (ks.foldl putN []) → (∀ b o, s.heap.get? b = some o → h'.get? b = some o) → Q (.ref s.heap.objs.size) { s with heap := h', toks := tk }) :
    wpAny (model P w) A (call (.type "set") [.ref l]) Q E s :=
  set_call hh hl hn (fun A' J fp wr G St s1 B eu W off nw st hS kp fin => tset_loop hO W off (Heap.get?_none_of_le (Nat.le_refl _)) nw few (by rw [eu]; omega) hv ks.length 0 s1 [] (Nat.zero_add _) st kp (tset0_new hS) (Nat.le_refl 0) fun s' mv R => fin s' mv R) h
end
end Ev
set_option Elab.async false
set_option linter.all false
set_option autoImplicit false
set_option maxRecDepth 100000
namespace Ev
open PySem PySem.Spec L2 PyProof.Rows PySem.W PySem.Calls
/-! ### nested tuples as data -/
mutual
theorem nk_kN : ∀ (d : D) (k : NestedKey), nkD d = some k → kN k = d
  | .none, _, h => by simp only [nkD] at h; cases h; rfl
  | .int i, _, h => by simp only [nkD] at h; cases h; rfl
  | .str x, _, h => by simp only [nkD] at h; cases h; rfl
  | .tuple ds, k, h => by
    simp only [nkD] at h
    cases q : nksD ds with
    | none => rw [q] at h; cases h
    | some ks =>
      rw [q] at h
      cases h
      rw [kN, nks_kN ds ks q]
  | .bool _, _, h => by simp [nkD] at h
  | .list _, _, h => by simp [nkD] at h
  | .dict _, _, h => by simp [nkD] at h
theorem nks_kN : ∀ (ds : List D) (ks : List NestedKey), nksD ds = some ks → kNs ks = ds
  | [], _, h => by simp only [nksD] at h; cases h; rfl
  | d :: ds, _, h => by
    simp only [nksD] at h
    cases q : nkD d with
    | none => rw [q] at h; cases h
    | some k =>
      rw [q] at h
      cases q2 : nksD ds with
      | none => rw [q2] at h; cases h
      | some ks =>
        rw [q2] at h
        cases h
        rw [kNs, nk_kN d k q, nks_kN ds ks q2]
end
section
variable {X : Cx} {pins : List (Addr × Obj)} {σ : L2.St} {H HI : Hp} {s : Shared}
mutual
theorem nk_is (I : Inv X pins σ H s) (sub : Same HI H) : ∀ (d : D) (k : NestedKey) (v : V) (u : Value), nkD d = some k → Rp X.K HI v d → RelV v u → NestedIs s.heap k u
  | .none, _, _, _, h, r, q => by simp only [nkD] at h; cases h; cases r; cases q; exact .none
  | .int i, _, _, _, h, r, q => by
    simp only [nkD] at h
    cases h
    cases r
    obtain ⟨t, rfl⟩ := q
    exact .int i t
  | .str x, _, _, _, h, r, q => by
    simp only [nkD] at h
    cases h
    cases r
    obtain ⟨t, rfl⟩ := q
    exact .text x t
  | .tuple ds, _, _, _, h, r, q => by
    simp only [nkD] at h
    cases q2 : nksD ds with
    | none => rw [q2] at h; cases h
    | some ks =>
      rw [q2] at h
      cases h
      cases r with
      | tup h1 n1 a1 =>
        cases q
        obtain ⟨its, rl, ⟨o, e1, e2, n, e3⟩, _⟩ := I.tuple (seqT_mono sub h1)
        exact .tup e1 e2 e3 (nks_is I sub ds ks _ _ q2 a1 rl)
  | .bool _, _, _, _, h, _, _ => by simp [nkD] at h
  | .list _, _, _, _, h, _, _ => by simp [nkD] at h
  | .dict _, _, _, _, h, _, _ => by simp [nkD] at h
theorem nks_is (I : Inv X pins σ H s) (sub : Same HI H) : ∀ (ds : List D) (ks : List NestedKey) (vs : List V) (us : List Value), nksD ds = some ks → RpAll X.K HI vs ds → Vals vs us → NestedAll s.heap ks us
  | [], _, _, _, h, r, q => by simp only [nksD] at h; cases h; cases r; cases q; exact .nil
  | d :: ds, _, _, _, h, r, q => by
    simp only [nksD] at h
    cases q1 : nkD d with
    | none => rw [q1] at h; cases h
    | some k =>
      rw [q1] at h
      cases q2 : nksD ds with
      | none => rw [q2] at h; cases h
      | some ks =>
        rw [q2] at h
        cases h
        cases r with
        | cons r1 r2 =>
          cases q with
          | cons p1 p2 => exact .cons (nk_is I sub d k _ _ q1 r1 p1) (nks_is I sub ds ks _ _ q2 r2 p2)
end
end
/-! ### in order, whatever the order before -/
theorem apart_of : ∀ {l : List D}, apart l = true → ∀ a ∈ l, ∀ b ∈ l, a = b ∨ (dataLt a b || dataLt b a) = true
  | [], _, _, h, _, _ => nomatch h
  | d :: ds, h, a, ha, b, hb => by
    rw [apart, Bool.and_eq_true] at h
    rcases List.mem_cons.mp ha with e1 | m1 <;> rcases List.mem_cons.mp hb with e2 | m2
    · exact .inl (e1.trans e2.symm)
    · rw [e1]; exact .inr (List.all_eq_true.mp h.1 b m2)
    · rw [e2]; exact .inr (by rw [Bool.or_comm]; exact List.all_eq_true.mp h.1 a m1)
    · exact apart_of h.2 a m1 b m2
theorem sortD_apart {a b : List D} (p : a.Perm b) (ap : apart a = true) : sortD (leD false) a = sortD (leD false) b := by
  rw [sortD_eq (leD_tr false) (leD_tot false), sortD_eq (leD_tr false) (leD_tot false)]
  refine List.Perm.eq_of_pairwise (le := fun x y => leD false x y = true) (fun x y hx hy h1 h2 => ?_) (List.pairwise_mergeSort (leD_tr false) (leD_tot false) a) (List.pairwise_mergeSort (leD_tr false) (leD_tot false) b) ((List.mergeSort_perm a _).trans (p.trans (List.mergeSort_perm b _).symm))
  have hx := List.mem_mergeSort.mp hx
  have hy := p.mem_iff.mpr (List.mem_mergeSort.mp hy)
  have g1 : (!dataLt y x) = true := h1
  have g2 : (!dataLt x y) = true := h2
  rcases apart_of ap x hx y hy with e | e
  · exact e
  · rw [(Bool.not_eq_true' _).mp g1, (Bool.not_eq_true' _).mp g2] at e
    cases e
section
variable {X : Cx}
/-- sorted(s), s a set of nested tuples -/
theorem tset_sorted {pins : List (Addr × Obj)} {s : Shared} {σ : L2.St} {H HI : Hp} {a : Addr} {ks : List NestedKey} {Q : VK} (hc : X.calm = true) (hu : X.A.units + 64 < cLine) (I : Inv X pins σ H s) (sub : Same HI H) (R : TSet0 X.w (fun k b => Rp X.K HI (.ref b) (kN k)) s.heap a ks) (ok : okSort (ks.map kN) = true) (ap : apart (ks.map kN) = true)
    (q : ∀ p vs, H p = none → RpAll X.K HI vs (sortD (leD false) (ks.map kN)) → Q (.ref p) (upd H p (.lst vs))) : wpAny (model X.prog X.w) X.A (call (.builtin "sorted") [.ref a]) (EP X pins σ Q) X.xe s := by
  obtain ⟨L, ⟨o, es, ep, t, N⟩, pm0, old⟩ := R
  have sz := N.size
  have few := N.few
  have small : es.size < scanBound := by
    show es.size < 4096
    omega
  refine sorted_of (P := fun us s1 => us.Perm (es.toList.map (·.2)) ∧ (∀ b u, s.heap.get? b = some u → s1.heap.get? b = some u) ∧ s.heap.objs.size ≤ s1.heap.objs.size ∧ s1.gens = s.gens ∧ s1.os = s.os) (args_sorted1 _) (fun _ => args_list_sort _) (fun A' E' Q' hA hq => ?_) (fun us s1 h => ?_) fun us s1 h E' => ?_
  · exact collect_set (hA.trans (I.ok.hd hc)) ⟨o, N.at_, N.exact_.1, N.data⟩ N.fits small N.tab.ris N.told fun s1 out k z g os pm => hq _ _ ⟨pm, k, z, g, os⟩
  · rw [h.1.length_eq, List.length_map, Array.length_toList]
    exact fits_of_scanBound small
  · obtain ⟨pm, k, z, g, os⟩ := h
    have rows : es.toList.map (·.2) = L.map fun p => Value.ref p.1 := by
      rw [N.rows]
      unfold kr
      rw [List.map_map]
      rfl
    rw [rows] at pm
    obtain ⟨ds, ev, pd⟩ : ∃ ds, EachIs (RVD X.K HI) us ds ∧ ds.Perm (L.map fun p => kN p.2) := by
      have main : ∀ {us vs : List Value}, us.Perm vs → ∀ ds, EachIs (RVD X.K HI) vs ds → ∃ es, EachIs (RVD X.K HI) us es ∧ es.Perm ds := by
        intro us vs p
        induction p with
        | nil => intro ds e; cases e; exact ⟨[], .nil, .nil⟩
        | cons x _ ih =>
          intro ds e
          cases e with
          | cons h e =>
            obtain ⟨es, h1, h2⟩ := ih _ e
            exact ⟨_ :: es, .cons h h1, .cons _ h2⟩
        | swap x y l =>
          intro ds e
          cases e with
          | cons h1 e =>
            cases e with
            | cons h2 e => exact ⟨_ :: _ :: _, .cons h2 (.cons h1 e), .swap _ _ _⟩
        | trans _ _ ih1 ih2 =>
          intro ds e
          obtain ⟨es, h1, h2⟩ := ih2 _ e
          obtain ⟨fs, h3, h4⟩ := ih1 _ h1
          exact ⟨fs, h3, h4.trans h2⟩
      refine main pm _ ?_
      have all : ∀ l : KL, (∀ p ∈ l, Rp X.K HI (.ref p.1) (kN p.2)) → EachIs (RVD X.K HI) (l.map fun p => Value.ref p.1) (l.map fun p => kN p.2) := by
        intro l
        induction l with
        | nil => intro _; exact .nil
        | cons p l ih => exact fun h => .cons ⟨.ref p.1, rfl, h p List.mem_cons_self⟩ (ih fun r hr => h r (List.mem_cons_of_mem _ hr))
      exact all L old
    have pk : (ks.map kN).Perm ds := by
      have q1 := pm0.map kN
      rw [List.map_map] at q1
      exact (pd.trans q1).symm
    have I0 : Inv X pins σ H { s with drawn := s1.drawn } := I.call' (ch := []) rfl (Un.kept fun _ _ e => e) (I.hok.kept fun _ _ e => e) I.bare (fun _ z => nomatch z)
    exact sort_end (s := { s with drawn := s1.drawn }) (rev := false) hu I0 sub (okSort_perm pk ok) ev k z g os rfl fun p2 vs hp rv => q p2 vs hp (by rw [sortD_apart pk ap]; exact rv)
end
end Ev
set_option Elab.async false
set_option linter.all false
set_option autoImplicit false
set_option maxRecDepth 100000
namespace Ev
open PySem PySem.Spec L2 PyProof.Rows PySem.W PySem.Calls
section
variable {X : Cx}
theorem ifs' {α : Type} {c : Bool} {x : Option α} {b : α} (h : (if c = true then x else none) = some b) : c = true ∧ x = some b := by
  cases c with
  | true => exact ⟨rfl, h⟩
  | false => cases h
theorem setT_some {ds z : List D} (h : setT ds = some z) : ∃ ks, nksD ds = some ks ∧ z = (ks.foldl putN []).map kN ∧ apart z = true ∧ ds.length ≤ 62 ∧ (∀ d ∈ ds, isTupD d = true) ∧ ∀ k ∈ ks, k.depth ≤ 8 := by
  unfold setT at h
  obtain ⟨h1, h2⟩ := ifs' h
  rw [Bool.and_eq_true] at h1
  cases q : nksD ds with
  | none => rw [q] at h2; cases h2
  | some ks =>
    rw [q] at h2
    dsimp only at h2
    obtain ⟨h3, h4⟩ := ifs h2
    rw [Bool.and_eq_true] at h3
    subst h4
    refine ⟨ks, rfl, rfl, h3.2, Nat.le_of_ble_eq_true h1.1, fun d hd => ?_, fun k hk => Nat.le_of_ble_eq_true (List.all_eq_true.mp h3.1 k hk)⟩
    have := List.all_eq_true.mp h1.2 d hd
    rw [Bool.and_eq_true] at this
    exact this.1
theorem nks_at : ∀ {ds : List D} {ks : List NestedKey}, nksD ds = some ks → ds.length = ks.length ∧ ∀ (i : Nat) d, ds[i]? = some d → ∃ k, ks[i]? = some k ∧ nkD d = some k
  | [], _, h => by simp only [nksD] at h; cases h; exact ⟨rfl, fun i d e => by simp at e⟩
  | d :: ds, _, h => by
    simp only [nksD] at h
    cases q1 : nkD d with
    | none => rw [q1] at h; cases h
    | some k =>
      rw [q1] at h
      cases q2 : nksD ds with
      | none => rw [q2] at h; cases h
      | some ks =>
        rw [q2] at h
        cases h
        obtain ⟨e1, e2⟩ := nks_at q2
        refine ⟨congrArg (· + 1) e1, fun i d2 e => ?_⟩
        cases i with
        | zero => cases e; exact ⟨k, rfl, q1⟩
        | succ i => exact e2 i d2 e
theorem rows_at {K : PySem.W.Frag} {HI : Hp} : ∀ {vs : List V} {ds : List D} {us : List Value}, RpAll K HI vs ds → Vals vs us → ∀ (i : Nat) u, us[i]? = some u → ∃ v d, ds[i]? = some d ∧ Rp K HI v d ∧ RelV v u
  | _, _, _, .nil, .nil, i, u, e => by simp at e
  | _, _, _, .cons r1 r2, .cons q1 q2, 0, u, e => by cases e; exact ⟨_, _, rfl, r1, q1⟩
  | _, _, _, .cons r1 r2, .cons q1 q2, i + 1, u, e => rows_at r2 q2 i u e
/-- set(v), v a list or a tuple of nested tuples -/
theorem tset_of {pins : List (Addr × Obj)} {s : Shared} {σ : L2.St} {H HI : Hp} {v : V} {u : Value} {d : D} {xs z : List D} {E : Value → Shared → Prop} {B : Value → Shared → Prop} (hc : X.calm = true) (hu : X.A.units + 64 < cLine) (I : Inv X pins σ H s) (sub : Same HI H) (rv : RelV v u) (rd : Rp X.K HI v d) (hd : d = .list xs ∨ d = .tuple xs) (hz : setT xs = some z)
    (k : ∀ s1 a ks, Inv X pins σ H s1 → TSet0 X.w (fun k b => Rp X.K HI (.ref b) (kN k)) s1.heap a ks → ks.map kN = z → apart z = true → B (.ref a) s1) : wpAny (model X.prog X.w) X.A (call (.type "set") [u]) B E s := by
  obtain ⟨ks, hk, rfl, ap, hl, tup, low⟩ := setT_some hz
  obtain ⟨hn, hat⟩ := nks_at hk
  obtain ⟨T, l, its, vs, rfl, lay, r, ra⟩ : ∃ (T : String) (l : Addr) (its : List Value) (vs : List V), u = .ref l ∧ ((T = "list" ∧ s.heap.IsList l its.toArray) ∨ (T = "tuple" ∧ s.heap.IsTuple l its.toArray)) ∧ Vals vs its ∧ RpAll X.K HI vs xs := by
    rcases hd with e | e
    · cases e
      cases rd with
      | lst h1 a1 =>
        cases rv
        obtain ⟨its, r, pl, _⟩ := I.list (seqL_mono sub h1)
        exact ⟨"list", _, its, _, rfl, .inl ⟨rfl, pl.isList⟩, r, a1⟩
    · cases e
      cases rd with
      | tup h1 n1 a1 =>
        cases rv
        obtain ⟨its, r, pl, _⟩ := I.tuple (seqT_mono sub h1)
        exact ⟨"tuple", _, its, _, rfl, .inr ⟨rfl, pl⟩, r, a1⟩
  have hsz : its.toArray.size = ks.length := by rw [List.size_toArray, ← r.length, dpa_len ra, hn]
  have key : ∀ (i : Nat) (v : Value), its.toArray[i]? = some v → ∃ k b, ks[i]? = some k ∧ v = .ref b ∧ (Rp X.K HI (.ref b) (kN k) ∧ TupK s.heap k b) := fun i u e => by
    obtain ⟨v, d, e1, r1, q1⟩ := rows_at ra r i u (by simpa using e)
    obtain ⟨k, e2, e3⟩ := hat i d e1
    have t1 := tup d (List.mem_of_getElem? e1)
    have ni1 := nk_is I sub d k v u e3 r1 q1
    have kd := nk_kN d k e3
    cases r1 with
    | tup h1 n1 a1 =>
      cases q1
      exact ⟨k, _, e2, rfl, by rw [kd]; exact .tup h1 n1 a1, ni1, low k (List.mem_of_getElem? e2)⟩
    | _ => cases t1
  refine tset_call (O := fun k b => Rp X.K HI (.ref b) (kN k) ∧ TupK s.heap k b) (fun _ _ h => h.2) (I.ok.hd hc) lay hsz (by omega) (by omega) key fun h' tk R kp => ?_
  obtain ⟨L, N, pm, old⟩ := R
  exact k _ _ _ (I.kept (t' := tk) kp) ⟨L, N, pm, fun p hp => (old p hp).1⟩ rfl ap
theorem setD_some {ds z : List D} (h : setD ds = some z) : setK ds = some z ∨ setT ds = some z := by
  unfold setD at h
  split at h
  · rename_i q
    cases h
    exact .inl q
  · exact .inr h
theorem gSetSort_cases {ds r : List D} (h : gSetSort ds = some r) : ∃ d xs z, ds = [d] ∧ (d = .list xs ∨ d = .tuple xs) ∧ setD xs = some z ∧ okSort z = true ∧ r = sortD (leD false) z := by
  have key : ∀ xs, gSet2 xs = some r → ∃ z, setD xs = some z ∧ okSort z = true ∧ r = sortD (leD false) z := fun xs h => by
    unfold gSet2 at h
    cases q : setD xs with
    | none => rw [q] at h; cases h
    | some z =>
      rw [q] at h
      dsimp only at h
      obtain ⟨a, b⟩ := ifs h
      exact ⟨z, rfl, a, b.symm⟩
  unfold gSetSort at h
  split at h
  · obtain ⟨z, a⟩ := key _ h
    exact ⟨_, _, z, rfl, .inl rfl, a⟩
  · obtain ⟨z, a⟩ := key _ h
    exact ⟨_, _, z, rfl, .inr rfl, a⟩
  · cases h
theorem pe_setsort {e : Expr} {t : TA} {p p2 pos pos2 : Pos} (hc : X.calm = true) (hu : X.A.units + 64 < cLine) (g1 : Gl X "sorted") (m1 : X.mg "sorted" = none) (g2 : Gl X "set") (m2 : X.mg "set" = none) (ha : PA X [e] t)
    (hs : starEach [e] X.env = (false, eval e X.env) :: starEach [] X.env := by rfl) (hs2 : starEach [.Call (.Name "set" p2) [e] [] pos2] X.env = (false, eval (.Call (.Name "set" p2) [e] [] pos2) X.env) :: starEach [] X.env := by rfl) :
    PE X (.Call (.Name "sorted" p) [.Call (.Name "set" p2) [e] [] pos2] [] pos) (tCB (FOL X.K gSetSort) t) := by
  refine ⟨fun pins s σ H Q I h => ?_⟩
  refine wpAny_Call_Name_kw (ld_blt I g1 m1 boot_sorted ?_)
  refine PyProof.Rows.callWith_builtin1 (PyProof.Rows.args_cons ?_ hs2) hs2 rfl
  refine wpAny_Call_Name_kw (ld_blt I g2 m2 boot_set ?_)
  refine PyProof.Rows.callWith_type1 (thn (ha.run _ pins s σ H _ I h) fun us s1 ⟨vs, H1, I1, r1, HI, ds, r, sub, ra, eg, q⟩ => ?_) hs rfl
  obtain ⟨d, xs, z, rfl, hd, hz, ok, rfl⟩ := gSetSort_cases eg
  cases ra with
  | cons rv rn =>
    cases rn
    obtain ⟨u, rfl, ru⟩ := vals1 r1
    rcases setD_some hz with hz | hz
    · refine kset_of hc I1 sub ru rv hd hz fun s2 a ks I2 R e => PyProof.Rows.args_nil ?_
      subst e
      exact kset_sorted hc hu I2 sub R ok q
    · refine tset_of hc hu I1 sub ru rv hd hz fun s2 a ks I2 R e ap => PyProof.Rows.args_nil ?_
      subst e
      exact tset_sorted hc hu I2 sub R ok ap q
theorem gSetLen_cases {ds : List D} {r : D} (h : gSetLen ds = some r) : ∃ d xs z, ds = [d] ∧ (d = .list xs ∨ d = .tuple xs) ∧ setD xs = some z ∧ r = .int z.length := by
  unfold gSetLen at h
  split at h
  · rename_i xs
    cases q : setD xs with
    | none => rw [q] at h; cases h
    | some z => rw [q] at h; cases h; exact ⟨_, _, z, rfl, .inl rfl, q, rfl⟩
  · rename_i xs
    cases q : setD xs with
    | none => rw [q] at h; cases h
    | some z => rw [q] at h; cases h; exact ⟨_, _, z, rfl, .inr rfl, q, rfl⟩
  · cases h
theorem pe_setlen {e : Expr} {t : TA} {p p2 pos pos2 : Pos} (hc : X.calm = true) (hu : X.A.units + 64 < cLine) (g1 : Gl X "len") (m1 : X.mg "len" = none) (g2 : Gl X "set") (m2 : X.mg "set" = none) (ha : PA X [e] t)
    (hs : starEach [e] X.env = (false, eval e X.env) :: starEach [] X.env := by rfl) (hs2 : starEach [.Call (.Name "set" p2) [e] [] pos2] X.env = (false, eval (.Call (.Name "set" p2) [e] [] pos2) X.env) :: starEach [] X.env := by rfl) :
    PE X (.Call (.Name "len" p) [.Call (.Name "set" p2) [e] [] pos2] [] pos) (tCB (DOL X.K gSetLen) t) := by
  refine ⟨fun pins s σ H Q I h => ?_⟩
  refine wpAny_Call_Name_kw (ld_blt I g1 m1 PySem.boot_len ?_)
  refine PyProof.Rows.callWith_builtin1 (PyProof.Rows.args_cons ?_ hs2) hs2 rfl
  refine wpAny_Call_Name_kw (ld_blt I g2 m2 boot_set ?_)
  refine PyProof.Rows.callWith_type1 (thn (ha.run _ pins s σ H _ I h) fun us s1 ⟨vs, H1, I1, r1, HI, ds, r, sub, ra, eg, q⟩ => ?_) hs rfl
  obtain ⟨d, xs, z, rfl, hd, hz, rfl⟩ := gSetLen_cases eg
  cases ra with
  | cons rv rn =>
    cases rn
    obtain ⟨u, rfl, ru⟩ := vals1 r1
    rcases setD_some hz with hz | hz
    · refine kset_of hc I1 sub ru rv hd hz fun s2 a ks I2 R e => PyProof.Rows.args_nil ?_
      subst e
      obtain ⟨o, es, ep, t2, rows, ho, hx, hd2, T, pm, kr⟩ := R
      refine call_len_set ho hx hd2 T.fit (by have := T.small; unfold scanBound at this; omega) ⟨.int es.size, H1, I2.tok _, ⟨_, rfl⟩, ?_⟩
      have e1 : es.size = (ks.map keyD).length := by
        have := pm.length_eq
        rw [kr.len] at this
        simpa using this
      rw [e1]
      exact q _ HI H1 (TP.refl sub) (.int _)
    · refine tset_of hc hu I1 sub ru rv hd hz fun s2 a ks I2 R e ap => PyProof.Rows.args_nil ?_
      subst e
      obtain ⟨L, ⟨o, es, ep, t2, N⟩, pm, _⟩ := R
      have sz := N.size
      have few := N.few
      refine call_len_set N.at_ N.exact_ N.data N.fits (by omega) ⟨.int es.size, H1, I2.tok _, ⟨_, rfl⟩, ?_⟩
      have e1 : es.size = (ks.map kN).length := by
        have := pm.length_eq
        rw [List.length_map] at this
        rw [sz, List.length_map, this]
      rw [e1]
      exact q _ HI H1 (TP.refl sub) (.int _)
end
end Ev
set_option Elab.async false
set_option linter.all false
set_option autoImplicit false
set_option maxRecDepth 100000
set_option maxHeartbeats 2000000
namespace Ev
open PySem PySem.Spec L2 PyProof.Rows PySem.W PySem.Calls
/-! ### {elt for t0 in i0 if .. for t1 in i1 if ..} -/
abbrev two (elt t0 i0 t1 i1 : Expr) (f0 f1 : List Expr) (sc : Scope) (pos : Pos) : Expr := .SetComp elt [⟨t0, i0, f0, 0⟩, ⟨t1, i1, f1, 0⟩] sc pos
/-- all tests, one after another -/
abbrev tests (fs : List Expr) (env : Env) : Sem Bool := forIn fs true fun c r => if r = true then do let ok ← isTrue c env (eval c env); pure (ForInStep.yield ok) else pure (ForInStep.yield r)
theorem turn_out (elt t0 i0 t1 i1 : Expr) (f0 f1 : List Expr) (sc : Scope) (pos : Pos) (it acc : Value) (env : Env) : compTurn (two elt t0 i0 t1 i1 f0 f1 sc pos) 0 it acc env = (do
      standAt i0.pos
      match ← pyNext it with
      | none => pure (.done .next)
      | some v =>
        letOwnedTupleGo t0 it v
        assign t0 env v
        let mut good := true
        for c in f0 do
          if good then good ← isTrue c env (eval c env)
        if good then
          let y ← eval i1 env
          standAt i1.pos
          let y ← foldedSetIterable i1 env y
          let _ ← runOwn (.compStart (two elt t0 i0 t1 i1 f0 f1 sc pos) 1 (← holding [y] (pyIter y)) acc env) env
        again (.compLoop (two elt t0 i0 t1 i1 f0 f1 sc pos) 0 it acc env)) := by rfl
theorem turn_in (elt t0 i0 t1 i1 : Expr) (f0 f1 : List Expr) (sc : Scope) (pos : Pos) (it acc : Value) (env : Env) : compTurn (two elt t0 i0 t1 i1 f0 f1 sc pos) 1 it acc env = (do
      standAt i1.pos
      match ← pyNext it with
      | none => pure (.done .next)
      | some v =>
        letOwnedTupleGo t1 it v
        assign t1 env v
        let mut good := true
        for c in f1 do
          if good then good ← isTrue c env (eval c env)
        if good then
          (do let y ← eval elt env; standAt elt.pos; let _ ← call (.builtin "set.add") [acc, y])
        again (.compLoop (two elt t0 i0 t1 i1 f0 f1 sc pos) 1 it acc env)) := by rfl
section
variable {P : Program} {w : World} {A : Around} {B : Result → Shared → Prop} {s : Shared} {elt t0 i0 t1 i1 : Expr} {f0 f1 : List Expr} {sc : Scope} {pos : Pos} {it acc : Value} {env : Env}
abbrev nb (P : Program) (w : World) (A : Around) (B : Result → Shared → Prop) (env : Env) : Value → Shared → Prop := notedBy (model P w) A env fun e s' => B (.error e) s'
theorem loop_out (hs : ∀ x, foldedSetIterable i1 env x = pure x) (I : Nat → Shared → Prop)
    (turn : ∀ n s, I n s → wpAny (model P w) A (pyNext it) (fun r s1 => match r with
      | none => B (.ok .next) s1
      | some v => wpAny (model P w) A (letOwnedTupleGo t0 it v) (fun _ s2 => wpAny (model P w) A (assign t0 env v) (fun _ s3 => wpAny (model P w) A (tests f0 env) (fun ok s4 =>
          if ok = true then wpAny (model P w) A (eval i1 env) (fun y s5 => wpAny (model P w) A (pyIter y) (fun j s6 =>
            codeAny (model P w) A (.compStart (two elt t0 i0 t1 i1 f0 f1 sc pos) 1 j acc env) (fun r s' => match r with
              | .ok _ => ∃ m, m < n ∧ I m s'
              | .error _ => False) s6) (nb P w A B env) s5) (nb P w A B env) s4
          else ∃ m, m < n ∧ I m s4) (nb P w A B env) s3) (nb P w A B env) s2) (nb P w A B env) s1) (nb P w A B env) s) (n : Nat) (h : I n s) :
    codeAny (model P w) A (.compLoop (two elt t0 i0 t1 i1 f0 f1 sc pos) 0 it acc env) B s := by
  refine codeAny_loop rfl I (fun n s hI => ?_) n h
  show wpAny _ A ((compTurn (two elt t0 i0 t1 i1 f0 f1 sc pos) 0 it acc env).onRaise (fun x => do noteFrame x env; theTreesLotGoes x)) _ _ s
  refine wpAny_noted ?_
  rw [turn_out]
  refine wpAny_bind (wpAny_standAt (wpAny_bind (wpAny_mono (turn n s hI) (fun r s1 h1 => ?_) fun _ _ z => z)))
  cases r with
  | none => exact wpAny_pure h1
  | some v =>
    refine wpAny_bind (wpAny_mono h1 (fun _ s2 h2 => wpAny_bind (wpAny_mono h2 (fun _ s3 h3 => wpAny_bind (wpAny_mono h3 (fun ok s4 h4 => ?_) fun _ _ z => z)) fun _ _ z => z)) fun _ _ z => z)
    cases ok with
    | false => exact wpAny_pure ⟨rfl, h4⟩
    | true =>
      refine wpAny_bind (wpAny_mono h4 (fun y s5 h5 => ?_) fun _ _ z => z)
      refine wpAny_bind (wpAny_standAt (wpAny_bind (wpAny_of_eq (hs y) (wpAny_bind (wpAny_holding (wpAny_mono h5 (fun j s6 h6 => ?_) fun _ _ z => z))))))
      refine wpAny_bind (wpAny_runOwn ?_)
      rw [Around.mark_none]
      refine codeAny_mono h6 fun r s' hr => ?_
      cases r with
      | ok f =>
        first
          | exact wpAny_pure ⟨rfl, hr⟩
          | exact wpAny_bind (wpAny_pure (wpAny_pure ⟨rfl, hr⟩))
      | error e => exact hr.elim
theorem loop_in (I : Nat → Shared → Prop)
    (turn : ∀ n s, I n s → wpAny (model P w) A (pyNext it) (fun r s1 => match r with
      | none => B (.ok .next) s1
      | some v => wpAny (model P w) A (letOwnedTupleGo t1 it v) (fun _ s2 => wpAny (model P w) A (assign t1 env v) (fun _ s3 => wpAny (model P w) A (tests f1 env) (fun ok s4 =>
          if ok = true then wpAny (model P w) A (eval elt env) (fun y s5 => wpAny (model P w) A (call (.builtin "set.add") [acc, y]) (fun _ s6 => ∃ m, m < n ∧ I m s6) (nb P w A B env) s5) (nb P w A B env) s4
          else ∃ m, m < n ∧ I m s4) (nb P w A B env) s3) (nb P w A B env) s2) (nb P w A B env) s1) (nb P w A B env) s) (n : Nat) (h : I n s) :
    codeAny (model P w) A (.compLoop (two elt t0 i0 t1 i1 f0 f1 sc pos) 1 it acc env) B s := by
  refine codeAny_loop rfl I (fun n s hI => ?_) n h
  show wpAny _ A ((compTurn (two elt t0 i0 t1 i1 f0 f1 sc pos) 1 it acc env).onRaise (fun x => do noteFrame x env; theTreesLotGoes x)) _ _ s
  refine wpAny_noted ?_
  rw [turn_in]
  refine wpAny_bind (wpAny_standAt (wpAny_bind (wpAny_mono (turn n s hI) (fun r s1 h1 => ?_) fun _ _ z => z)))
  cases r with
  | none => exact wpAny_pure h1
  | some v =>
    refine wpAny_bind (wpAny_mono h1 (fun _ s2 h2 => wpAny_bind (wpAny_mono h2 (fun _ s3 h3 => wpAny_bind (wpAny_mono h3 (fun ok s4 h4 => ?_) fun _ _ z => z)) fun _ _ z => z)) fun _ _ z => z)
    cases ok with
    | false => exact wpAny_pure ⟨rfl, h4⟩
    | true => exact wpAny_bind (wpAny_bind (wpAny_mono h4 (fun y s5 h5 => wpAny_bind (wpAny_standAt (wpAny_bind (wpAny_mono h5 (fun _ s6 h6 => wpAny_pure (wpAny_pure ⟨rfl, h6⟩)) fun _ _ z => z)))) fun _ _ z => z))
theorem start_in (h0 : codeAny (model P w) A (.compLoop (two elt t0 i0 t1 i1 f0 f1 sc pos) 1 it acc env) B s)
    (h : wpAny (model P w) A (pyIter it) (fun j s' => codeAny (model P w) A (.compLoop (two elt t0 i0 t1 i1 f0 f1 sc pos) 1 j acc env) B s') (nb P w A B env) s) : codeAny (model P w) A (.compStart (two elt t0 i0 t1 i1 f0 f1 sc pos) 1 it acc env) B s := by
  refine codeAny_of_tree ?_
  show wpAny _ _ ((compStart (two elt t0 i0 t1 i1 f0 f1 sc pos) 1 it acc env).onRaise (fun x => do noteFrame x env; standAt theWindowsPlace)) _ _ s
  refine wpAny_notedAt ?_
  unfold compStart
  show wpAny _ _ (ask >>= _) _ _ s
  refine wpAny_bind (wpAny_askSetting (wpAny_ite ?_))
  split
  · first
      | exact wpAny_bind (wpAny_pure (wpAny_pure (And.intro rfl h0)))
      | exact wpAny_pure (And.intro rfl h0)
  · first
      | exact wpAny_bind (wpAny_rule (wpAny_bind (wpAny_standAt (wpAny_bind (wpAny_mono h (fun _ _ z => wpAny_pure (And.intro rfl z)) fun _ _ x => x)))))
      | (refine wpAny_bind (wpAny_rule ?_); show wpAny _ _ (standAt i1.pos >>= _) _ _ s; exact wpAny_bind (wpAny_standAt (wpAny_bind (wpAny_mono h (fun _ _ z => wpAny_pure (And.intro rfl z)) fun _ _ x => x))))
end
end Ev
set_option Elab.async false
set_option linter.all false
set_option autoImplicit false
set_option maxRecDepth 100000
set_option maxHeartbeats 4000000
namespace Ev
open PySem PySem.Spec L2 PyProof.Rows PySem.W PySem.Calls
/-! ### what may be put into a set: keys alone, or nested tuples alone -/
def GK (ds : List D) : Prop := ∀ d ∈ ds, ∃ k, keyOf d = some k
def GT (ds : List D) : Prop := ds.length ≤ 62 ∧ ∀ d ∈ ds, isTupD d = true ∧ ∃ k, nkD d = some k ∧ k.depth ≤ 8
def GS (ds : List D) : Prop := GK ds ∨ GT ds
theorem gs_pre (a b : List D) (h : GS (a ++ b)) : GS a := by
  rcases h with h | ⟨l, h⟩
  · exact .inl fun d hd => h d (List.mem_append_left b hd)
  · exact .inr ⟨by rw [List.length_append] at l; omega, fun d hd => h d (List.mem_append_left b hd)⟩
theorem keysL_fm : ∀ {ds : List D} {ks : List L2.Key}, keysL ds = some ks → ds.filterMap keyOf = ks ∧ GK ds
  | [], _, h => by cases h; exact ⟨rfl, fun d hd => by cases hd⟩
  | d :: ds, _, h => by
    unfold keysL at h
    cases hk : keyOf d with
    | none => rw [hk] at h; cases h
    | some k =>
      rw [hk] at h
      cases hs : keysL ds with
      | none => rw [hs] at h; cases h
      | some ks =>
        rw [hs] at h
        cases h
        obtain ⟨e, g⟩ := keysL_fm hs
        exact ⟨by rw [List.filterMap_cons_some hk, e], fun x hx => (List.mem_cons.mp hx).elim (fun z => z ▸ ⟨k, hk⟩) (g x)⟩
theorem nksD_fm : ∀ {ds : List D} {ks : List NestedKey}, nksD ds = some ks → ds.filterMap nkD = ks
  | [], _, h => by simp only [nksD] at h; cases h; rfl
  | d :: ds, _, h => by
    simp only [nksD] at h
    cases hk : nkD d with
    | none => rw [hk] at h; cases h
    | some k =>
      rw [hk] at h
      cases hs : nksD ds with
      | none => rw [hs] at h; cases h
      | some ks =>
        rw [hs] at h
        cases h
        rw [List.filterMap_cons_some hk, nksD_fm hs]
theorem setT_gt {ds z : List D} (h : setT ds = some z) : GT ds := by
  obtain ⟨ks, hk, _, _, hl, ht, low⟩ := setT_some h
  refine ⟨hl, fun d hd => ⟨ht d hd, ?_⟩⟩
  obtain ⟨i, hi⟩ := List.getElem?_of_mem hd
  obtain ⟨k, e1, e2⟩ := (nks_at hk).2 i d hi
  exact ⟨k, e2, low k (List.mem_of_getElem? e1)⟩
theorem gSet2_some {ds r : List D} (h : gSet2 ds = some r) : ∃ z, setD ds = some z ∧ okSort z = true ∧ r = sortD (leD false) z := by
  unfold gSet2 at h
  cases q : setD ds with
  | none => rw [q] at h; cases h
  | some z =>
    rw [q] at h
    obtain ⟨a, b⟩ := ifs h
    exact ⟨z, rfl, a, b.symm⟩
theorem gs_of (ds r : List D) (h : gSet2 ds = some r) : GS ds := by
  obtain ⟨z, hz, _⟩ := gSet2_some h
  rcases setD_some hz with q | q
  · obtain ⟨ks, hk, _⟩ := setK_some q
    exact .inl (keysL_fm hk).2
  · exact .inr (setT_gt q)
theorem key_notT {d : D} {k : L2.Key} (h : keyOf d = some k) (t : isTupD d = true) : False := by cases d <;> first | exact Bool.noConfusion t | cases h
/-- a set of nested tuples, by its own object: the rows point to what acc holds, and ds tells what that is -/
structure NSetO (w : World) (h : Heap) (a : Addr) (L : KL) (o : Obj) (es : Array Row) (ep : Nat) (t : SetTable) : Prop where
  at_ : h.get? a = some o
  exact_ : o.ExactSet
  data : o.data = .set es ep t
  rows : es.toList = kr w L
  tab : TabOk t (kh w L)
  one : (L.map (·.2)).Nodup
  told : w.params.followText "set-order" = true ∨ t.led = true
  room : L.length * 5 < t.mask * 3
  few : L.length < 64
def TS (w : World) (h : Heap) (a : Addr) (acc : List V) (ds : List D) : Prop := ∃ L, (∃ o es ep t, NSetO w h a L o es ep t) ∧ (L.map (·.2)).Perm ((ds.filterMap nkD).foldl putN []) ∧ ∀ p ∈ L, ∃ (i : Nat) (d : D), acc[i]? = some (V.ref p.1) ∧ ds[i]? = some d ∧ nkD d = some p.2
theorem NSet.bare {w : World} {h : Heap} {a : Addr} {L : KL} {o : Obj} {es : Array Row} {ep : Nat} {t : SetTable} (N : NSet w h a L o es ep t) : NSetO w h a L o es ep t := ⟨N.at_, N.exact_, N.data, N.rows, N.tab, N.one, N.told, N.room, N.few⟩
theorem NSetO.full {w : World} {h : Heap} {a : Addr} {L : KL} {o : Obj} {es : Array Row} {ep : Nat} {t : SetTable} (N : NSetO w h a L o es ep t) (k : ∀ p ∈ L, TupK h p.2 p.1) : NSet w h a L o es ep t := ⟨N.at_, N.exact_, N.data, N.rows, N.tab, N.one, k, N.told, N.room, N.few⟩
/-- the set that a comprehension fills, as a thing in the book -/
def SOp (P : Program) (w : World) (a : Addr) (acc : List V) (ds : List D) (h : Heap) : Prop := (ds = [] ∧ h.get? a = some (emptySet w)) ∨ (ds ≠ [] ∧ GK ds ∧ KSet P w h a ((ds.filterMap keyOf).foldl putK [])) ∨ (ds ≠ [] ∧ GT ds ∧ TS w h a acc ds)
def SO (P : Program) (w : World) (a : Addr) (acc : List V) (ds : List D) : HO := .ext (SOp P w a acc ds)
theorem so_ok {P : Program} {w : World} {H : Hp} {h : Heap} {a : Addr} {acc : List V} {ds : List D} (R : SOp P w a acc ds h) : ObjOk P w H h a (SO P w a acc ds) := by
  refine ⟨R, ?_, fun h1 h2 p k => ?_⟩
  · rcases R with ⟨_, R⟩ | ⟨_, _, o, _, _, _, _, ho, _⟩ | ⟨_, _, _, ⟨o, _, _, _, N⟩, _⟩
    · exact ⟨_, R⟩
    · exact ⟨o, ho⟩
    · exact ⟨o, N.at_⟩
  · rcases p with ⟨e, p⟩ | ⟨e, g, p⟩ | ⟨e, g, L, ⟨o, es, ep, t, N⟩, p⟩
    · exact .inl ⟨e, k _ p⟩
    · exact .inr (.inl ⟨e, g, KSet.at p k⟩)
    · exact .inr (.inr ⟨e, g, L, ⟨o, es, ep, t, k _ N.at_, N.exact_, N.data, N.rows, N.tab, N.one, N.told, N.room, N.few⟩, p⟩)
theorem so_new {P : Program} {w : World} {H : Hp} {h : Heap} {a : Addr} (e : h.get? a = some (emptySet w)) : ObjOk P w H h a (SO P w a [] []) := so_ok (.inl ⟨rfl, e⟩)
theorem fm_snoc {α β : Type} {f : α → Option β} {l : List α} {x : α} {y : β} (h : f x = some y) : (l ++ [x]).filterMap f = l.filterMap f ++ [y] := by rw [List.filterMap_append, List.filterMap_cons_some h, List.filterMap_nil]
/-- what stands in a set of tuples is known -/
theorem ts_keys {X : Cx} {pins : List (Addr × Obj)} {σ : L2.St} {H HI : Hp} {s : Shared} {acc : List V} {ds : List D} {L : KL} (I : Inv X pins σ H s) (sub : Same HI H) (ra : RpAll X.K HI acc ds) (low : ∀ d ∈ ds, ∀ k, nkD d = some k → k.depth ≤ 8) (h : ∀ p ∈ L, ∃ (i : Nat) (d : D), acc[i]? = some (V.ref p.1) ∧ ds[i]? = some d ∧ nkD d = some p.2) :
    ∀ p ∈ L, Rp X.K HI (.ref p.1) (kN p.2) ∧ TupK s.heap p.2 p.1 := fun p hp => by
  obtain ⟨i, d, e1, e2, e3⟩ := h p hp
  obtain ⟨v, e4, rv⟩ := dpa_get ra e2
  rw [e1] at e4
  cases e4
  have kd := nk_kN d p.2 e3
  exact ⟨by rw [kd]; exact rv, nk_is I sub d p.2 _ _ e3 rv rfl, low d (List.mem_of_getElem? e2) p.2 e3⟩
section
variable {P : Program} {w : World} {A : Around} {E : Value → Shared → Prop} {s : Shared} {a : Addr}
theorem tset_add {L : KL} {o : Obj} {es : Array Row} {ep : Nat} {t : SetTable} {x : Addr} {k : NestedKey} {Q : Value → Shared → Prop} (N : NSet w s.heap a L o es ep t) (hx : TupK s.heap k x) (hu : A.units + 16 < cLine) (few : L.length + 1 < 64)
    (hQ : ∀ h' L', Heap.SameBut a s.heap h' → NSetAt w h' a L' → (k ∈ L.map (·.2) → L' = L) → (k ∉ L.map (·.2) → L'.Perm ((x, k) :: L)) → Q .none { s with heap := h', toks := s.toks + k.draws }) : wpAny (model P w) A (call (.builtin "set.add") [.ref a, .ref x]) Q E s := by
  refine wpAny_call_entry F.slot_set_add (show s.TypeIs (.ref a) "set" from ⟨o, N.at_, N.exact_.1⟩) F.entry_set_add ?_ (F.args_set_add_2 _ _)
  unfold Builtin.«set.add» Builtin.Frozenset.oneOther
  simp only [List.isEmpty_nil, bind_assoc]
  unfold Builtin.Frozenset.addrOf setAdd
  refine wpAny_bind (wpAny_pure ?_)
  try dsimp only
  refine wpAny_bind (wpAny_pure ?_)
  try dsimp only
  have low := hx.low
  have inu : A.in1.units = A.units + 1 := rfl
  refine wpAny_bind (wpAny_holding (wpAny_bind (pyHash_key k _ _ s _ hx.is (by omega) ?_)))
  refine nset_put (s := { s with toks := s.toks + k.draws }) ⟨o, es, ep, t, N⟩ hx (by omega) (by omega) fun b h' L' sb N' c1 c2 => ?_
  show wpAny _ _ (ret Value.none) _ _ _
  exact wpAny_pure ⟨_, rfl, hQ h' L' sb N' c1 c2⟩
end
section
variable {X : Cx}
theorem so_add {pins : List (Addr × Obj)} {σ : L2.St} {H HI : Hp} {s : Shared} {E : Value → Shared → Prop} {a : Addr} {acc : List V} {ds : List D} {y : V} {dy : D} {x : Value} {Q : Value → Shared → Prop} (hu : X.A.units + 64 < cLine) (I : Inv X pins σ H s) (hD : H a = some (SO X.prog X.w a acc ds)) (room : acc.length < 4000) (ry : RelV y x) (sub : Same HI (mask a H)) (ra : RpAll X.K HI (acc ++ [y]) (ds ++ [dy])) (g : GS (ds ++ [dy]))
    (h : ∀ s', Inv X pins σ (upd H a (SO X.prog X.w a (acc ++ [y]) (ds ++ [dy]))) s' → Q .none s') : wpAny (model X.prog X.w) X.A (call (.builtin "set.add") [.ref a, x]) Q E s := by
  have R : SOp X.prog X.w a acc ds s.heap := (I.hok a _ hD).1
  have len : acc.length = ds.length := by
    have := dpa_len ra
    rw [List.length_append, List.length_append, List.length_singleton, List.length_singleton] at this
    omega
  have subH : Same HI H := fun b o e => by
    have z := sub b o e
    by_cases q : b = a
    · subst q; rw [mask_D] at z; cases z
    · rw [mask_ne q] at z; exact z
  obtain ⟨v, hv, rv⟩ := dpa_get ra (i := ds.length) (d := dy) (by simp)
  have ev : v = y := by
    rw [← len] at hv
    simpa using hv.symm
  subst ev
  have put : ∀ (h' : Heap) (tk : Nat), Heap.SameBut a s.heap h' → SOp X.prog X.w a (acc ++ [v]) (ds ++ [dy]) h' → (∃ u, h'.get? a = some u) → Inv X pins σ (upd H a (SO X.prog X.w a (acc ++ [v]) (ds ++ [dy]))) { s with heap := h', toks := tk } := fun h' tk sb new has =>
    I.write (e := a) (t' := tk) (by rw [hD]; trivial) (.inl rfl) (fun b u hb hu => (sb.2 b hb).trans hu) has (so_ok new)
  have ne : ds ++ [dy] ≠ [] := by simp
  rcases g with g | ⟨gl, g⟩
  · obtain ⟨k, hk⟩ := g dy (by simp)
    have gp : GK ds := fun d hd => g d (List.mem_append_left _ hd)
    have R1 : KSet X.prog X.w s.heap a ((ds.filterMap keyOf).foldl putK []) := by
      rcases R with ⟨rfl, e⟩ | ⟨_, _, R⟩ | ⟨n, gt, _⟩
      · exact kset_new e
      · exact R
      · cases ds with
        | nil => exact absurd rfl n
        | cons d ds =>
          obtain ⟨k0, e0⟩ := gp d List.mem_cons_self
          exact (key_notT e0 (gt.2 d List.mem_cons_self).1).elim
    have yk : v = kV k := by cases rv <;> first | (cases hk; rfl) | (cases hk)
    subst yk
    have lim : ((ds.filterMap keyOf).foldl putK []).length + 1 < scanBound := by
      have l1 := fold_len (ds.filterMap keyOf) []
      have l2 : (ds.filterMap keyOf).length ≤ ds.length := List.length_filterMap_le _ _
      rw [List.length_nil] at l1
      show _ < 4096
      omega
    refine kset_add R1 (kV_is ry) lim fun h' sb new => ?_
    have has : ∃ u, h'.get? a = some u := by
      obtain ⟨o, _, _, _, _, ho, _⟩ := id new
      exact ⟨o, ho⟩
    refine h _ (put h' _ sb (.inr (.inl ⟨ne, g, ?_⟩)) has)
    rw [fm_snoc hk, List.foldl_append]
    exact new
  · obtain ⟨ht, k, hk, low⟩ := g dy (by simp)
    have gp : GT ds := ⟨by rw [List.length_append] at gl; omega, fun d hd => g d (List.mem_append_left _ hd)⟩
    obtain ⟨b, eb⟩ : ∃ b, v = .ref b := by
      cases rv <;> first | exact ⟨_, rfl⟩ | cases ht
    subst eb
    cases ry
    have lowAll : ∀ d ∈ ds ++ [dy], ∀ k, nkD d = some k → k.depth ≤ 8 := fun d hd k e => by
      obtain ⟨_, k', e', l⟩ := g d hd
      rw [e] at e'
      cases e'
      exact l
    have tk : TupK s.heap k b := ⟨nk_is I subH dy k _ _ hk rv rfl, low⟩
    have R1 : TS X.w s.heap a acc ds := by
      rcases R with ⟨rfl, e⟩ | ⟨n, gk, _⟩ | ⟨_, _, R⟩
      · obtain ⟨L, ⟨o, es, ep, t, N⟩, pm⟩ := tset_new (w := X.w) e
        have e0 : L = [] := by
          have := pm.length_eq
          rw [List.length_map, List.length_nil] at this
          exact List.length_eq_zero_iff.mp this
        subst e0
        exact ⟨[], ⟨o, es, ep, t, N.bare⟩, .nil, fun p hp => by cases hp⟩
      · cases ds with
        | nil => exact absurd rfl n
        | cons d ds =>
          obtain ⟨k0, e0⟩ := gk d List.mem_cons_self
          exact (key_notT e0 (gp.2 d List.mem_cons_self).1).elim
      · exact R
    obtain ⟨L, ⟨o, es, ep, t, N⟩, pm, mem⟩ := R1
    have mem2 : ∀ p ∈ L, ∃ (i : Nat) (d : D), (acc ++ [V.ref b])[i]? = some (V.ref p.1) ∧ (ds ++ [dy])[i]? = some d ∧ nkD d = some p.2 := fun p hp => by
      obtain ⟨i, d, e1, e2, e3⟩ := mem p hp
      exact ⟨i, d, List.getElem?_append_left (l₂ := [V.ref b]) (List.getElem?_eq_some_iff.mp e1).1 ▸ e1, List.getElem?_append_left (l₂ := [dy]) (List.getElem?_eq_some_iff.mp e2).1 ▸ e2, e3⟩
    have known := ts_keys I subH ra lowAll mem2
    have few : L.length + 1 < 64 := by
      have l1 := pm.length_eq
      have l2 := fold_few (ds.filterMap nkD) []
      have l3 : (ds.filterMap nkD).length ≤ ds.length := List.length_filterMap_le _ _
      rw [List.length_map] at l1
      rw [List.length_nil] at l2
      have l4 := gp.1
      rw [List.length_append, List.length_singleton] at gl
      omega
    refine tset_add (N.full fun p hp => (known p hp).2) tk (by omega) few fun h' L' sb N' c1 c2 => ?_
    obtain ⟨o', es', ep', t', N'⟩ := N'
    refine h _ (put h' _ sb (.inr (.inr ⟨ne, ⟨gl, g⟩, L', ⟨o', es', ep', t', N'.bare⟩, ?_⟩)) ⟨o', N'.at_⟩)
    rw [fm_snoc hk, List.foldl_append]
    show (L'.map (·.2)).Perm (putN _ k) ∧ _
    by_cases c : k ∈ L.map (·.2)
    · rw [c1 c, putN_in (pm.mem_iff.mp c)]
      exact ⟨pm, mem2⟩
    · rw [putN_out (fun z => c (pm.mem_iff.mpr z))]
      have q := c2 c
      refine ⟨(q.map fun p : Addr × NestedKey => p.2).trans ?_, fun p hp => ?_⟩
      · rw [List.map_cons]
        exact (List.Perm.cons k pm).trans (List.perm_append_singleton k _).symm
      · rcases List.mem_cons.mp (q.mem_iff.mp hp) with e | hp
        · subst e
          exact ⟨ds.length, dy, by rw [← len]; simp, by simp, hk⟩
        · exact mem2 p hp
theorem ss_end {pins : List (Addr × Obj)} {σ : L2.St} {H : Hp} {s : Shared} {a : Addr} {Q : VK} (hc : X.calm = true) (hu : X.A.units + 64 < cLine) (I : Inv X pins σ H s) (h : SEnd X.K (SO X.prog X.w a) a gSet2 Q H) : wpAny (model X.prog X.w) X.A (call (.builtin "sorted") [.ref a]) (EP X pins σ Q) X.xe s := by
  obtain ⟨acc, HI, ds, r, eD, sub, ra, eg, q⟩ := h
  have subH : Same HI H := fun b o e => by
    have z := sub b o e
    by_cases q : b = a
    · subst q; rw [mask_D] at z; cases z
    · rw [mask_ne q] at z; exact z
  obtain ⟨z, hz, ok, rfl⟩ := gSet2_some eg
  have R : SOp X.prog X.w a acc ds s.heap := (I.hok a _ eD).1
  rcases setD_some hz with hz | hz
  · obtain ⟨ks, hk, rfl, _⟩ := setK_some hz
    obtain ⟨ek, gk⟩ := keysL_fm hk
    have R1 : KSet X.prog X.w s.heap a (ks.foldl putK []) := by
      rcases R with ⟨rfl, e⟩ | ⟨_, _, R⟩ | ⟨n, gt, _⟩
      · cases hk
        exact kset_new e
      · rw [ek] at R; exact R
      · cases ds with
        | nil => exact absurd rfl n
        | cons d ds =>
          obtain ⟨k0, e0⟩ := gk d List.mem_cons_self
          exact (key_notT e0 (gt.2 d List.mem_cons_self).1).elim
    exact kset_sorted hc hu I subH R1 ok q
  · have gt := setT_gt hz
    obtain ⟨ks, hk, rfl, ap, hl, _, low⟩ := setT_some hz
    have ek := nksD_fm hk
    have lowAll : ∀ d ∈ ds, ∀ k, nkD d = some k → k.depth ≤ 8 := fun d hd k e => by
      obtain ⟨_, k', e', l⟩ := gt.2 d hd
      rw [e] at e'
      cases e'
      exact l
    obtain ⟨L, ⟨o, es, ep, t, N⟩, pm, mem⟩ : TS X.w s.heap a acc ds := by
      rcases R with ⟨rfl, e⟩ | ⟨n, gk, _⟩ | ⟨_, _, R⟩
      · obtain ⟨L, ⟨o, es, ep, t, N⟩, pm⟩ := tset_new (w := X.w) e
        have e0 : L = [] := by
          have := pm.length_eq
          rw [List.length_map, List.length_nil] at this
          exact List.length_eq_zero_iff.mp this
        subst e0
        exact ⟨[], ⟨o, es, ep, t, N.bare⟩, .nil, fun p hp => by cases hp⟩
      · cases ds with
        | nil => exact absurd rfl n
        | cons d ds =>
          obtain ⟨k0, e0⟩ := gk d List.mem_cons_self
          exact (key_notT e0 (gt.2 d List.mem_cons_self).1).elim
      · exact R
    rw [ek] at pm
    have known := ts_keys I subH ra lowAll mem
    exact tset_sorted hc hu I subH ⟨L, ⟨o, es, ep, t, N.full fun p hp => (known p hp).2⟩, pm, fun p hp => (known p hp).1⟩ ok ap q
theorem sc_core {pins : List (Addr × Obj)} {s : Shared} {σ : L2.St} {H : Hp} {Q : VK} {elt tg iter : Expr} {ifs : List Expr} {scope : Scope} {own : List (Str × Nat)} {pos pos2 : Pos} {gs : List D → Option (List D)} {wi : TI} {g : TG} {tt : TT} {te : TE} {use : Option (Value → Sem Unit)} {Qf : Value → Shared → Prop} (hc : X.calm = true) (hu : X.A.units + 64 < cLine) (hN : X.N.Nodup) (I : Inv X pins σ H s) (hi : PI X tg iter wi) (ok : BlkOk X.N X.env.scope scope own)
    (hg : ∀ (s : Shared) (H : Hp) (C : Addr) (cl : List (Str × Addr)) (fp : List Addr), PG (X.blk s H scope (compEnvC scope cl C X.env) fp) tg g) (ht : ∀ (s : Shared) (H : Hp) (C : Addr) (cl : List (Str × Addr)) (fp : List Addr), PTs (X.blk s H scope (compEnvC scope cl C X.env) fp) ifs tt)
    (he : ∀ (s : Shared) (H : Hp) (C : Addr) (cl : List (Str × Addr)) (fp : List Addr), PE (X.blk s H scope (compEnvC scope cl C X.env) fp) elt te) (hs : ∀ x, foldedSetIterable iter X.env x = pure x) (h : tSs X.K GS gs wi g tt te (own.map (·.2)) σ H Q)
    (fin : ∀ D C s' m H', Inv X pins σ H' s' → SEnd X.K (SO X.prog X.w D) D gs Q H' → s'.heap.Ns C m → FpOk X pins H' C → compPost (model X.prog X.w) X.A X.xe use Qf (.ref D) C (.ok .next) s') :
    wpAny (model X.prog X.w) X.A (comprehension (.SetComp elt [⟨tg, iter, ifs, 0⟩] scope pos) scope X.env pos2 (newSet (.type "set")) false (eval iter X.env) use) Qf X.xe s := by
  have hub : ∀ {s : Shared} {H : Hp} {ce : Env} {fp : List Addr}, (X.blk s H scope ce fp).A.units + 64 < cLine := fun {s H ce fp} => hu
  have cells : ∀ y ∈ scope.names, y.2 = .free → ∃ c, X.env.cells.lookup y.1 = some c := fun y hy e => (ok.free y hy e).elim (fun z => I.ok.has _ (.inl z)) (fun z => I.ok.has _ (.inr z))
  refine wpAny_comprehension_free (use := use) rfl hs (closure_ok cells) ok.kind (fun y hy e => by rw [ok.uniq y hy, e]) (thn (hi.run pins s σ H _ I h) fun xv s1 hx => thn hx fun itv s2 h2 => ?_)
  obtain ⟨it, fp, tn, J, H2, rfl, I2, T, st2, f2, q⟩ := h2
  refine PpSet.newSet_ok (newEnv_comp ?_)
  generalize hD : s2.heap.objs.size = D
  have free2 : H2 D = none := I2.hok.fresh (Nat.le_of_eq hD)
  obtain ⟨W, ⟨m0, w0⟩, turn⟩ := q (SO X.prog X.w D) D free2
  -- the new set stands
  generalize e3 : ({ s2 with heap := s2.heap.push (emptySet X.w) } : Shared) = s3
  have p3 : s3.heap = s2.heap.push (emptySet X.w) := by rw [← e3]
  have I3 : Inv X pins σ (upd H2 D (SO X.prog X.w D [] [])) s3 := by
    rw [← e3]
    refine I2.laid (t' := s2.toks) (fun b o e => Heap.get?_push_of_some _ e) (Nat.le_of_eq hD) (so_new ?_)
    rw [← hD]
    exact Heap.get?_push_size _ rfl
  have lt2 : ∀ b ∈ fp, b < s2.heap.objs.size := fun b hb => by
    obtain ⟨o, e, _⟩ := T.obj _ _ st2 b hb
    exact Heap.lt_size e
  have f3 : ∀ b ∈ fp, FpOk X pins (upd H2 D (SO X.prog X.w D [] [])) b ∧ b < s3.heap.objs.size := fun b hb => by
    have l := lt2 b hb
    refine ⟨⟨?_, (f2 b hb).2⟩, by rw [p3, Heap.size_push]; exact Nat.lt_succ_of_lt l⟩
    rw [upd_ne (by rw [← hD]; exact Nat.ne_of_lt l)]
    exact (f2 b hb).1
  have st3 : tn 0 s3.heap := T.keep _ _ _ st2 fun b _ o e => by rw [p3]; exact Heap.get?_push_of_some _ e
  have I4 := block_start I3 ok hN f3
  generalize hH : upd H2 D (SO X.prog X.w D [] []) = H3 at I3 I4 w0 f3
  show codeAny _ _ (.compStart (.SetComp elt [⟨tg, iter, ifs, 0⟩] scope pos) 0 (.ref it) (.ref D) (compEnvC scope (cellsFrom (s3.heap.objs.size + 1) scope.names (cloFrom X.env.cells scope.names [])) s3.heap.objs.size X.env)) (compPost (model X.prog X.w) X.A X.xe use Qf (.ref D) s3.heap.objs.size) { s3 with heap := pushCells (s3.heap.push { cls := .type "dict", data := .dict #[] }) scope.names }
  generalize hcl : cellsFrom (s3.heap.objs.size + 1) scope.names (cloFrom X.env.cells scope.names []) = cl at I4 ⊢
  have pg := hg s3 H3 s3.heap.objs.size cl fp
  have pt := ht s3 H3 s3.heap.objs.size cl fp
  have pe := he s3 H3 s3.heap.objs.size cl fp
  have nfp : ∀ b ∈ fp, H3 b = none := fun b hb => (f3 b hb).1.1
  generalize hce : compEnvC scope cl s3.heap.objs.size X.env = ce at I4 pg pt pe ⊢
  have cL : ce.locals = s3.heap.objs.size := by subst hce; rfl
  generalize e4 : ({ s3 with heap := pushCells (s3.heap.push { cls := .type "dict", data := .dict #[] }) scope.names } : Shared) = s4 at I4 ⊢
  have st4 : tn 0 s4.heap := T.keep _ _ _ st3 fun b _ o e => by rw [← e4]; exact pushCells_keeps _ _ _ _ (Heap.get?_push_of_some _ e)
  have stat : ∀ {σ' : L2.St} {H' : Hp} {s' : Shared}, Inv (X.blk s3 H3 scope ce fp) [] σ' H' s' → (∀ b ∈ fp, H' b = none) → ∀ b ∈ fp, FpOk (X.blk s3 H3 scope ce fp) [] H' b := fun {σ' H' s'} I' n' b hb =>
    ⟨n' b hb, (I'.ok.exf b hb).1, I'.ok.exfs b hb, .inl hb, fun x c e => (I'.ok.exf b hb).2 x c e, fun p hp => by cases (show p ∈ ([] : List (Addr × Obj)) from hp)⟩
  refine PpSet.codeAny_compStart_set ?loop (T.self X.A 0 _ _ _ st4 ?loop)
  refine PpSet.compLoopS_any (fun n s' => ∃ i H', Inv (X.blk s3 H3 scope ce fp) [] (L2.wipe σ (own.map (·.2))) H' s' ∧ tn i s'.heap ∧ (∀ b ∈ fp, H' b = none) ∧ W i n H') ?_ m0 ⟨0, H3, I4, st4, nfp, w0⟩
  rintro n s5 ⟨i, H5, I5, st5, n5, w5⟩
  rcases turn i n H5 w5 with ⟨stop, se⟩ | ⟨go, Nx, next, step⟩
  · refine thnF (T.done (X.blk s3 H3 scope ce fp) rfl rfl rfl hc i [] s5 _ H5 (fun _ _ => False) I5 (stat I5 n5) st5 stop) fun r s6 ⟨hr, I6⟩ => ?_
    subst hr
    have I7 : Inv X pins σ H5 s6 := I3.call' (ch := fp) I6.os I6.base I6.hok I6.bare fun b hb => ⟨(f3 b hb).1.2.2.2.1, (f3 b hb).1.2.1, (f3 b hb).1.2.2.2.2.1, (f3 b hb).1.2.2.2.2.2⟩
    have nC : H5 s3.heap.objs.size = none := cL ▸ (show H5 ce.locals = none from I6.free)
    obtain ⟨m, hn, _⟩ := I6.loc
    have hn : s6.heap.Ns ce.locals m := hn
    rw [cL] at hn
    exact fin D s3.heap.objs.size s6 m H5 I7 se hn (I3.fpOk (Nat.le_refl _) nC)
  · refine thnF (T.item (X.blk s3 H3 scope ce fp) rfl rfl rfl hc i [] s5 _ H5 (fun _ _ => False) I5 (stat I5 n5) st5 go) fun r s6 ⟨u, hr, h6⟩ => ?_
    subst hr
    refine thnF h6 fun _ s7 ⟨x, H7, I7, r7, y7, st7, n7⟩ => ?_
    have pin7 := I7.pinned (stat I7 n7) (T.obj _ _ st7)
    refine thnF (pg.run _ s7 _ H7 x u _ pin7 r7 (step x H7 y7)) fun _ s8 ⟨σ8, H8, I8, w8, q8⟩ => thnF (pt.run _ s8 σ8 H8 _ I8 q8) fun b s9 ⟨H9, I9, q9⟩ => ?_
    have over : ∀ {s' : Shared} {H' : Hp}, Inv (X.blk s3 H3 scope ce fp) ([] ++ pinsAt fp s7.heap) σ8 H' s' → Nx H' → ∃ m, m < n ∧ ∃ i H', Inv (X.blk s3 H3 scope ce fp) [] (L2.wipe σ (own.map (·.2))) H' s' ∧ tn i s'.heap ∧ (∀ b ∈ fp, H' b = none) ∧ W i m H' := fun {s' H'} I' nx => by
      obtain ⟨m', lt, w'⟩ := next H' nx
      have held : ∀ b ∈ fp, ∀ o, s7.heap.get? b = some o → s'.heap.get? b = some o ∧ H' b = none := fun b hb o e =>
        have z := I'.pin (b, o) (List.mem_append_right _ (List.mem_append_right _ (mem_pinsAt hb e)))
        ⟨z.1, z.2.1⟩
      refine ⟨m', lt, i + 1, H', (I'.unpinned (pins := [])).weak (by rw [← w8, wipe_length]) (fun j v e => (wipe_some (w8 ▸ e)).1), T.keep _ _ _ st7 fun b hb o e => (held b hb o e).1, fun b hb => ?_, w'⟩
      obtain ⟨o, e, _⟩ := T.obj _ _ st7 b hb
      exact (held b hb o e).2
    cases b with
    | false => exact over I9 q9
    | true =>
      refine thnF (pe.run _ s9 σ8 H9 _ I9 q9) fun z s10 ⟨yv, H10, I10, r10, acc, HI, dacc, dy, eD, room, sub, ra, gd, nx⟩ => ?_
      exact so_add (X := X.blk s3 H3 scope ce fp) hub I10 eD room r10 sub ra gd fun s11 I11 => over I11 nx
theorem pe_ss {elt tg iter : Expr} {ifs : List Expr} {scope : Scope} {own : List (Str × Nat)} {p pos pos2 : Pos} {wi : TI} {g : TG} {tt : TT} {te : TE} (hc : X.calm = true) (hu : X.A.units + 64 < cLine) (g1 : Gl X "sorted") (m1 : X.mg "sorted" = none) (hN : X.N.Nodup) (hi : PI X tg iter wi) (ok : BlkOk X.N X.env.scope scope own)
    (hg : ∀ (s : Shared) (H : Hp) (C : Addr) (cl : List (Str × Addr)) (fp : List Addr), PG (X.blk s H scope (compEnvC scope cl C X.env) fp) tg g) (ht : ∀ (s : Shared) (H : Hp) (C : Addr) (cl : List (Str × Addr)) (fp : List Addr), PTs (X.blk s H scope (compEnvC scope cl C X.env) fp) ifs tt)
    (he : ∀ (s : Shared) (H : Hp) (C : Addr) (cl : List (Str × Addr)) (fp : List Addr), PE (X.blk s H scope (compEnvC scope cl C X.env) fp) elt te) (hs : ∀ x, foldedSetIterable iter X.env x = pure x := by intro _; rfl)
    (he1 : starEach [.SetComp elt [⟨tg, iter, ifs, 0⟩] scope pos2] X.env = (false, eval (.SetComp elt [⟨tg, iter, ifs, 0⟩] scope pos2) X.env) :: starEach [] X.env := by rfl) :
    PE X (.Call (.Name "sorted" p) [.SetComp elt [⟨tg, iter, ifs, 0⟩] scope pos2] [] pos) (tSs X.K GS gSet2 wi g tt te (own.map (·.2))) := by
  refine ⟨fun pins s σ H Q I h => ?_⟩
  refine wpAny_Call_Name_kw (ld_blt I g1 m1 boot_sorted ?_)
  refine PyProof.Rows.callWith_builtin1 (PyProof.Rows.args_cons ?_ he1) he1 rfl
  rw [PpSet.eval_SetComp]
  refine sc_core hc hu hN I hi ok hg ht he hs h fun D C s' m H' I' se hn f => ⟨m, hn, fun h2 sb => ?_⟩
  obtain ⟨f0, f1, f2, f3, f4, f5⟩ := f
  exact PyProof.Rows.args_nil (ss_end hc hu (I'.turned (t' := s'.toks) (fun b o hb e => (sb.2 b hb).trans e) f0 f1 f3 f4 f5) se)
theorem sc_core2 {pins : List (Addr × Obj)} {s : Shared} {σ : L2.St} {H : Hp} {Q : VK} {elt tg iter tg1 iter1 : Expr} {ifs ifs1 : List Expr} {scope : Scope} {own : List (Str × Nat)} {vs1 : List Nat} {pos pos2 : Pos} {gs : List D → Option (List D)} {wi wi1 : TI} {g g1 : TG} {tt tt1 : TT} {te : TE} {use : Option (Value → Sem Unit)} {Qf : Value → Shared → Prop} (hc : X.calm = true) (hu : X.A.units + 64 < cLine) (hN : X.N.Nodup) (I : Inv X pins σ H s) (hi : PI X tg iter wi) (ok : BlkOk X.N X.env.scope scope own) (hv : ∀ i ∈ vs1, i ∈ own.map (·.2))
    (hg : ∀ (s : Shared) (H : Hp) (C : Addr) (cl : List (Str × Addr)) (fp : List Addr), PG (X.blk s H scope (compEnvC scope cl C X.env) fp) tg g) (ht : ∀ (s : Shared) (H : Hp) (C : Addr) (cl : List (Str × Addr)) (fp : List Addr), PTs (X.blk s H scope (compEnvC scope cl C X.env) fp) ifs tt)
    (he : ∀ (s : Shared) (H : Hp) (C : Addr) (cl : List (Str × Addr)) (fp : List Addr), PE (X.blk s H scope (compEnvC scope cl C X.env) fp) elt te) (hs : ∀ x, foldedSetIterable iter X.env x = pure x) (hi1 : ∀ (s : Shared) (H : Hp) (C : Addr) (cl : List (Str × Addr)) (fp : List Addr), PI (X.blk s H scope (compEnvC scope cl C X.env) fp) tg1 iter1 wi1)
    (hg1 : ∀ (s : Shared) (H : Hp) (C : Addr) (cl : List (Str × Addr)) (fp : List Addr), PG (X.blk s H scope (compEnvC scope cl C X.env) fp) tg1 g1) (ht1 : ∀ (s : Shared) (H : Hp) (C : Addr) (cl : List (Str × Addr)) (fp : List Addr), PTs (X.blk s H scope (compEnvC scope cl C X.env) fp) ifs1 tt1) (hs1 : ∀ env x, foldedSetIterable iter1 env x = pure x)
    (h : tSs2 X.K GS gs wi g tt wi1 g1 tt1 te (own.map (·.2)) vs1 σ H Q)
    (fin : ∀ D C s' m H', Inv X pins σ H' s' → SEnd X.K (SO X.prog X.w D) D gs Q H' → s'.heap.Ns C m → FpOk X pins H' C → compPost (model X.prog X.w) X.A X.xe use Qf (.ref D) C (.ok .next) s') :
    wpAny (model X.prog X.w) X.A (comprehension (.SetComp elt [⟨tg, iter, ifs, 0⟩, ⟨tg1, iter1, ifs1, 0⟩] scope pos) scope X.env pos2 (newSet (.type "set")) false (eval iter X.env) use) Qf X.xe s := by
  have hub : ∀ {s : Shared} {H : Hp} {ce : Env} {fp : List Addr}, (X.blk s H scope ce fp).A.units + 64 < cLine := fun {s H ce fp} => hu
  have cells : ∀ y ∈ scope.names, y.2 = .free → ∃ c, X.env.cells.lookup y.1 = some c := fun y hy e => (ok.free y hy e).elim (fun z => I.ok.has _ (.inl z)) (fun z => I.ok.has _ (.inr z))
  refine wpAny_comprehension_free (use := use) rfl hs (closure_ok cells) ok.kind (fun y hy e => by rw [ok.uniq y hy, e]) (thn (hi.run pins s σ H _ I h) fun xv s1 hx => thn hx fun itv s2 h2 => ?_)
  obtain ⟨it, fp, tn, J, H2, rfl, I2, T, st2, f2, q⟩ := h2
  refine PpSet.newSet_ok (newEnv_comp ?_)
  generalize hD : s2.heap.objs.size = D
  have free2 : H2 D = none := I2.hok.fresh (Nat.le_of_eq hD)
  obtain ⟨W, ⟨m0, w0⟩, turn⟩ := q (SO X.prog X.w D) D free2
  -- the new set stands
  generalize e3 : ({ s2 with heap := s2.heap.push (emptySet X.w) } : Shared) = s3
  have p3 : s3.heap = s2.heap.push (emptySet X.w) := by rw [← e3]
  have I3 : Inv X pins σ (upd H2 D (SO X.prog X.w D [] [])) s3 := by
    rw [← e3]
    refine I2.laid (t' := s2.toks) (fun b o e => Heap.get?_push_of_some _ e) (Nat.le_of_eq hD) (so_new ?_)
    rw [← hD]
    exact Heap.get?_push_size _ rfl
  have lt2 : ∀ b ∈ fp, b < s2.heap.objs.size := fun b hb => by
    obtain ⟨o, e, _⟩ := T.obj _ _ st2 b hb
    exact Heap.lt_size e
  have f3 : ∀ b ∈ fp, FpOk X pins (upd H2 D (SO X.prog X.w D [] [])) b ∧ b < s3.heap.objs.size := fun b hb => by
    have l := lt2 b hb
    refine ⟨⟨?_, (f2 b hb).2⟩, by rw [p3, Heap.size_push]; exact Nat.lt_succ_of_lt l⟩
    rw [upd_ne (by rw [← hD]; exact Nat.ne_of_lt l)]
    exact (f2 b hb).1
  have st3 : tn 0 s3.heap := T.keep _ _ _ st2 fun b _ o e => by rw [p3]; exact Heap.get?_push_of_some _ e
  have I4 := block_start I3 ok hN f3
  generalize hH : upd H2 D (SO X.prog X.w D [] []) = H3 at I3 I4 w0 f3
  show codeAny _ _ (.compStart (.SetComp elt [⟨tg, iter, ifs, 0⟩, ⟨tg1, iter1, ifs1, 0⟩] scope pos) 0 (.ref it) (.ref D) (compEnvC scope (cellsFrom (s3.heap.objs.size + 1) scope.names (cloFrom X.env.cells scope.names [])) s3.heap.objs.size X.env)) (compPost (model X.prog X.w) X.A X.xe use Qf (.ref D) s3.heap.objs.size) { s3 with heap := pushCells (s3.heap.push { cls := .type "dict", data := .dict #[] }) scope.names }
  generalize hcl : cellsFrom (s3.heap.objs.size + 1) scope.names (cloFrom X.env.cells scope.names []) = cl at I4 ⊢
  have pg := hg s3 H3 s3.heap.objs.size cl fp
  have pt := ht s3 H3 s3.heap.objs.size cl fp
  have pe := he s3 H3 s3.heap.objs.size cl fp
  have pi1 := hi1 s3 H3 s3.heap.objs.size cl fp
  have pg1 := hg1 s3 H3 s3.heap.objs.size cl fp
  have pt1 := ht1 s3 H3 s3.heap.objs.size cl fp
  have nfp : ∀ b ∈ fp, H3 b = none := fun b hb => (f3 b hb).1.1
  generalize hce : compEnvC scope cl s3.heap.objs.size X.env = ce at I4 pg pt pe pi1 pg1 pt1 ⊢
  have cL : ce.locals = s3.heap.objs.size := by subst hce; rfl
  generalize e4 : ({ s3 with heap := pushCells (s3.heap.push { cls := .type "dict", data := .dict #[] }) scope.names } : Shared) = s4 at I4 ⊢
  have st4 : tn 0 s4.heap := T.keep _ _ _ st3 fun b _ o e => by rw [← e4]; exact pushCells_keeps _ _ _ _ (Heap.get?_push_of_some _ e)
  have stat : ∀ {σ' : L2.St} {H' : Hp} {s' : Shared}, Inv (X.blk s3 H3 scope ce fp) [] σ' H' s' → (∀ b ∈ fp, H' b = none) → ∀ b ∈ fp, FpOk (X.blk s3 H3 scope ce fp) [] H' b := fun {σ' H' s'} I' n' b hb =>
    ⟨n' b hb, (I'.ok.exf b hb).1, I'.ok.exfs b hb, .inl hb, fun x c e => (I'.ok.exf b hb).2 x c e, fun p hp => by cases (show p ∈ ([] : List (Addr × Obj)) from hp)⟩
  refine PpSet.codeAny_compStart_set ?loop (T.self X.A 0 _ _ _ st4 ?loop)
  refine loop_out (hs1 ce) (fun n s' => ∃ i H', Inv (X.blk s3 H3 scope ce fp) [] (L2.wipe σ (own.map (·.2))) H' s' ∧ tn i s'.heap ∧ (∀ b ∈ fp, H' b = none) ∧ W i n H') ?_ m0 ⟨0, H3, I4, st4, nfp, w0⟩
  rintro n s5 ⟨i, H5, I5, st5, n5, w5⟩
  rcases turn i n H5 w5 with ⟨stop, se⟩ | ⟨go, Nx, next, step⟩
  · refine thnF (T.done (X.blk s3 H3 scope ce fp) rfl rfl rfl hc i [] s5 _ H5 (fun _ _ => False) I5 (stat I5 n5) st5 stop) fun r s6 ⟨hr, I6⟩ => ?_
    subst hr
    have I7 : Inv X pins σ H5 s6 := I3.call' (ch := fp) I6.os I6.base I6.hok I6.bare fun b hb => ⟨(f3 b hb).1.2.2.2.1, (f3 b hb).1.2.1, (f3 b hb).1.2.2.2.2.1, (f3 b hb).1.2.2.2.2.2⟩
    have nC : H5 s3.heap.objs.size = none := cL ▸ (show H5 ce.locals = none from I6.free)
    obtain ⟨m, hn, _⟩ := I6.loc
    have hn : s6.heap.Ns ce.locals m := hn
    rw [cL] at hn
    exact fin D s3.heap.objs.size s6 m H5 I7 se hn (I3.fpOk (Nat.le_refl _) nC)
  · refine thnF (T.item (X.blk s3 H3 scope ce fp) rfl rfl rfl hc i [] s5 _ H5 (fun _ _ => False) I5 (stat I5 n5) st5 go) fun r s6 ⟨u, hr, h6⟩ => ?_
    subst hr
    refine thnF h6 fun _ s7 ⟨x, H7, I7, r7, y7, st7, n7⟩ => ?_
    have pin7 := I7.pinned (stat I7 n7) (T.obj _ _ st7)
    refine thnF (pg.run _ s7 _ H7 x u _ pin7 r7 (step x H7 y7)) fun _ s8 ⟨σ8, H8, I8, w8, q8⟩ => thnF (pt.run _ s8 σ8 H8 _ I8 q8) fun b s9 ⟨H9, I9, q9⟩ => ?_
    have over : ∀ {σ9 : L2.St} {s' : Shared} {H' : Hp}, Inv (X.blk s3 H3 scope ce fp) ([] ++ pinsAt fp s7.heap) σ9 H' s' → (L2.wipe σ (own.map (·.2))).length = σ9.length → (∀ (j : Nat) v, (L2.wipe σ (own.map (·.2)))[j]? = some (some v) → σ9[j]? = some (some v)) → Nx H' →
        ∃ m, m < n ∧ ∃ i H', Inv (X.blk s3 H3 scope ce fp) [] (L2.wipe σ (own.map (·.2))) H' s' ∧ tn i s'.heap ∧ (∀ b ∈ fp, H' b = none) ∧ W i m H' := fun {σ9 s' H'} I' hl hk nx => by
      obtain ⟨m', lt, w'⟩ := next H' nx
      have held : ∀ b ∈ fp, ∀ o, s7.heap.get? b = some o → s'.heap.get? b = some o ∧ H' b = none := fun b hb o e =>
        have z := I'.pin (b, o) (List.mem_append_right _ (List.mem_append_right _ (mem_pinsAt hb e)))
        ⟨z.1, z.2.1⟩
      refine ⟨m', lt, i + 1, H', (I'.unpinned (pins := [])).weak hl hk, T.keep _ _ _ st7 fun b hb o e => (held b hb o e).1, fun b hb => ?_, w'⟩
      obtain ⟨o, e, _⟩ := T.obj _ _ st7 b hb
      exact (held b hb o e).2
    have len8 : (L2.wipe σ (own.map (·.2))).length = σ8.length := by rw [← w8, wipe_length]
    have know8 : ∀ (j : Nat) v, (L2.wipe σ (own.map (·.2)))[j]? = some (some v) → σ8[j]? = some (some v) := fun j v e => (wipe_some (w8 ▸ e)).1
    have know9 : ∀ (j : Nat) v, (L2.wipe σ (own.map (·.2)))[j]? = some (some v) → (L2.wipe σ8 vs1)[j]? = some (some v) := fun j v e => by
      rw [← w8] at e
      obtain ⟨e1, e2⟩ := wipe_some e
      rw [L2.wipe_out fun z => e2 (hv j z)]
      exact e1
    cases b with
    | false => exact over I9 len8 know8 q9
    | true =>
      refine thnF (pi1.run _ s9 σ8 H9 _ I9 q9) fun xv s10 hx => thnF hx fun itv s11 h11 => ?_
      obtain ⟨it1, fp1, tn1, J1, H11, rfl, I11, T1, st11, f11, W1, ⟨m1, w1⟩, turn1⟩ := h11
      have stat1 : ∀ {H' : Hp}, (∀ b ∈ fp1, H' b = none) → ∀ b ∈ fp1, FpOk (X.blk s3 H3 scope ce fp) ([] ++ pinsAt fp s7.heap) H' b := fun n' b hb => ⟨n' b hb, (f11 b hb).2⟩
      have inner : codeAny (model X.prog X.w) X.A (.compLoop (two elt tg iter tg1 iter1 ifs ifs1 scope pos) 1 (.ref it1) (.ref D) ce)
          (fun r s' => match r with
            | .ok _ => ∃ m, m < n ∧ ∃ i H', Inv (X.blk s3 H3 scope ce fp) [] (L2.wipe σ (own.map (·.2))) H' s' ∧ tn i s'.heap ∧ (∀ b ∈ fp, H' b = none) ∧ W i m H'
            | .error _ => False) s11 := by
        refine loop_in (fun k s' => ∃ j H', Inv (X.blk s3 H3 scope ce fp) ([] ++ pinsAt fp s7.heap) (L2.wipe σ8 vs1) H' s' ∧ tn1 j s'.heap ∧ (∀ b ∈ fp1, H' b = none) ∧ W1 j k H') ?_ m1 ⟨0, H11, I11.weak (wipe_length _ _) (fun j v e => (wipe_some e).1), st11, fun b hb => (f11 b hb).1, w1⟩
        rintro k s12 ⟨j, H12, I12, st12, n12, w12⟩
        rcases turn1 j k H12 w12 with ⟨stop1, nx1⟩ | ⟨go1, Nx1, next1, step1⟩
        · refine thnF (T1.done (X.blk s3 H3 scope ce fp) rfl rfl rfl hc j _ s12 (L2.wipe σ8 vs1) H12 (fun _ _ => False) I12 (stat1 n12) st12 stop1) fun r s13 ⟨hr, I13⟩ => ?_
          subst hr
          exact over I13 (len8.trans (wipe_length σ8 vs1).symm) know9 nx1
        · refine thnF (T1.item (X.blk s3 H3 scope ce fp) rfl rfl rfl hc j _ s12 (L2.wipe σ8 vs1) H12 (fun _ _ => False) I12 (stat1 n12) st12 go1) fun r s13 ⟨u1, hr, h13⟩ => ?_
          subst hr
          refine thnF h13 fun _ s14 ⟨x1, H14, I14, r14, y14, st14, n14⟩ => ?_
          have pin14 := I14.pinned (stat1 n14) (T1.obj _ _ st14)
          refine thnF (pg1.run _ s14 (L2.wipe σ8 vs1) H14 x1 u1 _ pin14 r14 (step1 x1 H14 y14)) fun _ s15 ⟨σ15, H15, I15, w15, q15⟩ => thnF (pt1.run _ s15 σ15 H15 _ I15 q15) fun b1 s16 ⟨H16, I16, q16⟩ => ?_
          have over1 : ∀ {s' : Shared} {H' : Hp}, Inv (X.blk s3 H3 scope ce fp) (([] ++ pinsAt fp s7.heap) ++ pinsAt fp1 s14.heap) σ15 H' s' → Nx1 H' → ∃ m, m < k ∧ ∃ j H', Inv (X.blk s3 H3 scope ce fp) ([] ++ pinsAt fp s7.heap) (L2.wipe σ8 vs1) H' s' ∧ tn1 j s'.heap ∧ (∀ b ∈ fp1, H' b = none) ∧ W1 j m H' := fun {s' H'} I' nx => by
            obtain ⟨m', lt, w'⟩ := next1 H' nx
            have held : ∀ b ∈ fp1, ∀ o, s14.heap.get? b = some o → s'.heap.get? b = some o ∧ H' b = none := fun b hb o e =>
              have z := I'.pin (b, o) (List.mem_append_right _ (List.mem_append_right _ (mem_pinsAt hb e)))
              ⟨z.1, z.2.1⟩
            refine ⟨m', lt, j + 1, H', I'.unpinned.weak (by rw [← w15, wipe_length]) (fun j v e => (wipe_some (w15 ▸ e)).1), T1.keep _ _ _ st14 fun b hb o e => (held b hb o e).1, fun b hb => ?_, w'⟩
            obtain ⟨o, e, _⟩ := T1.obj _ _ st14 b hb
            exact (held b hb o e).2
          cases b1 with
          | false => exact over1 I16 q16
          | true =>
            refine thnF (pe.run _ s16 σ15 H16 _ I16 q16) fun z s17 ⟨yv, H17, I17, r17, acc, HI, dacc, dy, eD, room, sub, ra, gd, nx⟩ => ?_
            exact so_add (X := X.blk s3 H3 scope ce fp) hub I17 eD room r17 sub ra gd fun s18 I18 => over1 I18 nx
      exact start_in inner (T1.self X.A 0 _ _ _ st11 inner)
theorem pe_ss2 {elt tg iter tg1 iter1 : Expr} {ifs ifs1 : List Expr} {scope : Scope} {own : List (Str × Nat)} {vs1 : List Nat} {p pos pos2 : Pos} {wi wi1 : TI} {g g1 : TG} {tt tt1 : TT} {te : TE} (hc : X.calm = true) (hu : X.A.units + 64 < cLine) (gg : Gl X "sorted") (m1 : X.mg "sorted" = none) (hN : X.N.Nodup) (hi : PI X tg iter wi) (ok : BlkOk X.N X.env.scope scope own) (hv : ∀ i ∈ vs1, i ∈ own.map (·.2))
    (hg : ∀ (s : Shared) (H : Hp) (C : Addr) (cl : List (Str × Addr)) (fp : List Addr), PG (X.blk s H scope (compEnvC scope cl C X.env) fp) tg g) (ht : ∀ (s : Shared) (H : Hp) (C : Addr) (cl : List (Str × Addr)) (fp : List Addr), PTs (X.blk s H scope (compEnvC scope cl C X.env) fp) ifs tt)
    (hi1 : ∀ (s : Shared) (H : Hp) (C : Addr) (cl : List (Str × Addr)) (fp : List Addr), PI (X.blk s H scope (compEnvC scope cl C X.env) fp) tg1 iter1 wi1) (hg1 : ∀ (s : Shared) (H : Hp) (C : Addr) (cl : List (Str × Addr)) (fp : List Addr), PG (X.blk s H scope (compEnvC scope cl C X.env) fp) tg1 g1)
    (ht1 : ∀ (s : Shared) (H : Hp) (C : Addr) (cl : List (Str × Addr)) (fp : List Addr), PTs (X.blk s H scope (compEnvC scope cl C X.env) fp) ifs1 tt1) (he : ∀ (s : Shared) (H : Hp) (C : Addr) (cl : List (Str × Addr)) (fp : List Addr), PE (X.blk s H scope (compEnvC scope cl C X.env) fp) elt te)
    (hs : ∀ x, foldedSetIterable iter X.env x = pure x := by intro _; rfl) (hs1 : ∀ env x, foldedSetIterable iter1 env x = pure x := by intro _ _; rfl)
    (he1 : starEach [.SetComp elt [⟨tg, iter, ifs, 0⟩, ⟨tg1, iter1, ifs1, 0⟩] scope pos2] X.env = (false, eval (.SetComp elt [⟨tg, iter, ifs, 0⟩, ⟨tg1, iter1, ifs1, 0⟩] scope pos2) X.env) :: starEach [] X.env := by rfl) :
    PE X (.Call (.Name "sorted" p) [.SetComp elt [⟨tg, iter, ifs, 0⟩, ⟨tg1, iter1, ifs1, 0⟩] scope pos2] [] pos) (tSs2 X.K GS gSet2 wi g tt wi1 g1 tt1 te (own.map (·.2)) vs1) := by
  refine ⟨fun pins s σ H Q I h => ?_⟩
  refine wpAny_Call_Name_kw (ld_blt I gg m1 boot_sorted ?_)
  refine PyProof.Rows.callWith_builtin1 (PyProof.Rows.args_cons ?_ he1) he1 rfl
  rw [PpSet.eval_SetComp]
  refine sc_core2 hc hu hN I hi ok hv hg ht he hs hi1 hg1 ht1 hs1 h fun D C s' m H' I' se hn f => ⟨m, hn, fun h2 sb => ?_⟩
  obtain ⟨f0, f1, f2, f3, f4, f5⟩ := f
  exact PyProof.Rows.args_nil (ss_end hc hu (I'.turned (t' := s'.toks) (fun b o hb e => (sb.2 b hb).trans e) f0 f1 f3 f4 f5) se)
end
end Ev
set_option Elab.async false
set_option linter.all false
set_option autoImplicit false
set_option maxRecDepth 100000
namespace Ev
open PySem PySem.Spec L2 PyProof.Rows
section
variable {X : Cx}
/-! ### d.get(k, z) -/
def kOk : D → Bool
  | .int _ => true
  | .str _ => true
  | _ => false
theorem findK_rp {K : PySem.W.Frag} {H : Hp} (k : L2.Key) : ∀ {kvs : List (L2.Key × V)} {ds : List (D × D)}, RpK K H kvs ds → (∃ v d, valV kvs k = some v ∧ findK k ds = some d ∧ Rp K H v d) ∨ (valV kvs k = none ∧ findK k ds = none)
  | _, _, .nil => .inr ⟨rfl, rfl⟩
  | _, _, .cons (k := k') (vs := vs) (v := v) (d := d) (ds := ds) h a => by
    unfold findK
    rw [keyOf_D]
    dsimp only
    by_cases e : k' = k
    · subst e
      rw [if_pos rfl]
      exact .inl ⟨v, d, by simp [valV], rfl, h⟩
    · rw [if_neg e]
      have e2 : valV ((k', v) :: vs) k = valV vs k := by simp [valV, e]
      rw [e2]
      exact findK_rp k a
variable {K : PySem.W.Frag} {W : WX} {C : Exc} {te ta tb : TE} {fe fa fb : M D}
def isDic : D → Bool
  | .dict _ => true
  | _ => false
def fGet2 (fe fa fb : M D) : M D := mbind fe fun d => if isDic d then (mbind fa fun k => mbind fb fun z => mlift (gGet2 d k z)) else fun _ => none
theorem rd_get2 (h : Rd K W C te fe) (ha : Rd K W C ta fa) (hb : Rd K W C tb fb) : Rd K W C (tDGet2 te ta tb) (fGet2 fe fa fb) :=
  RdG.bind (u := fun x σ H Q => ∃ a, x = .ref a ∧ IsD H a ∧ ta σ H fun y H2 => tb σ H2 fun z H3 => ∃ o, DGet H3 a y o ∧ Q (o.getD z) H3) h fun HI1 H1 x dx _ rx => by
    intro ρ HI H σ Q s so p
    cases rx with
    | dic h1 a1 =>
      rename_i a kvs ds
      have hH := so.sub _ _ (s _ _ h1)
      refine ⟨a, rfl, .inl ⟨kvs, .inl hH⟩, ?_⟩
      exact (RdG.bind (u := fun y σ H Q => tb σ H fun z H3 => ∃ o, DGet H3 a y o ∧ Q (o.getD z) H3) (ha.mono (same_H0 (H := HI))) fun HI2 H2 y dy s2 ry => RdG.bind (u := fun z σ H Q => ∃ o, DGet H a y o ∧ Q (o.getD z) H) (hb.mono (same_H0 (H := HI2))) fun HI3 H3 z dz s3 rz =>
        RdG.op fun r e HI4 H4 σ Q s4 sub q => by
          have hH4 := sub _ _ (s4 _ _ (s3 _ _ (s2 _ _ (s _ _ h1))))
          have a4 := dpk_mono (s.trans (s2.trans (s3.trans s4))) a1
          have fin : ∀ (k : L2.Key), keyOf dy = some k → y = kV k → ∃ o, DGet H4 a y o ∧ Q (o.getD z) H4 := fun k hk hy => by
            subst hy
            rw [gGet2, hk] at e
            cases e
            dsimp only at q
            refine ⟨valV kvs k, DGet.k hH4, ?_⟩
            rcases findK_rp k a4 with ⟨v, d, e1, e2, rv⟩ | ⟨e1, e2⟩
            · rw [e1]
              exact q _ HI4 H4 (TP.refl sub) (by rw [e2]; exact rv)
            · rw [e1]
              exact q _ HI4 H4 (TP.refl sub) (by rw [e2]; exact dp_mono s4 rz)
          cases ry with
          | int i => exact fin _ rfl rfl
          | str x => exact fin _ rfl rfl
          | _ => cases e) ρ HI H σ Q (Same.refl _) so p
    | _ => exact False.elim p
end
end Ev
set_option Elab.async false
set_option linter.all false
set_option autoImplicit false
set_option maxRecDepth 100000
namespace Ev
open PySem PySem.Spec L2 PyProof.Rows

/-! ### the end -/
theorem tx_mk {K : PySem.W.Frag} {h : Heap} {mg : Str → Option Value} {x : Str} {S : Stmt} {ps : List Str} (X : K.In h) (G : h.Ns mainGlobals mg) {f : Addr} {oc : Value} {od an : Option Addr} {osl : Array (Option Value)} {kV doc pm cdv ct : Value}
    (a : PySem.W.nsIn K mainGlobals x = some (some (.ref f))) (l : K.lookup f = some ⟨oc, od, .func (PySem.W.fnOf x x (defArgs S) (defBody S) (defScope S) .none kV doc pm an cdv ct), osl⟩) (c : PySem.W.codeIn K cdv x = true) (k : PySem.W.keepIn K (.ref f) = true)
    (hb : ∀ (kV doc pm : Value) (an : Option Addr) (cdv ct : Value) (us : List Value), us.length = ps.length → bindArgs (PySem.W.fnOf x x (defArgs S) (defBody S) (defScope S) .none kV doc pm an cdv ct) ⟨us, []⟩ = pure (ps.zip us)) : Tx K mg x S ps :=
  ⟨⟨f, _, fun_mk l c k, PySem.W.mg_of X G a, (fun_mk l c k).binds hb⟩⟩
/-- an own exception class under ValueError -/
theorem exf_mk {K : PySem.W.Frag} {h : Heap} {mg : Str → Option Value} {x : Str} {Cc : Addr} (X : K.In h) (G : h.Ns mainGlobals mg) (a : PySem.W.nsIn K mainGlobals x = some (some (.ref Cc))) (kC : PySem.W.keepIn K (.ref Cc) = true)
    (q : PySem.W.excIn K Cc [.type "ValueError", .type "Exception", .type "BaseException", .type "object"] "ValueError.__new__" = true) (sub : PySem.W.subIn K (.ref Cc) (.type "BaseException") = some true) (ty : PySem.W.typeIn K (.ref Cc) = some (.type "type"))
    (hg : PySem.W.findIn K (.ref Cc) "__getattribute__" = some (some (.builtin "BaseException.__getattribute__"))) (hk : PySem.W.findIn K (.ref Cc) "__getattr__" = some none) (hd : PySem.W.hasDictIn K Cc = true) (ha : PySem.W.findIn K (.ref Cc) "__class__" = some (some (.builtin "object.__class__")))
    (hn : PySem.W.specialIn K (.builtin "object.__class__") "__get__" = some (some (.builtin "getset_descriptor.__get__"))) (ht : PySem.W.takesIn K (.builtin "object.__class__") = some true) (hm : PySem.W.mroIn K Cc (.type "object") = some true)
    (ve : PySem.W.kitOne K (.ref Cc) (.type "ValueError") = some true) : ExF K mg x Cc :=
  ⟨PySem.W.mg_of X G a, kC, ⟨_, _, _, _, PySem.F.excBase_ValueError, q⟩, sub, ty, ⟨hg, hk, sub, hd, ha, hn, ht, hm⟩, ve⟩
/-- the law's promise -/
def spL (K : PySem.W.Frag) : Sp := fun vs H Q _ => ∃ (a : Addr) (ns : List Int), vs = [.ref a] ∧ SqL K H a (ns.map V.int) ∧ ns.length ≤ 63 ∧ ∀ H', Q (.bl true) H'
theorem ints_rp {K : PySem.W.Frag} {H : Hp} : ∀ (ns : List Int), RpAll K H (ns.map V.int) (ns.map PyData.int)
  | [] => .nil
  | n :: ns => .cons (.int n) (ints_rp ns)
theorem law_end {P : Program} {w : World} {K : PySem.W.Frag} {mg : Str → Option Value} {base : Heap} {C : Exc} {fa : Addr} {fd : FuncData} {S : Stmt} {k : Nat} {g : FM} {oc : Value} {od : Option Addr} {osl : Array (Option Value)} (hfa : mg "law" = some (.ref fa)) (l : K.lookup fa = some ⟨oc, od, .func fd, osl⟩)
    (F : Fn P w K mg base C "law" S k ["script"] g) (hg : ∀ ns : List Int, ns.length ≤ 63 → ∃ ρ, g [.im (.list (ns.map PyData.int))] = some (.rt false (.bool true) ρ)) : FnOk P w K mg base (L2.CX P w) k fa fd ["script"] (spL K) := by
  obtain ⟨f, fd', hF, h1, h2, _, _⟩ := F.ex
  obtain ⟨oc', od', kV, doc, pm, an, cdv, ct, osl', rfl, lk, hcd⟩ := hF.ex
  rw [hfa] at h2
  cases h2
  rw [l] at lk
  cases lk
  refine h1.imp fun vs H Q E h => ?_
  obtain ⟨a, ns, rfl, hS, hl, q⟩ := h
  obtain ⟨ρ, e⟩ := hg ns hl
  refine ⟨rfl, H, [.im (.list (ns.map PyData.int))], sok_args (vs := [.ref a]) (ds := [.list (ns.map PyData.int)]) (Same.refl H) (.cons (.lst hS (ints_rp ns)) .nil), ?_⟩
  rw [e]
  intro HI' H' _ _ v rv
  cases rv
  exact q H'
end Ev
set_option Elab.async false
set_option linter.all false
set_option autoImplicit false
set_option maxRecDepth 100000
namespace Ev
open PySem PySem.Spec L2 PyProof.Rows
/-! ### the mirrors of what nearly all laws share: cells, box, take -/
def cellsM : MS := (mseq (sbind (fOrL (mbind (mbind (fSl (fName 0) (mpure none) (mbind (fName 1) fun d => mlift (asI d))) fun x => mbind (mpure []) fun xs => mpure (x :: xs)) fun x => mlift (gList x)) (mbind (mbind (mpure (.int 0)) fun x => mbind (mpure []) fun xs => mpure (x :: xs)) fun ds => mlift (if szOk ds.length then some ds else none))) fun ds r => some (.nx (r.set 2 (.mu (.list ds))))) (mseq (fFor (fEnum (mbind (fSl (fName 0) (mbind (fName 1) fun d => mlift (asI d)) (mbind (mpure (.int 63)) fun d => mlift (asI d))) fun d => mlift (if iterable d then some (d, []) else none))) (tfTup 2 (tfCons (tfName 3) (tfCons (tfName 4) tfNil))) (mseq (sbind (mbind (mbind (mbind (fName 3) fun x => mbind (mpure []) fun xs => mpure (x :: xs)) fun x => mlift ((g1 gInt) x)) fun x => mbind (fName 1) fun y => mlift (gMod x y)) fun d r => (tfName 5 d r).map .nx) (fSt 2 (fBor flatD 2 (mbind (mbind (fName 2) fun x => mbind (fName 5) fun y => mlift (gIx x y)) fun x => mbind (mbind (fName 4) fun x => mbind (mbind (fName 3) fun x => mbind (mpure (.int 2)) fun y => mlift (gAdd x y)) fun y => mlift (gMulI x y)) fun y => mlift (gAdd x y))) (fName 5)))) (sbind (fName 2) fun d r => some (.rt false d r))))
def boxM (bc : Int) : MS := (mseq (sbind (mbind (mbind (mbind (fName 1) fun x => mbind (mbind (mbind (fName 0) fun x => mbind (mpure []) fun xs => mpure (x :: xs)) fun x => mlift ((g1 gLen) x)) fun y => mlift ((gCmp fun a _ => a) x y)) fun d => mlift (asB d)) fun b => if b then (mbind (fName 0) fun x => mbind (fName 1) fun y => mlift (gIx x y)) else (mpure (.int 0))) fun d r => (tfName 2 d r).map .nx) (sbind (mbind (mbind (mbind (mbind (mbind (fName 2) fun x => mbind (mpure []) fun xs => mpure (x :: xs)) fun x => mlift ((g1 gAbs) x)) fun x => mbind (mbind (mbind (mbind (mbind (mbind (fName 2) fun x => mbind (mpure []) fun xs => mpure (x :: xs)) fun x => mlift ((g1 gAbs) x)) fun x => mbind (mbind (mpure (.int 10)) fun x => mbind (mpure (.int 18)) fun y => mlift (gPow x y)) fun y => mlift ((gCmp fun a _ => !a) x y)) fun x => mbind (mpure []) fun xs => mpure (x :: xs)) fun x => mlift ((g1 gInt) x)) fun y => mlift (gMulI x y)) fun x => mbind (mbind (mbind (mbind (mbind (mbind (mbind (fName 2) fun x => mbind (mpure []) fun xs => mpure (x :: xs)) fun x => mlift ((g1 gInt) x)) fun x => mbind (mpure (.int 2305843009213693951)) fun y => mlift (gMod x y)) fun x => mbind (mbind (mpure (.int 39373)) fun x => mbind (fName 1) fun y => mlift (gMulI x y)) fun y => mlift (gAdd x y)) fun x => mbind (mpure (.int bc)) fun y => mlift (gAdd x y)) fun x => mbind (mbind (mpure (.int 0)) fun x => mbind (mpure []) fun xs => mpure (x :: xs)) fun xs => mpure (x :: xs)) fun xs => mpure (x :: xs)) fun ds => mlift (if szOk ds.length then some ds else none)) fun ds r => some (.rt true (.list ds) r)))
def takeM : MS := (mseq (sbind (fBor (fun _ => true) 0 (mbind (mbind (mbind (fName 0) fun x => mbind (mpure (.int 0)) fun y => mlift (gIx x y)) fun x => mbind (mpure (.int 0)) fun y => mlift ((gCmp fun _ b => b) x y)) fun d => mlift (asB d))) fun b => if b then (mseq (sbind (fBor flatD 0 (mbind (mbind (mbind (mbind (fName 0) fun x => mbind (mpure (.int 0)) fun y => mlift (gIx x y)) fun x => mbind (mpure []) fun xs => mpure (x :: xs)) fun x => mlift ((g1 gInt) x)) fun x => mbind (fName 1) fun y => mlift (gMod x y))) fun d r => (tfName 2 d r).map .nx) (mseq (fSt 0 (fBor flatD 0 (mbind (mbind (fName 0) fun x => mbind (mpure (.int 0)) fun y => mlift (gIx x y)) fun x => mbind (fName 1) fun y => mlift (gFdiv x y))) (mpure (.int 0))) (sbind (fName 2) fun d r => some (.rt false d r)))) else (fun r => some (.nx r))) (mseq (fSt 0 (fBor flatD 0 (mbind (mbind (fName 0) fun x => mbind (mpure (.int 2)) fun y => mlift (gIx x y)) fun x => mbind (mpure (.int 1)) fun y => mlift (gAdd x y))) (mpure (.int 2))) (mseq (sbind (fBor flatD 0 (mbind (mbind (mbind (mbind (mbind (mbind (fName 0) fun x => mbind (mpure (.int 1)) fun y => mlift (gIx x y)) fun x => mbind (mbind (mpure (.int 48271)) fun x => mbind (mbind (fName 0) fun x => mbind (mpure (.int 2)) fun y => mlift (gIx x y)) fun y => mlift (gMulI x y)) fun y => mlift (gAdd x y)) fun x => mbind (mbind (mpure (.int 39373)) fun x => mbind (mbind (fName 0) fun x => mbind (mpure (.int 2)) fun y => mlift (gIx x y)) fun y => mlift (gAdd x y)) fun y => mlift (gMulI x y)) fun x => mbind (mpure []) fun xs => mpure (x :: xs)) fun x => mlift ((g1 gInt) x)) fun x => mbind (mpure (.int 2147483647)) fun y => mlift (gMod x y))) fun d r => (tfName 3 d r).map .nx) (mseq (sbind (mbind (mbind (mbind (mbind (fName 3) fun x => mbind (mpure []) fun xs => mpure (x :: xs)) fun x => mlift ((g1 gInt) x)) fun x => mbind (mpure (.int 40009)) fun y => mlift (gMod x y)) fun x => mbind (mpure (.int 7)) fun y => mlift (gAdd x y)) fun d r => (tfName 4 d r).map .nx) (mseq (sbind (fBor flatD 0 (mbind (mbind (mbind (mbind (mbind (mbind (fName 3) fun x => mbind (mbind (fName 0) fun x => mbind (mpure (.int 2)) fun y => mlift (gIx x y)) fun y => mlift (gAdd x y)) fun x => mbind (mbind (mbind (fName 0) fun x => mbind (mpure (.int 1)) fun y => mlift (gIx x y)) fun x => mbind (mpure (.int 1000003)) fun y => mlift (gFdiv x y)) fun y => mlift (gAdd x y)) fun x => mbind (fName 4) fun y => mlift (gMulI x y)) fun x => mbind (mpure []) fun xs => mpure (x :: xs)) fun x => mlift ((g1 gInt) x)) fun x => mbind (mpure (.int 2147483629)) fun y => mlift (gMod x y))) fun d r => (tfName 5 d r).map .nx) (sbind (mbind (mbind (mbind (mbind (mbind (mbind (mbind (mbind (mbind (fName 5) fun x => mbind (mpure (.int 48271)) fun y => mlift (gMulI x y)) fun x => mbind (fName 3) fun y => mlift (gAdd x y)) fun x => mbind (mpure []) fun xs => mpure (x :: xs)) fun x => mlift ((g1 gInt) x)) fun x => mbind (mpure (.int 2147483587)) fun y => mlift (gMod x y)) fun x => mbind (mpure (.int 64)) fun y => mlift (gFdiv x y)) fun x => mbind (mpure []) fun xs => mpure (x :: xs)) fun x => mlift ((g1 gInt) x)) fun x => mbind (fName 1) fun y => mlift (gMod x y)) fun d r => some (.rt false d r)))))))
theorem eqSl_rf (l : Sl) : eqSl l l = true := by cases l <;> simp [eqSl, eqD_rf]
theorem eqR_rf : ∀ (r : Rho), eqR r r = true
  | [] => rfl
  | l :: r => by rw [eqR, eqSl_rf, eqR_rf r]; rfl
theorem atI_nat {α : Type} {xs : List α} {i : Int} {x : α} {n : Nat} (e : i = (n : Int)) (h : xs[n]? = some x) : atI xs i = some x := by
  subst e
  have l := (List.getElem?_eq_some_iff.mp h).1
  unfold atI ixN
  rw [if_pos (Int.natCast_nonneg n), if_pos (by exact_mod_cast l)]
  simpa using h
theorem ixN_nat {n m : Nat} {i : Int} (e : i = (n : Int)) (h : n < m) : ixN m i = some n := by
  subst e
  unfold ixN
  rw [if_pos (Int.natCast_nonneg n), if_pos (by exact_mod_cast h)]
  simp
theorem cmp_int (f : Bool → Bool → Bool) (a b : Int) : gCmp f (.int a) (.int b) = some (.bool (f (decide (a < b)) (decide (b < a)))) := by
  unfold gCmp
  rw [if_pos (by rfl), PySem.W.dataLt_int, PySem.W.dataLt_int]
theorem ix0 (x : D) (xs : List D) : gIx (.list (x :: xs)) (.int 0) = some x := atI_nat (n := 0) rfl rfl
theorem ix1 (x y : D) (xs : List D) : gIx (.list (x :: y :: xs)) (.int 1) = some y := atI_nat (n := 1) rfl rfl
theorem ix2 (x y z : D) (xs : List D) : gIx (.list (x :: y :: z :: xs)) (.int 2) = some z := atI_nat (n := 2) rfl rfl
theorem add_int (a b : Int) : gAdd (.int a) (.int b) = some (.int (a + b)) := rfl
theorem mod_int' (a b : Int) (h : 0 < b) : gMod (.int a) (.int b) = some (.int (a % b)) := by simp [gI, h]
theorem fdiv_int (a b : Int) (h : 0 < b) (h2 : b < 2 ^ 62) : gFdiv (.int a) (.int b) = some (.int (a / b)) := by
  have : Nat.ble b.natAbs.log2 8000 = true := by
    refine Nat.ble_eq_true_of_le ?_
    have h3 : b.natAbs < 2 ^ 62 := by omega
    have h4 : b.natAbs ≠ 0 := by omega
    have := (Nat.log2_lt h4).mpr h3
    omega
  simp [gI, h, this]
theorem mul_r (a b : Int) (h : -(2 ^ 63) < b) (h2 : b < 2 ^ 63) : gMulI (.int a) (.int b) = some (.int (a * b)) := by
  have e : smallW b = true := by unfold smallW; rw [decide_eq_true h, decide_eq_true h2]; rfl
  simp [gI, gMulF, e]
theorem mul_l (a b : Int) (h : -(2 ^ 63) < a) (h2 : a < 2 ^ 63) : gMulI (.int a) (.int b) = some (.int (a * b)) := by
  have e : smallW a = true := by unfold smallW; rw [decide_eq_true h, decide_eq_true h2]; rfl
  simp [gI, gMulF, e]
theorem g1_1 (f : D → Option D) (d : D) : g1 f [d] = f d := rfl
theorem int_int (a : Int) : gInt (.int a) = some (.int a) := rfl
theorem ixN_0 (n : Nat) : ixN (n + 1) 0 = some 0 := ixN_nat (n := 0) rfl (Nat.succ_pos n)
theorem ixN_1 (n : Nat) : ixN (n + 2) 1 = some 1 := ixN_nat (n := 1) rfl (by omega)
theorem ixN_2 (n : Nat) : ixN (n + 3) 2 = some 2 := ixN_nat (n := 2) rfl (by omega)
/-- what a draw by mixed numbers gives -/
def onceZ (b c : Int) : Int := (b + 48271 * c) * (39373 + c) % 2147483647
def twiceZ (b c : Int) : Int := (onceZ b c + c + b / 1000003) * (onceZ b c % 40009 + 7) % 2147483629
def drawZ (b c n : Int) : Int := (twiceZ b c * 48271 + onceZ b c) % 2147483587 / 64 % n
theorem take_hi (a b c n : Int) (hn : 0 < n) (hn2 : n < 2 ^ 60) (ha : 0 < a) : mBody [0] 2 6 takeM [.mu (.list [.int a, .int b, .int c]), .im (.int n)] = some (.rt false (.int (a % n)) [.mu (.list [.int (a / n), .int b, .int c]), .im (.int n)]) := by
  simp (disch := omega) only [mBody, onlyIm, takeM, mseq, sbind, mbind, mpure, mlift, fBor, muAt, fName, ix0, ix1, ix2, cmp_int, add_int, mod_int', fdiv_int, mul_r, mul_l, eqR_rf, flatSl, flatD, flatDs, asB, tfName, g1_1, int_int, ha, List.replicate, List.all_cons, List.all_nil, List.set_cons_zero, List.set_cons_succ, List.cons_append, List.nil_append, List.getElem?_cons_zero, List.getElem?_cons_succ, Bool.and_true, Bool.true_and, if_true, if_false, decide_true, decide_false, back, Option.map_some, List.length_cons, List.length_nil, Nat.reduceSub, Nat.reduceAdd, List.contains, List.elem, BEq.rfl, beq_self_eq_true, ixN_0, ixN_1, ixN_2, ite_false, Bool.false_eq_true, reduceIte]
theorem take_lo (a b c n : Int) (hn : 0 < n) (hn2 : n < 2 ^ 60) (ha : ¬ 0 < a) (hc : -(2 ^ 40) ≤ c) (hc2 : c ≤ 2 ^ 40) (hb : 0 ≤ b) (hb2 : b < 2 ^ 62) :
    mBody [0] 2 6 takeM [.mu (.list [.int a, .int b, .int c]), .im (.int n)] = some (.rt false (.int (drawZ b (c + 1) n)) [.mu (.list [.int a, .int b, .int (c + 1)]), .im (.int n)]) := by
  simp (disch := omega) only [mBody, onlyIm, takeM, mseq, sbind, mbind, mpure, mlift, fBor, muAt, fName, ix0, ix1, ix2, cmp_int, add_int, mod_int', fdiv_int, mul_r, mul_l, eqR_rf, flatSl, flatD, flatDs, asB, tfName, g1_1, int_int, ha, List.replicate, List.all_cons, List.all_nil, List.set_cons_zero, List.set_cons_succ, List.cons_append, List.nil_append, List.getElem?_cons_zero, List.getElem?_cons_succ, Bool.and_true, Bool.true_and, if_true, if_false, decide_true, decide_false, back, Option.map_some, List.length_cons, List.length_nil, Nat.reduceSub, Nat.reduceAdd, List.contains, List.elem, BEq.rfl, beq_self_eq_true, ixN_0, ixN_1, ixN_2, ite_false, Bool.false_eq_true, reduceIte]
  rfl
theorem take_ok (a b c n : Int) (hn : 0 < n) (hn2 : n < 2 ^ 60) (hc : -(2 ^ 40) ≤ c) (hc2 : c ≤ 2 ^ 40) (hb : 0 ≤ b) (hb2 : b < 2 ^ 62) :
    ∃ d a' c', mBody [0] 2 6 takeM [.mu (.list [.int a, .int b, .int c]), .im (.int n)] = some (.rt false (.int d) [.mu (.list [.int a', .int b, .int c']), .im (.int n)]) ∧ 0 ≤ d ∧ d < n ∧ (c' = c ∨ c' = c + 1) := by
  by_cases ha : 0 < a
  · exact ⟨a % n, a / n, c, take_hi a b c n hn hn2 ha, Int.emod_nonneg _ (by omega), Int.emod_lt_of_pos _ hn, .inl rfl⟩
  · exact ⟨_, a, c + 1, take_lo a b c n hn hn2 ha hc hc2 hb hb2, Int.emod_nonneg _ (by omega), Int.emod_lt_of_pos _ hn, .inr rfl⟩
theorem pow18 : gPow (.int 10) (.int 18) = some (.int (10 ^ 18)) := by rfl
theorem szOk3 : szOk 3 = true := by rfl
theorem at_ints {cs : List Int} {n : Nat} {c : Int} (h : cs[n]? = some c) : atI (cs.map PyData.int) (n : Int) = some (.int c) := atI_nat rfl (by rw [List.getElem?_map, h]; rfl)
theorem int_t : gInt (.bool true) = some (.int 1) := rfl
theorem int_f : gInt (.bool false) = some (.int 0) := rfl
theorem box_ok (bc : Int) (hbc : 0 ≤ bc) (hbc2 : bc < 10 ^ 9) (cs : List Int) (k : Nat) (hk : k < 1000) :
    ∃ a b r, mBody [] 2 3 (boxM bc) [.im (.list (cs.map .int)), .im (.int k)] = some (.rt true (.list [.int a, .int b, .int 0]) r) ∧ 0 ≤ b ∧ b < 2 ^ 62 := by
  by_cases h : k < cs.length
  · obtain ⟨c, hc⟩ : ∃ c, cs[k]? = some c := ⟨_, List.getElem?_eq_getElem h⟩
    have h' : (k : Int) < (cs.length : Int) := by exact_mod_cast h
    have gx : gIx (.list (cs.map .int)) (.int k) = some (.int c) := at_ints hc
    obtain ⟨m, ab⟩ : ∃ m, gAbs (.int c) = some (.int m) := ⟨_, rfl⟩
    by_cases hm : m < 10 ^ 18
    · simp (disch := omega) only [mBody, onlyIm, boxM, mseq, sbind, mbind, mpure, mlift, fName, cmp_int, add_int, mod_int', mul_r, mul_l, asB, tfName, g1_1, int_int, int_t, int_f, List.replicate, List.all_cons, List.all_nil, List.set_cons_zero, List.set_cons_succ, List.cons_append, List.nil_append, List.getElem?_cons_zero, List.getElem?_cons_succ, Bool.and_true, Bool.true_and, if_true, if_false, decide_true, decide_false, back, Option.map_some, List.length_cons, List.length_nil, Nat.reduceSub, Nat.reduceAdd, gLen, List.length_map, reduceIte, Bool.false_eq_true, pow18, Bool.not_true, Bool.not_false, szOk3, ab, h', gx, hm]
      exact ⟨_, _, _, rfl, by omega, by omega⟩
    · simp (disch := omega) only [mBody, onlyIm, boxM, mseq, sbind, mbind, mpure, mlift, fName, cmp_int, add_int, mod_int', mul_r, mul_l, asB, tfName, g1_1, int_int, int_t, int_f, List.replicate, List.all_cons, List.all_nil, List.set_cons_zero, List.set_cons_succ, List.cons_append, List.nil_append, List.getElem?_cons_zero, List.getElem?_cons_succ, Bool.and_true, Bool.true_and, if_true, if_false, decide_true, decide_false, back, Option.map_some, List.length_cons, List.length_nil, Nat.reduceSub, Nat.reduceAdd, gLen, List.length_map, reduceIte, Bool.false_eq_true, pow18, Bool.not_true, Bool.not_false, szOk3, ab, h', gx, hm]
      exact ⟨_, _, _, rfl, by omega, by omega⟩
  · have h' : ¬ (k : Int) < (cs.length : Int) := by exact_mod_cast h
    have ab : gAbs (.int 0) = some (.int 0) := rfl
    have hm : (0 : Int) < 10 ^ 18 := by decide
    simp (disch := omega) only [mBody, onlyIm, boxM, mseq, sbind, mbind, mpure, mlift, fName, cmp_int, add_int, mod_int', mul_r, mul_l, asB, tfName, g1_1, int_int, int_t, int_f, List.replicate, List.all_cons, List.all_nil, List.set_cons_zero, List.set_cons_succ, List.cons_append, List.nil_append, List.getElem?_cons_zero, List.getElem?_cons_succ, Bool.and_true, Bool.true_and, if_true, if_false, decide_true, decide_false, back, Option.map_some, List.length_cons, List.length_nil, Nat.reduceSub, Nat.reduceAdd, gLen, List.length_map, reduceIte, Bool.false_eq_true, pow18, Bool.not_true, Bool.not_false, szOk3, ab, h', hm]
    exact ⟨_, _, _, rfl, by omega, by omega⟩
/-! ### the cells -/
def intsD (cs : List Int) : D := .list (cs.map .int)
def flatI (l : Sl) : Prop := flatSl l = true
theorem map_set {α β : Type} (f : α → β) : ∀ (l : List α) (i : Nat) (a : α), (l.map f).set i (f a) = (l.set i a).map f
  | [], _, _ => rfl
  | _ :: _, 0, _ => rfl
  | x :: l, i + 1, a => by rw [List.map_cons, List.set_cons_succ, List.set_cons_succ, List.map_cons, map_set f l i a]
def cellB : MS := (mseq (sbind (mbind (mbind (mbind (fName 3) fun x => mbind (mpure []) fun xs => mpure (x :: xs)) fun x => mlift ((g1 gInt) x)) fun x => mbind (fName 1) fun y => mlift (gMod x y)) fun d r => (tfName 5 d r).map .nx) (fSt 2 (fBor flatD 2 (mbind (mbind (fName 2) fun x => mbind (fName 5) fun y => mlift (gIx x y)) fun x => mbind (mbind (fName 4) fun x => mbind (mbind (fName 3) fun x => mbind (mpure (.int 2)) fun y => mlift (gAdd x y)) fun y => mlift (gMulI x y)) fun y => mlift (gAdd x y))) (fName 5)))
theorem cell_turn (A : D) (m : Nat) (hm : 0 < m) (cs : List Int) (hl : cs.length = m) (n : Nat) (hn : n < 1000) (x : Int) (s5 : Sl) (h5 : flatSl s5 = true) :
    ∃ cs', cs'.length = m ∧ cellB [.im A, .im (.int m), .mu (intsD cs), .im (.int n), .im (.int x), s5] = some (.nx [.im A, .im (.int m), .mu (intsD cs'), .im (.int n), .im (.int x), .im (.int ((n % m : Nat) : Int))]) := by
  have hlt : n % m < cs.length := by rw [hl]; exact Nat.mod_lt _ hm
  have hm' : (0 : Int) < (m : Int) := by exact_mod_cast hm
  obtain ⟨c, hc⟩ : ∃ c, cs[n % m]? = some c := ⟨_, List.getElem?_eq_getElem hlt⟩
  have gx : gIx (.list (cs.map .int)) (.int ((n % m : Nat) : Int)) = some (.int c) := at_ints hc
  have e0 : (n : Int) % (m : Int) = ((n % m : Nat) : Int) := by omega
  have ix : ixN cs.length ((n % m : Nat) : Int) = some (n % m) := ixN_nat rfl hlt
  refine ⟨cs.set (n % m) (c + x * (n + 2)), by rw [List.length_set]; exact hl, ?_⟩
  simp (disch := omega) only [cellB, intsD, mseq, sbind, mbind, mpure, mlift, fBor, muAt, fName, g1_1, int_int, mod_int', tfName, e0, gx, ix, add_int, mul_r, eqR_rf, flatSl, flatD, List.set_cons_zero, List.set_cons_succ, List.getElem?_cons_zero, List.getElem?_cons_succ, List.all_cons, List.all_nil, Bool.and_true, Bool.true_and, h5, if_true, Option.map_some, List.length_map, map_set]
theorem cell_loop (A : D) (m : Nat) (hm : 0 < m) : ∀ (xs : List Int) (n : Nat) (cs : List Int) (s3 s4 s5 : Sl), cs.length = m → n + xs.length < 1000 → flatSl s5 = true →
    ∃ cs' s3' s4' s5', cs'.length = m ∧ forL (tfTup 2 (tfCons (tfName 3) (tfCons (tfName 4) tfNil))) cellB (enumD (n : Int) (xs.map .int)) [.im A, .im (.int m), .mu (intsD cs), s3, s4, s5] = some (.nx [.im A, .im (.int m), .mu (intsD cs'), s3', s4', s5'])
  | [], n, cs, s3, s4, s5, hl, _, _ => ⟨cs, s3, s4, s5, hl, rfl⟩
  | x :: xs, n, cs, s3, s4, s5, hl, hn, h5 => by
    rw [List.length_cons] at hn
    obtain ⟨cs1, l1, e1⟩ := cell_turn A m hm cs hl n (by omega) x s5 h5
    obtain ⟨cs2, t3, t4, t5, l2, e2⟩ := cell_loop A m hm xs (n + 1) cs1 (.im (.int n)) (.im (.int x)) (.im (.int ((n % m : Nat) : Int))) l1 (by omega) rfl
    refine ⟨cs2, t3, t4, t5, l2, ?_⟩
    rw [List.map_cons, enumD]
    unfold forL
    show (match cellB [.im A, .im (.int m), .mu (intsD cs), .im (.int n), .im (.int x), s5] with | some (.nx r2) => forL _ cellB (enumD ((n : Int) + 1) (xs.map .int)) r2 | some (.ct r2) => forL _ cellB (enumD ((n : Int) + 1) (xs.map .int)) r2 | some (.bk r2) => some (.nx r2) | x => x) = _
    rw [e1]
    exact e2
theorem cut_ints (ns : List Int) (lo hi : Option Int) : cutD (ns.map PyData.int) lo hi = ((ns.drop (HT.sIx ns.length 0 lo)).take (HT.sIx ns.length ns.length hi - HT.sIx ns.length 0 lo)).map PyData.int := by
  unfold cutD
  rw [List.length_map, ← List.map_drop, ← List.map_take]
theorem szOk1 : szOk 1 = true := by rfl
/-- the first m numbers, with the later ones added to them -/
theorem cells_ok (m : Nat) (hm : 0 < m) (hm2 : m < 60) (ns : List Int) (hl : ns.length ≤ 63) :
    ∃ cs r, mBody [] 2 6 cellsM [.im (.list (ns.map .int)), .im (.int m)] = some (.rt false (intsD cs) r) ∧ cs ≠ [] ∧ cs.length ≤ m := by
  have e1 : HT.sIx ns.length ns.length (some (m : Int)) = min m ns.length := HT.sIx_nat _ _ _
  have e2 : HT.sIx ns.length 0 (some (m : Int)) = min m ns.length := HT.sIx_nat _ _ _
  have e3 : HT.sIx ns.length ns.length (some (63 : Int)) = ns.length := (HT.sIx_nat _ _ 63).trans (by omega)
  have e4 : HT.sIx ns.length 0 none = 0 := rfl
  have g1 : gSl (.list (ns.map .int)) none (some (m : Int)) = some (.list ((ns.take (min m ns.length)).map .int)) := by
    show some (PyData.list (cutD (ns.map .int) none (some (m : Int)))) = _
    rw [cut_ints, e1, e4, List.drop_zero, Nat.sub_zero]
  have g2 : gSl (.list (ns.map .int)) (some (m : Int)) (some 63) = some (.list (((ns.drop (min m ns.length)).take (ns.length - min m ns.length)).map .int)) := by
    show some (PyData.list (cutD (ns.map .int) (some (m : Int)) (some 63))) = _
    rw [cut_ints, e2, e3]
  have key : ∀ (c0 : List Int), c0 ≠ [] → c0.length ≤ m → (∀ x xs, (ns.drop (min m ns.length)).take (ns.length - min m ns.length) = x :: xs → c0.length = m) →
      ∃ cs s3 s4 s5, forL (tfTup 2 (tfCons (tfName 3) (tfCons (tfName 4) tfNil))) cellB (enumD 0 (((ns.drop (min m ns.length)).take (ns.length - min m ns.length)).map .int)) [.im (.list (ns.map .int)), .im (.int m), .mu (intsD c0), .un, .un, .un] = some (.nx [.im (.list (ns.map .int)), .im (.int m), .mu (intsD cs), s3, s4, s5]) ∧ cs ≠ [] ∧ cs.length ≤ m := by
    intro c0 h0 h1 h2
    cases e : (ns.drop (min m ns.length)).take (ns.length - min m ns.length) with
    | nil => exact ⟨c0, .un, .un, .un, rfl, h0, h1⟩
    | cons x xs =>
      have hx : (x :: xs).length ≤ 63 := by
        rw [← e, List.length_take, List.length_drop]
        omega
      obtain ⟨cs, s3, s4, s5, l, q⟩ := cell_loop (.list (ns.map .int)) m hm (x :: xs) 0 c0 .un .un .un (h2 x xs e) (by omega) rfl
      exact ⟨cs, s3, s4, s5, q, fun z => by subst z; simp at l; omega, by omega⟩
  cases hn : ns.take (min m ns.length) with
  | nil =>
    have z : min m ns.length = 0 := by
      have := congrArg List.length hn
      rw [List.length_take, List.length_nil] at this
      omega
    obtain ⟨cs, s3, s4, s5, q, h1, h2⟩ := key [0] (by simp) (by simp; omega) (fun x xs e => by
      have := congrArg List.length e
      rw [List.length_take, List.length_drop, List.length_cons] at this
      omega)
    refine ⟨cs, [.im (.list (ns.map .int)), .im (.int m)], ?_, h1, h2⟩
    unfold cellB at q
    have q : forL _ _ _ [_, _, .mu (.list [.int 0]), _, _, _] = _ := q
    simp only [mBody, onlyIm, cellsM, mseq, sbind, mbind, mpure, mlift, fName, fOrL, asI, g1, g2, hn, List.map_nil, List.map_cons, gList, List.isEmpty_nil, List.isEmpty_cons, List.replicate, List.set_cons_zero, List.set_cons_succ, List.cons_append, List.nil_append, List.getElem?_cons_zero, List.getElem?_cons_succ, Bool.and_true, Bool.true_and, if_true, fFor, fEnum, iterable, szOk1, Nat.reduceSub, Nat.reduceAdd, List.length_cons, List.length_nil, Bool.false_eq_true, if_false, q, back, Option.map_some, reduceIte]
    rfl
  | cons a as =>
    obtain ⟨cs, s3, s4, s5, q, h1, h2⟩ := key (a :: as) (by simp) (by rw [← hn, List.length_take]; omega) (fun x xs e => by
      have := congrArg List.length e
      rw [List.length_take, List.length_drop, List.length_cons] at this
      rw [← hn, List.length_take]
      omega)
    refine ⟨cs, [.im (.list (ns.map .int)), .im (.int m)], ?_, h1, h2⟩
    unfold cellB at q
    have q : forL _ _ _ [_, _, .mu (.list (.int a :: as.map .int)), _, _, _] = _ := q
    simp only [mBody, onlyIm, cellsM, mseq, sbind, mbind, mpure, mlift, fName, fOrL, asI, g1, g2, hn, List.map_nil, List.map_cons, gList, List.isEmpty_nil, List.isEmpty_cons, List.replicate, List.set_cons_zero, List.set_cons_succ, List.cons_append, List.nil_append, List.getElem?_cons_zero, List.getElem?_cons_succ, Bool.and_true, Bool.true_and, if_true, fFor, fEnum, iterable, szOk1, Nat.reduceSub, Nat.reduceAdd, List.length_cons, List.length_nil, Bool.false_eq_true, if_false, q, back, Option.map_some, reduceIte]
    rfl
theorem at2_0 {α : Type} (x y : α) : atI [x, y] 0 = some x := rfl
theorem at2_1 {α : Type} (x y : α) : atI [x, y] 1 = some y := rfl
/-- a part of the law that hangs on nothing -/
def yesR : Option So → Bool
  | some (.rt false (.bool true) []) => true
  | _ => false
theorem yes_of {o : Option So} (h : yesR o = true) : o = some (.rt false (.bool true) []) := by
  unfold yesR at h
  split at h
  · rfl
  · cases h
end Ev
set_option Elab.async false
set_option linter.all false
set_option autoImplicit false
set_option maxRecDepth 100000
namespace Ev
open PySem PySem.Spec L2 PyProof.Rows

theorem ifs2 {α : Type} {c : Bool} {a : Option α} {b : α} (h : (if c = true then a else none) = some b) : c = true ∧ a = some b := by
  cases c with
  | true => exact ⟨rfl, by simpa using h⟩
  | false => simp at h
def isLst : D → Bool
  | .list _ => true
  | _ => false
/-! ### divmod -/
def gDivmod : List D → Option D
  | [.int i, .int j] => if smallI i && decide (0 < j) then some (.tuple [.int (i / j), .int (i % j)]) else none
  | _ => none
section
variable {X : Cx}
theorem cdiv_of {i j : Int} (h : smallI i = true) (hj : 0 < j) : CDivP i j := by
  have h2 := smallI_of h
  refine divp_ok hj ?_
  have : Builtin.Int.intBits i ≤ 63 := intBits_le (k := 63) (by omega)
  omega
theorem cd_divmod : CallR X (.builtin "divmod") (DOL X.K gDivmod) := by
  intro pins s σ H xs us Q I r ⟨HI, d, e, sub, rx, eg, q⟩
  unfold gDivmod at eg
  split at eg
  · rename_i i j
    obtain ⟨h, rfl⟩ := ifs eg
    rw [Bool.and_eq_true, decide_eq_true_eq] at h
    cases rx with
    | cons r1 rx =>
      cases rx with
      | cons r2 rx =>
        cases rx
        cases r1
        cases r2
        refine call_divmodW pins s σ H _ us Q I r ⟨i, j, rfl, cdiv_of h.1 h.2, fun p hp => ?_⟩
        have tp := TP.new_ (o := .tup [.int (i / j), .int (i % j)]) sub hp
        exact q _ _ _ tp (.tup (.inl (.inl upd_same)) (fun z => by simp [isPr] at z) (.cons (.int _) (.cons (.int _) .nil)))
  · cases eg
end
/-! ### sorted(x, reverse=True) -/
section
variable {X : Cx}
def rSortR (K : PySem.W.Frag) : List V → List V → Hp → VK → Prop := fun vs zs H Q => zs = [.bl true] ∧ FOL K (gSort true) vs H Q
theorem cr_sortedR (hu : X.A.units + 64 < cLine) : CallRK X (.builtin "sorted") [Str.ofString "reverse"] (rSortR X.K) := by
  intro pins s σ H xs zs us ws Q I r rz h
  obtain ⟨rfl, HI, ds, z, sub, ra, eg, q⟩ := h
  obtain ⟨ys, hd, _, _⟩ := gSort_cases eg
  have : ∃ d, ds = [d] := by rcases hd with e | e <;> exact ⟨_, e⟩
  obtain ⟨d, rfl⟩ := this
  cases ra with
  | cons rv rn =>
    cases rn
    obtain ⟨u, rfl, ru⟩ := vals1 r
    obtain ⟨w, rfl, rw_⟩ := vals1 rz
    cases rw_
    exact sorted_run (rev := true) hu pins s σ H _ u Q I ru sub rv eg q
variable {K : PySem.W.Frag} {W : WX} {C : Exc} {tl : TA} {fl : M (List D)}
theorem rf_sortR (ha : RdA K W C tl fl) : RdF K W C (tCKw (rSortR K) tl (tCons (tC (.bl true)) tNil)) (mbind fl fun x => mlift (gSort true x)) := by
  intro ρ HI H σ Q so p
  refine ha ρ HI H σ _ same_H0 so ?_
  cases hf : fl ρ with
  | none => rw [mb_none hf] at p; exact p
  | some o =>
    cases o with
    | ex c ρ1 => rw [mb_ex hf] at p; exact p
    | ok ds ρ1 =>
      rw [mb_ok hf] at p
      intro HI1 H1 tr1 so1 vs rvs
      cases hg : gSort true ds with
      | none => rw [hg] at p; exact False.elim p
      | some r =>
        rw [hg] at p
        exact ⟨rfl, HI1, ds, r, so1.sub, rvs, hg, p HI1 H1 tr1 so1⟩
/-! ### for x in reversed(..) -/
def fRev (f : M (D × List Nat)) : M (List D × List Nat) := mbind f fun p => match p.1 with
  | .list xs => mpure (xs.reverse, p.2)
  | .tuple xs => mpure (xs.reverse, p.2)
  | _ => fun _ => none
variable {te : TE} {f : M (D × List Nat)} {HI HS : Hp}
theorem rev_at {ds : List D} {i : Nat} {d : D} (h : ds.reverse[i]? = some d) : i < ds.length ∧ ds[ds.length - 1 - i]? = some d := by
  have hi : i < ds.length := by
    have := (List.getElem?_eq_some_iff.mp h).1
    rwa [List.length_reverse] at this
  rw [List.getElem?_reverse hi] at h
  exact ⟨hi, h⟩
theorem walk_lr {a : Addr} {vs : List V} {ds : List D} (h : SqL K HS a vs) (ra : RpAll K HI vs ds) : Walk K HI HS (Itv K a vs.length) ds.reverse := fun HI1 H s1 s2 s3 =>
  ⟨fun i hi => by rw [List.length_reverse, ← dpa_len ra] at hi; exact hi, fun i d hd => by
    obtain ⟨hi, hd⟩ := rev_at hd
    obtain ⟨v, hv, rv⟩ := dpa_get ra hd
    rw [← dpa_len ra] at hi hv
    refine ⟨⟨hi, vs, v, same_l h s3, hv⟩, fun x H' ⟨e, hx⟩ => ?_⟩
    subst e
    have := (hx vs (same_l h s3)).symm.trans hv
    cases this
    exact ⟨HI1, TP.refl s2, dp_mono s1 rv⟩⟩
theorem walk_tr {a : Addr} {vs : List V} {ds : List D} (h : SqT K HS a vs) (ra : RpAll K HI vs ds) : Walk K HI HS (RT.ItvT K a vs.length) ds.reverse := fun HI1 H s1 s2 s3 =>
  ⟨fun i hi => by rw [List.length_reverse, ← dpa_len ra] at hi; exact hi, fun i d hd => by
    obtain ⟨hi, hd⟩ := rev_at hd
    obtain ⟨v, hv, rv⟩ := dpa_get ra hd
    rw [← dpa_len ra] at hi hv
    refine ⟨⟨hi, vs, v, seqT_mono s3 h, hv⟩, fun x H' ⟨e, hx⟩ => ?_⟩
    subst e
    have := (hx vs (seqT_mono s3 h)).symm.trans hv
    cases this
    exact ⟨HI1, TP.refl s2, dp_mono s1 rv⟩⟩
theorem ri_rev (h : RdL K W C te f) : RdI K W C (RT.iRevA K te) (fRev f) := by
  intro ρ HI H σ R so p
  refine h ρ HI H σ _ so ?_
  unfold fRev at p
  cases hf : f ρ with
  | none => rw [mb_none hf] at p; exact p
  | some r =>
    cases r with
    | ex c ρ1 => rw [mb_ex hf] at p; exact p
    | ok a ρ1 =>
      obtain ⟨d, lks⟩ := a
      rw [mb_ok hf] at p
      intro HI' H' tr so' v HS hS hO hF rv
      cases rv with
      | lst h1 ra => exact ⟨_, _, rfl, .inl ⟨same_l h1 hS, p HI' H' tr so' _ HS hS hO hF (walk_lr h1 ra)⟩⟩
      | tup h1 ra => exact ⟨_, _, rfl, .inr ⟨seqT_mono hS h1, p HI' H' tr so' _ HS hS hO hF (walk_tr h1 ra)⟩⟩
      | str z => exact False.elim p
/-! ### xs.index(y) -/
def idxOf (d : D) : Nat → List D → Option Nat
  | _, [] => none
  | k, x :: xs => if PyData.eqv x d then some k else idxOf d (k + 1) xs
theorem idx_ok {d : D} : ∀ {xs : List D} {k j : Nat}, idxOf d k xs = some j → ∃ m z, j = k + m ∧ xs[m]? = some z ∧ PyData.eqv z d = true ∧ ∀ n z', n < m → xs[n]? = some z' → PyData.eqv z' d = false
  | [], _, _, h => by simp [idxOf] at h
  | x :: xs, k, j, h => by
    unfold idxOf at h
    cases e : PyData.eqv x d with
    | true =>
      rw [e, if_pos rfl] at h
      cases h
      exact ⟨0, x, rfl, rfl, e, fun n z' hn => absurd hn (Nat.not_lt_zero _)⟩
    | false =>
      rw [e, if_neg (by decide)] at h
      obtain ⟨m, z, e1, e2, e3, e4⟩ := idx_ok h
      refine ⟨m + 1, z, by omega, by simpa using e2, e3, fun n z' hn hz => ?_⟩
      cases n with
      | zero => simp at hz; subst hz; exact e
      | succ n => exact e4 n z' (by omega) (by simpa using hz)
def gIndex : D → List D → Option D
  | .list xs, [d] => if nds xs && nd d && SeqAt.shaped (.list xs) && SeqAt.shaped d then (idxOf d 0 xs).map fun (j : Nat) => .int j else none
  | _, _ => none
def rIdx (K : PySem.W.Frag) : V → List V → Hp → VK → Prop := fun x xs H Q => ∃ HI d ds r, Same HI H ∧ Rp K HI x d ∧ RpAll K HI xs ds ∧ gIndex d ds = some r ∧ ∀ v HI' H', TP HI H HI' H' → Rp K HI' v r → Q v H'
theorem mt_idx {X : Cx} (hu : X.A.units + 65 < cLine) : MtR X "list.index" (rIdx X.K) := by
  intro pins s σ H x xs v us Q I rx rxs ⟨HI, d, ds, r, sub, hx, hxs, eg, q⟩
  unfold gIndex at eg
  split at eg
  · rename_i ys y
    obtain ⟨h, eg⟩ := ifs2 eg
    simp only [Bool.and_eq_true] at h
    obtain ⟨⟨⟨h1, h2⟩, h3⟩, h4⟩ := h
    obtain ⟨j, hj, rfl⟩ := Option.map_eq_some_iff.mp eg
    obtain ⟨m, z, e1, e2, e3, e4⟩ := idx_ok hj
    cases hx with
    | lst hs ha =>
      cases hxs with
      | cons hy hn =>
        cases hn
        refine mt_indexD hu pins s σ H _ _ v us Q I rx rxs ⟨_, _, y, ys, m, z, rfl, rfl, (Rp.lst (seqL_mono sub hs) (dpa_mono sub ha)).dp (by simpa [nd] using h1), (dp_mono sub hy).dp h2, h3, h4, e2, e3, e4, ?_⟩
        have : j = m := by omega
        subst this
        exact q _ HI H (TP.refl sub) (.int _)
  · cases eg
theorem rd_idx {ta : TA} {fe : M D} {fl : M (List D)} (h : Rd K W C te fe) (hl : RdA K W C ta fl) : Rd K W C (tBM K "list" (rIdx K) te ta) (mbind fe fun x => if isLst x then mbind fl fun ds => mlift (gIndex x ds) else fun _ => none) :=
  RdG.bind (u := fun x σ H Q => tyV K "list" x H ∧ ta σ H fun xs H2 => rIdx K x xs H2 Q) h fun HI1 H1 x dx _ rx => by
    intro ρ HI H σ Q s so p
    cases dx with
    | list ys =>
      have hty : tyV K "list" x H := by
        cases rx with
        | lst h1 _ => exact .inl ⟨rfl, _, seqL_mono (s.trans so.sub) h1⟩
      refine ⟨hty, ?_⟩
      exact RdG.bind (u := fun xs σ H Q => rIdx K x xs H Q) (hl.mono (same_H0 (H := HI))) (fun HI2 H2 zs ds s2 rs => RdG.op fun r e HI3 H3 σ Q s3 sub q =>
        ⟨HI3, _, ds, r, sub, dp_mono (s.trans (s2.trans s3)) rx, dpa_mono s3 rs, e, fun v HI' H' tp rv => q v HI' H' tp rv⟩) ρ HI H σ Q (Same.refl _) so p
    | _ => exact False.elim p
end
/-! ### a, b = .., a tuple or a list -/
def gSq (K : PySem.W.Frag) (n : Nat) (t : TGs) : TG := fun v σ H Q => L2.gTup K n t v σ H Q ∨ L2.gLst K n t v σ H Q
def tfSq (n : Nat) (g : List D → Rho → Option Rho) (d : D) (r : Rho) : Option Rho := match d with
  | .tuple ds => if ds.length = n then g ds r else none
  | .list ds => if ds.length = n then g ds r else none
  | _ => none
theorem pg_sq {X : Cx} {es : List Expr} {k : Nat} {pos : Pos} {t : TGs} {n : Nat} (hc : X.calm = true) (h : PGs X es t)
    (hn : (assignEach es X.env).length = n := by rfl) (hst : (assignEach es X.env).findIdx? (·.1) = none := by rfl) : PG X (.Tuple es k pos) (gSq X.K n t) :=
  ⟨fun pins s σ H v u Q I r hw => hw.elim ((L2.pg_tup hc h hn hst).run pins s σ H v u Q I r) ((L2.pg_lst hc h hn hst).run pins s σ H v u Q I r)⟩
section
variable {K : PySem.W.Frag}
theorem tg_sq {gs : TGs} {fs : List D → Rho → Option Rho} {is : List Nat} {n : Nat} (h : TgsOk K gs fs is) : TgOk K (gSq K n gs) (tfSq n fs) is := fun v d ρ ρ' σ HI H Q s r e q => by
  cases r with
  | @tup a xs ds hs _ ra =>
    by_cases hn : ds.length = n
    · have e : (if ds.length = n then fs ds ρ else none) = some ρ' := e
      rw [if_pos hn] at e
      exact .inl ⟨a, xs, rfl, seqT_mono s.sub hs, by rw [dpa_len ra]; exact hn, h xs ds ρ ρ' σ HI H Q s ra e q⟩
    · have e : (if ds.length = n then fs ds ρ else none) = some ρ' := e
      rw [if_neg hn] at e
      cases e
  | @lst a xs ds hs ra =>
    by_cases hn : ds.length = n
    · have e : (if ds.length = n then fs ds ρ else none) = some ρ' := e
      rw [if_pos hn] at e
      exact .inr ⟨a, xs, rfl, seqL_mono s.sub hs, by rw [dpa_len ra]; exact hn, h xs ds ρ ρ' σ HI H Q s ra e q⟩
    · have e : (if ds.length = n then fs ds ρ else none) = some ρ' := e
      rw [if_neg hn] at e
      cases e
  | _ => cases e
end
end Ev
set_option Elab.async false
set_option linter.all false
set_option autoImplicit false
set_option maxRecDepth 100000
namespace Ev
open PySem PySem.Spec L2 PyProof.Rows

/-! ### a try of several clauses, each maybe with a name -/
structure Hnd where
  c : Value
  i : Option Nat
  ts : Addr → Value → Option Addr → L2.TS
def endsGone (i : Nat) (D : Ends) : Ends := { nx := fun σ' H' => D.nx (σ'.set i none) H', rt := D.rt, bk := fun σ' H' => D.bk (σ'.set i none) H', ct := fun σ' H' => D.ct (σ'.set i none) H' }
def runH (h : Hnd) (a : Addr) (cls : Value) (d : Option Addr) (D : Ends) (σ : L2.St) (H : Hp) : Prop := match h.i with
  | none => h.ts a cls d D σ H
  | some i => h.ts a cls d (endsGone i D) (σ.set i (some (.ref a))) H
def wMA (K : PySem.W.Frag) (Wout : WX) (D : Ends) : List Hnd → WX
  | [] => Wout
  | h :: r => fun cls d σ H => ∃ b, PySem.W.exmOne K cls h.c = some b ∧ (b = true → ∀ a, H a = none → runH h a cls d D σ H) ∧ (b = false → wMA K Wout D r cls d σ H)
inductive HdsA (X : Cx) : List ExceptHandler → List Hnd → Prop
  | nil : HdsA X [] []
  | cons {x : Str} {c : Value} {ts : Addr → Value → Option Addr → L2.TS} {b₀ : Stmt} {suite : List Stmt} {np pos' : Pos} {hds : List ExceptHandler} {l : List Hnd} (hc : Names X x c)
      (hsu : ∀ (a : Addr) (oe : Obj) (cls : Value) (d : Option Addr) (pn : List (Addr × Obj)), Zc cls d oe → (∃ vs, oe.data = .fields vs) → PSs (X.suite a ((a, oe) :: pn)) (b₀ :: suite) (ts a cls d)) (r : HdsA X hds l) :
      HdsA X (.ExceptHandler (some (.Name x np)) none (b₀ :: suite) pos' :: hds) (⟨c, none, ts⟩ :: l)
  | as {x n : Str} {i : Nat} {c : Value} {ts : Addr → Value → Option Addr → L2.TS} {b₀ : Stmt} {suite : List Stmt} {np pos' : Pos} {hds : List ExceptHandler} {l : List Hnd} (hi : X.N[i]? = some n) (hln : X.env.kindOf n = some .local) (hc : Names X x c)
      (hsu : ∀ (a : Addr) (oe : Obj) (cls : Value) (d : Option Addr) (pn : List (Addr × Obj)), Zc cls d oe → (∃ vs, oe.data = .fields vs) → PSs (X.suite a ((a, oe) :: pn)) (b₀ :: suite) (ts a cls d)) (r : HdsA X hds l) :
      HdsA X (.ExceptHandler (some (.Name x np)) (some n) (b₀ :: suite) pos' :: hds) (⟨c, some i, ts⟩ :: l)
section
variable {X : Cx} {body : List Stmt} {h₀ : ExceptHandler} {hds : List ExceptHandler} {l : List Hnd} {pos : Pos} {tb : WX → L2.TS} {Wout : WX}
/-- what is left of the flow when a context is let go -/
theorem sp_out {Y : Cx} {p q : List (Addr × Obj)} {D : Ends} {f : Flow} {s : Shared} (k : ∀ σ H, Inv Y p σ H s → Inv X q σ H s) (h : SP Y p D f s) : SP X q D f s := by
  cases f <;> first
    | (obtain ⟨v, σ, H, i, rv, w⟩ := h; exact ⟨v, σ, H, k σ H i, rv, w⟩)
    | (obtain ⟨σ, H, i, w⟩ := h; exact ⟨σ, H, k σ H i, w⟩)
theorem ps_try_ma (hs : X.stack = X.env :: X.outer) (hf : X.env.frame = some X.env.locals) (hN : X.N.Nodup) (tk : Takes X Wout)
    (bodyOk : ∀ (W : WX) (pn : List (Addr × Obj)) (xe : Value → Shared → Prop), Takes (X.tr pn xe) W → PassesOwn (model X.prog X.w) X.A X.env xe → PSs (X.tr pn xe) body (tb W))
    (clauses : HdsA X (h₀ :: hds) l) : PS X (.Try body (h₀ :: hds) [] [] pos) (fun D σ H => tb (wMA X.K Wout D l) D σ H) := by
  constructor
  intro pins s σ H D inv wish
  have okX := inv.ok
  have frames : X.A.frames = some (X.env :: X.outer) := okX.frames.trans (congrArg some hs)
  apply wpAny_Try_except
  refine wpAny_mono ((bodyOk (wMA X.K Wout D l) (X.pn ++ pins) (fun e t₁ => wpAny (model X.prog X.w) X.A (noteFrame e X.env) (fun _ t₂ => wpAny (model X.prog X.w) X.A (setFlight e none) (fun _ t₃ =>
    wpAny (model X.prog X.w) X.A (handleBy e X.env (h₀ :: hds)) (SP X pins D) X.xe t₃) X.xe t₂) X.xe t₁) (fun ev thrown got => ?_) PassesOwn.looking).run [] s σ H D (inv.toTry _) wish) (fun fl t done => ?_) (fun _ _ z => z)
  rotate_left
  · have back : SP X pins D fl t := sp_out (fun σ1 H1 i => i.ofTry okX) done
    cases fl with
    | next => exact wpAny_execs_nil back
    | brk => exact back
    | cont => exact back
    | ret u => exact back
  obtain ⟨x, hpB, sE, pinsB, σ1, H1, cl, dd, rfl, iB, olds, uts, flies, free, sameOs, allBare, want⟩ := got
  have i1 : Inv X pins σ1 H1 sE := iB.ofTry okX
  rw [hs] at flies
  show wpAny (model X.prog X.w) X.A (noteFrame (.ref x) X.env) _ _ _
  refine Sky.land Zc.steady frames hf flies fun g3 down3 ups3 => ?_
  have i3 : Inv X pins σ1 H1 { thrown with heap := g3 } := i1.landed olds down3.1 (uts.trans ups3) sameOs allBare
  obtain ⟨obj3, flds3, at3, zc3, dat3⟩ := down3.there
  have notFrame : x ∉ frs (X.env :: X.outer) := by
    intro m
    obtain ⟨_, obj', at', other⟩ := down3.2.2.1.mem m
    rw [at3] at at'
    cases at'
    exact other _ dat3
  have notLocals : x ≠ X.env.locals := by
    intro z
    apply notFrame
    rw [z]
    exact List.mem_filterMap.mpr ⟨X.env, .head _, hf⟩
  have notFs : x ∉ X.fs := by
    intro m
    obtain ⟨env, inOuter, eq⟩ := List.mem_filterMap.mp m
    exact notFrame (List.mem_filterMap.mpr ⟨env, .tail _ inOuter, eq⟩)
  have iS3 := i3.suite at3 dat3 free notLocals notFs
  have looks : PySem.W.Looks (model X.prog X.w) g3 (typeOf (.ref x)) cl := fun _ _ _ _ keeps q => wpAny_typeOf_ref (keeps _ _ at3) (by rw [zc3.1]; exact q)
  have named : ∀ {y : Str} {c : Value} {np : Pos}, Names X y c → ∀ {Q E : Value → Shared → Prop}, Q c { thrown with heap := g3 } → wpAny (model X.prog X.w) (X.A.mark (some (.ref x))) (eval (.Name y np) X.env) Q E { thrown with heap := g3 } := by
    intro y c np nm Q E q
    obtain ⟨gl, notDebug, way⟩ := nm
    rcases way with inMod | ⟨notMod, isBoot, notName⟩
    · exact ld_glob (X := X.suite x ((x, obj3) :: (X.pn ++ pins))) iS3 gl inMod q notDebug
    · exact ld_blt (X := X.suite x ((x, obj3) :: (X.pn ++ pins))) iS3 gl notMod isBoot q notName notDebug
  suffices each : ∀ {hs' : List ExceptHandler} {ls : List Hnd}, HdsA X hs' ls → wMA X.K Wout D ls cl dd σ1 H1 → wpAny (model X.prog X.w) X.A (handleBy (.ref x) X.env hs') (SP X pins D) X.xe { thrown with heap := g3 } from each clauses want
  intro hs' ls ok
  induction ok with
  | nil =>
    intro want
    apply wpAny_handleBy_nil
    obtain ⟨_, _, _, ob, fv, tb0, otb, _, atx, _, dat, first, _⟩ := id down3
    unfold PySem.passOn
    refine wpAny_bind (wpAny_field atx dat first ?_)
    rw [if_neg (show ¬ ((Value.ref tb0 == Value.none) = true) by simp)]
    have rethrow : wpAny (model X.prog X.w) X.A (setFlight (.ref x) X.env.frame) (fun _ t4 => wpAny (model X.prog X.w) X.A (throw (.ref x) : Sem Flow) (SP X pins D) X.xe t4) X.xe { thrown with heap := g3 } := by
      rw [hf]
      exact HandSPX.setFlight_upZ down3 fun g4 sky4 ups4 => wpAny_throw (tk _ _ ⟨x, hpB, sE, pins, σ1, H1, cl, dd, rfl, i1, olds, (uts.trans ups3).trans ups4, .inr (.inr (by rw [hs]; exact sky4)), free, sameOs, allBare, want⟩)
    first
      | exact wpAny_bind (wpAny_pure (wpAny_bind rethrow))
      | exact wpAny_bind rethrow
  | @cons y c ts st sts np ps hds2 l2 nm su r ih =>
    intro want
    obtain ⟨b, test, yes, no⟩ := want
    refine wpAny_handleBy_cons (codeAny_handlers_test (named nm ((PySem.W.exm_one (M := model X.prog X.w) i3.kIn looks test).here ?_))) (by intro z; cases z)
    cases b with
    | false => exact ih (no rfl)
    | true =>
      refine codeAny_handlers_suite (HandSPX.lands_againZ down3 fun g4 down4 ups4 => ?_)
      obtain ⟨obj4, flds4, at4, zc4, dat4⟩ := down4.there
      have i4 : Inv X pins σ1 H1 { thrown with heap := g4 } := i1.landed olds down4.1 ((uts.trans ups3).trans ups4) sameOs allBare
      exact wpAny_mono ((su x obj4 cl dd (X.pn ++ pins) zc4 ⟨_, dat4⟩).run [] _ _ H1 _ (i4.suite at4 dat4 free notLocals notFs) (yes rfl x free)) (fun fl t done => sp_out (fun _ _ i => i.unsuite okX) done) (fun _ _ z => z.elim)
  | @as y n i c ts st sts np ps hds2 l2 isN isLocal nm su r ih =>
    intro want
    obtain ⟨b, test, yes, no⟩ := want
    refine wpAny_handleBy_cons (codeAny_handlers_test (named nm ((PySem.W.exm_one (M := model X.prog X.w) i3.kIn looks test).here ?_))) (by intro z; cases z)
    cases b with
    | false => exact ih (no rfl)
    | true =>
      refine codeAny_handlers_suite_as (HandSPX.lands_againZ down3 fun g4 down4 ups4 => ?_)
      obtain ⟨obj4, flds4, at4, zc4, dat4⟩ := down4.there
      have i4 : Inv X pins σ1 H1 { thrown with heap := g4 } := i1.landed olds down4.1 ((uts.trans ups3).trans ups4) sameOs allBare
      refine store_ok (X := X.suite x ((x, obj4) :: (X.pn ++ pins))) (v := .ref x) (i4.suite at4 dat4 free notLocals notFs) hN isN (.inl isLocal) rfl (fun t5 i5 => ?_) (.inr isLocal)
      refine wpAny_mono ((su x obj4 cl dd (X.pn ++ pins) zc4 ⟨_, dat4⟩).run [] t5 _ H1 _ i5 (yes rfl x free)) (fun fl t6 done => ?_) (fun _ _ z => z.elim)
      cases fl <;> first
        | (obtain ⟨v, σ6, H6, i6, rv, w⟩ := done; exact gone_ok (i6.unsuite okX) hN isN isLocal fun t7 i7 => ⟨_, _, _, i7, rv, w⟩)
        | (obtain ⟨σ6, H6, i6, w⟩ := done; exact gone_ok (i6.unsuite okX) hN isN isLocal fun t7 i7 => ⟨_, _, i7, w⟩)
end
/-! ### its mirror -/
abbrev MH := List (Str × D) → MS
def pickH (c : Nat) : List (Nat × MH) → Option MH
  | [] => none
  | h :: r => if c = h.1 then some h.2 else pickH c r
def fTryM (NE : Nat) (hs : List (Nat × MH)) (f : MS) : MS := fun r => match f r with
  | some (.ex c r1) => if c.1 < NE then (match pickH c.1 hs with | some m => m c.2 r1 | none => some (.ex c r1)) else none
  | x => x
section
variable {K : PySem.W.Frag} {W : WX} {C : Exc} {PI : List Nat}
/-- d is the dict of what holds these fields -/
def ExD (K : PySem.W.Frag) (HI H : Hp) (d : Option Addr) (fs : List (Str × D)) : Prop := match fs with
  | [] => d = none
  | fd :: _ => ∃ dd v, d = some dd ∧ H dd = some (.xd [(fd.1, v)]) ∧ Rp K HI v fd.2
theorem wc_of {F : Value → Option Addr → Hp → Prop} {c : Xc} {HI H : Hp} (h : ∀ d, ExD K HI H d c.2 → F (C c.1) d H) : WC K C F c HI H := by
  obtain ⟨k, fs⟩ := c
  cases fs with
  | nil => exact h none rfl
  | cons fd r => exact fun dd v e rv => h (some dd) ⟨dd, v, rfl, e, rv⟩
theorem wc_get {F : Value → Option Addr → Hp → Prop} {c : Xc} {HI H : Hp} {d : Option Addr} (h : WC K C F c HI H) (x : ExD K HI H d c.2) : F (C c.1) d H := by
  obtain ⟨k, fs⟩ := c
  cases fs with
  | nil => cases x; exact h
  | cons fd r =>
    obtain ⟨dd, v, rfl, e, rv⟩ := x
    exact h dd v e rv
def HOk (K : PySem.W.Frag) (W : WX) (C : Exc) (PI : List Nat) (NE : Nat) (h : Hnd) (m : Nat × MH) : Prop := h.c = C m.1 ∧ m.1 < NE ∧ ∀ (Ps : List (Nat × Addr)) (HB HI0 H0 : Hp), (∀ p ∈ Ps, p.1 ∈ PI) → ∀ ρ HI H σ D a d fs, SOk K HI H σ ρ → Ent Ps HB HI0 H0 HI H σ ρ → H a = none → ExD K HI H d fs →
  PtS K W C Ps HB HI0 H0 (m.2 fs ρ) D → runH h a (C m.1) d D σ H
inductive HOks (K : PySem.W.Frag) (W : WX) (C : Exc) (PI : List Nat) (NE : Nat) : List Hnd → List (Nat × MH) → Prop
  | nil : HOks K W C PI NE [] []
  | cons {h : Hnd} {m : Nat × MH} {hs : List Hnd} {ms : List (Nat × MH)} : HOk K W C PI NE h m → HOks K W C PI NE hs ms → HOks K W C PI NE (h :: hs) (m :: ms)
theorem rs_try_ma {tb : WX → L2.TS} {f : MS} {NE : Nat} {hs : List Hnd} {ms : List (Nat × MH)} (hx : ∀ c0, c0 < NE → ∀ c, c < NE → PySem.W.exmOne K (C c) (C c0) = some (c == c0))
    (hb : ∀ W, RdS K W C PI (tb W) f) (hh : HOks K W C PI NE hs ms) : RdS K W C PI (fun D σ H => tb (wMA K W D hs) D σ H) (fTryM NE ms f) := by
  intro Ps HB HI0 H0 hps ρ HI H σ D so en p
  refine hb _ Ps HB HI0 H0 hps ρ HI H σ D so en ?_
  unfold fTryM at p
  cases hf : f ρ with
  | none => rw [hf] at p; exact p
  | some o =>
    rw [hf] at p
    cases o with
    | nx r => exact p
    | bk r => exact p
    | ct r => exact p
    | rt fr d r =>
      cases fr with
      | false => exact p
      | true => cases d <;> exact p
    | ex c r =>
      intro HI' H' σ' so' en'
      dsimp only at p
      refine wc_of fun d xd => ?_
      by_cases hc : c.1 < NE
      · rw [if_pos hc] at p
        induction hh with
        | nil => exact wc_get (p HI' H' σ' so' en') xd
        | @cons h m hs ms h1 _ ih =>
          obtain ⟨e1, e2, e3⟩ := h1
          refine ⟨c.1 == m.1, by rw [e1]; exact hx _ e2 c.1 hc, fun e a ha => ?_, fun e => ?_⟩
          · have e : c.1 = m.1 := by simpa using e
            rw [pickH, if_pos e] at p
            rw [e]
            exact e3 Ps HB HI0 H0 hps r HI' H' σ' D a d c.2 so' en' ha xd p
          · have e : ¬ c.1 = m.1 := by simpa using e
            rw [pickH, if_neg e] at p
            exact ih p
      · rw [if_neg hc] at p; exact False.elim p
end
end Ev
set_option Elab.async false
set_option linter.all false
set_option autoImplicit false
set_option maxRecDepth 100000
namespace Ev
open PySem PySem.Spec L2 PyProof.Rows

/-! ### return x, x a list of one's own -/
def retM (i : Nat) : MS := fun r => match r[i]? with
  | some (.mu (.list ds)) => some (.rt true (.list ds) (r.set i .un))
  | _ => none
def rem (H : Hp) (a : Addr) : Hp := fun b => if b = a then none else H b
section
variable {K : PySem.W.Frag} {W : WX} {C : Exc} {PI : List Nat}
theorem rem_ne {H : Hp} {a b : Addr} (h : b ≠ a) : rem H a b = H b := if_neg h
theorem rem_same {H : Hp} {a : Addr} : rem H a a = none := if_pos rfl
theorem upd_rem {H : Hp} {a : Addr} {o : HO} (h : H a = some o) : upd (rem H a) a o = H := by
  funext b
  by_cases e : b = a
  · subst e; rw [upd_same, h]
  · rw [upd_ne e, rem_ne e]
theorem rs_retM {i : Nat} (hi : i ∉ PI) : RdS K W C PI (tRet (tVar i)) (retM i) := by
  intro Ps HB HI0 H0 hps ρ HI H σ D so en p
  unfold retM at p
  cases hr : ρ[i]? with
  | none => rw [hr] at p; exact False.elim p
  | some l =>
    rw [hr] at p
    cases l with
    | mu d =>
      cases d with
      | list ds =>
        obtain ⟨a, ea, hn, vs, hv, rv⟩ := so.mu i _ _ hr rfl
        have hne : ∀ b, HI b ≠ none → b ≠ a := fun b hb e => hb (by rw [e]; exact hn)
        have so2 : SOk K HI (rem H a) σ (ρ.set i .un) := by
          refine ⟨fun b o e => ?_, by rw [List.length_set]; exact so.len, fun j d h => ?_, fun j l d h hl => ?_, fun j k l m d e b h1 l1 h2 l2 z1 z2 => ?_⟩
          · rw [rem_ne (hne b (by rw [e]; exact Option.some_ne_none o))]; exact so.sub b o e
          · rcases get_set h with ⟨_, z, _⟩ | ⟨n, h⟩
            · cases z
            · exact so.im j d h
          · rcases get_set h with ⟨_, z, _⟩ | ⟨n, h⟩
            · subst z; cases hl
            · obtain ⟨b, eb, nb, q⟩ := so.mu j l d h hl
              have hba : b ≠ a := fun e => by
                subst e
                exact n (so.inj i j _ _ _ _ b hr rfl h hl ea eb)
              refine ⟨b, eb, nb, ?_⟩
              cases d with
              | list es => obtain ⟨ws, e1, e2⟩ := q; exact ⟨ws, by rw [rem_ne hba]; exact e1, e2⟩
              | _ => exact q.elim
          · rcases get_set h1 with ⟨_, z, _⟩ | ⟨n1, h1⟩
            · subst z; cases l1
            · rcases get_set h2 with ⟨_, z, _⟩ | ⟨n2, h2⟩
              · subst z; cases l2
              · exact so.inj j k l m d e b h1 l1 h2 l2 z1 z2
        have h0 : H0 a = none := by
          rcases en.own i _ _ a hr rfl ea with q | q
          · exact absurd (hps _ q) hi
          · exact q
        have en2 : Ent Ps HB HI0 H0 HI (rem H a) σ (ρ.set i .un) := by
          refine ⟨en.base, en.exI, en.new, fun b o h n => ?_, fun b h => ?_, fun j l d b h hl hs => ?_, en.par⟩
          · have hba : b ≠ a := fun e => by subst e; rw [h0] at h; cases h
            rw [rem_ne hba]; exact en.keep b o h n
          · by_cases e : b = a
            · subst e; exact h0
            · rw [rem_ne e] at h; exact en.dom b h
          · rcases get_set h with ⟨_, z, _⟩ | ⟨n, h⟩
            · subst z; cases hl
            · exact en.own j l d b h hl hs
        have := p HI (rem H a) σ so2 en2 a vs rem_same rv
        rw [upd_rem hv] at this
        exact ⟨_, ea, this⟩
      | _ => exact False.elim p
    | _ => exact False.elim p
end
end Ev
set_option Elab.async false
set_option linter.all false
set_option autoImplicit false
set_option maxRecDepth 100000
namespace Ev
open PySem PySem.Spec L2 PyProof.Rows

/-! ### methods of a str that take one argument -/
def isStr : D → Bool
  | .str _ => true
  | _ => false
def rSt (K : PySem.W.Frag) (g : D → List D → Option D) : V → List V → Hp → VK → Prop := fun x xs H Q => ∃ HI d ds r, Same HI H ∧ Rp K HI x d ∧ RpAll K HI xs ds ∧ g d ds = some r ∧ ∀ v HI' H', TP HI H HI' H' → Rp K HI' v r → Q v H'
def rStF (K : PySem.W.Frag) (g : D → List D → Option (List D)) : V → List V → Hp → VK → Prop := fun x xs H Q => ∃ HI d ds r, Same HI H ∧ Rp K HI x d ∧ RpAll K HI xs ds ∧ g d ds = some r ∧ ∀ p vs, H p = none → RpAll K HI vs r → Q (.ref p) (upd H p (.lst vs))
def fSt1 (fe fa : M D) (g : D → List D → Option D) : M D := mbind fe fun x => if isStr x then mbind fa fun y => mlift (g x [y]) else fun _ => none
def fStF (fe fa : M D) (g : D → List D → Option (List D)) : M (List D) := mbind fe fun x => if isStr x then mbind fa fun y => mlift (g x [y]) else fun _ => none
section
variable {K : PySem.W.Frag} {W : WX} {C : Exc} {te ta : TE} {fe fa : M D}
theorem rd_st1 {g : D → List D → Option D} (h : Rd K W C te fe) (ha : Rd K W C ta fa) : Rd K W C (tM1 (rSt K g) te ta) (fSt1 fe fa g) :=
  RdG.bind (u := fun x σ H Q => (∃ a, x = .str a) ∧ ta σ H fun y H2 => rSt K g x [y] H2 Q) h fun HI1 H1 x dx _ rx => by
    intro ρ HI H σ Q s so p
    cases rx with
    | str a =>
      refine ⟨⟨a, rfl⟩, ?_⟩
      exact RdG.bind (u := fun y σ H Q => rSt K g (.str a) [y] H Q) (ha.mono (same_H0 (H := HI))) (fun HI2 H2 y dy s2 ry => RdG.op fun r e HI3 H3 σ Q s3 sub q =>
        ⟨HI3, _, [dy], r, sub, .str a, .cons (dp_mono s3 ry) .nil, e, fun v HI' H' tp rv => q v HI' H' tp rv⟩) ρ HI H σ Q (Same.refl _) so p
    | _ => exact False.elim p
theorem rf_st1 {g : D → List D → Option (List D)} (h : Rd K W C te fe) (ha : Rd K W C ta fa) : RdF K W C (tM1 (rStF K g) te ta) (fStF fe fa g) := by
  intro ρ HI H σ Q so p
  refine h ρ HI H σ _ same_H0 so ?_
  unfold fStF at p
  cases hf : fe ρ with
  | none => rw [mb_none hf] at p; exact p
  | some o =>
    cases o with
    | ex c ρ1 => rw [mb_ex hf] at p; exact p
    | ok dx ρ1 =>
      rw [mb_ok hf] at p
      intro HI1 H1 tr1 so1 x rx
      cases rx with
      | str a =>
        have p : Pt K W C σ ρ HI H (mbind fa (fun y => mlift (g (.str a) [y])) ρ1) _ := p
        refine ⟨⟨a, rfl⟩, ha ρ1 HI1 H1 σ _ same_H0 so1 ?_⟩
        cases hf2 : fa ρ1 with
        | none => rw [mb_none hf2] at p; exact p
        | some o =>
          cases o with
          | ex c ρ2 => rw [mb_ex hf2] at p; exact fun HI2 H2 tr2 so2 => p HI2 H2 (tr1.trans tr2) so2
          | ok dy ρ2 =>
            rw [mb_ok hf2] at p
            intro HI2 H2 tr2 so2 y ry
            cases hg : g (.str a) [dy] with
            | none => rw [hg] at p; exact False.elim p
            | some r =>
              rw [hg] at p
              exact ⟨HI2, _, [dy], r, so2.sub, .str a, .cons ry .nil, hg, p HI2 H2 (tr1.trans tr2) so2⟩
      | _ => exact False.elim p
end
/-! split, partition, join -/
def strsD (ys : List Str) : List D := ys.map .str
theorem rp_strs {K : PySem.W.Frag} {HI : Hp} : ∀ ys : List Str, RpAll K HI (ys.map V.str) (strsD ys)
  | [] => .nil
  | y :: ys => .cons (.str y) (rp_strs ys)
def gSplit : D → List D → Option (List D)
  | .str a, [.str b] => if !(b.length == 0) && szOk (a.length + 2) then some (strsD (Txt.split a b)) else none
  | _, _ => none
def gPart : D → List D → Option D
  | .str a, [.str b] => if !(b.length == 0) && szOk a.length then some (.tuple [.str (Txt.partition a b).1, .str (Txt.partition a b).2.1, .str (Txt.partition a b).2.2]) else none
  | _, _ => none
def strsOf : List D → Option (List Str)
  | [] => some []
  | .str y :: r => (strsOf r).map (y :: ·)
  | _ => none
theorem strs_rp {K : PySem.W.Frag} {HI : Hp} : ∀ {vs : List V} {ds : List D} {ys : List Str}, RpAll K HI vs ds → strsOf ds = some ys → vs = ys.map V.str
  | _, _, _, .nil, e => by cases e; rfl
  | _, _, _, .cons (d := d) h a, e => by
    cases h with
    | str y =>
      unfold strsOf at e
      obtain ⟨zs, hz, rfl⟩ := Option.map_eq_some_iff.mp e
      rw [List.map_cons, strs_rp a hz]
    | _ => cases e
def seqOf : D → Option (List D)
  | .list xs => some xs
  | .tuple xs => some xs
  | _ => none
def gJoin : D → List D → Option D
  | .str a, [d] => match seqOf d with
    | some ds => match strsOf ds with
      | some ys => if Nat.ble ((ys.map (·.length)).sum + ys.length * a.length) 4000 then some (.str (Txt.join a ys)) else none
      | none => none
    | none => none
  | _, _ => none
theorem seq_rp {K : PySem.W.Frag} {HI H : Hp} {v : V} {d : D} {ds : List D} (sub : Same HI H) (h : Rp K HI v d) (e : seqOf d = some ds) : ∃ p vs, v = .ref p ∧ RpAll K HI vs ds ∧ (SqL K H p vs ∨ SqT K H p vs) := by
  cases h with
  | lst h a => cases e; exact ⟨_, _, rfl, a, .inl (seqL_mono sub h)⟩
  | tup h _ a => cases e; exact ⟨_, _, rfl, a, .inr (seqT_mono sub h)⟩
  | _ => cases e
section
variable {X : Cx}
theorem ms_split : MtR X "str.split" (rStF X.K gSplit) := by
  intro pins s σ H x xs v us Q I rx rs ⟨HI, d, ds, r, sub, hd, hds, eg, q⟩
  unfold gSplit at eg
  split at eg
  · rename_i a b
    obtain ⟨h, rfl⟩ := ifs eg
    rw [Bool.and_eq_true, Bool.not_eq_true'] at h
    cases hd
    cases hds with
    | cons h1 hn =>
      cases hn
      cases h1
      exact mt_split pins s σ H _ _ v us Q I rx rs ⟨a, b, rfl, rfl, h.1, szOk_le h.2, fun p hp => q p _ hp (rp_strs _)⟩
  · cases eg
theorem ms_part : MtR X "str.partition" (rSt X.K gPart) := by
  intro pins s σ H x xs v us Q I rx rs ⟨HI, d, ds, r, sub, hd, hds, eg, q⟩
  unfold gPart at eg
  split at eg
  · rename_i a b
    obtain ⟨h, rfl⟩ := ifs eg
    rw [Bool.and_eq_true, Bool.not_eq_true'] at h
    cases hd
    cases hds with
    | cons h1 hn =>
      cases hn
      cases h1
      refine mt_partition pins s σ H _ _ v us Q I rx rs ⟨a, b, rfl, rfl, h.1, szOk_le h.2, fun p hp => ?_⟩
      have tp := TP.new_ (o := .tup [.str (Txt.partition a b).1, .str (Txt.partition a b).2.1, .str (Txt.partition a b).2.2]) sub hp
      exact q _ _ _ tp (.tup (.inl (.inl upd_same)) (fun z => by simp [isPr] at z) (.cons (.str _) (.cons (.str _) (.cons (.str _) .nil))))
  · cases eg
theorem ms_join : MtR X "str.join" (rSt X.K gJoin) := by
  intro pins s σ H x xs v us Q I rx rs ⟨HI, d, ds, r, sub, hd, hds, eg, q⟩
  unfold gJoin at eg
  split at eg
  · rename_i a d
    split at eg
    · rename_i es he
      split at eg
      · rename_i ys hy
        obtain ⟨h, rfl⟩ := ifs eg
        cases hd
        cases hds with
        | cons h1 hn =>
          cases hn
          obtain ⟨p, vs, rfl, ra, hs⟩ := seq_rp sub h1 he
          have e := strs_rp ra hy
          subst e
          exact mt_join pins s σ H _ _ v us Q I rx rs ⟨a, p, ys, rfl, rfl, hs, Nat.le_trans (Nat.le_of_ble_eq_true h) (by decide), q _ HI H (TP.refl sub) (.str _)⟩
      · cases eg
    · cases eg
  · cases eg
theorem lt_of_ble {n : Nat} (h : Nat.ble n 1900 = true) : n < 1920 := Nat.lt_of_le_of_lt (Nat.le_of_ble_eq_true h) (by decide)
/-! str(i), int(s) -/
def gStr : D → Option D
  | .int i => if Nat.ble i.natAbs.log2 1900 then some (.str (Str.ofString (toString i))) else none
  | _ => none
theorem cd_str : CallR X (.type "str") (DOL X.K (g1 gStr)) := callR1 call_str_int fun HI H x d z Q sub dx eg q => by
  cases dx with
  | int i =>
    obtain ⟨h, rfl⟩ := ifs eg
    exact ⟨i, rfl, lt_of_ble h, q _ HI H (TP.refl sub) (.str _)⟩
  | _ => cases eg
def gInt2 : D → Option D
  | .str a => if Nat.ble a.length 640 then (PySem.intText? a).map .int else none
  | d => gInt d
theorem cd_intS : CallR X (.type "int") (DOL X.K (g1 gInt2)) := by
  intro pins s σ H xs us Q I r ⟨HI, ds, e, sub, rx, eg, q⟩
  have h0 := eg
  unfold g1 at eg
  split at eg
  · rename_i d
    cases d with
    | str a =>
      obtain ⟨h, eg⟩ := ifs2 eg
      obtain ⟨n, hn, rfl⟩ := Option.map_eq_some_iff.mp eg
      cases rx with
      | cons h1 hn' =>
        cases hn'
        cases h1
        exact call_int_str pins s σ H _ us Q I r ⟨a, n, rfl, hn, Nat.le_of_ble_eq_true h, q _ HI H (TP.refl sub) (.int _)⟩
    | int i => exact cd_int pins s σ H xs us Q I r ⟨HI, _, e, sub, rx, eg, q⟩
    | bool b => exact cd_int pins s σ H xs us Q I r ⟨HI, _, e, sub, rx, eg, q⟩
    | _ => cases eg
  · cases eg
end
/-! ### f'..' -/
def fmtD : D → Option Str
  | .str y => if szOk y.length then some y else none
  | .int i => if Nat.ble i.natAbs.log2 1900 then some (Str.ofString (toString i)) else none
  | _ => none
section
variable {K : PySem.W.Frag} {W : WX} {C : Exc} {te ta : TE} {fe fa : M D}
def fFmt (fe : M D) : M D := mbind fe fun d => mlift ((fmtD d).map PyData.str)
theorem rd_fmt (h : Rd K W C te fe) : Rd K W C (tFmt te) (fFmt fe) :=
  RdG.bind (u := fun (x : V) σ H (Q : V → Hp → Prop) => (∃ y : Str, x = V.str y ∧ y.length ≤ sizeLine ∧ Q (V.str y) H) ∨ ∃ i : Int, x = V.int i ∧ i.natAbs.log2 < 1920 ∧ Q (V.str (toString i)) H) h fun HI1 H1 x dx _ rx => RdG.op fun r e HI H σ Q s sub q => by
    cases rx with
    | str y =>
      obtain ⟨z, hz, rfl⟩ := Option.map_eq_some_iff.mp e
      obtain ⟨h, rfl⟩ := ifs hz
      exact .inl ⟨_, rfl, szOk_le h, q _ HI H (TP.refl sub) (.str _)⟩
    | int i =>
      obtain ⟨z, hz, rfl⟩ := Option.map_eq_some_iff.mp e
      obtain ⟨h, rfl⟩ := ifs hz
      exact .inr ⟨_, rfl, lt_of_ble h, q _ HI H (TP.refl sub) (.str _)⟩
    | _ => cases e
/-- the parts, one behind the other -/
def fJs : List (M D) → Str → M D
  | [], acc => mpure (.str acc)
  | f :: fs, acc => mbind f fun d => match d with
    | .str y => if szOk (acc ++ y).length then fJs fs (acc ++ y) else fun _ => none
    | _ => fun _ => none
inductive RJ (K : PySem.W.Frag) (W : WX) (C : Exc) : List TE → List (M D) → Prop
  | nil : RJ K W C [] []
  | cons {t : TE} {f : M D} {ts : List TE} {fs : List (M D)} (h : Rd K W C t f) (r : RJ K W C ts fs) : RJ K W C (t :: ts) (f :: fs)
theorem rd_js {ts : List TE} {fs : List (M D)} (h : RJ K W C ts fs) : ∀ acc : Str, Rd K W C (fun σ H Q => tJs ts acc σ H fun out H1 => Q (.str out) H1) (fJs fs acc) := by
  induction h with
  | nil => exact fun acc => RdG.ret fun HI H σ Q _ sub q => q _ HI H (TP.refl sub) (.str acc)
  | @cons t f ts fs h r ih =>
    intro acc
    exact RdG.bind (u := fun (x : V) σ H (Q : V → Hp → Prop) => ∃ y : Str, x = V.str y ∧ (acc ++ y).length ≤ sizeLine ∧ tJs ts (acc ++ y) σ H fun out H1 => Q (V.str out) H1) h fun HI1 H1 x dx s1 rx => by
      intro ρ HI H σ Q s so p
      cases rx with
      | str y =>
        have p : Pt K W C σ ρ HI H ((if szOk (acc ++ y).length then fJs fs (acc ++ y) else fun _ => none) ρ) _ := p
        by_cases hz : szOk (acc ++ y).length = true
        · rw [if_pos hz] at p
          exact ⟨y, rfl, szOk_le hz, ih (acc ++ y) ρ HI H σ Q same_H0 so p⟩
        · rw [if_neg hz] at p; exact False.elim p
      | _ => exact False.elim p
end
end Ev
set_option Elab.async false
set_option linter.all false
set_option autoImplicit false
set_option maxRecDepth 100000
set_option maxHeartbeats 2000000
namespace Ev
open PySem PySem.Spec L2 PyProof.Rows PySem.Calls

/-! ### isinstance of a caught error, with or without a dict -/
section
variable {prog : Program} {w : World} {A : Around} {E : Value → Shared → Prop} {s : Shared} {K : PySem.W.Frag} {x Cd : Addr} {ox : Obj} {od : Option Obj}
open PySem.W in
theorem find_class (F : ExcC K Cd) : findObj K Cd od "__class__" = some (.bind (.builtin "getset_descriptor.__get__") (.builtin "object.__class__")) := by
  obtain ⟨cd, hc, _⟩ := any_some F.hd
  simp [findObj, hc, F.ha, F.hn, F.ht]
open PySem.W in
theorem ask_class (F : ExcC K Cd) {Q : Option Value → Shared → Prop} (inK : K.In s.heap) (inst : InstAt s.heap x ox Cd od) (q : Q (some (.ref Cd)) { s with toks := s.toks + 1 }) : wpAny (model prog w) A (getAttr? (.ref x) "__class__") Q E s := by
  obtain ⟨hp, gens, drawn, tk, os⟩ := s
  have lt := inst.type (M := model prog w)
  have lga := looks_findIn (M := model prog w) inK F.hg
  have lgt := looks_findIn (M := model prog w) inK F.hk
  have lcl := looks_find (M := model prog w) inK inst (find_class F)
  have isExc : Looks (model prog w) hp (isInstance (.ref x) (.type "BaseException")) true := lt.andThen (looks_subIn inK F.hs)
  have no1 : (onTheHeap (Value.ref Cd) && Value.builtin "BaseException.__getattribute__" == Value.builtin "object.__getattribute__") = false := by
    rw [show (Value.builtin "BaseException.__getattribute__" == Value.builtin "object.__getattribute__") = false by decide +kernel]; rfl
  unfold getAttr? getAttrBy? getAttrBy
  apply wpAny_bind; apply wpAny_mkText; apply wpAny_bind; apply wpAny_attempt; apply wpAny_holding; apply wpAny_bind
  apply lt.at; apply wpAny_bind; apply lga.at
  show wpAny _ _ (if (onTheHeap (Value.ref Cd) && Value.builtin "BaseException.__getattribute__" == Value.builtin "object.__getattribute__") = true then _ else _) _ _ _
  rw [no1, if_neg Bool.false_ne_true]
  unfold getAttrByItsOwn hookBefore
  apply wpAny_bind
  rw [if_pos (show onTheHeap (Value.ref Cd) = true from rfl)]
  apply lgt.at; apply wpAny_bind; apply wpAny_attempt; apply wpAny_holding
  unfold callGetattribute
  rw [show (false && onTheHeap (Value.builtin "BaseException.__getattribute__")) = false from rfl, if_neg Bool.false_ne_true]
  unfold boundAndCalled
  rw [PySem.F.excAttr_ValueError.ga.bind (.ref x)]
  apply wpAny_bind; apply wpAny_pure
  show wpAny _ _ (call (.builtin "BaseException.__getattribute__") [.ref x, .str "__class__" tk]) _ _ _
  apply wpAny_call
  refine codeAny_call_builtin PySem.F.excAttr_ValueError.ga.plain PySem.F.entry_bexc_ga ?_
  refine @check_slot (model prog w) _ _ ⟨hp, gens, drawn, tk + 1, os⟩ "BaseException.__getattribute__" "BaseException" "__getattribute__" (.ref x) [.str "__class__" tk] [] _ (by decide +kernel) (by decide +kernel) isExc (PySem.F.args_bexc_ga (.ref x) (.str "__class__" tk)) ?_
  unfold Builtin.«object.__getattribute__»
  refine wpAny_bind (wpAny_of_eq (a := ((Value.ref x : Value), [Value.str "__class__" tk])) (by first | rfl | (simp only [slotArgs]; rfl)) ?_)
  apply wpAny_bind; apply wpAny_pure; apply wpAny_bind; apply lt.at; apply wpAny_bind; apply lcl.at
  show wpAny _ _ (holding [Value.builtin "object.__class__"] (call (.builtin "getset_descriptor.__get__") [.builtin "object.__class__", .ref x, .ref Cd]) >>= ret) _ _ _
  apply wpAny_bind; apply wpAny_holding; apply wpAny_call
  refine class_get (s := ⟨hp, gens, drawn, tk + 1, os⟩) (ox := ox) (od := od) inK inst F.hm ?_
  apply wpAny_pure
  show wpAny _ _ (handedOut (.ref Cd)) _ _ _
  rw [handedOut_of (v := .ref Cd) rfl]
  first
    | exact wpAny_pure (wpAny_pure q)
    | exact wpAny_pure q
    | exact wpAny_pure (wpAny_bind (wpAny_pure (wpAny_pure q)))
open PySem.W in
theorem cls_there (F : ExcC K Cd) : ∃ oc, K.lookup Cd = some oc ∧ ∃ cd, oc.data = .cls cd := by
  obtain ⟨cd, hc, _⟩ := any_some F.hd
  unfold clsIn at hc
  split at hc
  · rename_i c' d' cd' sl' ho
    exact ⟨_, ho, cd', rfl⟩
  · cases hc
open PySem.W in
theorem kit_exc (F : ExcC K Cd) : KitX K (.ref x) (.ref Cd) (fun h => InstAt h x ox Cd od) where
  ty := fun _ _ _ i => i.type
  it := fun _ _ inK _ => by
    obtain ⟨⟨c1, d1, dat, sl⟩, ho, cd, e⟩ := cls_there F
    dsimp only at e
    subst e
    intro A' Q' E' s' k q
    unfold isType loadHead
    exact wpAny_bind (wpAny_loadPart (k _ _ (inK _ _ ho)) (wpAny_pure q))
  ne := fun h tp dd its n sl inK htp => by
    obtain ⟨⟨c1, d1, dat, sl1⟩, ho, cd, e⟩ := cls_there F
    dsimp only at e
    subst e
    refine Bool.eq_false_iff.mpr fun q => ?_
    have e : Cd = tp := Value.ref.inj (beq_iff_eq.mp q)
    subst e
    have z := (inK _ _ ho).symm.trans htp
    cases z
  ca := fun inK i k => ask_class F inK i k
end
/-- isinstance(e, c), e what the suite holds, d its dict -/
def rIsD (K : PySem.W.Frag) (Dc a : Addr) (d : Option Addr) : List V → Hp → VK → Prop := fun xs H Q => ∃ (c : V) (cv : Value) (b : Bool), xs = [.ref a, c] ∧ (∀ u, RelV c u → u = cv) ∧ (d = none ∨ ∃ dd fs, d = some dd ∧ H dd = some (.xd fs)) ∧ PySem.W.kitOne K (.ref Dc) cv = some b ∧ Q (.bl b) H
theorem call_isD {X : Cx} {a Dc : Addr} {d : Option Addr} {oe : Obj} {pn : List (Addr × Obj)} (F : ExcC X.K Dc) (hz : Zc (.ref Dc) d oe) (hf : ∃ vs, oe.data = .fields vs) : CallR (X.suite a ((a, oe) :: pn)) (.builtin "isinstance") (rIsD X.K Dc a d) := by
  intro pins s σ H xs us Q I r ⟨c, cv, b, ex, hcv, hd, e, q⟩
  subst ex
  obtain ⟨u1, u2, rfl, r1, r2⟩ := vals2 r
  cases r1
  have e2 := hcv _ r2
  subst e2
  obtain ⟨at_, _⟩ := I.pin (a, oe) (List.mem_append.mpr (.inl (.head _)))
  obtain ⟨vs, hv⟩ := hf
  have inst : ∃ od, PySem.W.InstAt s.heap a oe Dc od := by
    rcases hd with rfl | ⟨dd, fs, rfl, hx⟩
    · obtain ⟨oc, od, oda, osl⟩ := oe
      obtain ⟨h1, h2⟩ := hz
      dsimp only at h1 h2 hv
      subst h1 h2 hv
      exact ⟨none, at_, rfl, rfl, trivial⟩
    · have ok : ObjOk X.prog X.w H s.heap dd (.xd fs) := I.hok dd _ hx
      obtain ⟨mA, ns, _⟩ := ok
      obtain ⟨od, ho, _⟩ := lookIn_ns ns
      exact ⟨some od, at_, hz.1, by unfold PySem.W.notCls; rw [hv] <;> rfl, by rw [hz.2]; exact ho⟩
  obtain ⟨od, inst⟩ := inst
  exact PySem.W.kia_one (kit_exc F) I.kIn inst e (fun z => nomatch z) fun tk => ⟨.bl b, H, I.kept (t' := tk) fun _ _ z => z, rfl, q⟩
end Ev
set_option Elab.async false
set_option linter.all false
set_option autoImplicit false
set_option maxRecDepth 100000
namespace Ev
open PySem PySem.Spec L2 PyProof.Rows

/-! ### what a clause makes of the error that it holds -/
inductive El where
  | str (z : Str)
  | fld (f : Str)
  | isa (T : String)
def elD (fs : List (Str × D)) : El → Option D
  | .str z => some (.str z)
  | .fld f => match fs with
    | (g, d) :: _ => if f = g then some d else none
    | [] => none
  | .isa _ => some (.bool true)
def elsD (fs : List (Str × D)) : List El → Option (List D)
  | [] => some []
  | e :: es => match elD fs e with
    | some d => (elsD fs es).map (d :: ·)
    | none => none
def tEl (K : PySem.W.Frag) (Dc a : Addr) (d : Option Addr) (i : Nat) : El → TE
  | .str z => tC (.str z)
  | .fld f => tXf a (.ref Dc) d Dc f (tVar i)
  | .isa T => tCB (rIsD K Dc a d) (tCons (tVar i) (tCons (tC (.ty T)) tNil))
def tEls (K : PySem.W.Frag) (Dc a : Addr) (d : Option Addr) (i : Nat) : List El → TA
  | [] => tNil
  | e :: es => tCons (tEl K Dc a d i e) (tEls K Dc a d i es)
inductive ElsOk (K : PySem.W.Frag) (Dc : Addr) : List El → Prop
  | nil : ElsOk K Dc []
  | str {z : Str} {es : List El} : ElsOk K Dc es → ElsOk K Dc (.str z :: es)
  | fld {f : Str} {es : List El} : ElsOk K Dc es → ElsOk K Dc (.fld f :: es)
  | isa {T : String} {es : List El} : PySem.W.kitOne K (.ref Dc) (.type T) = some true → ElsOk K Dc es → ElsOk K Dc (.isa T :: es)
section
variable {K : PySem.W.Frag} {W : WX} {C : Exc} {PI : List Nat} {HI H : Hp} {σ : L2.St} {Dc a : Addr} {d : Option Addr} {i : Nat} {fs : List (Str × D)}
theorem exd_dict (xd : ExD K HI H d fs) : d = none ∨ ∃ dd vs, d = some dd ∧ H dd = some (.xd vs) := by
  cases fs with
  | nil => exact .inl xd
  | cons fd r => obtain ⟨dd, v, e1, e2, _⟩ := xd; exact .inr ⟨dd, _, e1, e2⟩
theorem el_run {e : El} {x : D} {Q : V → Hp → Prop} (hσ : σ[i]? = some (some (V.ref a))) (xd : ExD K HI H d fs) (hx : elD fs e = some x) (hk : ∀ T, e = .isa T → PySem.W.kitOne K (.ref Dc) (.type T) = some true) (q : ∀ v, Rp K HI v x → Q v H) : tEl K Dc a d i e σ H Q := by
  cases e with
  | str z => cases hx; exact q _ (.str z)
  | isa T =>
    cases hx
    exact ⟨V.ref a, hσ, .ty T, .type T, true, rfl, fun _ r => r, exd_dict xd, hk T rfl, q _ (.bl true)⟩
  | fld f =>
    unfold elD at hx
    cases fs with
    | nil => cases hx
    | cons fd r =>
      obtain ⟨g, y⟩ := fd
      obtain ⟨dd, v, e1, e2, rv⟩ := xd
      dsimp only at hx
      by_cases hg : f = g
      · rw [if_pos hg] at hx
        cases hx
        exact ⟨V.ref a, hσ, rfl, rfl, dd, _, v, e1, e2, by subst hg; simp [List.lookup], q v rv⟩
      · rw [if_neg hg] at hx; cases hx
theorem els_run {es : List El} (ok : ElsOk K Dc es) (hσ : σ[i]? = some (some (V.ref a))) (xd : ExD K HI H d fs) : ∀ {ds : List D} {Q : List V → Hp → Prop}, elsD fs es = some ds → (∀ vs, RpAll K HI vs ds → Q vs H) → tEls K Dc a d i es σ H Q := by
  have step : ∀ {e : El} {es : List El}, (∀ T, e = .isa T → PySem.W.kitOne K (.ref Dc) (.type T) = some true) → (∀ {ds : List D} {Q : List V → Hp → Prop}, elsD fs es = some ds → (∀ vs, RpAll K HI vs ds → Q vs H) → tEls K Dc a d i es σ H Q) →
      ∀ {ds : List D} {Q : List V → Hp → Prop}, elsD fs (e :: es) = some ds → (∀ vs, RpAll K HI vs ds → Q vs H) → tEls K Dc a d i (e :: es) σ H Q := by
    intro e es hk ih ds Q h q
    unfold elsD at h
    cases he : elD fs e with
    | none => rw [he] at h; cases h
    | some x =>
      rw [he] at h
      obtain ⟨zs, hz, rfl⟩ := Option.map_eq_some_iff.mp h
      exact el_run (Q := fun v H1 => tEls K Dc a d i es σ H1 fun vs H2 => Q (v :: vs) H2) hσ xd he hk fun v rv => ih hz fun vs rvs => q _ (.cons rv rvs)
  induction ok with
  | nil => intro ds Q h q; cases h; exact q [] .nil
  | @str z es _ ih => exact step (e := .str z) (fun T h => by cases h) ih
  | @fld f es _ ih => exact step (e := .fld f) (fun T h => by cases h) ih
  | isa h _ ih => exact step (fun T e => by cases e; exact h) ih
/-- the clause's suite, the class known -/
def tsD (Dc : Addr) (t : Addr → Option Addr → L2.TS) : Addr → Value → Option Addr → L2.TS := fun a cls d => fun Dn σ H => cls = .ref Dc ∧ t a d Dn σ H
theorem pss_tsD {X : Cx} {ss : List Stmt} {t : Addr → Option Addr → L2.TS} (h : ∀ (a : Addr) (d : Option Addr) (oe : Obj) (pn : List (Addr × Obj)), Zc (.ref Dc) d oe → (∃ vs, oe.data = .fields vs) → PSs (X.suite a ((a, oe) :: pn)) ss (t a d)) :
    ∀ (a : Addr) (oe : Obj) (cls : Value) (d : Option Addr) (pn : List (Addr × Obj)), Zc cls d oe → (∃ vs, oe.data = .fields vs) → PSs (X.suite a ((a, oe) :: pn)) ss (tsD Dc t a cls d) :=
  fun a oe cls d pn hz hf => ⟨fun pins s σ H Dn I ⟨e, w⟩ => by subst e; exact (h a d oe pn hz hf).run pins s σ H Dn I w⟩
/-- isinstance(e, T) in such a suite -/
theorem pe_isD {X : Cx} {oe : Obj} {pn : List (Addr × Obj)} {n : Str} {T : String} {k2 k3 k4 k5 : Pos} (F : ExcC X.K Dc) (hz : Zc (.ref Dc) d oe) (hf : ∃ vs, oe.data = .fields vs) (h1 : Gl X "isinstance") (h2 : Gl X (Str.ofString T)) (m1 : X.mg "isinstance" = none) (m2 : X.mg (Str.ofString T) = none)
    (hT : bootBuiltins (Str.ofString T) = some (.type T)) (hv : PE (X.suite a ((a, oe) :: pn)) (.Name n k3) (tVar i)) (hn : (Str.ofString T) ≠ "__name__" := by decide) (hdb : (Str.ofString T == ("__debug__" : Str)) = false := by decide)
    (he : starEach [Expr.Name n k3, Expr.Name (Str.ofString T) k4] (X.suite a ((a, oe) :: pn)).env = (false, eval (.Name n k3) (X.suite a ((a, oe) :: pn)).env) :: starEach [Expr.Name (Str.ofString T) k4] (X.suite a ((a, oe) :: pn)).env := by rfl)
    (hpl : (backTo k5 (starEach [Expr.Name (Str.ofString T) k4] (X.suite a ((a, oe) :: pn)).env)).any (·.1) = false := by rfl) :
    PE (X.suite a ((a, oe) :: pn)) (.Call (.Name "isinstance" k2) [.Name n k3, .Name (Str.ofString T) k4] [] k5) (tEl X.K Dc a d i (.isa T)) :=
  pe_callB (call_isD F hz hf) h1 m1 PyProof.Rows.boot_isinstance (pa_cons hv (pa_cons (pe_bltn h2 m2 hT rfl hn hdb) pa_nil)) (by decide) (by decide) he hpl
/-! the four forms -/
variable {NE c0 j : Nat} {es : List El}
def mRetL (i : Nat) (es : List El) : MH := fun fs r => if i < r.length && szOk es.length then (elsD fs es).bind fun ds => some (.rt true (.list ds) r) else none
def mAsgL (i j : Nat) (es : List El) : MH := fun fs r => if i < r.length && szOk es.length then (elsD fs es).bind fun ds => some (.nx ((r.set j (.im (.list ds))).set i .un)) else none
def mRetT (i : Nat) (es : List El) : MH := fun fs r => if i < r.length && szOk es.length then (elsD fs es).bind fun ds => some (.rt false (.tuple ds) r) else none
theorem elsD_len {fs : List (Str × D)} : ∀ {es : List El} {ds : List D}, elsD fs es = some ds → ds.length = es.length
  | [], ds, h => by cases h; rfl
  | e :: es, ds, h => by
    unfold elsD at h
    cases he : elD fs e with
    | none => rw [he] at h; cases h
    | some x =>
      rw [he] at h
      obtain ⟨zs, hz, rfl⟩ := Option.map_eq_some_iff.mp h
      rw [List.length_cons, List.length_cons, elsD_len hz]
theorem bindS {α β : Type} {o : Option α} {f : α → Option β} {P : Option β → Prop} (hn : ¬ P none) (h : P (o.bind f)) : ∃ x, o = some x ∧ P (f x) := by
  cases o with
  | none => exact absurd h hn
  | some x => exact ⟨x, rfl, h⟩
theorem ifB {α : Type} {c : Bool} {o : Option α} {P : Option α → Prop} (hn : ¬ P none) (h : P (if c = true then o else none)) : c = true ∧ P o := by
  cases c with
  | true => exact ⟨rfl, by simpa using h⟩
  | false => exact absurd (by simpa using h) hn
theorem ho_retL (hc : c0 < NE) (hC : C c0 = .ref Dc) (ok : ElsOk K Dc es) : HOk K W C PI NE ⟨.ref Dc, some i, tsD Dc fun a d => tRet (tLst (tEls K Dc a d i es))⟩ (c0, mRetL i es) :=
  ⟨hC.symm, hc, fun Ps HB HI0 H0 hps ρ HI H σ D a d fs so en ha xd p => by
    obtain ⟨hl, p⟩ := ifB (P := fun o => PtS K W C Ps HB HI0 H0 o D) id p
    rw [Bool.and_eq_true, decide_eq_true_eq] at hl
    obtain ⟨ds, hd, p⟩ := bindS (P := fun o => PtS K W C Ps HB HI0 H0 o D) id p
    refine ⟨hC, els_run (Q := fun vs H1 => vs.length ≤ sizeLine ∧ ∀ q, H1 q = none → D.rt (.ref q) (upd H1 q (.lst vs))) ok (List.getElem?_set_self (by rw [so.len]; exact hl.1)) xd hd fun vs rv => ⟨?_, fun q hq => p HI H σ so en q vs hq rv⟩⟩
    rw [dpa_len rv, elsD_len hd]; exact szOk_le hl.2⟩
theorem ho_asgL (hc : c0 < NE) (hij : i ≠ j) (hi : i ∉ PI) (hj : j ∉ PI) (hC : C c0 = .ref Dc) (ok : ElsOk K Dc es) : HOk K W C PI NE ⟨.ref Dc, some i, tsD Dc fun a d => tAsg (tLst (tEls K Dc a d i es)) (gName j)⟩ (c0, mAsgL i j es) :=
  ⟨hC.symm, hc, fun Ps HB HI0 H0 hps ρ HI H σ D a d fs so en ha xd p => by
    obtain ⟨hl, p⟩ := ifB (P := fun o => PtS K W C Ps HB HI0 H0 o D) id p
    rw [Bool.and_eq_true, decide_eq_true_eq] at hl
    obtain ⟨ds, hd, p⟩ := bindS (P := fun o => PtS K W C Ps HB HI0 H0 o D) id p
    refine ⟨hC, els_run (Q := fun vs H1 => vs.length ≤ sizeLine ∧ ∀ q, H1 q = none → gName j (.ref q) (σ.set i (some (.ref a))) (upd H1 q (.lst vs)) (endsGone i D).nx) ok (List.getElem?_set_self (by rw [so.len]; exact hl.1)) xd hd fun vs rv => ⟨?_, fun q hq => ?_⟩⟩
    · rw [dpa_len rv, elsD_len hd]; exact szOk_le hl.2
    · have tp := TP.new_ (o := .lst vs) so.sub hq
      have rl : Rp K (upd HI q (.lst vs)) (.ref q) (.list ds) := .lst (.inl (.inl upd_same)) (dpa_mono tp.exI rv)
      have en2 : Ent Ps HB HI0 H0 (upd HI q (.lst vs)) (upd H q (.lst vs)) σ ρ := en.tr so tp.tr
      have p2 := p _ _ _ (((so.tp tp).set_im (i := j) rl).set_un i none) ((en2.set_im (i := j) (d := .list ds) (some (.ref q)) hps hj).set_un none hps hi)
      show D.nx (((σ.set i (some (.ref a))).set j (some (.ref q))).set i none) _
      rw [List.set_comm _ _ hij, List.set_set]
      exact p2⟩
theorem ho_retT (hc : c0 < NE) (hC : C c0 = .ref Dc) (ok : ElsOk K Dc es) (h2 : ∀ fs ds, elsD fs es = some ds → ds.all isPr = false) : HOk K W C PI NE ⟨.ref Dc, some i, tsD Dc fun a d => tRet (tTup (tEls K Dc a d i es))⟩ (c0, mRetT i es) :=
  ⟨hC.symm, hc, fun Ps HB HI0 H0 hps ρ HI H σ D a d fs so en ha xd p => by
    obtain ⟨hl, p⟩ := ifB (P := fun o => PtS K W C Ps HB HI0 H0 o D) id p
    rw [Bool.and_eq_true, decide_eq_true_eq] at hl
    obtain ⟨ds, hd, p⟩ := bindS (P := fun o => PtS K W C Ps HB HI0 H0 o D) id p
    refine ⟨hC, els_run (Q := fun vs H1 => vs.length ≤ sizeLine ∧ ∀ q, H1 q = none → D.rt (.ref q) (upd H1 q (.tup vs))) ok (List.getElem?_set_self (by rw [so.len]; exact hl.1)) xd hd fun vs rv => ⟨?_, fun q hq => ?_⟩⟩
    · rw [dpa_len rv, elsD_len hd]; exact szOk_le hl.2
    · have tp := TP.new_ (o := .tup vs) so.sub hq
      exact p _ _ _ (so.tp tp) (en.tr so tp.tr) _ (.tup (.inl (.inl upd_same)) (fun z => by rw [h2 fs ds hd] at z; cases z) (dpa_mono tp.exI rv))⟩
/-- a clause without a name, its suite of any kind -/
theorem ho_suite {t : L2.TS} {m : MS} {c : Value} (hc : c0 < NE) (hC : C c0 = c) (h : RdS K W C PI t m) : HOk K W C PI NE ⟨c, none, fun _ _ _ => t⟩ (c0, fun _ => m) :=
  ⟨hC.symm, hc, fun Ps HB HI0 H0 hps ρ HI H σ D a d fs so en ha xd p => h Ps HB HI0 H0 hps ρ HI H σ D so en p⟩
end
end Ev
set_option Elab.async false
set_option linter.all false
set_option autoImplicit false
set_option maxRecDepth 100000
namespace Ev
open PySem PySem.Spec L2 PyProof.Rows

/-! ### (f, g)[k](..) -/
section
variable {K : PySem.W.Frag} {W : WX} {C : Exc} {tk : TE} {fk : M D} {tl : TA} {fl : M (List D)}
def rAtT (K : PySem.W.Frag) : R2 := fun x y H Q => ∃ a xs i v, x = V.ref a ∧ y = .int i ∧ H a = some (.tup xs) ∧ atI xs i = some v ∧ Q v H
theorem ixAtT {X : Cx} : IxR X (rAtT X.K) := fun value slice pins s σ H x y v u Q I rx ry ⟨a, xs, i, z, e1, e2, h, ha, q⟩ hs => ix_tup value slice pins s σ H x y v u Q I rx ry ⟨a, xs, i, z, e1, e2, .inl (.inl h), ha, q⟩ hs
theorem rd_selT {P : Program} {w : World} {mg : Str → Option Value} {base : Heap} {k : Nat} {xs : List Str} {gs : List (Nat × FM)} {Cs : List (Addr × Sp)} (hS : Sels P w K mg base C k xs gs Cs) (hz : Cs.length ≤ 1000) (hk : Rd K W C tk fk) (hl : RdA K W C tl fl) :
    Rd K W C (tCallE Cs (WE W) (tOp (rAtT K) (tTup (selA (Cs.map (·.1)))) tk) tl) (fSel gs fk fl) := by
  intro ρ HI H σ Q _ so p
  refine selA_run (fs := Cs.map (·.1)) (Q := fun xs H1 => xs.length ≤ sizeLine ∧ ∀ p, H1 p = none → (tk σ (upd H1 p (.tup xs)) fun y H3 => rAtT K (V.ref p) y H3 fun v H4 => ∃ f sp, v = .ref f ∧ (f, sp) ∈ Cs ∧ tl σ H4 fun vs H5 => sp vs H5 Q (WE W σ))) ⟨by rw [List.length_map, List.length_map]; exact Nat.le_trans hz (by decide), fun q hq => ?_⟩
  have offq := off_of so hq
  have tp := TP.fresh (o := .tup ((Cs.map (·.1)).map V.ref)) so.sub hq
  have so1 := so.tp tp
  have p := Pt.from tp.tr p
  unfold fSel at p
  refine hk ρ HI _ σ _ same_H0 so1 ?_
  cases hf : fk ρ with
  | none => rw [mb_none hf] at p; exact p
  | some o =>
    cases o with
    | ex c ρ1 => rw [mb_ex hf] at p; exact p
    | ok d ρ1 =>
      rw [mb_ok hf] at p
      intro HI1 H1 tr1 so2 v rv
      cases rv with
      | int i =>
        dsimp only at p
        cases hg : atI gs i with
        | none => rw [hg] at p; exact False.elim p
        | some ng =>
          obtain ⟨n, g⟩ := ng
          rw [hg] at p
          dsimp only at p
          have eq : H1 q = some (.tup ((Cs.map (·.1)).map V.ref)) := tr1.keep q _ upd_same (off_own offq)
          obtain ⟨j, hj, hgj⟩ : ∃ j, ixN gs.length i = some j ∧ gs[j]? = some (n, g) := by
            unfold atI at hg
            cases hx : ixN gs.length i with
            | none => rw [hx] at hg; cases hg
            | some j => rw [hx] at hg; exact ⟨j, rfl, hg⟩
          obtain ⟨f, hfj⟩ := hS.at hgj
          have hat : atI Cs i = some (f, SpF K C n g) := by
            unfold atI
            rw [hS.len, hj]
            exact hfj
          refine ⟨q, _, i, V.ref f, rfl, rfl, eq, by rw [atI_map, atI_map, hat]; rfl, f, _, rfl, List.mem_of_getElem? hfj, ?_⟩
          refine hl ρ1 HI1 H1 σ _ same_H0 so2 ?_
          have p := Pt.from tr1 p
          cases hfl : fl ρ1 with
          | none => rw [mb_none hfl] at p; exact p
          | some o =>
            cases o with
            | ex c ρ2 => rw [mb_ex hfl] at p; exact p
            | ok ds ρ2 =>
              rw [mb_ok hfl] at p
              intro HI2 H2 tr2 so3 vs ra
              by_cases hn : ds.length = n
              · rw [if_pos hn] at p
                exact ⟨by rw [dpa_len ra]; exact hn, HI2, _, sok_args so3.sub ra, res_ok (σ := σ) (ρ := ρ2) (fun _ _ _ z => z) so3 no_own (Pt.from tr2 p)⟩
              · rw [if_neg hn] at p; exact False.elim p
      | _ => exact False.elim p
end
theorem pe_selsT {X : Cx} {P : Program} {w : World} {K : PySem.W.Frag} {mg : Str → Option Value} {base : Heap} {C : Exc} {k : Nat} {xs : List Str} {gs : List (Nat × FM)} {Cs : List (Addr × Sp)} {es : List Expr} {j : Nat} {pl : Pos} (hS : Sels P w K mg base C k xs gs Cs) (hA : PA X es (selA (Cs.map (·.1)))) : PE X (.Tuple es j pl) (tTup (selA (Cs.map (·.1)))) := pe_tup hA
/-! ### raise X(e), X with an __init__ that keeps its field -/
section
variable {K : PySem.W.Frag} {W : WX} {C : Exc} {PI : List Nat} {te : TE} {fe : M D}
structure ExI (K : PySem.W.Frag) (mg : Str → Option Value) (x : Str) (B : String) (Cc : Addr) (f : Str) : Prop where
  gC : mg x = some (.ref Cc)
  T : OexC K Cc
  xf : XfC K Cc
  hno : PySem.W.findIn K (.ref Cc) f = some none
  is : ExcC K Cc
  ve : PySem.W.kitOne K (.ref Cc) (.type B) = some true
def spI (Cc : Addr) (f : Str) : Sp := fun vs H Q _ => ∃ a y, vs = [.ref a, y] ∧ H a = some (exo a Cc none) ∧ ∀ dx, H dx = none → dx ≠ a → Q .non (upd (upd H dx (exd dx [(f, y)])) a (exo a Cc (some dx)))
structure InitOk (P : Program) (w : World) (K : PySem.W.Frag) (mg : Str → Option Value) (base : Heap) (Cc : Addr) (f : Str) : Prop where
  ex : ∃ fI fd ps, PySem.W.findIn K (.ref Cc) "__init__" = some (some (.ref fI)) ∧ PySem.W.typeIn K (.ref fI) = some (.type "function") ∧ FnOk P w K mg base (L2.CX P w) 1 fI fd ps (spI Cc f) ∧ Binds K fd ps []
theorem ps_raise1 {X : Cx} {P : Program} {w : World} {mg : Str → Option Value} {base : Heap} {A : Around} {k : Nat} {x B f : Str} {Bs : String} {Cc : Addr} {e : Expr} {p pos pos' : Pos} (G : ExI K mg x Bs Cc f) (N : InitOk P w K mg base Cc f) (hr : Room k A) (hk : 2 ≤ k) (hc : X.calm = true) (tk : Takes X W) (hg : Gl X x) (he : PE X e te)
    (h1 : X.prog = P := by rfl) (h2 : X.w = w := by rfl) (h3 : X.K = K := by rfl) (h4 : X.mg = mg := by rfl) (h5 : X.base = base := by rfl) (h6 : X.A = A := by rfl) (hdb : (x == ("__debug__" : Str)) = false := by decide)
    (hs : starEach [e] X.env = (false, eval e X.env) :: starEach [] X.env := by rfl) : PS X (.Raise (some (.Call (.Name x p) [e] [] pos)) none pos') (fun _ σ H => tMkO Cc (spI Cc f) [] (tCons te tNil) σ H fun cls d H' => W cls d σ H') := by
  subst h1 h2 h3 h4 h5 h6
  obtain ⟨fI, fd, ps, i1, i2, i3, i4⟩ := N.ex
  exact ps_raise hc tk (pmk_oex G.T i1 i2 i3 (hr.mono (by omega)) i4 .nil passL hg G.gC (pa_cons he pa_nil hs) hdb hs rfl)
theorem rs_raise1 {c : Nat} {Cc : Addr} {f : Str} (hC : C c = .ref Cc) (h : Rd K W C te fe) : RdS K W C PI (fun _ σ H => tMkO Cc (spI Cc f) [] (tCons te tNil) σ H fun cls d H' => W cls d σ H') (sbind fe fun d r => some (.ex (c, [(f, d)]) r)) :=
  rds_of (u := fun (x : V) D σ H => [x].length ≤ 1000 ∧ ∀ a, H a = none → spI Cc f (.ref a :: ([x] ++ [])) (upd H a (exo a Cc none))
    (fun v H2 => v = .non ∧ ∃ (d : Addr) (fs : List (Str × V)), H2 a = some (exo a Cc (some d)) ∧ H2 d = some (exd d fs) ∧ H d = none ∧ W (.ref Cc) (some d) σ (upd (del H2 a) d (.xd fs))) (fun _ _ _ => False)) h
    fun Ps HB HI0 H0 hps ρ HI H σ D d v so en rv p => by
      refine ⟨by show 1 ≤ 1000; decide, fun a ha => ⟨a, v, rfl, upd_same, fun dx hdx hne => ⟨rfl, dx, [(f, v)], upd_same, by rw [upd_ne hne, upd_same], by rwa [upd_ne hne] at hdx, ?_⟩⟩⟩
      have hd0 : H dx = none := by rwa [upd_ne hne] at hdx
      have eq : upd (del (upd (upd (upd H a (exo a Cc none)) dx (exd dx [(f, v)])) a (exo a Cc (some dx))) a) dx (.xd [(f, v)]) = upd H dx (.xd [(f, v)]) := by
        funext b
        by_cases h1 : b = dx
        · subst h1; rw [upd_same, upd_same]
        · rw [upd_ne h1, upd_ne h1]
          by_cases h2 : b = a
          · subst h2; rw [del_same, ha]
          · rw [del_ne h2, upd_ne h2, upd_ne h1, upd_ne h2]
      rw [eq]
      have tp := TP.fresh (o := .xd [(f, v)]) so.sub hd0
      have q : WC K C (fun cls d H => W cls d σ H) (c, [(f, d)]) HI (upd H dx (.xd [(f, v)])) := p HI _ σ (so.tp tp) (en.tr so tp.tr)
      have := q dx v upd_same rv
      rwa [hC] at this
end
end Ev
set_option Elab.async false
set_option linter.all false
set_option autoImplicit false
set_option maxRecDepth 100000
namespace Ev
open PySem PySem.Spec L2 PyProof.Rows

/-! ### the def __init__ of an own error -/
def clsDef : Stmt → Stmt
  | .ClassDef _ _ _ (b :: _) _ _ _ _ _ _ _ => b
  | s => s
def tIni (K : PySem.W.Frag) (f : Str) : L2.TS := tSeq (tDrop (tVeI K (tCons (tVar 0) (tCons (tVar 1) tNil)))) (tOst K f (tVar 0) (tVar 1))
theorem init_mk {P : Program} {w : World} {K : PySem.W.Frag} {mg : Str → Option Value} {base : Heap} {Cc fI : Addr} {qual f : Str} {S : Stmt} {fd : FuncData} (T : OexC K Cc) (hno : PySem.W.findIn K (.ref Cc) f = some none) (i1 : PySem.W.findIn K (.ref Cc) "__init__" = some (some (.ref fI)))
    (i2 : PySem.W.typeIn K (.ref fI) = some (.type "function")) (F : L2.Fun K "__init__" qual S fI fd) (Bd : Binds K fd ["self", f] []) (sc : FnScope ["self", f] ["self", f] (defScope S))
    (hb : ∀ (cdv : Value) (A : Around) (outer : List Env) (s : Shared) (H : Hp) (E : XK), PSs (cxOf (L2.CX P w) P w K mg base ["self", f] qual (defScope S) fI cdv A outer s H E) (defBody S) (tIni K f)) : InitOk P w K mg base Cc f :=
  ⟨fI, fd, ["self", f], i1, i2, F.okX (k := 0) sc (fun vs H Q E h => by obtain ⟨a, y, e, _⟩ := h; rw [e]; rfl) (fun cdv A outer s H vs Q E hr h => by
    obtain ⟨a, y, e, ha, q⟩ := h
    subst e
    exact ⟨_, hb cdv A outer s H E, V.ref a, rfl, y, rfl, a, Cc, [y], rfl, by show 1 ≤ 1000; decide, T, ha, y, rfl, V.ref a, rfl, a, Cc, rfl, T, hno, .inl ⟨ha, fun dx h1 h2 => q dx h1 h2⟩⟩), Bd⟩
theorem exi_mk {K : PySem.W.Frag} {h : Heap} {mg : Str → Option Value} {x f : Str} {Cc : Addr} {nm q : Str} {N : Addr} {bs bm : List Value} {sn : List Str} {sub : List Value} {ab : Bool} {col : Option Bool} {dd k0 k1 k2 k3 k5} (X : K.In h) (G : h.Ns mainGlobals mg) (a : PySem.W.nsIn K mainGlobals x = some (some (.ref Cc)))
    (oc : K.lookup Cc = some (excClassObj nm q Cc N bs bm true sn sub ab col dd k0 k1 k2 k3 k5 "ValueError.__new__")) (rv : PySem.HandSPX.refsVE bm = true) (sa : PySem.W.findIn K (.ref Cc) "__setattr__" = some (some (.builtin "object.__setattr__"))) (ex : PySem.W.subIn K (.ref Cc) (.type "BaseException") = some true)
    (ty : PySem.W.typeIn K (.ref Cc) = some (.type "type")) (kC : PySem.W.keepIn K (.ref Cc) = true) (hg : PySem.W.findIn K (.ref Cc) "__getattribute__" = some (some (.builtin "BaseException.__getattribute__"))) (hk : PySem.W.findIn K (.ref Cc) "__getattr__" = some none) (hd : PySem.W.hasDictIn K Cc = true)
    (ha : PySem.W.findIn K (.ref Cc) "__class__" = some (some (.builtin "object.__class__"))) (hn : PySem.W.specialIn K (.builtin "object.__class__") "__get__" = some (some (.builtin "getset_descriptor.__get__"))) (ht : PySem.W.takesIn K (.builtin "object.__class__") = some true) (hm : PySem.W.mroIn K Cc (.type "object") = some true)
    (ve : PySem.W.kitOne K (.ref Cc) (.type "ValueError") = some true) (nf : PySem.W.findIn K (.ref Cc) f = some none) : ExI K mg x "ValueError" Cc f :=
  ⟨PySem.W.mg_of X G a, ⟨⟨_, _, _, _, _, _, _, _, _, _, _, _, _, _, _, oc, rv⟩, sa, ex, ty, kC⟩, ⟨hg, hk, ex, hd⟩, nf, ⟨hg, hk, ex, hd, ha, hn, ht, hm⟩, ve⟩
/-- a constant str of the module -/
theorem pe_gstr {X : Cx} {x z : Str} {pos : Pos} (h : ∃ t, X.mg x = some (.str z t)) (hg : Gl X x) (hd : (x == ("__debug__" : Str)) = false := by decide) : PE X (.Name x pos) (tC (.str z)) := by
  obtain ⟨t, h⟩ := h
  exact pe_glob hg h ⟨t, rfl⟩ hd
end Ev
set_option Elab.async false
set_option linter.all false
set_option maxRecDepth 100000
set_option maxHeartbeats 0
namespace EvLaw
open PySem PySem.Spec L2 PyProof.Rows Ev

abbrev NE : Nat := 1
def topS (i : Nat) : Stmt := PySem.Challenge.pw_lockstold_k57_texts_by_hand_and_what_is.main.body.getD i (.Pass ⟨0, 0, 0, 0⟩)
structure Gd (K : PySem.W.Frag) (mg : Str → Option Value) (as : Nat → Addr) : Prop where
  m_ValueError : mg "ValueError" = none
  m_all : mg "all" = none
  m_bool : mg "bool" = none
  m_enumerate : mg "enumerate" = none
  m_int : mg "int" = none
  m_isinstance : mg "isinstance" = none
  k_FIGURES : ∃ t, mg "FIGURES" = some (.str "0123456789" t)
  m_len : mg "len" = none
  m_list : mg "list" = none
  m_range : mg "range" = none
  m_set : mg "set" = none
  m_str : mg "str" = none
  m_tuple : mg "tuple" = none
  x_BadText : ExI K mg "BadText" "ValueError" (as 0) "line"
  m_zip : mg "zip" = none
  xx : ∀ c0, c0 < NE → ∀ c, c < NE → PySem.W.exmOne K (Value.ref (as c)) (Value.ref (as c0)) = some (c == c0)
theorem Gd.c_BadText {K : PySem.W.Frag} {mg : Str → Option Value} {as : Nat → Addr} (_ : Gd K mg as) : (fun c => Value.ref (as c) : Exc) 0 = .ref (as 0) := rfl
abbrev SI_BadText : Stmt := clsDef (topS 1)
theorem sci_BadText : FnScope ["self", "line"] ["self", "line"] (defScope SI_BadText) := ⟨rfl, rfl, rfl, by decide +kernel, rfl, by decide +kernel, by decide +kernel⟩
theorem I_BadText {P : Program} {w : World} {K : PySem.W.Frag} {mg : Str → Option Value} {base : Heap} {Cc fI : Addr} {fd : FuncData} (T : OexC K Cc) (hno : PySem.W.findIn K (.ref Cc) "line" = some none) (i1 : PySem.W.findIn K (.ref Cc) "__init__" = some (some (.ref fI))) (i2 : PySem.W.typeIn K (.ref fI) = some (.type "function")) (F : L2.Fun K "__init__" "BadText.__init__" SI_BadText fI fd) (Bd : Binds K fd ["self", "line"] []) (mV : mg "ValueError" = none) (vv : PySem.W.findCls K (.type "ValueError") (.type "type") "__init__" = some (.val (.builtin "ValueError.__init__"))) : InitOk P w K mg base Cc "line" :=
  init_mk T hno i1 i2 F Bd sci_BadText fun cdv A outer s H E => pss_cons (ps_expr (pe_veinit (by rfl) mV vv (pa_cons (pv 0) (pa_cons (pv 1) pa_nil)))) (pss_one (ps_ost (pv 0) (pv 1)))
/-! is_number -/
abbrev S_is_number : Stmt := topS 4
abbrev N_is_number : List Str := ["thing"]
theorem sc_is_number : FnScope N_is_number ["thing"] (defScope S_is_number) := ⟨rfl, rfl, rfl, by decide +kernel, rfl, by decide +kernel, by decide +kernel⟩
theorem nd_is_number : (N_is_number).Nodup := by decide +kernel
def m_is_number : MS := (sbind (mbind (mbind (fName 0) fun d => mpure (.bool (isA .int d))) fun d => mbind (mlift (asB d)) fun b => if b then (mbind (mbind (fName 0) fun d => mpure (.bool (isA .bl d))) fun d => mlift ((asB d).map fun b => .bool (!b))) else mpure (.bool false)) fun d r => some (.rt false d r))
def g_is_number : FM := mBody [] 1 1 m_is_number
theorem F_is_number {P : Program} {w : World} {K : PySem.W.Frag} {mg : Str → Option Value} {base : Heap} {as : Nat → Addr} (G : Gd K mg as)  (T : Tx K mg "is_number" S_is_number ["thing"]) : Fn P w K mg base (fun c => .ref (as c)) "is_number" S_is_number 1 ["thing"] g_is_number :=
  fn_mk (P := P) (w := w) (K := K) (mg := mg) (base := base) (C := fun c => .ref (as c)) (N := N_is_number) (k := 0) (PI := []) (m := m_is_number) T sc_is_number (by decide) (fun f cdv A outer s H E hr => by
    have hu := huE hr
    have hv := hvE hr
    have tk := tkE (P := P) (w := w) (K := K) (mg := mg) (base := base) (N := N_is_number) (x := "is_number") (S := S_is_number) (f := f) (cdv := cdv) (A := A) (outer := outer) (s := s) (H := H) (E := E)
    have hp := hpE (P := P) (w := w) (K := K) (mg := mg) (base := base) (N := N_is_number) (x := "is_number") (S := S_is_number) (f := f) (cdv := cdv) (A := A) (outer := outer) (s := s) (H := H) (E := E)
    exact ⟨_, (pss_one (ps_ret (pe_and (pe_callB call_isi (by rfl) G.m_isinstance boot_isinstance (pa_cons (pv 0) (pa_cons (pe_ty .int (by rfl) G.m_int boot_int) pa_nil))) (pe_one (pe_not (pe_callB call_isi (by rfl) G.m_isinstance boot_isinstance (pa_cons (pv 0) (pa_cons (pe_ty .bl (by rfl) G.m_bool boot_bool) pa_nil)))))))),
      (rs_ret (rd_and (rd_isi .int (rd_var 0)) (rd_not (rd_isi .bl (rd_var 0)))))⟩)
/-! is_tuple_of -/
abbrev S_is_tuple_of : Stmt := topS 6
abbrev N_is_tuple_of : List Str := ["many", "thing"]
theorem sc_is_tuple_of : FnScope N_is_tuple_of ["many", "thing"] (defScope S_is_tuple_of) := ⟨rfl, rfl, rfl, by decide +kernel, rfl, by decide +kernel, by decide +kernel⟩
theorem nd_is_tuple_of : (N_is_tuple_of).Nodup := by decide +kernel
def m_is_tuple_of : MS := (sbind (mbind (mbind (fName 1) fun d => mpure (.bool (isA .tup d))) fun d => mbind (mlift (asB d)) fun b => if b then (mbind (mbind (mbind (fName 1) fun x => mbind (mpure []) fun xs => mpure (x :: xs)) fun x => mlift ((g1 gLen) x)) fun x => mbind (fName 0) fun y => mlift (gEq x y)) else mpure (.bool false)) fun d r => some (.rt false d r))
def g_is_tuple_of : FM := mBody [] 2 2 m_is_tuple_of
theorem F_is_tuple_of {P : Program} {w : World} {K : PySem.W.Frag} {mg : Str → Option Value} {base : Heap} {as : Nat → Addr} (G : Gd K mg as)  (T : Tx K mg "is_tuple_of" S_is_tuple_of ["many", "thing"]) : Fn P w K mg base (fun c => .ref (as c)) "is_tuple_of" S_is_tuple_of 1 ["many", "thing"] g_is_tuple_of :=
  fn_mk (P := P) (w := w) (K := K) (mg := mg) (base := base) (C := fun c => .ref (as c)) (N := N_is_tuple_of) (k := 0) (PI := []) (m := m_is_tuple_of) T sc_is_tuple_of (by decide) (fun f cdv A outer s H E hr => by
    have hu := huE hr
    have hv := hvE hr
    have tk := tkE (P := P) (w := w) (K := K) (mg := mg) (base := base) (N := N_is_tuple_of) (x := "is_tuple_of") (S := S_is_tuple_of) (f := f) (cdv := cdv) (A := A) (outer := outer) (s := s) (H := H) (E := E)
    have hp := hpE (P := P) (w := w) (K := K) (mg := mg) (base := base) (N := N_is_tuple_of) (x := "is_tuple_of") (S := S_is_tuple_of) (f := f) (cdv := cdv) (A := A) (outer := outer) (s := s) (H := H) (E := E)
    exact ⟨_, (pss_one (ps_ret (pe_and (pe_callB call_isi (by rfl) G.m_isinstance boot_isinstance (pa_cons (pv 1) (pa_cons (pe_ty .tup (by rfl) G.m_tuple boot_tuple) pa_nil))) (pe_one (pe_cmpR (opd_eq hu) (pe_callB cd_len (by rfl) G.m_len PySem.boot_len (pa_cons (pv 1) pa_nil)) (pv 0) (nomark _)))))),
      (rs_ret (rd_and (rd_isi .tup (rd_var 1)) (rd_op (rd_cb (ra_cons (rd_var 1) ra_nil)) (rd_var 0))))⟩)
/-! ascends -/
abbrev S_ascends : Stmt := topS 7
abbrev N_ascends : List Str := ["things", "at"]
theorem sc_ascends : FnScope N_ascends ["things"] (defScope S_ascends) := ⟨rfl, rfl, rfl, by decide +kernel, rfl, by decide +kernel, by decide +kernel⟩
theorem nd_ascends : (N_ascends).Nodup := by decide +kernel
def m_ascends : MS := (sbind (mbind (mbind (mbind (fComp (fRg gR2 (mbind (mpure (.int 1)) fun x => mbind (mbind (mbind (mbind (fName 0) fun x => mbind (mpure []) fun xs => mpure (x :: xs)) fun x => mlift ((g1 gLen) x)) fun x => mbind (mpure []) fun xs => mpure (x :: xs)) fun xs => mpure (x :: xs))) (tfName 1) [1] (mpure true) (mbind (mbind (fName 0) fun x => mbind (mbind (fName 1) fun x => mbind (mpure (.int 1)) fun y => mlift ((gI fun i j => some (i - j)) x y)) fun y => mlift (gIx x y)) fun x => mbind (mbind (fName 0) fun x => mbind (fName 1) fun y => mlift (gIx x y)) fun y => mlift ((gCmp fun a _ => a) x y))) fun ds => mpure (.list ds)) fun x => mbind (mpure []) fun xs => mpure (x :: xs)) fun x => mlift ((g1 gAll) x)) fun d r => some (.rt false d r))
def g_ascends : FM := mBody [] 1 2 m_ascends
theorem F_ascends {P : Program} {w : World} {K : PySem.W.Frag} {mg : Str → Option Value} {base : Heap} {as : Nat → Addr} (G : Gd K mg as)  (T : Tx K mg "ascends" S_ascends ["things"]) : Fn P w K mg base (fun c => .ref (as c)) "ascends" S_ascends 1 ["things"] g_ascends :=
  fn_mk (P := P) (w := w) (K := K) (mg := mg) (base := base) (C := fun c => .ref (as c)) (N := N_ascends) (k := 0) (PI := []) (m := m_ascends) T sc_ascends (by decide) (fun f cdv A outer s H E hr => by
    have hu := huE hr
    have hv := hvE hr
    have tk := tkE (P := P) (w := w) (K := K) (mg := mg) (base := base) (N := N_ascends) (x := "ascends") (S := S_ascends) (f := f) (cdv := cdv) (A := A) (outer := outer) (s := s) (H := H) (E := E)
    have hp := hpE (P := P) (w := w) (K := K) (mg := mg) (base := base) (N := N_ascends) (x := "ascends") (S := S_ascends) (f := f) (cdv := cdv) (A := A) (outer := outer) (s := s) (H := H) (E := E)
    exact ⟨_, (pss_one (ps_ret (pe_callB (cd_all (by rfl)) (by rfl) G.m_all boot_all (pa_cons (pe_lc (own := [("at", 1)]) rfl nd_ascends (pi_range2 (by rfl) G.m_range (pa_cons pe_int (pa_cons (pe_callB cd_len (by rfl) G.m_len PySem.boot_len (pa_cons (pv 0) pa_nil)) pa_nil))) (blkOk_by (by (first | decide +kernel | rfl | kernel_rfl))) (fun _ _ _ _ _ => (pg_name (i := 1) nd_ascends rfl (by first | exact .inl rfl | exact .inr rfl))) (fun _ _ _ _ _ => pts_nil) (fun _ _ _ _ _ => (pe_cmpR (opd_lt hu) (pe_ix ixd (pv 0) (pe_op opd_sub (pv 1) pe_int) (fun _ _ => rfl)) (pe_ix ixd (pv 0) (pv 1) (fun _ _ => rfl)) (nomark _)))) pa_nil)))),
      (rs_ret (rd_cb (ra_cons (rd_of_f (rf_lc (ri_r2 (ra_cons (rd_c fun _ => .int _) (ra_cons (rd_cb (ra_cons (rd_var 0) ra_nil)) ra_nil))) (tg_name 1) (by decide) rt_yes (rd_op (rd_op (rd_var 0) (rd_op (rd_var 1) (rd_c fun _ => .int _))) (rd_op (rd_var 0) (rd_var 1))))) ra_nil)))⟩)
/-! is_name -/
abbrev S_is_name : Stmt := topS 10
abbrev N_is_name : List Str := ["thing", "sign"]
theorem sc_is_name : FnScope N_is_name ["thing"] (defScope S_is_name) := ⟨rfl, rfl, rfl, by decide +kernel, rfl, by decide +kernel, by decide +kernel⟩
theorem nd_is_name : (N_is_name).Nodup := by decide +kernel
def m_is_name : MS := (mseq (sbind (mbind (mbind (mbind (mbind (fName 0) fun d => mpure (.bool (isA .str d))) fun d => mlift (asB d)) fun b => mpure (!b)) fun b => if b then mpure true else (mbind (mbind (mbind (mpure (.int 1)) fun x => mbind (mbind (mbind (fName 0) fun x => mbind (mpure []) fun xs => mpure (x :: xs)) fun x => mlift ((g1 gLen) x)) fun y => mbind (mlift ((gCmp fun _ b => !b) x y)) fun z => mbind (mlift (asB z)) fun b => if b then mbind (mpure (.int 12)) fun w => mlift ((gCmp fun _ b => !b) y w) else mpure (.bool false)) fun d => mlift (asB d)) fun b => mpure (!b))) fun b => if b then (sbind (mpure (.bool false)) fun d r => some (.rt false d r)) else (fun r => some (.nx r))) (sbind (mbind (mbind (mbind (fComp (fAny (fLock 0)) (tfName 1) [1] (mpure true) (mbind (mpure (.str "a")) fun x => mbind (fName 1) fun y => mbind (mlift ((gCmp fun _ b => !b) x y)) fun z => mbind (mlift (asB z)) fun b => if b then mbind (mpure (.str "z")) fun w => mlift ((gCmp fun _ b => !b) y w) else mpure (.bool false))) fun ds => mpure (.list ds)) fun x => mbind (mpure []) fun xs => mpure (x :: xs)) fun x => mlift ((g1 gAll) x)) fun d r => some (.rt false d r)))
def g_is_name : FM := mBody [] 1 2 m_is_name
theorem F_is_name {P : Program} {w : World} {K : PySem.W.Frag} {mg : Str → Option Value} {base : Heap} {as : Nat → Addr} (G : Gd K mg as)  (T : Tx K mg "is_name" S_is_name ["thing"]) : Fn P w K mg base (fun c => .ref (as c)) "is_name" S_is_name 1 ["thing"] g_is_name :=
  fn_mk (P := P) (w := w) (K := K) (mg := mg) (base := base) (C := fun c => .ref (as c)) (N := N_is_name) (k := 0) (PI := []) (m := m_is_name) T sc_is_name (by decide) (fun f cdv A outer s H E hr => by
    have hu := huE hr
    have hv := hvE hr
    have tk := tkE (P := P) (w := w) (K := K) (mg := mg) (base := base) (N := N_is_name) (x := "is_name") (S := S_is_name) (f := f) (cdv := cdv) (A := A) (outer := outer) (s := s) (H := H) (E := E)
    have hp := hpE (P := P) (w := w) (K := K) (mg := mg) (base := base) (N := N_is_name) (x := "is_name") (S := S_is_name) (f := f) (cdv := cdv) (A := A) (outer := outer) (s := s) (H := H) (E := E)
    exact ⟨_, (pss_cons (ps_if (pw_or (pt_not (pt_val (pe_callB call_isi (by rfl) G.m_isinstance boot_isinstance (pa_cons (pv 0) (pa_cons (pe_ty .str (by rfl) G.m_str boot_str) pa_nil))))) (pw_or1 (pt_not (pt_chain (opd_le hu) (opd_le hu) pe_int (pe_callB cd_len (by rfl) G.m_len PySem.boot_len (pa_cons (pv 0) pa_nil)) pe_int)))).pt (pss_one (ps_ret pe_bl)) pss_nil) (pss_one (ps_ret (pe_callB (cd_all (by rfl)) (by rfl) G.m_all boot_all (pa_cons (pe_lc (own := [("sign", 1)]) rfl nd_is_name (pi_any (pv 0)) (blkOk_by (by (first | decide +kernel | rfl | kernel_rfl))) (fun _ _ _ _ _ => (pg_name (i := 1) nd_is_name rfl (by first | exact .inl rfl | exact .inr rfl))) (fun _ _ _ _ _ => pts_nil) (fun _ _ _ _ _ => (pe_chain (opd_le hu) (opd_le hu) pe_str (pv 1) pe_str))) pa_nil))))),
      (rs_seq (rs_if (rt_or (rt_not (rt_B (rd_isi .str (rd_var 0)))) (rt_not (rt_test (rd_chain (rd_c fun _ => .int _) (rd_cb (ra_cons (rd_var 0) ra_nil)) (rd_c fun _ => .int _))))) (rs_ret (rd_c fun _ => .bl _)) rs_nil) (rs_ret (rd_cb (ra_cons (rd_of_f (rf_lc (ri_any (rl_var 0)) (tg_name 1) (by decide) rt_yes (rd_chain (rd_c fun _ => .str _) (rd_var 1) (rd_c fun _ => .str _)))) ra_nil))))⟩)
/-! lines_of -/
abbrev S_lines_of : Stmt := topS 26
abbrev N_lines_of : List Str := ["text"]
theorem sc_lines_of : FnScope N_lines_of ["text"] (defScope S_lines_of) := ⟨rfl, rfl, rfl, by decide +kernel, rfl, by decide +kernel, by decide +kernel⟩
theorem nd_lines_of : (N_lines_of).Nodup := by decide +kernel
def m_lines_of : MS := (sbind (mbind (mbind (mbind (fName 0) fun x => mbind (mpure (.str "")) fun y => mlift (gNe x y)) fun d => mlift (asB d)) fun b => if b then (mbind (fStF (fName 0) (mpure (.str "
")) gSplit) fun ds => mpure (.list ds)) else (mbind (mbind (mpure []) fun ds => mlift (if szOk ds.length then some ds else none)) fun ds => mpure (.list ds))) fun d r => some (.rt false d r))
def g_lines_of : FM := mBody [] 1 1 m_lines_of
theorem F_lines_of {P : Program} {w : World} {K : PySem.W.Frag} {mg : Str → Option Value} {base : Heap} {as : Nat → Addr} (G : Gd K mg as)  (T : Tx K mg "lines_of" S_lines_of ["text"]) : Fn P w K mg base (fun c => .ref (as c)) "lines_of" S_lines_of 1 ["text"] g_lines_of :=
  fn_mk (P := P) (w := w) (K := K) (mg := mg) (base := base) (C := fun c => .ref (as c)) (N := N_lines_of) (k := 0) (PI := []) (m := m_lines_of) T sc_lines_of (by decide) (fun f cdv A outer s H E hr => by
    have hu := huE hr
    have hv := hvE hr
    have tk := tkE (P := P) (w := w) (K := K) (mg := mg) (base := base) (N := N_lines_of) (x := "lines_of") (S := S_lines_of) (f := f) (cdv := cdv) (A := A) (outer := outer) (s := s) (H := H) (E := E)
    have hp := hpE (P := P) (w := w) (K := K) (mg := mg) (base := base) (N := N_lines_of) (x := "lines_of") (S := S_lines_of) (f := f) (cdv := cdv) (A := A) (outer := outer) (s := s) (H := H) (E := E)
    exact ⟨_, (pss_one (ps_ret (pe_ifExp (pt_cmpR (opd_ne hu) (pv 0) pe_str (nomark _)) (pe_m1 PySem.F.slot_str_split PySem.F.type_str_split ms_split (pv 0) pe_str) (pe_lst pa_nil)))),
      (rs_ret (rd_if (rt_test (rd_op (rd_var 0) (rd_c fun _ => .str _))) (rd_of_f (rf_st1 (rd_var 0) (rd_c fun _ => .str _))) (rd_of_f (rf_lst ra_nil))))⟩)
/-! release_word -/
abbrev S_release_word : Stmt := topS 27
abbrev N_release_word : List Str := ["release", "name", "version"]
theorem sc_release_word : FnScope N_release_word ["release"] (defScope S_release_word) := ⟨rfl, rfl, rfl, by decide +kernel, rfl, by decide +kernel, by decide +kernel⟩
theorem nd_release_word : (N_release_word).Nodup := by decide +kernel
def m_release_word : MS := (mseq (sbind (fName 0) fun d r => ((tfSq 2 (tfCons (tfName 1) (tfCons (tfName 2) tfNil))) d r).map .nx) (sbind (fJs [(fFmt (fName 1)), (mpure (.str ":")), (fFmt (fName 2))] Str.empty) fun d r => some (.rt false d r)))
def g_release_word : FM := mBody [] 1 3 m_release_word
theorem F_release_word {P : Program} {w : World} {K : PySem.W.Frag} {mg : Str → Option Value} {base : Heap} {as : Nat → Addr} (G : Gd K mg as)  (T : Tx K mg "release_word" S_release_word ["release"]) : Fn P w K mg base (fun c => .ref (as c)) "release_word" S_release_word 1 ["release"] g_release_word :=
  fn_mk (P := P) (w := w) (K := K) (mg := mg) (base := base) (C := fun c => .ref (as c)) (N := N_release_word) (k := 0) (PI := []) (m := m_release_word) T sc_release_word (by decide) (fun f cdv A outer s H E hr => by
    have hu := huE hr
    have hv := hvE hr
    have tk := tkE (P := P) (w := w) (K := K) (mg := mg) (base := base) (N := N_release_word) (x := "release_word") (S := S_release_word) (f := f) (cdv := cdv) (A := A) (outer := outer) (s := s) (H := H) (E := E)
    have hp := hpE (P := P) (w := w) (K := K) (mg := mg) (base := base) (N := N_release_word) (x := "release_word") (S := S_release_word) (f := f) (cdv := cdv) (A := A) (outer := outer) (s := s) (H := H) (E := E)
    exact ⟨_, (pss_cons (ps_asg (pv 0) (pg_sq rfl (pgs_cons (pg_name (i := 1) nd_release_word rfl (by first | exact .inl rfl | exact .inr rfl)) (pgs_cons (pg_name (i := 2) nd_release_word rfl (by first | exact .inl rfl | exact .inr rfl)) pgs_nil)))) (pss_one (ps_ret (pe_joined (.cons (pe_fmt (pv 1)) (.cons pe_str (.cons (pe_fmt (pv 2)) .nil))))))),
      (rs_seq (rs_asg (rd_var 0) (tg_sq (tgs_cons (tg_name 1) (tgs_cons (tg_name 2) tgs_nil))) (by decide)) (rs_ret (rd_js (.cons (rd_fmt (rd_var 1)) (.cons (rd_c fun _ => .str _) (.cons (rd_fmt (rd_var 2)) .nil))) Str.empty)))⟩)
/-! states_word -/
abbrev S_states_word : Stmt := topS 28
abbrev N_states_word : List Str := ["part", "name", "states", "own"]
theorem sc_states_word : FnScope N_states_word ["part"] (defScope S_states_word) := ⟨rfl, rfl, rfl, by decide +kernel, rfl, by decide +kernel, by decide +kernel⟩
theorem nd_states_word : (N_states_word).Nodup := by decide +kernel
def m_states_word : MS := (mseq (sbind (fName 0) fun d r => ((tfSq 2 (tfCons (tfName 1) (tfCons (tfName 2) tfNil))) d r).map .nx) (sbind (mbind (fJs [(fFmt (fName 1)), (mpure (.str ":"))] Str.empty) fun x => mbind (fSt1 (mpure (.str ",")) (mbind (fComp (fAny (fLock 2)) (tfName 3) [3] (mpure true) (mbind (mbind (fName 3) fun x => mbind (mpure []) fun xs => mpure (x :: xs)) fun x => mlift ((g1 gStr) x))) fun ds => mpure (.list ds)) gJoin) fun y => mlift (gAdd x y)) fun d r => some (.rt false d r)))
def g_states_word : FM := mBody [] 1 4 m_states_word
theorem F_states_word {P : Program} {w : World} {K : PySem.W.Frag} {mg : Str → Option Value} {base : Heap} {as : Nat → Addr} (G : Gd K mg as)  (T : Tx K mg "states_word" S_states_word ["part"]) : Fn P w K mg base (fun c => .ref (as c)) "states_word" S_states_word 1 ["part"] g_states_word :=
  fn_mk (P := P) (w := w) (K := K) (mg := mg) (base := base) (C := fun c => .ref (as c)) (N := N_states_word) (k := 0) (PI := []) (m := m_states_word) T sc_states_word (by decide) (fun f cdv A outer s H E hr => by
    have hu := huE hr
    have hv := hvE hr
    have tk := tkE (P := P) (w := w) (K := K) (mg := mg) (base := base) (N := N_states_word) (x := "states_word") (S := S_states_word) (f := f) (cdv := cdv) (A := A) (outer := outer) (s := s) (H := H) (E := E)
    have hp := hpE (P := P) (w := w) (K := K) (mg := mg) (base := base) (N := N_states_word) (x := "states_word") (S := S_states_word) (f := f) (cdv := cdv) (A := A) (outer := outer) (s := s) (H := H) (E := E)
    exact ⟨_, (pss_cons (ps_asg (pv 0) (pg_sq rfl (pgs_cons (pg_name (i := 1) nd_states_word rfl (by first | exact .inl rfl | exact .inr rfl)) (pgs_cons (pg_name (i := 2) nd_states_word rfl (by first | exact .inl rfl | exact .inr rfl)) pgs_nil)))) (pss_one (ps_ret (pe_op opd_add (pe_joined (.cons (pe_fmt (pv 1)) (.cons pe_str .nil))) (pe_m1 PySem.F.slot_str_join PySem.F.type_str_join ms_join pe_str (pe_lc (own := [("own", 3)]) rfl nd_states_word (pi_any (pv 2)) (blkOk_by (by (first | decide +kernel | rfl | kernel_rfl))) (fun _ _ _ _ _ => (pg_name (i := 3) nd_states_word rfl (by first | exact .inl rfl | exact .inr rfl))) (fun _ _ _ _ _ => pts_nil) (fun _ _ _ _ _ => (pe_callTy cd_str (by rfl) G.m_str boot_str (pa_cons (pv 3) pa_nil))))))))),
      (rs_seq (rs_asg (rd_var 0) (tg_sq (tgs_cons (tg_name 1) (tgs_cons (tg_name 2) tgs_nil))) (by decide)) (rs_ret (rd_op (rd_js (.cons (rd_fmt (rd_var 1)) (.cons (rd_c fun _ => .str _) .nil)) Str.empty) (rd_st1 (rd_c fun _ => .str _) (rd_of_f (rf_lc (ri_any (rl_var 2)) (tg_name 3) (by decide) rt_yes (rd_cb (ra_cons (rd_var 3) ra_nil))))))))⟩)
/-! number_in -/
abbrev S_number_in : Stmt := topS 30
abbrev N_number_in : List Str := ["word", "sign"]
theorem sc_number_in : FnScope N_number_in ["word"] (defScope S_number_in) := ⟨rfl, rfl, rfl, by decide +kernel, rfl, by decide +kernel, by decide +kernel⟩
theorem nd_number_in : (N_number_in).Nodup := by decide +kernel
def m_number_in : MS := (mseq (sbind (mbind (mbind (mbind (fName 0) fun x => mbind (mpure (.str "")) fun y => mlift (gEq x y)) fun d => mlift (asB d)) fun b => if b then mpure true else (mbind (mbind (mbind (mbind (mbind (fComp (fAny (fLock 0)) (tfName 1) [1] (mpure true) (mbind (fName 1) fun x => mbind (mpure (.str "0123456789")) fun y => mlift ((gIn false) x y))) fun ds => mpure (.list ds)) fun x => mbind (mpure []) fun xs => mpure (x :: xs)) fun x => mlift ((g1 gAll) x)) fun d => mlift (asB d)) fun b => mpure (!b))) fun b => if b then (sbind (mbind (mpure (.int 1)) fun x => mlift (gNeg x)) fun d r => some (.rt false d r)) else (fun r => some (.nx r))) (sbind (mbind (mbind (mbind (mbind (mbind (fName 0) fun x => mbind (mpure (.int 0)) fun y => mlift (gIx x y)) fun x => mbind (mpure (.str "0")) fun y => mlift (gEq x y)) fun d => mlift (asB d)) fun b => if b then (mbind (mbind (fName 0) fun x => mbind (mpure (.str "0")) fun y => mlift (gNe x y)) fun d => mlift (asB d)) else mpure false) fun b => if b then (mbind (mpure (.int 1)) fun x => mlift (gNeg x)) else (mbind (mbind (fName 0) fun x => mbind (mpure []) fun xs => mpure (x :: xs)) fun x => mlift ((g1 gInt2) x))) fun d r => some (.rt false d r)))
def g_number_in : FM := mBody [] 1 2 m_number_in
theorem F_number_in {P : Program} {w : World} {K : PySem.W.Frag} {mg : Str → Option Value} {base : Heap} {as : Nat → Addr} (G : Gd K mg as)  (T : Tx K mg "number_in" S_number_in ["word"]) : Fn P w K mg base (fun c => .ref (as c)) "number_in" S_number_in 1 ["word"] g_number_in :=
  fn_mk (P := P) (w := w) (K := K) (mg := mg) (base := base) (C := fun c => .ref (as c)) (N := N_number_in) (k := 0) (PI := []) (m := m_number_in) T sc_number_in (by decide) (fun f cdv A outer s H E hr => by
    have hu := huE hr
    have hv := hvE hr
    have tk := tkE (P := P) (w := w) (K := K) (mg := mg) (base := base) (N := N_number_in) (x := "number_in") (S := S_number_in) (f := f) (cdv := cdv) (A := A) (outer := outer) (s := s) (H := H) (E := E)
    have hp := hpE (P := P) (w := w) (K := K) (mg := mg) (base := base) (N := N_number_in) (x := "number_in") (S := S_number_in) (f := f) (cdv := cdv) (A := A) (outer := outer) (s := s) (H := H) (E := E)
    exact ⟨_, (pss_cons (ps_if (pw_or (pt_cmpR (opd_eq hu) (pv 0) pe_str (nomark _)) (pw_or1 (pt_not (pt_val (pe_callB (cd_all (by rfl)) (by rfl) G.m_all boot_all (pa_cons (pe_lc (own := [("sign", 1)]) rfl nd_number_in (pi_any (pv 0)) (blkOk_by (by (first | decide +kernel | rfl | kernel_rfl))) (fun _ _ _ _ _ => (pg_name (i := 1) nd_number_in rfl (by first | exact .inl rfl | exact .inr rfl))) (fun _ _ _ _ _ => pts_nil) (fun _ _ _ _ _ => (pe_cmpR (opd_in hv) (pv 1) (pe_gstr G.k_FIGURES (by rfl)) (by rfl)))) pa_nil)))))).pt (pss_one (ps_ret (pe_un und_neg pe_int))) pss_nil) (pss_one (ps_ret (pe_ifExp (pw_and (pt_cmpR (opd_eq hu) (pe_ix ixd (pv 0) pe_int (fun _ _ => rfl)) pe_str (nomark _)) (pw_and1 (pt_cmpR (opd_ne hu) (pv 0) pe_str (nomark _)))).pt (pe_un und_neg pe_int) (pe_callTy cd_intS (by rfl) G.m_int boot_int (pa_cons (pv 0) pa_nil)))))),
      (rs_seq (rs_if (rt_or (rt_test (rd_op (rd_var 0) (rd_c fun _ => .str _))) (rt_not (rt_B (rd_cb (ra_cons (rd_of_f (rf_lc (ri_any (rl_var 0)) (tg_name 1) (by decide) rt_yes (rd_op (rd_var 1) (rd_c fun _ => .str _)))) ra_nil))))) (rs_ret (rd_un (rd_c fun _ => .int _))) rs_nil) (rs_ret (rd_if (rt_and (rt_test (rd_op (rd_op (rd_var 0) (rd_c fun _ => .int _)) (rd_c fun _ => .str _))) (rt_test (rd_op (rd_var 0) (rd_c fun _ => .str _)))) (rd_un (rd_c fun _ => .int _)) (rd_cb (ra_cons (rd_var 0) ra_nil)))))⟩)
/-! _law_first_bads -/
abbrev S__law_first_bads : Stmt := topS 54
abbrev N__law_first_bads : List Str := ["found"]
theorem sc__law_first_bads : FnScope N__law_first_bads [] (defScope S__law_first_bads) := ⟨rfl, rfl, rfl, by decide +kernel, rfl, by decide +kernel, by decide +kernel⟩
theorem nd__law_first_bads : (N__law_first_bads).Nodup := by decide +kernel
def m__law_first_bads : MS := (mseq (sbind (mbind (mbind (mbind (mbind (mbind (mpure (.int 0)) fun x => mbind (mbind (mpure (.str "release")) fun x => mbind (mbind (mpure (.int 0)) fun x => mbind (mpure []) fun xs => mpure (x :: xs)) fun xs => mpure (x :: xs)) fun xs => mpure (x :: xs)) fun ds => mlift (if szOk ds.length then some (.tuple ds) else none)) fun x => mbind (mbind (mbind (mbind (mpure (.int 0)) fun x => mbind (mbind (mpure (.str "release app:1 0")) fun x => mbind (mbind (mpure (.int 0)) fun x => mbind (mpure []) fun xs => mpure (x :: xs)) fun xs => mpure (x :: xs)) fun xs => mpure (x :: xs)) fun ds => mlift (if szOk ds.length then some (.tuple ds) else none)) fun x => mbind (mbind (mbind (mbind (mpure (.int 0)) fun x => mbind (mbind (mpure (.str "release app:1 0 - 0")) fun x => mbind (mbind (mpure (.int 0)) fun x => mbind (mpure []) fun xs => mpure (x :: xs)) fun xs => mpure (x :: xs)) fun xs => mpure (x :: xs)) fun ds => mlift (if szOk ds.length then some (.tuple ds) else none)) fun x => mbind (mbind (mbind (mbind (mpure (.int 0)) fun x => mbind (mbind (mpure (.str "release app:0 0 -")) fun x => mbind (mbind (mpure (.int 0)) fun x => mbind (mpure []) fun xs => mpure (x :: xs)) fun xs => mpure (x :: xs)) fun xs => mpure (x :: xs)) fun ds => mlift (if szOk ds.length then some (.tuple ds) else none)) fun x => mbind (mpure []) fun xs => mpure (x :: xs)) fun xs => mpure (x :: xs)) fun xs => mpure (x :: xs)) fun xs => mpure (x :: xs)) fun ds => mlift (if szOk ds.length then some ds else none)) fun ds => mpure (.list ds)) fun d r => (tfName 0 d r).map .nx) (mseq (sbind (mbind (fName 0) fun x => mbind (mbind (mbind (mbind (mbind (mbind (mpure (.int 0)) fun x => mbind (mbind (mpure (.str "release app:01 0 -")) fun x => mbind (mbind (mpure (.int 0)) fun x => mbind (mpure []) fun xs => mpure (x :: xs)) fun xs => mpure (x :: xs)) fun xs => mpure (x :: xs)) fun ds => mlift (if szOk ds.length then some (.tuple ds) else none)) fun x => mbind (mbind (mbind (mbind (mpure (.int 0)) fun x => mbind (mbind (mpure (.str "release app 0 -")) fun x => mbind (mbind (mpure (.int 0)) fun x => mbind (mpure []) fun xs => mpure (x :: xs)) fun xs => mpure (x :: xs)) fun xs => mpure (x :: xs)) fun ds => mlift (if szOk ds.length then some (.tuple ds) else none)) fun x => mbind (mbind (mbind (mbind (mpure (.int 0)) fun x => mbind (mbind (mpure (.str "release App:1 0 -")) fun x => mbind (mbind (mpure (.int 0)) fun x => mbind (mpure []) fun xs => mpure (x :: xs)) fun xs => mpure (x :: xs)) fun xs => mpure (x :: xs)) fun ds => mlift (if szOk ds.length then some (.tuple ds) else none)) fun x => mbind (mpure []) fun xs => mpure (x :: xs)) fun xs => mpure (x :: xs)) fun xs => mpure (x :: xs)) fun ds => mlift (if szOk ds.length then some ds else none)) fun ds => mpure (.list ds)) fun y => mlift (gAdd x y)) fun d r => (tfName 0 d r).map .nx) (mseq (sbind (mbind (fName 0) fun x => mbind (mbind (mbind (mbind (mbind (mbind (mpure (.int 0)) fun x => mbind (mbind (mpure (.str "release app:1,2 0 -")) fun x => mbind (mbind (mpure (.int 0)) fun x => mbind (mpure []) fun xs => mpure (x :: xs)) fun xs => mpure (x :: xs)) fun xs => mpure (x :: xs)) fun ds => mlift (if szOk ds.length then some (.tuple ds) else none)) fun x => mbind (mbind (mbind (mbind (mpure (.int 0)) fun x => mbind (mbind (mpure (.str "release app:1 -1 -")) fun x => mbind (mbind (mpure (.int 0)) fun x => mbind (mpure []) fun xs => mpure (x :: xs)) fun xs => mpure (x :: xs)) fun xs => mpure (x :: xs)) fun ds => mlift (if szOk ds.length then some (.tuple ds) else none)) fun x => mbind (mbind (mbind (mbind (mpure (.int 0)) fun x => mbind (mbind (mpure (.str "release app:1 3 2")) fun x => mbind (mbind (mpure (.int 0)) fun x => mbind (mpure []) fun xs => mpure (x :: xs)) fun xs => mpure (x :: xs)) fun xs => mpure (x :: xs)) fun ds => mlift (if szOk ds.length then some (.tuple ds) else none)) fun x => mbind (mpure []) fun xs => mpure (x :: xs)) fun xs => mpure (x :: xs)) fun xs => mpure (x :: xs)) fun ds => mlift (if szOk ds.length then some ds else none)) fun ds => mpure (.list ds)) fun y => mlift (gAdd x y)) fun d r => (tfName 0 d r).map .nx) (mseq (sbind (mbind (fName 0) fun x => mbind (mbind (mbind (mbind (mbind (mbind (mpure (.int 0)) fun x => mbind (mbind (mpure (.str "release app:1 - -")) fun x => mbind (mbind (mpure (.int 0)) fun x => mbind (mpure []) fun xs => mpure (x :: xs)) fun xs => mpure (x :: xs)) fun xs => mpure (x :: xs)) fun ds => mlift (if szOk ds.length then some (.tuple ds) else none)) fun x => mbind (mbind (mbind (mbind (mpure (.int 0)) fun x => mbind (mbind (mpure (.str "release app:1 0 none")) fun x => mbind (mbind (mpure (.int 0)) fun x => mbind (mpure []) fun xs => mpure (x :: xs)) fun xs => mpure (x :: xs)) fun xs => mpure (x :: xs)) fun ds => mlift (if szOk ds.length then some (.tuple ds) else none)) fun x => mbind (mbind (mbind (mbind (mpure (.int 0)) fun x => mbind (mbind (mpure (.str "release :1 0 -")) fun x => mbind (mbind (mpure (.int 0)) fun x => mbind (mpure []) fun xs => mpure (x :: xs)) fun xs => mpure (x :: xs)) fun xs => mpure (x :: xs)) fun ds => mlift (if szOk ds.length then some (.tuple ds) else none)) fun x => mbind (mpure []) fun xs => mpure (x :: xs)) fun xs => mpure (x :: xs)) fun xs => mpure (x :: xs)) fun ds => mlift (if szOk ds.length then some ds else none)) fun ds => mpure (.list ds)) fun y => mlift (gAdd x y)) fun d r => (tfName 0 d r).map .nx) (mseq (sbind (mbind (fName 0) fun x => mbind (mbind (mbind (mbind (mbind (mbind (mpure (.int 0)) fun x => mbind (mbind (mpure (.str "release app: 0 -")) fun x => mbind (mbind (mpure (.int 0)) fun x => mbind (mpure []) fun xs => mpure (x :: xs)) fun xs => mpure (x :: xs)) fun xs => mpure (x :: xs)) fun ds => mlift (if szOk ds.length then some (.tuple ds) else none)) fun x => mbind (mbind (mbind (mbind (mpure (.int 0)) fun x => mbind (mbind (mpure (.str "release abcdefghijklm:1 0 -")) fun x => mbind (mbind (mpure (.int 0)) fun x => mbind (mpure []) fun xs => mpure (x :: xs)) fun xs => mpure (x :: xs)) fun xs => mpure (x :: xs)) fun ds => mlift (if szOk ds.length then some (.tuple ds) else none)) fun x => mbind (mbind (mbind (mbind (mpure (.int 0)) fun x => mbind (mbind (mpure (.str "let app:1")) fun x => mbind (mbind (mpure (.int 0)) fun x => mbind (mpure []) fun xs => mpure (x :: xs)) fun xs => mpure (x :: xs)) fun xs => mpure (x :: xs)) fun ds => mlift (if szOk ds.length then some (.tuple ds) else none)) fun x => mbind (mpure []) fun xs => mpure (x :: xs)) fun xs => mpure (x :: xs)) fun xs => mpure (x :: xs)) fun ds => mlift (if szOk ds.length then some ds else none)) fun ds => mpure (.list ds)) fun y => mlift (gAdd x y)) fun d r => (tfName 0 d r).map .nx) (mseq (sbind (mbind (fName 0) fun x => mbind (mbind (mbind (mbind (mbind (mbind (mpure (.int 0)) fun x => mbind (mbind (mpure (.str "
release app:1 0 -")) fun x => mbind (mbind (mpure (.int 0)) fun x => mbind (mpure []) fun xs => mpure (x :: xs)) fun xs => mpure (x :: xs)) fun xs => mpure (x :: xs)) fun ds => mlift (if szOk ds.length then some (.tuple ds) else none)) fun x => mbind (mbind (mbind (mbind (mpure (.int 0)) fun x => mbind (mbind (mpure (.str " release app:1 0 -")) fun x => mbind (mbind (mpure (.int 0)) fun x => mbind (mpure []) fun xs => mpure (x :: xs)) fun xs => mpure (x :: xs)) fun xs => mpure (x :: xs)) fun ds => mlift (if szOk ds.length then some (.tuple ds) else none)) fun x => mbind (mbind (mbind (mbind (mpure (.int 0)) fun x => mbind (mbind (mpure (.str "release app:1 0 -
")) fun x => mbind (mbind (mpure (.int 1)) fun x => mbind (mpure []) fun xs => mpure (x :: xs)) fun xs => mpure (x :: xs)) fun xs => mpure (x :: xs)) fun ds => mlift (if szOk ds.length then some (.tuple ds) else none)) fun x => mbind (mpure []) fun xs => mpure (x :: xs)) fun xs => mpure (x :: xs)) fun xs => mpure (x :: xs)) fun ds => mlift (if szOk ds.length then some ds else none)) fun ds => mpure (.list ds)) fun y => mlift (gAdd x y)) fun d r => (tfName 0 d r).map .nx) (mseq (sbind (mbind (fName 0) fun x => mbind (mbind (mbind (mbind (mbind (mbind (mpure (.int 0)) fun x => mbind (mbind (mpure (.str "release app:1 0 -
let app:2")) fun x => mbind (mbind (mpure (.int 1)) fun x => mbind (mpure []) fun xs => mpure (x :: xs)) fun xs => mpure (x :: xs)) fun xs => mpure (x :: xs)) fun ds => mlift (if szOk ds.length then some (.tuple ds) else none)) fun x => mbind (mbind (mbind (mbind (mpure (.int 0)) fun x => mbind (mbind (mpure (.str "release app:1 0 -
let lib:")) fun x => mbind (mbind (mpure (.int 1)) fun x => mbind (mpure []) fun xs => mpure (x :: xs)) fun xs => mpure (x :: xs)) fun xs => mpure (x :: xs)) fun ds => mlift (if szOk ds.length then some (.tuple ds) else none)) fun x => mbind (mpure []) fun xs => mpure (x :: xs)) fun xs => mpure (x :: xs)) fun ds => mlift (if szOk ds.length then some ds else none)) fun ds => mpure (.list ds)) fun y => mlift (gAdd x y)) fun d r => (tfName 0 d r).map .nx) (mseq (sbind (mbind (fName 0) fun x => mbind (mbind (mbind (mbind (mbind (mbind (mpure (.int 0)) fun x => mbind (mbind (mpure (.str "release app:1 0 -
let lib:1,1")) fun x => mbind (mbind (mpure (.int 1)) fun x => mbind (mpure []) fun xs => mpure (x :: xs)) fun xs => mpure (x :: xs)) fun xs => mpure (x :: xs)) fun ds => mlift (if szOk ds.length then some (.tuple ds) else none)) fun x => mbind (mbind (mbind (mbind (mpure (.int 0)) fun x => mbind (mbind (mpure (.str "release app:1 0 -
let lib:2,1")) fun x => mbind (mbind (mpure (.int 1)) fun x => mbind (mpure []) fun xs => mpure (x :: xs)) fun xs => mpure (x :: xs)) fun xs => mpure (x :: xs)) fun ds => mlift (if szOk ds.length then some (.tuple ds) else none)) fun x => mbind (mpure []) fun xs => mpure (x :: xs)) fun xs => mpure (x :: xs)) fun ds => mlift (if szOk ds.length then some ds else none)) fun ds => mpure (.list ds)) fun y => mlift (gAdd x y)) fun d r => (tfName 0 d r).map .nx) (mseq (sbind (mbind (fName 0) fun x => mbind (mbind (mbind (mbind (mbind (mbind (mpure (.int 0)) fun x => mbind (mbind (mpure (.str "release app:1 0 -
let lib:1 2")) fun x => mbind (mbind (mpure (.int 1)) fun x => mbind (mpure []) fun xs => mpure (x :: xs)) fun xs => mpure (x :: xs)) fun xs => mpure (x :: xs)) fun ds => mlift (if szOk ds.length then some (.tuple ds) else none)) fun x => mbind (mbind (mbind (mbind (mpure (.int 0)) fun x => mbind (mbind (mpure (.str "release app:1 0 -
let lib:-")) fun x => mbind (mbind (mpure (.int 1)) fun x => mbind (mpure []) fun xs => mpure (x :: xs)) fun xs => mpure (x :: xs)) fun xs => mpure (x :: xs)) fun ds => mlift (if szOk ds.length then some (.tuple ds) else none)) fun x => mbind (mpure []) fun xs => mpure (x :: xs)) fun xs => mpure (x :: xs)) fun ds => mlift (if szOk ds.length then some ds else none)) fun ds => mpure (.list ds)) fun y => mlift (gAdd x y)) fun d r => (tfName 0 d r).map .nx) (mseq (sbind (mbind (fName 0) fun x => mbind (mbind (mbind (mbind (mbind (mbind (mpure (.int 0)) fun x => mbind (mbind (mpure (.str "release app:1 0 -
let lib:1,")) fun x => mbind (mbind (mpure (.int 1)) fun x => mbind (mpure []) fun xs => mpure (x :: xs)) fun xs => mpure (x :: xs)) fun xs => mpure (x :: xs)) fun ds => mlift (if szOk ds.length then some (.tuple ds) else none)) fun x => mbind (mbind (mbind (mbind (mpure (.int 0)) fun x => mbind (mbind (mpure (.str "release app:1 0 -
let lib:01")) fun x => mbind (mbind (mpure (.int 1)) fun x => mbind (mpure []) fun xs => mpure (x :: xs)) fun xs => mpure (x :: xs)) fun xs => mpure (x :: xs)) fun ds => mlift (if szOk ds.length then some (.tuple ds) else none)) fun x => mbind (mpure []) fun xs => mpure (x :: xs)) fun xs => mpure (x :: xs)) fun ds => mlift (if szOk ds.length then some ds else none)) fun ds => mpure (.list ds)) fun y => mlift (gAdd x y)) fun d r => (tfName 0 d r).map .nx) (mseq (sbind (mbind (fName 0) fun x => mbind (mbind (mbind (mbind (mbind (mbind (mpure (.int 0)) fun x => mbind (mbind (mpure (.str "release app:1 0 -
let lib:0
let lib:1")) fun x => mbind (mbind (mpure (.int 2)) fun x => mbind (mpure []) fun xs => mpure (x :: xs)) fun xs => mpure (x :: xs)) fun xs => mpure (x :: xs)) fun ds => mlift (if szOk ds.length then some (.tuple ds) else none)) fun x => mbind (mpure []) fun xs => mpure (x :: xs)) fun ds => mlift (if szOk ds.length then some ds else none)) fun ds => mpure (.list ds)) fun y => mlift (gAdd x y)) fun d r => (tfName 0 d r).map .nx) (mseq (sbind (mbind (fName 0) fun x => mbind (mbind (mbind (mbind (mbind (mbind (mpure (.int 0)) fun x => mbind (mbind (mpure (.str "release app:1 0 -
let lib:0
let b:1")) fun x => mbind (mbind (mpure (.int 2)) fun x => mbind (mpure []) fun xs => mpure (x :: xs)) fun xs => mpure (x :: xs)) fun xs => mpure (x :: xs)) fun ds => mlift (if szOk ds.length then some (.tuple ds) else none)) fun x => mbind (mbind (mbind (mbind (mpure (.int 0)) fun x => mbind (mbind (mpure (.str "release app:1 0 -
release app:1 0 -")) fun x => mbind (mbind (mpure (.int 1)) fun x => mbind (mpure []) fun xs => mpure (x :: xs)) fun xs => mpure (x :: xs)) fun xs => mpure (x :: xs)) fun ds => mlift (if szOk ds.length then some (.tuple ds) else none)) fun x => mbind (mpure []) fun xs => mpure (x :: xs)) fun xs => mpure (x :: xs)) fun ds => mlift (if szOk ds.length then some ds else none)) fun ds => mpure (.list ds)) fun y => mlift (gAdd x y)) fun d r => (tfName 0 d r).map .nx) (mseq (sbind (mbind (fName 0) fun x => mbind (mbind (mbind (mbind (mbind (mbind (mpure (.int 0)) fun x => mbind (mbind (mpure (.str "release app:2 0 -
release app:1 0 -")) fun x => mbind (mbind (mpure (.int 1)) fun x => mbind (mpure []) fun xs => mpure (x :: xs)) fun xs => mpure (x :: xs)) fun xs => mpure (x :: xs)) fun ds => mlift (if szOk ds.length then some (.tuple ds) else none)) fun x => mbind (mbind (mbind (mbind (mpure (.int 0)) fun x => mbind (mbind (mpure (.str "release lib:1 0 -
release app:2 0 -")) fun x => mbind (mbind (mpure (.int 1)) fun x => mbind (mpure []) fun xs => mpure (x :: xs)) fun xs => mpure (x :: xs)) fun xs => mpure (x :: xs)) fun ds => mlift (if szOk ds.length then some (.tuple ds) else none)) fun x => mbind (mpure []) fun xs => mpure (x :: xs)) fun xs => mpure (x :: xs)) fun ds => mlift (if szOk ds.length then some ds else none)) fun ds => mpure (.list ds)) fun y => mlift (gAdd x y)) fun d r => (tfName 0 d r).map .nx) (mseq (sbind (mbind (fName 0) fun x => mbind (mbind (mbind (mbind (mbind (mbind (mpure (.int 0)) fun x => mbind (mbind (mpure (.str "release app:1 0  -")) fun x => mbind (mbind (mpure (.int 0)) fun x => mbind (mpure []) fun xs => mpure (x :: xs)) fun xs => mpure (x :: xs)) fun xs => mpure (x :: xs)) fun ds => mlift (if szOk ds.length then some (.tuple ds) else none)) fun x => mbind (mbind (mbind (mbind (mpure (.int 0)) fun x => mbind (mbind (mpure (.str "release app:1 0 - ")) fun x => mbind (mbind (mpure (.int 0)) fun x => mbind (mpure []) fun xs => mpure (x :: xs)) fun xs => mpure (x :: xs)) fun xs => mpure (x :: xs)) fun ds => mlift (if szOk ds.length then some (.tuple ds) else none)) fun x => mbind (mbind (mbind (mbind (mpure (.int 0)) fun x => mbind (mbind (mpure (.str "let")) fun x => mbind (mbind (mpure (.int 0)) fun x => mbind (mpure []) fun xs => mpure (x :: xs)) fun xs => mpure (x :: xs)) fun xs => mpure (x :: xs)) fun ds => mlift (if szOk ds.length then some (.tuple ds) else none)) fun x => mbind (mpure []) fun xs => mpure (x :: xs)) fun xs => mpure (x :: xs)) fun xs => mpure (x :: xs)) fun ds => mlift (if szOk ds.length then some ds else none)) fun ds => mpure (.list ds)) fun y => mlift (gAdd x y)) fun d r => (tfName 0 d r).map .nx) (mseq (sbind (mbind (fName 0) fun x => mbind (mbind (mbind (mbind (mbind (mbind (mpure (.int 0)) fun x => mbind (mbind (mpure (.str "release app:1 0 -
let")) fun x => mbind (mbind (mpure (.int 1)) fun x => mbind (mpure []) fun xs => mpure (x :: xs)) fun xs => mpure (x :: xs)) fun xs => mpure (x :: xs)) fun ds => mlift (if szOk ds.length then some (.tuple ds) else none)) fun x => mbind (mbind (mbind (mbind (mpure (.int 0)) fun x => mbind (mbind (mpure (.str "release app:1 0 -
lets lib:1")) fun x => mbind (mbind (mpure (.int 1)) fun x => mbind (mpure []) fun xs => mpure (x :: xs)) fun xs => mpure (x :: xs)) fun xs => mpure (x :: xs)) fun ds => mlift (if szOk ds.length then some (.tuple ds) else none)) fun x => mbind (mpure []) fun xs => mpure (x :: xs)) fun xs => mpure (x :: xs)) fun ds => mlift (if szOk ds.length then some ds else none)) fun ds => mpure (.list ds)) fun y => mlift (gAdd x y)) fun d r => (tfName 0 d r).map .nx) (sbind (fName 0) fun d r => some (.rt false d r)))))))))))))))))
def g__law_first_bads : FM := mBody [] 0 1 m__law_first_bads
theorem F__law_first_bads {P : Program} {w : World} {K : PySem.W.Frag} {mg : Str → Option Value} {base : Heap} {as : Nat → Addr} (G : Gd K mg as)  (T : Tx K mg "_law_first_bads" S__law_first_bads []) : Fn P w K mg base (fun c => .ref (as c)) "_law_first_bads" S__law_first_bads 1 [] g__law_first_bads :=
  fn_mk (P := P) (w := w) (K := K) (mg := mg) (base := base) (C := fun c => .ref (as c)) (N := N__law_first_bads) (k := 0) (PI := []) (m := m__law_first_bads) T sc__law_first_bads (by decide) (fun f cdv A outer s H E hr => by
    have hu := huE hr
    have hv := hvE hr
    have tk := tkE (P := P) (w := w) (K := K) (mg := mg) (base := base) (N := N__law_first_bads) (x := "_law_first_bads") (S := S__law_first_bads) (f := f) (cdv := cdv) (A := A) (outer := outer) (s := s) (H := H) (E := E)
    have hp := hpE (P := P) (w := w) (K := K) (mg := mg) (base := base) (N := N__law_first_bads) (x := "_law_first_bads") (S := S__law_first_bads) (f := f) (cdv := cdv) (A := A) (outer := outer) (s := s) (H := H) (E := E)
    exact ⟨_, (pss_cons (ps_set (i := 0) nd__law_first_bads rfl (by first | exact .inl rfl | exact .inr rfl) (pe_lst (pa_cons (pe_tupN (pa_cons pe_int (pa_cons pe_str (pa_cons pe_int pa_nil)))) (pa_cons (pe_tupN (pa_cons pe_int (pa_cons pe_str (pa_cons pe_int pa_nil)))) (pa_cons (pe_tupN (pa_cons pe_int (pa_cons pe_str (pa_cons pe_int pa_nil)))) (pa_cons (pe_tupN (pa_cons pe_int (pa_cons pe_str (pa_cons pe_int pa_nil)))) pa_nil)))))) (pss_cons (ps_set (i := 0) nd__law_first_bads rfl (by first | exact .inl rfl | exact .inr rfl) (pe_op opd_add (pv 0) (pe_lst (pa_cons (pe_tupN (pa_cons pe_int (pa_cons pe_str (pa_cons pe_int pa_nil)))) (pa_cons (pe_tupN (pa_cons pe_int (pa_cons pe_str (pa_cons pe_int pa_nil)))) (pa_cons (pe_tupN (pa_cons pe_int (pa_cons pe_str (pa_cons pe_int pa_nil)))) pa_nil)))))) (pss_cons (ps_set (i := 0) nd__law_first_bads rfl (by first | exact .inl rfl | exact .inr rfl) (pe_op opd_add (pv 0) (pe_lst (pa_cons (pe_tupN (pa_cons pe_int (pa_cons pe_str (pa_cons pe_int pa_nil)))) (pa_cons (pe_tupN (pa_cons pe_int (pa_cons pe_str (pa_cons pe_int pa_nil)))) (pa_cons (pe_tupN (pa_cons pe_int (pa_cons pe_str (pa_cons pe_int pa_nil)))) pa_nil)))))) (pss_cons (ps_set (i := 0) nd__law_first_bads rfl (by first | exact .inl rfl | exact .inr rfl) (pe_op opd_add (pv 0) (pe_lst (pa_cons (pe_tupN (pa_cons pe_int (pa_cons pe_str (pa_cons pe_int pa_nil)))) (pa_cons (pe_tupN (pa_cons pe_int (pa_cons pe_str (pa_cons pe_int pa_nil)))) (pa_cons (pe_tupN (pa_cons pe_int (pa_cons pe_str (pa_cons pe_int pa_nil)))) pa_nil)))))) (pss_cons (ps_set (i := 0) nd__law_first_bads rfl (by first | exact .inl rfl | exact .inr rfl) (pe_op opd_add (pv 0) (pe_lst (pa_cons (pe_tupN (pa_cons pe_int (pa_cons pe_str (pa_cons pe_int pa_nil)))) (pa_cons (pe_tupN (pa_cons pe_int (pa_cons pe_str (pa_cons pe_int pa_nil)))) (pa_cons (pe_tupN (pa_cons pe_int (pa_cons pe_str (pa_cons pe_int pa_nil)))) pa_nil)))))) (pss_cons (ps_set (i := 0) nd__law_first_bads rfl (by first | exact .inl rfl | exact .inr rfl) (pe_op opd_add (pv 0) (pe_lst (pa_cons (pe_tupN (pa_cons pe_int (pa_cons pe_str (pa_cons pe_int pa_nil)))) (pa_cons (pe_tupN (pa_cons pe_int (pa_cons pe_str (pa_cons pe_int pa_nil)))) (pa_cons (pe_tupN (pa_cons pe_int (pa_cons pe_str (pa_cons pe_int pa_nil)))) pa_nil)))))) (pss_cons (ps_set (i := 0) nd__law_first_bads rfl (by first | exact .inl rfl | exact .inr rfl) (pe_op opd_add (pv 0) (pe_lst (pa_cons (pe_tupN (pa_cons pe_int (pa_cons pe_str (pa_cons pe_int pa_nil)))) (pa_cons (pe_tupN (pa_cons pe_int (pa_cons pe_str (pa_cons pe_int pa_nil)))) pa_nil))))) (pss_cons (ps_set (i := 0) nd__law_first_bads rfl (by first | exact .inl rfl | exact .inr rfl) (pe_op opd_add (pv 0) (pe_lst (pa_cons (pe_tupN (pa_cons pe_int (pa_cons pe_str (pa_cons pe_int pa_nil)))) (pa_cons (pe_tupN (pa_cons pe_int (pa_cons pe_str (pa_cons pe_int pa_nil)))) pa_nil))))) (pss_cons (ps_set (i := 0) nd__law_first_bads rfl (by first | exact .inl rfl | exact .inr rfl) (pe_op opd_add (pv 0) (pe_lst (pa_cons (pe_tupN (pa_cons pe_int (pa_cons pe_str (pa_cons pe_int pa_nil)))) (pa_cons (pe_tupN (pa_cons pe_int (pa_cons pe_str (pa_cons pe_int pa_nil)))) pa_nil))))) (pss_cons (ps_set (i := 0) nd__law_first_bads rfl (by first | exact .inl rfl | exact .inr rfl) (pe_op opd_add (pv 0) (pe_lst (pa_cons (pe_tupN (pa_cons pe_int (pa_cons pe_str (pa_cons pe_int pa_nil)))) (pa_cons (pe_tupN (pa_cons pe_int (pa_cons pe_str (pa_cons pe_int pa_nil)))) pa_nil))))) (pss_cons (ps_set (i := 0) nd__law_first_bads rfl (by first | exact .inl rfl | exact .inr rfl) (pe_op opd_add (pv 0) (pe_lst (pa_cons (pe_tupN (pa_cons pe_int (pa_cons pe_str (pa_cons pe_int pa_nil)))) pa_nil)))) (pss_cons (ps_set (i := 0) nd__law_first_bads rfl (by first | exact .inl rfl | exact .inr rfl) (pe_op opd_add (pv 0) (pe_lst (pa_cons (pe_tupN (pa_cons pe_int (pa_cons pe_str (pa_cons pe_int pa_nil)))) (pa_cons (pe_tupN (pa_cons pe_int (pa_cons pe_str (pa_cons pe_int pa_nil)))) pa_nil))))) (pss_cons (ps_set (i := 0) nd__law_first_bads rfl (by first | exact .inl rfl | exact .inr rfl) (pe_op opd_add (pv 0) (pe_lst (pa_cons (pe_tupN (pa_cons pe_int (pa_cons pe_str (pa_cons pe_int pa_nil)))) (pa_cons (pe_tupN (pa_cons pe_int (pa_cons pe_str (pa_cons pe_int pa_nil)))) pa_nil))))) (pss_cons (ps_set (i := 0) nd__law_first_bads rfl (by first | exact .inl rfl | exact .inr rfl) (pe_op opd_add (pv 0) (pe_lst (pa_cons (pe_tupN (pa_cons pe_int (pa_cons pe_str (pa_cons pe_int pa_nil)))) (pa_cons (pe_tupN (pa_cons pe_int (pa_cons pe_str (pa_cons pe_int pa_nil)))) (pa_cons (pe_tupN (pa_cons pe_int (pa_cons pe_str (pa_cons pe_int pa_nil)))) pa_nil)))))) (pss_cons (ps_set (i := 0) nd__law_first_bads rfl (by first | exact .inl rfl | exact .inr rfl) (pe_op opd_add (pv 0) (pe_lst (pa_cons (pe_tupN (pa_cons pe_int (pa_cons pe_str (pa_cons pe_int pa_nil)))) (pa_cons (pe_tupN (pa_cons pe_int (pa_cons pe_str (pa_cons pe_int pa_nil)))) pa_nil))))) (pss_one (ps_ret (pv 0)))))))))))))))))),
      (rs_seq (rs_asg (rd_of_f (rf_lst (ra_cons (rd_tup (ra_cons (rd_c fun _ => .int _) (ra_cons (rd_c fun _ => .str _) (ra_cons (rd_c fun _ => .int _) ra_nil)))) (ra_cons (rd_tup (ra_cons (rd_c fun _ => .int _) (ra_cons (rd_c fun _ => .str _) (ra_cons (rd_c fun _ => .int _) ra_nil)))) (ra_cons (rd_tup (ra_cons (rd_c fun _ => .int _) (ra_cons (rd_c fun _ => .str _) (ra_cons (rd_c fun _ => .int _) ra_nil)))) (ra_cons (rd_tup (ra_cons (rd_c fun _ => .int _) (ra_cons (rd_c fun _ => .str _) (ra_cons (rd_c fun _ => .int _) ra_nil)))) ra_nil)))))) (tg_name 0) (by decide)) (rs_seq (rs_asg (rd_op (rd_var 0) (rd_of_f (rf_lst (ra_cons (rd_tup (ra_cons (rd_c fun _ => .int _) (ra_cons (rd_c fun _ => .str _) (ra_cons (rd_c fun _ => .int _) ra_nil)))) (ra_cons (rd_tup (ra_cons (rd_c fun _ => .int _) (ra_cons (rd_c fun _ => .str _) (ra_cons (rd_c fun _ => .int _) ra_nil)))) (ra_cons (rd_tup (ra_cons (rd_c fun _ => .int _) (ra_cons (rd_c fun _ => .str _) (ra_cons (rd_c fun _ => .int _) ra_nil)))) ra_nil)))))) (tg_name 0) (by decide)) (rs_seq (rs_asg (rd_op (rd_var 0) (rd_of_f (rf_lst (ra_cons (rd_tup (ra_cons (rd_c fun _ => .int _) (ra_cons (rd_c fun _ => .str _) (ra_cons (rd_c fun _ => .int _) ra_nil)))) (ra_cons (rd_tup (ra_cons (rd_c fun _ => .int _) (ra_cons (rd_c fun _ => .str _) (ra_cons (rd_c fun _ => .int _) ra_nil)))) (ra_cons (rd_tup (ra_cons (rd_c fun _ => .int _) (ra_cons (rd_c fun _ => .str _) (ra_cons (rd_c fun _ => .int _) ra_nil)))) ra_nil)))))) (tg_name 0) (by decide)) (rs_seq (rs_asg (rd_op (rd_var 0) (rd_of_f (rf_lst (ra_cons (rd_tup (ra_cons (rd_c fun _ => .int _) (ra_cons (rd_c fun _ => .str _) (ra_cons (rd_c fun _ => .int _) ra_nil)))) (ra_cons (rd_tup (ra_cons (rd_c fun _ => .int _) (ra_cons (rd_c fun _ => .str _) (ra_cons (rd_c fun _ => .int _) ra_nil)))) (ra_cons (rd_tup (ra_cons (rd_c fun _ => .int _) (ra_cons (rd_c fun _ => .str _) (ra_cons (rd_c fun _ => .int _) ra_nil)))) ra_nil)))))) (tg_name 0) (by decide)) (rs_seq (rs_asg (rd_op (rd_var 0) (rd_of_f (rf_lst (ra_cons (rd_tup (ra_cons (rd_c fun _ => .int _) (ra_cons (rd_c fun _ => .str _) (ra_cons (rd_c fun _ => .int _) ra_nil)))) (ra_cons (rd_tup (ra_cons (rd_c fun _ => .int _) (ra_cons (rd_c fun _ => .str _) (ra_cons (rd_c fun _ => .int _) ra_nil)))) (ra_cons (rd_tup (ra_cons (rd_c fun _ => .int _) (ra_cons (rd_c fun _ => .str _) (ra_cons (rd_c fun _ => .int _) ra_nil)))) ra_nil)))))) (tg_name 0) (by decide)) (rs_seq (rs_asg (rd_op (rd_var 0) (rd_of_f (rf_lst (ra_cons (rd_tup (ra_cons (rd_c fun _ => .int _) (ra_cons (rd_c fun _ => .str _) (ra_cons (rd_c fun _ => .int _) ra_nil)))) (ra_cons (rd_tup (ra_cons (rd_c fun _ => .int _) (ra_cons (rd_c fun _ => .str _) (ra_cons (rd_c fun _ => .int _) ra_nil)))) (ra_cons (rd_tup (ra_cons (rd_c fun _ => .int _) (ra_cons (rd_c fun _ => .str _) (ra_cons (rd_c fun _ => .int _) ra_nil)))) ra_nil)))))) (tg_name 0) (by decide)) (rs_seq (rs_asg (rd_op (rd_var 0) (rd_of_f (rf_lst (ra_cons (rd_tup (ra_cons (rd_c fun _ => .int _) (ra_cons (rd_c fun _ => .str _) (ra_cons (rd_c fun _ => .int _) ra_nil)))) (ra_cons (rd_tup (ra_cons (rd_c fun _ => .int _) (ra_cons (rd_c fun _ => .str _) (ra_cons (rd_c fun _ => .int _) ra_nil)))) ra_nil))))) (tg_name 0) (by decide)) (rs_seq (rs_asg (rd_op (rd_var 0) (rd_of_f (rf_lst (ra_cons (rd_tup (ra_cons (rd_c fun _ => .int _) (ra_cons (rd_c fun _ => .str _) (ra_cons (rd_c fun _ => .int _) ra_nil)))) (ra_cons (rd_tup (ra_cons (rd_c fun _ => .int _) (ra_cons (rd_c fun _ => .str _) (ra_cons (rd_c fun _ => .int _) ra_nil)))) ra_nil))))) (tg_name 0) (by decide)) (rs_seq (rs_asg (rd_op (rd_var 0) (rd_of_f (rf_lst (ra_cons (rd_tup (ra_cons (rd_c fun _ => .int _) (ra_cons (rd_c fun _ => .str _) (ra_cons (rd_c fun _ => .int _) ra_nil)))) (ra_cons (rd_tup (ra_cons (rd_c fun _ => .int _) (ra_cons (rd_c fun _ => .str _) (ra_cons (rd_c fun _ => .int _) ra_nil)))) ra_nil))))) (tg_name 0) (by decide)) (rs_seq (rs_asg (rd_op (rd_var 0) (rd_of_f (rf_lst (ra_cons (rd_tup (ra_cons (rd_c fun _ => .int _) (ra_cons (rd_c fun _ => .str _) (ra_cons (rd_c fun _ => .int _) ra_nil)))) (ra_cons (rd_tup (ra_cons (rd_c fun _ => .int _) (ra_cons (rd_c fun _ => .str _) (ra_cons (rd_c fun _ => .int _) ra_nil)))) ra_nil))))) (tg_name 0) (by decide)) (rs_seq (rs_asg (rd_op (rd_var 0) (rd_of_f (rf_lst (ra_cons (rd_tup (ra_cons (rd_c fun _ => .int _) (ra_cons (rd_c fun _ => .str _) (ra_cons (rd_c fun _ => .int _) ra_nil)))) ra_nil)))) (tg_name 0) (by decide)) (rs_seq (rs_asg (rd_op (rd_var 0) (rd_of_f (rf_lst (ra_cons (rd_tup (ra_cons (rd_c fun _ => .int _) (ra_cons (rd_c fun _ => .str _) (ra_cons (rd_c fun _ => .int _) ra_nil)))) (ra_cons (rd_tup (ra_cons (rd_c fun _ => .int _) (ra_cons (rd_c fun _ => .str _) (ra_cons (rd_c fun _ => .int _) ra_nil)))) ra_nil))))) (tg_name 0) (by decide)) (rs_seq (rs_asg (rd_op (rd_var 0) (rd_of_f (rf_lst (ra_cons (rd_tup (ra_cons (rd_c fun _ => .int _) (ra_cons (rd_c fun _ => .str _) (ra_cons (rd_c fun _ => .int _) ra_nil)))) (ra_cons (rd_tup (ra_cons (rd_c fun _ => .int _) (ra_cons (rd_c fun _ => .str _) (ra_cons (rd_c fun _ => .int _) ra_nil)))) ra_nil))))) (tg_name 0) (by decide)) (rs_seq (rs_asg (rd_op (rd_var 0) (rd_of_f (rf_lst (ra_cons (rd_tup (ra_cons (rd_c fun _ => .int _) (ra_cons (rd_c fun _ => .str _) (ra_cons (rd_c fun _ => .int _) ra_nil)))) (ra_cons (rd_tup (ra_cons (rd_c fun _ => .int _) (ra_cons (rd_c fun _ => .str _) (ra_cons (rd_c fun _ => .int _) ra_nil)))) (ra_cons (rd_tup (ra_cons (rd_c fun _ => .int _) (ra_cons (rd_c fun _ => .str _) (ra_cons (rd_c fun _ => .int _) ra_nil)))) ra_nil)))))) (tg_name 0) (by decide)) (rs_seq (rs_asg (rd_op (rd_var 0) (rd_of_f (rf_lst (ra_cons (rd_tup (ra_cons (rd_c fun _ => .int _) (ra_cons (rd_c fun _ => .str _) (ra_cons (rd_c fun _ => .int _) ra_nil)))) (ra_cons (rd_tup (ra_cons (rd_c fun _ => .int _) (ra_cons (rd_c fun _ => .str _) (ra_cons (rd_c fun _ => .int _) ra_nil)))) ra_nil))))) (tg_name 0) (by decide)) (rs_ret (rd_var 0)))))))))))))))))⟩)
/-! _law_other_bads -/
abbrev S__law_other_bads : Stmt := topS 55
abbrev N__law_other_bads : List Str := ["found"]
theorem sc__law_other_bads : FnScope N__law_other_bads [] (defScope S__law_other_bads) := ⟨rfl, rfl, rfl, by decide +kernel, rfl, by decide +kernel, by decide +kernel⟩
theorem nd__law_other_bads : (N__law_other_bads).Nodup := by decide +kernel
def m__law_other_bads : MS := (mseq (sbind (mbind (mbind (mbind (mbind (mbind (mpure (.int 1)) fun x => mbind (mbind (mpure (.str "")) fun x => mbind (mbind (mpure (.int 0)) fun x => mbind (mpure []) fun xs => mpure (x :: xs)) fun xs => mpure (x :: xs)) fun xs => mpure (x :: xs)) fun ds => mlift (if szOk ds.length then some (.tuple ds) else none)) fun x => mbind (mbind (mbind (mbind (mpure (.int 1)) fun x => mbind (mbind (mpure (.str "lock ")) fun x => mbind (mbind (mpure (.int 0)) fun x => mbind (mpure []) fun xs => mpure (x :: xs)) fun xs => mpure (x :: xs)) fun xs => mpure (x :: xs)) fun ds => mlift (if szOk ds.length then some (.tuple ds) else none)) fun x => mbind (mbind (mbind (mbind (mpure (.int 1)) fun x => mbind (mbind (mpure (.str "locks")) fun x => mbind (mbind (mpure (.int 0)) fun x => mbind (mpure []) fun xs => mpure (x :: xs)) fun xs => mpure (x :: xs)) fun xs => mpure (x :: xs)) fun ds => mlift (if szOk ds.length then some (.tuple ds) else none)) fun x => mbind (mbind (mbind (mbind (mpure (.int 1)) fun x => mbind (mbind (mpure (.str "lock app:1
")) fun x => mbind (mbind (mpure (.int 1)) fun x => mbind (mpure []) fun xs => mpure (x :: xs)) fun xs => mpure (x :: xs)) fun xs => mpure (x :: xs)) fun ds => mlift (if szOk ds.length then some (.tuple ds) else none)) fun x => mbind (mbind (mbind (mbind (mpure (.int 1)) fun x => mbind (mbind (mpure (.str "lock app:1
lock app:1")) fun x => mbind (mbind (mpure (.int 1)) fun x => mbind (mpure []) fun xs => mpure (x :: xs)) fun xs => mpure (x :: xs)) fun xs => mpure (x :: xs)) fun ds => mlift (if szOk ds.length then some (.tuple ds) else none)) fun x => mbind (mpure []) fun xs => mpure (x :: xs)) fun xs => mpure (x :: xs)) fun xs => mpure (x :: xs)) fun xs => mpure (x :: xs)) fun xs => mpure (x :: xs)) fun ds => mlift (if szOk ds.length then some ds else none)) fun ds => mpure (.list ds)) fun d r => (tfName 0 d r).map .nx) (mseq (sbind (mbind (fName 0) fun x => mbind (mbind (mbind (mbind (mbind (mbind (mpure (.int 1)) fun x => mbind (mbind (mpure (.str "lock lib:1 app:1")) fun x => mbind (mbind (mpure (.int 0)) fun x => mbind (mpure []) fun xs => mpure (x :: xs)) fun xs => mpure (x :: xs)) fun xs => mpure (x :: xs)) fun ds => mlift (if szOk ds.length then some (.tuple ds) else none)) fun x => mbind (mbind (mbind (mbind (mpure (.int 1)) fun x => mbind (mbind (mpure (.str "lock app:1 app:2")) fun x => mbind (mbind (mpure (.int 0)) fun x => mbind (mpure []) fun xs => mpure (x :: xs)) fun xs => mpure (x :: xs)) fun xs => mpure (x :: xs)) fun ds => mlift (if szOk ds.length then some (.tuple ds) else none)) fun x => mbind (mbind (mbind (mbind (mpure (.int 1)) fun x => mbind (mbind (mpure (.str "lock app:0")) fun x => mbind (mbind (mpure (.int 0)) fun x => mbind (mpure []) fun xs => mpure (x :: xs)) fun xs => mpure (x :: xs)) fun xs => mpure (x :: xs)) fun ds => mlift (if szOk ds.length then some (.tuple ds) else none)) fun x => mbind (mpure []) fun xs => mpure (x :: xs)) fun xs => mpure (x :: xs)) fun xs => mpure (x :: xs)) fun ds => mlift (if szOk ds.length then some ds else none)) fun ds => mpure (.list ds)) fun y => mlift (gAdd x y)) fun d r => (tfName 0 d r).map .nx) (mseq (sbind (mbind (fName 0) fun x => mbind (mbind (mbind (mbind (mbind (mbind (mpure (.int 1)) fun x => mbind (mbind (mpure (.str "lock app:1,2")) fun x => mbind (mbind (mpure (.int 0)) fun x => mbind (mpure []) fun xs => mpure (x :: xs)) fun xs => mpure (x :: xs)) fun xs => mpure (x :: xs)) fun ds => mlift (if szOk ds.length then some (.tuple ds) else none)) fun x => mbind (mbind (mbind (mbind (mpure (.int 1)) fun x => mbind (mbind (mpure (.str "lock app")) fun x => mbind (mbind (mpure (.int 0)) fun x => mbind (mpure []) fun xs => mpure (x :: xs)) fun xs => mpure (x :: xs)) fun xs => mpure (x :: xs)) fun ds => mlift (if szOk ds.length then some (.tuple ds) else none)) fun x => mbind (mbind (mbind (mbind (mpure (.int 1)) fun x => mbind (mbind (mpure (.str "lock none")) fun x => mbind (mbind (mpure (.int 0)) fun x => mbind (mpure []) fun xs => mpure (x :: xs)) fun xs => mpure (x :: xs)) fun xs => mpure (x :: xs)) fun ds => mlift (if szOk ds.length then some (.tuple ds) else none)) fun x => mbind (mbind (mbind (mbind (mpure (.int 1)) fun x => mbind (mbind (mpure (.str "lock  app:1")) fun x => mbind (mbind (mpure (.int 0)) fun x => mbind (mpure []) fun xs => mpure (x :: xs)) fun xs => mpure (x :: xs)) fun xs => mpure (x :: xs)) fun ds => mlift (if szOk ds.length then some (.tuple ds) else none)) fun x => mbind (mpure []) fun xs => mpure (x :: xs)) fun xs => mpure (x :: xs)) fun xs => mpure (x :: xs)) fun xs => mpure (x :: xs)) fun ds => mlift (if szOk ds.length then some ds else none)) fun ds => mpure (.list ds)) fun y => mlift (gAdd x y)) fun d r => (tfName 0 d r).map .nx) (mseq (sbind (mbind (fName 0) fun x => mbind (mbind (mbind (mbind (mbind (mbind (mpure (.int 1)) fun x => mbind (mbind (mpure (.str "lock app:1:1")) fun x => mbind (mbind (mpure (.int 0)) fun x => mbind (mpure []) fun xs => mpure (x :: xs)) fun xs => mpure (x :: xs)) fun xs => mpure (x :: xs)) fun ds => mlift (if szOk ds.length then some (.tuple ds) else none)) fun x => mbind (mbind (mbind (mbind (mpure (.int 1)) fun x => mbind (mbind (mpure (.str "lock ap2:1")) fun x => mbind (mbind (mpure (.int 0)) fun x => mbind (mpure []) fun xs => mpure (x :: xs)) fun xs => mpure (x :: xs)) fun xs => mpure (x :: xs)) fun ds => mlift (if szOk ds.length then some (.tuple ds) else none)) fun x => mbind (mbind (mbind (mbind (mpure (.int 1)) fun x => mbind (mbind (mpure (.str "x
y")) fun x => mbind (mbind (mpure (.int 0)) fun x => mbind (mpure []) fun xs => mpure (x :: xs)) fun xs => mpure (x :: xs)) fun xs => mpure (x :: xs)) fun ds => mlift (if szOk ds.length then some (.tuple ds) else none)) fun x => mbind (mbind (mbind (mbind (mpure (.int 2)) fun x => mbind (mbind (mpure (.str "")) fun x => mbind (mbind (mpure (.int 0)) fun x => mbind (mpure []) fun xs => mpure (x :: xs)) fun xs => mpure (x :: xs)) fun xs => mpure (x :: xs)) fun ds => mlift (if szOk ds.length then some (.tuple ds) else none)) fun x => mbind (mbind (mbind (mbind (mpure (.int 2)) fun x => mbind (mbind (mpure (.str "wish ")) fun x => mbind (mbind (mpure (.int 0)) fun x => mbind (mpure []) fun xs => mpure (x :: xs)) fun xs => mpure (x :: xs)) fun xs => mpure (x :: xs)) fun ds => mlift (if szOk ds.length then some (.tuple ds) else none)) fun x => mbind (mpure []) fun xs => mpure (x :: xs)) fun xs => mpure (x :: xs)) fun xs => mpure (x :: xs)) fun xs => mpure (x :: xs)) fun xs => mpure (x :: xs)) fun ds => mlift (if szOk ds.length then some ds else none)) fun ds => mpure (.list ds)) fun y => mlift (gAdd x y)) fun d r => (tfName 0 d r).map .nx) (mseq (sbind (mbind (fName 0) fun x => mbind (mbind (mbind (mbind (mbind (mbind (mpure (.int 2)) fun x => mbind (mbind (mpure (.str "wish app:")) fun x => mbind (mbind (mpure (.int 0)) fun x => mbind (mpure []) fun xs => mpure (x :: xs)) fun xs => mpure (x :: xs)) fun xs => mpure (x :: xs)) fun ds => mlift (if szOk ds.length then some (.tuple ds) else none)) fun x => mbind (mbind (mbind (mbind (mpure (.int 2)) fun x => mbind (mbind (mpure (.str "wish app:2,1")) fun x => mbind (mbind (mpure (.int 0)) fun x => mbind (mpure []) fun xs => mpure (x :: xs)) fun xs => mpure (x :: xs)) fun xs => mpure (x :: xs)) fun ds => mlift (if szOk ds.length then some (.tuple ds) else none)) fun x => mbind (mbind (mbind (mbind (mpure (.int 2)) fun x => mbind (mbind (mpure (.str "wish app:1,1")) fun x => mbind (mbind (mpure (.int 0)) fun x => mbind (mpure []) fun xs => mpure (x :: xs)) fun xs => mpure (x :: xs)) fun xs => mpure (x :: xs)) fun ds => mlift (if szOk ds.length then some (.tuple ds) else none)) fun x => mbind (mbind (mbind (mbind (mpure (.int 2)) fun x => mbind (mbind (mpure (.str "wish app:0")) fun x => mbind (mbind (mpure (.int 0)) fun x => mbind (mpure []) fun xs => mpure (x :: xs)) fun xs => mpure (x :: xs)) fun xs => mpure (x :: xs)) fun ds => mlift (if szOk ds.length then some (.tuple ds) else none)) fun x => mbind (mpure []) fun xs => mpure (x :: xs)) fun xs => mpure (x :: xs)) fun xs => mpure (x :: xs)) fun xs => mpure (x :: xs)) fun ds => mlift (if szOk ds.length then some ds else none)) fun ds => mpure (.list ds)) fun y => mlift (gAdd x y)) fun d r => (tfName 0 d r).map .nx) (mseq (sbind (mbind (fName 0) fun x => mbind (mbind (mbind (mbind (mbind (mbind (mpure (.int 2)) fun x => mbind (mbind (mpure (.str "wish app:1 app:2")) fun x => mbind (mbind (mpure (.int 0)) fun x => mbind (mpure []) fun xs => mpure (x :: xs)) fun xs => mpure (x :: xs)) fun xs => mpure (x :: xs)) fun ds => mlift (if szOk ds.length then some (.tuple ds) else none)) fun x => mbind (mbind (mbind (mbind (mpure (.int 2)) fun x => mbind (mbind (mpure (.str "wish
")) fun x => mbind (mbind (mpure (.int 1)) fun x => mbind (mpure []) fun xs => mpure (x :: xs)) fun xs => mpure (x :: xs)) fun xs => mpure (x :: xs)) fun ds => mlift (if szOk ds.length then some (.tuple ds) else none)) fun x => mbind (mbind (mbind (mbind (mpure (.int 2)) fun x => mbind (mbind (mpure (.str "wish app:1
wish")) fun x => mbind (mbind (mpure (.int 1)) fun x => mbind (mpure []) fun xs => mpure (x :: xs)) fun xs => mpure (x :: xs)) fun xs => mpure (x :: xs)) fun ds => mlift (if szOk ds.length then some (.tuple ds) else none)) fun x => mbind (mbind (mbind (mbind (mpure (.int 2)) fun x => mbind (mbind (mpure (.str "wish none")) fun x => mbind (mbind (mpure (.int 0)) fun x => mbind (mpure []) fun xs => mpure (x :: xs)) fun xs => mpure (x :: xs)) fun xs => mpure (x :: xs)) fun ds => mlift (if szOk ds.length then some (.tuple ds) else none)) fun x => mbind (mpure []) fun xs => mpure (x :: xs)) fun xs => mpure (x :: xs)) fun xs => mpure (x :: xs)) fun xs => mpure (x :: xs)) fun ds => mlift (if szOk ds.length then some ds else none)) fun ds => mpure (.list ds)) fun y => mlift (gAdd x y)) fun d r => (tfName 0 d r).map .nx) (mseq (sbind (mbind (fName 0) fun x => mbind (mbind (mbind (mbind (mbind (mbind (mpure (.int 2)) fun x => mbind (mbind (mpure (.str "lock app:1")) fun x => mbind (mbind (mpure (.int 0)) fun x => mbind (mpure []) fun xs => mpure (x :: xs)) fun xs => mpure (x :: xs)) fun xs => mpure (x :: xs)) fun ds => mlift (if szOk ds.length then some (.tuple ds) else none)) fun x => mbind (mbind (mbind (mbind (mpure (.int 2)) fun x => mbind (mbind (mpure (.str "wish app:1, 2")) fun x => mbind (mbind (mpure (.int 0)) fun x => mbind (mpure []) fun xs => mpure (x :: xs)) fun xs => mpure (x :: xs)) fun xs => mpure (x :: xs)) fun ds => mlift (if szOk ds.length then some (.tuple ds) else none)) fun x => mbind (mbind (mbind (mbind (mpure (.int 2)) fun x => mbind (mbind (mpure (.str "wish app:0,1")) fun x => mbind (mbind (mpure (.int 0)) fun x => mbind (mpure []) fun xs => mpure (x :: xs)) fun xs => mpure (x :: xs)) fun xs => mpure (x :: xs)) fun ds => mlift (if szOk ds.length then some (.tuple ds) else none)) fun x => mbind (mbind (mbind (mbind (mpure (.int 3)) fun x => mbind (mbind (mpure (.str "row")) fun x => mbind (mbind (mpure (.int 0)) fun x => mbind (mpure []) fun xs => mpure (x :: xs)) fun xs => mpure (x :: xs)) fun xs => mpure (x :: xs)) fun ds => mlift (if szOk ds.length then some (.tuple ds) else none)) fun x => mbind (mpure []) fun xs => mpure (x :: xs)) fun xs => mpure (x :: xs)) fun xs => mpure (x :: xs)) fun xs => mpure (x :: xs)) fun ds => mlift (if szOk ds.length then some ds else none)) fun ds => mpure (.list ds)) fun y => mlift (gAdd x y)) fun d r => (tfName 0 d r).map .nx) (mseq (sbind (mbind (fName 0) fun x => mbind (mbind (mbind (mbind (mbind (mbind (mpure (.int 3)) fun x => mbind (mbind (mpure (.str "row 1")) fun x => mbind (mbind (mpure (.int 0)) fun x => mbind (mpure []) fun xs => mpure (x :: xs)) fun xs => mpure (x :: xs)) fun xs => mpure (x :: xs)) fun ds => mlift (if szOk ds.length then some (.tuple ds) else none)) fun x => mbind (mbind (mbind (mbind (mpure (.int 3)) fun x => mbind (mbind (mpure (.str "row ->")) fun x => mbind (mbind (mpure (.int 0)) fun x => mbind (mpure []) fun xs => mpure (x :: xs)) fun xs => mpure (x :: xs)) fun xs => mpure (x :: xs)) fun ds => mlift (if szOk ds.length then some (.tuple ds) else none)) fun x => mbind (mbind (mbind (mbind (mpure (.int 3)) fun x => mbind (mbind (mpure (.str "row 1 none")) fun x => mbind (mbind (mpure (.int 0)) fun x => mbind (mpure []) fun xs => mpure (x :: xs)) fun xs => mpure (x :: xs)) fun xs => mpure (x :: xs)) fun ds => mlift (if szOk ds.length then some (.tuple ds) else none)) fun x => mbind (mbind (mbind (mbind (mpure (.int 3)) fun x => mbind (mbind (mpure (.str "row 1 -> none none")) fun x => mbind (mbind (mpure (.int 0)) fun x => mbind (mpure []) fun xs => mpure (x :: xs)) fun xs => mpure (x :: xs)) fun xs => mpure (x :: xs)) fun ds => mlift (if szOk ds.length then some (.tuple ds) else none)) fun x => mbind (mpure []) fun xs => mpure (x :: xs)) fun xs => mpure (x :: xs)) fun xs => mpure (x :: xs)) fun xs => mpure (x :: xs)) fun ds => mlift (if szOk ds.length then some ds else none)) fun ds => mpure (.list ds)) fun y => mlift (gAdd x y)) fun d r => (tfName 0 d r).map .nx) (mseq (sbind (mbind (fName 0) fun x => mbind (mbind (mbind (mbind (mbind (mbind (mpure (.int 3)) fun x => mbind (mbind (mpure (.str "row 1 -> app:1 none")) fun x => mbind (mbind (mpure (.int 0)) fun x => mbind (mpure []) fun xs => mpure (x :: xs)) fun xs => mpure (x :: xs)) fun xs => mpure (x :: xs)) fun ds => mlift (if szOk ds.length then some (.tuple ds) else none)) fun x => mbind (mbind (mbind (mbind (mpure (.int 3)) fun x => mbind (mbind (mpure (.str "row 1 -> ->")) fun x => mbind (mbind (mpure (.int 0)) fun x => mbind (mpure []) fun xs => mpure (x :: xs)) fun xs => mpure (x :: xs)) fun xs => mpure (x :: xs)) fun ds => mlift (if szOk ds.length then some (.tuple ds) else none)) fun x => mbind (mbind (mbind (mbind (mpure (.int 3)) fun x => mbind (mbind (mpure (.str "row -1 -> none")) fun x => mbind (mbind (mpure (.int 0)) fun x => mbind (mpure []) fun xs => mpure (x :: xs)) fun xs => mpure (x :: xs)) fun xs => mpure (x :: xs)) fun ds => mlift (if szOk ds.length then some (.tuple ds) else none)) fun x => mbind (mpure []) fun xs => mpure (x :: xs)) fun xs => mpure (x :: xs)) fun xs => mpure (x :: xs)) fun ds => mlift (if szOk ds.length then some ds else none)) fun ds => mpure (.list ds)) fun y => mlift (gAdd x y)) fun d r => (tfName 0 d r).map .nx) (mseq (sbind (mbind (fName 0) fun x => mbind (mbind (mbind (mbind (mbind (mbind (mpure (.int 3)) fun x => mbind (mbind (mpure (.str "row 01 -> none")) fun x => mbind (mbind (mpure (.int 0)) fun x => mbind (mpure []) fun xs => mpure (x :: xs)) fun xs => mpure (x :: xs)) fun xs => mpure (x :: xs)) fun ds => mlift (if szOk ds.length then some (.tuple ds) else none)) fun x => mbind (mbind (mbind (mbind (mpure (.int 3)) fun x => mbind (mbind (mpure (.str "row x -> none")) fun x => mbind (mbind (mpure (.int 0)) fun x => mbind (mpure []) fun xs => mpure (x :: xs)) fun xs => mpure (x :: xs)) fun xs => mpure (x :: xs)) fun ds => mlift (if szOk ds.length then some (.tuple ds) else none)) fun x => mbind (mbind (mbind (mbind (mpure (.int 3)) fun x => mbind (mbind (mpure (.str "row 1 -> lib:1 app:1")) fun x => mbind (mbind (mpure (.int 0)) fun x => mbind (mpure []) fun xs => mpure (x :: xs)) fun xs => mpure (x :: xs)) fun xs => mpure (x :: xs)) fun ds => mlift (if szOk ds.length then some (.tuple ds) else none)) fun x => mbind (mpure []) fun xs => mpure (x :: xs)) fun xs => mpure (x :: xs)) fun xs => mpure (x :: xs)) fun ds => mlift (if szOk ds.length then some ds else none)) fun ds => mpure (.list ds)) fun y => mlift (gAdd x y)) fun d r => (tfName 0 d r).map .nx) (mseq (sbind (mbind (fName 0) fun x => mbind (mbind (mbind (mbind (mbind (mbind (mpure (.int 3)) fun x => mbind (mbind (mpure (.str "row 1 app:1 app:2 -> none")) fun x => mbind (mbind (mpure (.int 0)) fun x => mbind (mpure []) fun xs => mpure (x :: xs)) fun xs => mpure (x :: xs)) fun xs => mpure (x :: xs)) fun ds => mlift (if szOk ds.length then some (.tuple ds) else none)) fun x => mbind (mbind (mbind (mbind (mpure (.int 3)) fun x => mbind (mbind (mpure (.str "row 1 app:1-> none")) fun x => mbind (mbind (mpure (.int 0)) fun x => mbind (mpure []) fun xs => mpure (x :: xs)) fun xs => mpure (x :: xs)) fun xs => mpure (x :: xs)) fun ds => mlift (if szOk ds.length then some (.tuple ds) else none)) fun x => mbind (mbind (mbind (mbind (mpure (.int 3)) fun x => mbind (mbind (mpure (.str "row 1 -> none
")) fun x => mbind (mbind (mpure (.int 1)) fun x => mbind (mpure []) fun xs => mpure (x :: xs)) fun xs => mpure (x :: xs)) fun xs => mpure (x :: xs)) fun ds => mlift (if szOk ds.length then some (.tuple ds) else none)) fun x => mbind (mpure []) fun xs => mpure (x :: xs)) fun xs => mpure (x :: xs)) fun xs => mpure (x :: xs)) fun ds => mlift (if szOk ds.length then some ds else none)) fun ds => mpure (.list ds)) fun y => mlift (gAdd x y)) fun d r => (tfName 0 d r).map .nx) (mseq (sbind (mbind (fName 0) fun x => mbind (mbind (mbind (mbind (mbind (mbind (mpure (.int 3)) fun x => mbind (mbind (mpure (.str "row 1 -> none

row 1 -> none")) fun x => mbind (mbind (mpure (.int 1)) fun x => mbind (mpure []) fun xs => mpure (x :: xs)) fun xs => mpure (x :: xs)) fun xs => mpure (x :: xs)) fun ds => mlift (if szOk ds.length then some (.tuple ds) else none)) fun x => mbind (mbind (mbind (mbind (mpure (.int 3)) fun x => mbind (mbind (mpure (.str "row 1 ->
row 1 -> 
row")) fun x => mbind (mbind (mpure (.int 1)) fun x => mbind (mpure []) fun xs => mpure (x :: xs)) fun xs => mpure (x :: xs)) fun xs => mpure (x :: xs)) fun ds => mlift (if szOk ds.length then some (.tuple ds) else none)) fun x => mbind (mpure []) fun xs => mpure (x :: xs)) fun xs => mpure (x :: xs)) fun ds => mlift (if szOk ds.length then some ds else none)) fun ds => mpure (.list ds)) fun y => mlift (gAdd x y)) fun d r => (tfName 0 d r).map .nx) (mseq (sbind (mbind (fName 0) fun x => mbind (mbind (mbind (mbind (mbind (mbind (mpure (.int 3)) fun x => mbind (mbind (mpure (.str "row 1 -> none
row 2 app:1 ->
row 3 app -> none")) fun x => mbind (mbind (mpure (.int 2)) fun x => mbind (mpure []) fun xs => mpure (x :: xs)) fun xs => mpure (x :: xs)) fun xs => mpure (x :: xs)) fun ds => mlift (if szOk ds.length then some (.tuple ds) else none)) fun x => mbind (mbind (mbind (mbind (mpure (.int 3)) fun x => mbind (mbind (mpure (.str "Row 1 -> none")) fun x => mbind (mbind (mpure (.int 0)) fun x => mbind (mpure []) fun xs => mpure (x :: xs)) fun xs => mpure (x :: xs)) fun xs => mpure (x :: xs)) fun ds => mlift (if szOk ds.length then some (.tuple ds) else none)) fun x => mbind (mpure []) fun xs => mpure (x :: xs)) fun xs => mpure (x :: xs)) fun ds => mlift (if szOk ds.length then some ds else none)) fun ds => mpure (.list ds)) fun y => mlift (gAdd x y)) fun d r => (tfName 0 d r).map .nx) (mseq (sbind (mbind (fName 0) fun x => mbind (mbind (mbind (mbind (mbind (mbind (mpure (.int 3)) fun x => mbind (mbind (mpure (.str "row 1 none -> none")) fun x => mbind (mbind (mpure (.int 0)) fun x => mbind (mpure []) fun xs => mpure (x :: xs)) fun xs => mpure (x :: xs)) fun xs => mpure (x :: xs)) fun ds => mlift (if szOk ds.length then some (.tuple ds) else none)) fun x => mbind (mbind (mbind (mbind (mpure (.int 3)) fun x => mbind (mbind (mpure (.str "row 1  -> none")) fun x => mbind (mbind (mpure (.int 0)) fun x => mbind (mpure []) fun xs => mpure (x :: xs)) fun xs => mpure (x :: xs)) fun xs => mpure (x :: xs)) fun ds => mlift (if szOk ds.length then some (.tuple ds) else none)) fun x => mbind (mpure []) fun xs => mpure (x :: xs)) fun xs => mpure (x :: xs)) fun ds => mlift (if szOk ds.length then some ds else none)) fun ds => mpure (.list ds)) fun y => mlift (gAdd x y)) fun d r => (tfName 0 d r).map .nx) (sbind (fName 0) fun d r => some (.rt false d r))))))))))))))))
def g__law_other_bads : FM := mBody [] 0 1 m__law_other_bads
theorem F__law_other_bads {P : Program} {w : World} {K : PySem.W.Frag} {mg : Str → Option Value} {base : Heap} {as : Nat → Addr} (G : Gd K mg as)  (T : Tx K mg "_law_other_bads" S__law_other_bads []) : Fn P w K mg base (fun c => .ref (as c)) "_law_other_bads" S__law_other_bads 1 [] g__law_other_bads :=
  fn_mk (P := P) (w := w) (K := K) (mg := mg) (base := base) (C := fun c => .ref (as c)) (N := N__law_other_bads) (k := 0) (PI := []) (m := m__law_other_bads) T sc__law_other_bads (by decide) (fun f cdv A outer s H E hr => by
    have hu := huE hr
    have hv := hvE hr
    have tk := tkE (P := P) (w := w) (K := K) (mg := mg) (base := base) (N := N__law_other_bads) (x := "_law_other_bads") (S := S__law_other_bads) (f := f) (cdv := cdv) (A := A) (outer := outer) (s := s) (H := H) (E := E)
    have hp := hpE (P := P) (w := w) (K := K) (mg := mg) (base := base) (N := N__law_other_bads) (x := "_law_other_bads") (S := S__law_other_bads) (f := f) (cdv := cdv) (A := A) (outer := outer) (s := s) (H := H) (E := E)
    exact ⟨_, (pss_cons (ps_set (i := 0) nd__law_other_bads rfl (by first | exact .inl rfl | exact .inr rfl) (pe_lst (pa_cons (pe_tupN (pa_cons pe_int (pa_cons pe_str (pa_cons pe_int pa_nil)))) (pa_cons (pe_tupN (pa_cons pe_int (pa_cons pe_str (pa_cons pe_int pa_nil)))) (pa_cons (pe_tupN (pa_cons pe_int (pa_cons pe_str (pa_cons pe_int pa_nil)))) (pa_cons (pe_tupN (pa_cons pe_int (pa_cons pe_str (pa_cons pe_int pa_nil)))) (pa_cons (pe_tupN (pa_cons pe_int (pa_cons pe_str (pa_cons pe_int pa_nil)))) pa_nil))))))) (pss_cons (ps_set (i := 0) nd__law_other_bads rfl (by first | exact .inl rfl | exact .inr rfl) (pe_op opd_add (pv 0) (pe_lst (pa_cons (pe_tupN (pa_cons pe_int (pa_cons pe_str (pa_cons pe_int pa_nil)))) (pa_cons (pe_tupN (pa_cons pe_int (pa_cons pe_str (pa_cons pe_int pa_nil)))) (pa_cons (pe_tupN (pa_cons pe_int (pa_cons pe_str (pa_cons pe_int pa_nil)))) pa_nil)))))) (pss_cons (ps_set (i := 0) nd__law_other_bads rfl (by first | exact .inl rfl | exact .inr rfl) (pe_op opd_add (pv 0) (pe_lst (pa_cons (pe_tupN (pa_cons pe_int (pa_cons pe_str (pa_cons pe_int pa_nil)))) (pa_cons (pe_tupN (pa_cons pe_int (pa_cons pe_str (pa_cons pe_int pa_nil)))) (pa_cons (pe_tupN (pa_cons pe_int (pa_cons pe_str (pa_cons pe_int pa_nil)))) (pa_cons (pe_tupN (pa_cons pe_int (pa_cons pe_str (pa_cons pe_int pa_nil)))) pa_nil))))))) (pss_cons (ps_set (i := 0) nd__law_other_bads rfl (by first | exact .inl rfl | exact .inr rfl) (pe_op opd_add (pv 0) (pe_lst (pa_cons (pe_tupN (pa_cons pe_int (pa_cons pe_str (pa_cons pe_int pa_nil)))) (pa_cons (pe_tupN (pa_cons pe_int (pa_cons pe_str (pa_cons pe_int pa_nil)))) (pa_cons (pe_tupN (pa_cons pe_int (pa_cons pe_str (pa_cons pe_int pa_nil)))) (pa_cons (pe_tupN (pa_cons pe_int (pa_cons pe_str (pa_cons pe_int pa_nil)))) (pa_cons (pe_tupN (pa_cons pe_int (pa_cons pe_str (pa_cons pe_int pa_nil)))) pa_nil)))))))) (pss_cons (ps_set (i := 0) nd__law_other_bads rfl (by first | exact .inl rfl | exact .inr rfl) (pe_op opd_add (pv 0) (pe_lst (pa_cons (pe_tupN (pa_cons pe_int (pa_cons pe_str (pa_cons pe_int pa_nil)))) (pa_cons (pe_tupN (pa_cons pe_int (pa_cons pe_str (pa_cons pe_int pa_nil)))) (pa_cons (pe_tupN (pa_cons pe_int (pa_cons pe_str (pa_cons pe_int pa_nil)))) (pa_cons (pe_tupN (pa_cons pe_int (pa_cons pe_str (pa_cons pe_int pa_nil)))) pa_nil))))))) (pss_cons (ps_set (i := 0) nd__law_other_bads rfl (by first | exact .inl rfl | exact .inr rfl) (pe_op opd_add (pv 0) (pe_lst (pa_cons (pe_tupN (pa_cons pe_int (pa_cons pe_str (pa_cons pe_int pa_nil)))) (pa_cons (pe_tupN (pa_cons pe_int (pa_cons pe_str (pa_cons pe_int pa_nil)))) (pa_cons (pe_tupN (pa_cons pe_int (pa_cons pe_str (pa_cons pe_int pa_nil)))) (pa_cons (pe_tupN (pa_cons pe_int (pa_cons pe_str (pa_cons pe_int pa_nil)))) pa_nil))))))) (pss_cons (ps_set (i := 0) nd__law_other_bads rfl (by first | exact .inl rfl | exact .inr rfl) (pe_op opd_add (pv 0) (pe_lst (pa_cons (pe_tupN (pa_cons pe_int (pa_cons pe_str (pa_cons pe_int pa_nil)))) (pa_cons (pe_tupN (pa_cons pe_int (pa_cons pe_str (pa_cons pe_int pa_nil)))) (pa_cons (pe_tupN (pa_cons pe_int (pa_cons pe_str (pa_cons pe_int pa_nil)))) (pa_cons (pe_tupN (pa_cons pe_int (pa_cons pe_str (pa_cons pe_int pa_nil)))) pa_nil))))))) (pss_cons (ps_set (i := 0) nd__law_other_bads rfl (by first | exact .inl rfl | exact .inr rfl) (pe_op opd_add (pv 0) (pe_lst (pa_cons (pe_tupN (pa_cons pe_int (pa_cons pe_str (pa_cons pe_int pa_nil)))) (pa_cons (pe_tupN (pa_cons pe_int (pa_cons pe_str (pa_cons pe_int pa_nil)))) (pa_cons (pe_tupN (pa_cons pe_int (pa_cons pe_str (pa_cons pe_int pa_nil)))) (pa_cons (pe_tupN (pa_cons pe_int (pa_cons pe_str (pa_cons pe_int pa_nil)))) pa_nil))))))) (pss_cons (ps_set (i := 0) nd__law_other_bads rfl (by first | exact .inl rfl | exact .inr rfl) (pe_op opd_add (pv 0) (pe_lst (pa_cons (pe_tupN (pa_cons pe_int (pa_cons pe_str (pa_cons pe_int pa_nil)))) (pa_cons (pe_tupN (pa_cons pe_int (pa_cons pe_str (pa_cons pe_int pa_nil)))) (pa_cons (pe_tupN (pa_cons pe_int (pa_cons pe_str (pa_cons pe_int pa_nil)))) pa_nil)))))) (pss_cons (ps_set (i := 0) nd__law_other_bads rfl (by first | exact .inl rfl | exact .inr rfl) (pe_op opd_add (pv 0) (pe_lst (pa_cons (pe_tupN (pa_cons pe_int (pa_cons pe_str (pa_cons pe_int pa_nil)))) (pa_cons (pe_tupN (pa_cons pe_int (pa_cons pe_str (pa_cons pe_int pa_nil)))) (pa_cons (pe_tupN (pa_cons pe_int (pa_cons pe_str (pa_cons pe_int pa_nil)))) pa_nil)))))) (pss_cons (ps_set (i := 0) nd__law_other_bads rfl (by first | exact .inl rfl | exact .inr rfl) (pe_op opd_add (pv 0) (pe_lst (pa_cons (pe_tupN (pa_cons pe_int (pa_cons pe_str (pa_cons pe_int pa_nil)))) (pa_cons (pe_tupN (pa_cons pe_int (pa_cons pe_str (pa_cons pe_int pa_nil)))) (pa_cons (pe_tupN (pa_cons pe_int (pa_cons pe_str (pa_cons pe_int pa_nil)))) pa_nil)))))) (pss_cons (ps_set (i := 0) nd__law_other_bads rfl (by first | exact .inl rfl | exact .inr rfl) (pe_op opd_add (pv 0) (pe_lst (pa_cons (pe_tupN (pa_cons pe_int (pa_cons pe_str (pa_cons pe_int pa_nil)))) (pa_cons (pe_tupN (pa_cons pe_int (pa_cons pe_str (pa_cons pe_int pa_nil)))) pa_nil))))) (pss_cons (ps_set (i := 0) nd__law_other_bads rfl (by first | exact .inl rfl | exact .inr rfl) (pe_op opd_add (pv 0) (pe_lst (pa_cons (pe_tupN (pa_cons pe_int (pa_cons pe_str (pa_cons pe_int pa_nil)))) (pa_cons (pe_tupN (pa_cons pe_int (pa_cons pe_str (pa_cons pe_int pa_nil)))) pa_nil))))) (pss_cons (ps_set (i := 0) nd__law_other_bads rfl (by first | exact .inl rfl | exact .inr rfl) (pe_op opd_add (pv 0) (pe_lst (pa_cons (pe_tupN (pa_cons pe_int (pa_cons pe_str (pa_cons pe_int pa_nil)))) (pa_cons (pe_tupN (pa_cons pe_int (pa_cons pe_str (pa_cons pe_int pa_nil)))) pa_nil))))) (pss_one (ps_ret (pv 0))))))))))))))))),
      (rs_seq (rs_asg (rd_of_f (rf_lst (ra_cons (rd_tup (ra_cons (rd_c fun _ => .int _) (ra_cons (rd_c fun _ => .str _) (ra_cons (rd_c fun _ => .int _) ra_nil)))) (ra_cons (rd_tup (ra_cons (rd_c fun _ => .int _) (ra_cons (rd_c fun _ => .str _) (ra_cons (rd_c fun _ => .int _) ra_nil)))) (ra_cons (rd_tup (ra_cons (rd_c fun _ => .int _) (ra_cons (rd_c fun _ => .str _) (ra_cons (rd_c fun _ => .int _) ra_nil)))) (ra_cons (rd_tup (ra_cons (rd_c fun _ => .int _) (ra_cons (rd_c fun _ => .str _) (ra_cons (rd_c fun _ => .int _) ra_nil)))) (ra_cons (rd_tup (ra_cons (rd_c fun _ => .int _) (ra_cons (rd_c fun _ => .str _) (ra_cons (rd_c fun _ => .int _) ra_nil)))) ra_nil))))))) (tg_name 0) (by decide)) (rs_seq (rs_asg (rd_op (rd_var 0) (rd_of_f (rf_lst (ra_cons (rd_tup (ra_cons (rd_c fun _ => .int _) (ra_cons (rd_c fun _ => .str _) (ra_cons (rd_c fun _ => .int _) ra_nil)))) (ra_cons (rd_tup (ra_cons (rd_c fun _ => .int _) (ra_cons (rd_c fun _ => .str _) (ra_cons (rd_c fun _ => .int _) ra_nil)))) (ra_cons (rd_tup (ra_cons (rd_c fun _ => .int _) (ra_cons (rd_c fun _ => .str _) (ra_cons (rd_c fun _ => .int _) ra_nil)))) ra_nil)))))) (tg_name 0) (by decide)) (rs_seq (rs_asg (rd_op (rd_var 0) (rd_of_f (rf_lst (ra_cons (rd_tup (ra_cons (rd_c fun _ => .int _) (ra_cons (rd_c fun _ => .str _) (ra_cons (rd_c fun _ => .int _) ra_nil)))) (ra_cons (rd_tup (ra_cons (rd_c fun _ => .int _) (ra_cons (rd_c fun _ => .str _) (ra_cons (rd_c fun _ => .int _) ra_nil)))) (ra_cons (rd_tup (ra_cons (rd_c fun _ => .int _) (ra_cons (rd_c fun _ => .str _) (ra_cons (rd_c fun _ => .int _) ra_nil)))) (ra_cons (rd_tup (ra_cons (rd_c fun _ => .int _) (ra_cons (rd_c fun _ => .str _) (ra_cons (rd_c fun _ => .int _) ra_nil)))) ra_nil))))))) (tg_name 0) (by decide)) (rs_seq (rs_asg (rd_op (rd_var 0) (rd_of_f (rf_lst (ra_cons (rd_tup (ra_cons (rd_c fun _ => .int _) (ra_cons (rd_c fun _ => .str _) (ra_cons (rd_c fun _ => .int _) ra_nil)))) (ra_cons (rd_tup (ra_cons (rd_c fun _ => .int _) (ra_cons (rd_c fun _ => .str _) (ra_cons (rd_c fun _ => .int _) ra_nil)))) (ra_cons (rd_tup (ra_cons (rd_c fun _ => .int _) (ra_cons (rd_c fun _ => .str _) (ra_cons (rd_c fun _ => .int _) ra_nil)))) (ra_cons (rd_tup (ra_cons (rd_c fun _ => .int _) (ra_cons (rd_c fun _ => .str _) (ra_cons (rd_c fun _ => .int _) ra_nil)))) (ra_cons (rd_tup (ra_cons (rd_c fun _ => .int _) (ra_cons (rd_c fun _ => .str _) (ra_cons (rd_c fun _ => .int _) ra_nil)))) ra_nil)))))))) (tg_name 0) (by decide)) (rs_seq (rs_asg (rd_op (rd_var 0) (rd_of_f (rf_lst (ra_cons (rd_tup (ra_cons (rd_c fun _ => .int _) (ra_cons (rd_c fun _ => .str _) (ra_cons (rd_c fun _ => .int _) ra_nil)))) (ra_cons (rd_tup (ra_cons (rd_c fun _ => .int _) (ra_cons (rd_c fun _ => .str _) (ra_cons (rd_c fun _ => .int _) ra_nil)))) (ra_cons (rd_tup (ra_cons (rd_c fun _ => .int _) (ra_cons (rd_c fun _ => .str _) (ra_cons (rd_c fun _ => .int _) ra_nil)))) (ra_cons (rd_tup (ra_cons (rd_c fun _ => .int _) (ra_cons (rd_c fun _ => .str _) (ra_cons (rd_c fun _ => .int _) ra_nil)))) ra_nil))))))) (tg_name 0) (by decide)) (rs_seq (rs_asg (rd_op (rd_var 0) (rd_of_f (rf_lst (ra_cons (rd_tup (ra_cons (rd_c fun _ => .int _) (ra_cons (rd_c fun _ => .str _) (ra_cons (rd_c fun _ => .int _) ra_nil)))) (ra_cons (rd_tup (ra_cons (rd_c fun _ => .int _) (ra_cons (rd_c fun _ => .str _) (ra_cons (rd_c fun _ => .int _) ra_nil)))) (ra_cons (rd_tup (ra_cons (rd_c fun _ => .int _) (ra_cons (rd_c fun _ => .str _) (ra_cons (rd_c fun _ => .int _) ra_nil)))) (ra_cons (rd_tup (ra_cons (rd_c fun _ => .int _) (ra_cons (rd_c fun _ => .str _) (ra_cons (rd_c fun _ => .int _) ra_nil)))) ra_nil))))))) (tg_name 0) (by decide)) (rs_seq (rs_asg (rd_op (rd_var 0) (rd_of_f (rf_lst (ra_cons (rd_tup (ra_cons (rd_c fun _ => .int _) (ra_cons (rd_c fun _ => .str _) (ra_cons (rd_c fun _ => .int _) ra_nil)))) (ra_cons (rd_tup (ra_cons (rd_c fun _ => .int _) (ra_cons (rd_c fun _ => .str _) (ra_cons (rd_c fun _ => .int _) ra_nil)))) (ra_cons (rd_tup (ra_cons (rd_c fun _ => .int _) (ra_cons (rd_c fun _ => .str _) (ra_cons (rd_c fun _ => .int _) ra_nil)))) (ra_cons (rd_tup (ra_cons (rd_c fun _ => .int _) (ra_cons (rd_c fun _ => .str _) (ra_cons (rd_c fun _ => .int _) ra_nil)))) ra_nil))))))) (tg_name 0) (by decide)) (rs_seq (rs_asg (rd_op (rd_var 0) (rd_of_f (rf_lst (ra_cons (rd_tup (ra_cons (rd_c fun _ => .int _) (ra_cons (rd_c fun _ => .str _) (ra_cons (rd_c fun _ => .int _) ra_nil)))) (ra_cons (rd_tup (ra_cons (rd_c fun _ => .int _) (ra_cons (rd_c fun _ => .str _) (ra_cons (rd_c fun _ => .int _) ra_nil)))) (ra_cons (rd_tup (ra_cons (rd_c fun _ => .int _) (ra_cons (rd_c fun _ => .str _) (ra_cons (rd_c fun _ => .int _) ra_nil)))) (ra_cons (rd_tup (ra_cons (rd_c fun _ => .int _) (ra_cons (rd_c fun _ => .str _) (ra_cons (rd_c fun _ => .int _) ra_nil)))) ra_nil))))))) (tg_name 0) (by decide)) (rs_seq (rs_asg (rd_op (rd_var 0) (rd_of_f (rf_lst (ra_cons (rd_tup (ra_cons (rd_c fun _ => .int _) (ra_cons (rd_c fun _ => .str _) (ra_cons (rd_c fun _ => .int _) ra_nil)))) (ra_cons (rd_tup (ra_cons (rd_c fun _ => .int _) (ra_cons (rd_c fun _ => .str _) (ra_cons (rd_c fun _ => .int _) ra_nil)))) (ra_cons (rd_tup (ra_cons (rd_c fun _ => .int _) (ra_cons (rd_c fun _ => .str _) (ra_cons (rd_c fun _ => .int _) ra_nil)))) ra_nil)))))) (tg_name 0) (by decide)) (rs_seq (rs_asg (rd_op (rd_var 0) (rd_of_f (rf_lst (ra_cons (rd_tup (ra_cons (rd_c fun _ => .int _) (ra_cons (rd_c fun _ => .str _) (ra_cons (rd_c fun _ => .int _) ra_nil)))) (ra_cons (rd_tup (ra_cons (rd_c fun _ => .int _) (ra_cons (rd_c fun _ => .str _) (ra_cons (rd_c fun _ => .int _) ra_nil)))) (ra_cons (rd_tup (ra_cons (rd_c fun _ => .int _) (ra_cons (rd_c fun _ => .str _) (ra_cons (rd_c fun _ => .int _) ra_nil)))) ra_nil)))))) (tg_name 0) (by decide)) (rs_seq (rs_asg (rd_op (rd_var 0) (rd_of_f (rf_lst (ra_cons (rd_tup (ra_cons (rd_c fun _ => .int _) (ra_cons (rd_c fun _ => .str _) (ra_cons (rd_c fun _ => .int _) ra_nil)))) (ra_cons (rd_tup (ra_cons (rd_c fun _ => .int _) (ra_cons (rd_c fun _ => .str _) (ra_cons (rd_c fun _ => .int _) ra_nil)))) (ra_cons (rd_tup (ra_cons (rd_c fun _ => .int _) (ra_cons (rd_c fun _ => .str _) (ra_cons (rd_c fun _ => .int _) ra_nil)))) ra_nil)))))) (tg_name 0) (by decide)) (rs_seq (rs_asg (rd_op (rd_var 0) (rd_of_f (rf_lst (ra_cons (rd_tup (ra_cons (rd_c fun _ => .int _) (ra_cons (rd_c fun _ => .str _) (ra_cons (rd_c fun _ => .int _) ra_nil)))) (ra_cons (rd_tup (ra_cons (rd_c fun _ => .int _) (ra_cons (rd_c fun _ => .str _) (ra_cons (rd_c fun _ => .int _) ra_nil)))) ra_nil))))) (tg_name 0) (by decide)) (rs_seq (rs_asg (rd_op (rd_var 0) (rd_of_f (rf_lst (ra_cons (rd_tup (ra_cons (rd_c fun _ => .int _) (ra_cons (rd_c fun _ => .str _) (ra_cons (rd_c fun _ => .int _) ra_nil)))) (ra_cons (rd_tup (ra_cons (rd_c fun _ => .int _) (ra_cons (rd_c fun _ => .str _) (ra_cons (rd_c fun _ => .int _) ra_nil)))) ra_nil))))) (tg_name 0) (by decide)) (rs_seq (rs_asg (rd_op (rd_var 0) (rd_of_f (rf_lst (ra_cons (rd_tup (ra_cons (rd_c fun _ => .int _) (ra_cons (rd_c fun _ => .str _) (ra_cons (rd_c fun _ => .int _) ra_nil)))) (ra_cons (rd_tup (ra_cons (rd_c fun _ => .int _) (ra_cons (rd_c fun _ => .str _) (ra_cons (rd_c fun _ => .int _) ra_nil)))) ra_nil))))) (tg_name 0) (by decide)) (rs_ret (rd_var 0))))))))))))))))⟩)
/-! is_number_from -/
abbrev S_is_number_from : Stmt := topS 5
abbrev N_is_number_from : List Str := ["least", "thing"]
theorem sc_is_number_from : FnScope N_is_number_from ["least", "thing"] (defScope S_is_number_from) := ⟨rfl, rfl, rfl, by decide +kernel, rfl, by decide +kernel, by decide +kernel⟩
theorem nd_is_number_from : (N_is_number_from).Nodup := by decide +kernel
def m_is_number_from : MS := (sbind (mbind (fCall 1 g_is_number (mbind (fName 1) fun x => mbind (mpure []) fun xs => mpure (x :: xs))) fun d => mbind (mlift (asB d)) fun b => if b then (mbind (fName 1) fun x => mbind (fName 0) fun y => mlift ((gCmp fun a _ => !a) x y)) else mpure (.bool false)) fun d r => some (.rt false d r))
def g_is_number_from : FM := mBody [] 2 2 m_is_number_from
theorem F_is_number_from {P : Program} {w : World} {K : PySem.W.Frag} {mg : Str → Option Value} {base : Heap} {as : Nat → Addr} (G : Gd K mg as) (F_is_number : Fn P w K mg base (fun c => .ref (as c)) "is_number" S_is_number 1 ["thing"] g_is_number) (T : Tx K mg "is_number_from" S_is_number_from ["least", "thing"]) : Fn P w K mg base (fun c => .ref (as c)) "is_number_from" S_is_number_from 2 ["least", "thing"] g_is_number_from :=
  fn_mk (P := P) (w := w) (K := K) (mg := mg) (base := base) (C := fun c => .ref (as c)) (N := N_is_number_from) (k := 1) (PI := []) (m := m_is_number_from) T sc_is_number_from (by decide) (fun f cdv A outer s H E hr => by
    have hu := huE hr
    have hv := hvE hr
    have tk := tkE (P := P) (w := w) (K := K) (mg := mg) (base := base) (N := N_is_number_from) (x := "is_number_from") (S := S_is_number_from) (f := f) (cdv := cdv) (A := A) (outer := outer) (s := s) (H := H) (E := E)
    have hp := hpE (P := P) (w := w) (K := K) (mg := mg) (base := base) (N := N_is_number_from) (x := "is_number_from") (S := S_is_number_from) (f := f) (cdv := cdv) (A := A) (outer := outer) (s := s) (H := H) (E := E)
    exact ⟨_, (pss_one (ps_ret (pe_and (pe_fn F_is_number hr (by omega) tk (by rfl) (pa_cons (pv 1) pa_nil)) (pe_one (pe_cmpR (opd_ge hu) (pv 1) (pv 0) (nomark _)))))),
      (rs_ret (rd_and (rd_call (ra_cons (rd_var 1) ra_nil)) (rd_op (rd_var 1) (rd_var 0))))⟩)
/-! row_words -/
abbrev S_row_words : Stmt := topS 29
abbrev N_row_words : List Str := ["row", "day", "wish", "answer", "told", "own"]
theorem sc_row_words : FnScope N_row_words ["row"] (defScope S_row_words) := ⟨rfl, rfl, rfl, by decide +kernel, rfl, by decide +kernel, by decide +kernel⟩
theorem nd_row_words : (N_row_words).Nodup := by decide +kernel
def m_row_words : MS := (mseq (sbind (fName 0) fun d r => ((tfSq 3 (tfCons (tfName 1) (tfCons (tfName 2) (tfCons (tfName 3) tfNil)))) d r).map .nx) (mseq (sbind (mbind (mbind (mbind (fName 3) fun x => mbind (mpure .none) fun y => mlift (gIs x y)) fun d => mlift (asB d)) fun b => if b then (mbind (mbind (mbind (mpure (.str "none")) fun x => mbind (mpure []) fun xs => mpure (x :: xs)) fun ds => mlift (if szOk ds.length then some ds else none)) fun ds => mpure (.list ds)) else (mbind (fComp (fAny (fLock 3)) (tfName 5) [5] (mpure true) (fCall 1 g_release_word (mbind (fName 5) fun x => mbind (mpure []) fun xs => mpure (x :: xs)))) fun ds => mpure (.list ds))) fun d r => (tfName 4 d r).map .nx) (sbind (mbind (mbind (mbind (mbind (mbind (mbind (mbind (mbind (fName 1) fun x => mbind (mpure []) fun xs => mpure (x :: xs)) fun x => mlift ((g1 gStr) x)) fun x => mbind (mpure []) fun xs => mpure (x :: xs)) fun ds => mlift (if szOk ds.length then some ds else none)) fun ds => mpure (.list ds)) fun x => mbind (mbind (fComp (fAny (fLock 2)) (tfName 5) [5] (mpure true) (fCall 1 g_states_word (mbind (fName 5) fun x => mbind (mpure []) fun xs => mpure (x :: xs)))) fun ds => mpure (.list ds)) fun y => mlift (gAdd x y)) fun x => mbind (mbind (mbind (mbind (mpure (.str "->")) fun x => mbind (mpure []) fun xs => mpure (x :: xs)) fun ds => mlift (if szOk ds.length then some ds else none)) fun ds => mpure (.list ds)) fun y => mlift (gAdd x y)) fun x => mbind (fName 4) fun y => mlift (gAdd x y)) fun d r => some (.rt false d r))))
def g_row_words : FM := mBody [] 1 6 m_row_words
theorem F_row_words {P : Program} {w : World} {K : PySem.W.Frag} {mg : Str → Option Value} {base : Heap} {as : Nat → Addr} (G : Gd K mg as) (F_release_word : Fn P w K mg base (fun c => .ref (as c)) "release_word" S_release_word 1 ["release"] g_release_word) (F_states_word : Fn P w K mg base (fun c => .ref (as c)) "states_word" S_states_word 1 ["part"] g_states_word) (T : Tx K mg "row_words" S_row_words ["row"]) : Fn P w K mg base (fun c => .ref (as c)) "row_words" S_row_words 2 ["row"] g_row_words :=
  fn_mk (P := P) (w := w) (K := K) (mg := mg) (base := base) (C := fun c => .ref (as c)) (N := N_row_words) (k := 1) (PI := []) (m := m_row_words) T sc_row_words (by decide) (fun f cdv A outer s H E hr => by
    have hu := huE hr
    have hv := hvE hr
    have tk := tkE (P := P) (w := w) (K := K) (mg := mg) (base := base) (N := N_row_words) (x := "row_words") (S := S_row_words) (f := f) (cdv := cdv) (A := A) (outer := outer) (s := s) (H := H) (E := E)
    have hp := hpE (P := P) (w := w) (K := K) (mg := mg) (base := base) (N := N_row_words) (x := "row_words") (S := S_row_words) (f := f) (cdv := cdv) (A := A) (outer := outer) (s := s) (H := H) (E := E)
    exact ⟨_, (pss_cons (ps_asg (pv 0) (pg_sq rfl (pgs_cons (pg_name (i := 1) nd_row_words rfl (by first | exact .inl rfl | exact .inr rfl)) (pgs_cons (pg_name (i := 2) nd_row_words rfl (by first | exact .inl rfl | exact .inr rfl)) (pgs_cons (pg_name (i := 3) nd_row_words rfl (by first | exact .inl rfl | exact .inr rfl)) pgs_nil))))) (pss_cons (ps_set (i := 4) nd_row_words rfl (by first | exact .inl rfl | exact .inr rfl) (pe_ifExp (pt_cmpR opd_is (pv 3) pe_non (nomark _)) (pe_lst (pa_cons pe_str pa_nil)) (pe_lc (own := [("own", 5)]) rfl nd_row_words (pi_any (pv 3)) (blkOk_by (by (first | decide +kernel | rfl | kernel_rfl))) (fun _ _ _ _ _ => (pg_name (i := 5) nd_row_words rfl (by first | exact .inl rfl | exact .inr rfl))) (fun _ _ _ _ _ => pts_nil) (fun _ _ _ _ _ => (pe_fn F_release_word hr (by omega) takes0 (by rfl) (pa_cons (pv 5) pa_nil)))))) (pss_one (ps_ret (pe_op opd_add (pe_op opd_add (pe_op opd_add (pe_lst (pa_cons (pe_callTy cd_str (by rfl) G.m_str boot_str (pa_cons (pv 1) pa_nil)) pa_nil)) (pe_lc (own := [("own", 5)]) rfl nd_row_words (pi_any (pv 2)) (blkOk_by (by (first | decide +kernel | rfl | kernel_rfl))) (fun _ _ _ _ _ => (pg_name (i := 5) nd_row_words rfl (by first | exact .inl rfl | exact .inr rfl))) (fun _ _ _ _ _ => pts_nil) (fun _ _ _ _ _ => (pe_fn F_states_word hr (by omega) takes0 (by rfl) (pa_cons (pv 5) pa_nil))))) (pe_lst (pa_cons pe_str pa_nil))) (pv 4)))))),
      (rs_seq (rs_asg (rd_var 0) (tg_sq (tgs_cons (tg_name 1) (tgs_cons (tg_name 2) (tgs_cons (tg_name 3) tgs_nil)))) (by decide)) (rs_seq (rs_asg (rd_if (rt_test (rd_op (rd_var 3) (rd_c fun _ => .non))) (rd_of_f (rf_lst (ra_cons (rd_c fun _ => .str _) ra_nil))) (rd_of_f (rf_lc (ri_any (rl_var 3)) (tg_name 5) (by decide) rt_yes (rd_call (ra_cons (rd_var 5) ra_nil))))) (tg_name 4) (by decide)) (rs_ret (rd_op (rd_op (rd_op (rd_of_f (rf_lst (ra_cons (rd_cb (ra_cons (rd_var 1) ra_nil)) ra_nil))) (rd_of_f (rf_lc (ri_any (rl_var 2)) (tg_name 5) (by decide) rt_yes (rd_call (ra_cons (rd_var 5) ra_nil))))) (rd_of_f (rf_lst (ra_cons (rd_c fun _ => .str _) ra_nil)))) (rd_var 4)))))⟩)
/-! release_in -/
abbrev S_release_in : Stmt := topS 31
abbrev N_release_in : List Str := ["word", "name", "_", "told"]
theorem sc_release_in : FnScope N_release_in ["word"] (defScope S_release_in) := ⟨rfl, rfl, rfl, by decide +kernel, rfl, by decide +kernel, by decide +kernel⟩
theorem nd_release_in : (N_release_in).Nodup := by decide +kernel
def m_release_in : MS := (mseq (sbind (fSt1 (fName 0) (mpure (.str ":")) gPart) fun d r => ((tfSq 3 (tfCons (tfName 1) (tfCons (tfName 2) (tfCons (tfName 3) tfNil)))) d r).map .nx) (sbind (mbind (mbind (fName 1) fun x => mbind (mbind (fCall 1 g_number_in (mbind (fName 3) fun x => mbind (mpure []) fun xs => mpure (x :: xs))) fun x => mbind (mpure []) fun xs => mpure (x :: xs)) fun xs => mpure (x :: xs)) fun ds => mlift (if szOk ds.length then some (.tuple ds) else none)) fun d r => some (.rt false d r)))
def g_release_in : FM := mBody [] 1 4 m_release_in
theorem F_release_in {P : Program} {w : World} {K : PySem.W.Frag} {mg : Str → Option Value} {base : Heap} {as : Nat → Addr} (G : Gd K mg as) (F_number_in : Fn P w K mg base (fun c => .ref (as c)) "number_in" S_number_in 1 ["word"] g_number_in) (T : Tx K mg "release_in" S_release_in ["word"]) : Fn P w K mg base (fun c => .ref (as c)) "release_in" S_release_in 2 ["word"] g_release_in :=
  fn_mk (P := P) (w := w) (K := K) (mg := mg) (base := base) (C := fun c => .ref (as c)) (N := N_release_in) (k := 1) (PI := []) (m := m_release_in) T sc_release_in (by decide) (fun f cdv A outer s H E hr => by
    have hu := huE hr
    have hv := hvE hr
    have tk := tkE (P := P) (w := w) (K := K) (mg := mg) (base := base) (N := N_release_in) (x := "release_in") (S := S_release_in) (f := f) (cdv := cdv) (A := A) (outer := outer) (s := s) (H := H) (E := E)
    have hp := hpE (P := P) (w := w) (K := K) (mg := mg) (base := base) (N := N_release_in) (x := "release_in") (S := S_release_in) (f := f) (cdv := cdv) (A := A) (outer := outer) (s := s) (H := H) (E := E)
    exact ⟨_, (pss_cons (ps_asg (pe_m1 PySem.F.slot_str_partition PySem.F.type_str_partition ms_part (pv 0) pe_str) (pg_sq rfl (pgs_cons (pg_name (i := 1) nd_release_in rfl (by first | exact .inl rfl | exact .inr rfl)) (pgs_cons (pg_name (i := 2) nd_release_in rfl (by first | exact .inl rfl | exact .inr rfl)) (pgs_cons (pg_name (i := 3) nd_release_in rfl (by first | exact .inl rfl | exact .inr rfl)) pgs_nil))))) (pss_one (ps_ret (pe_tupN (pa_cons (pv 1) (pa_cons (pe_fn F_number_in hr (by omega) tk (by rfl) (pa_cons (pv 3) pa_nil)) pa_nil)))))),
      (rs_seq (rs_asg (rd_st1 (rd_var 0) (rd_c fun _ => .str _)) (tg_sq (tgs_cons (tg_name 1) (tgs_cons (tg_name 2) (tgs_cons (tg_name 3) tgs_nil)))) (by decide)) (rs_ret (rd_tup (ra_cons (rd_var 1) (ra_cons (rd_call (ra_cons (rd_var 3) ra_nil)) ra_nil)))))⟩)
/-! states_in -/
abbrev S_states_in : Stmt := topS 32
abbrev N_states_in : List Str := ["word", "name", "_", "told", "own"]
theorem sc_states_in : FnScope N_states_in ["word"] (defScope S_states_in) := ⟨rfl, rfl, rfl, by decide +kernel, rfl, by decide +kernel, by decide +kernel⟩
theorem nd_states_in : (N_states_in).Nodup := by decide +kernel
def m_states_in : MS := (mseq (sbind (fSt1 (fName 0) (mpure (.str ":")) gPart) fun d r => ((tfSq 3 (tfCons (tfName 1) (tfCons (tfName 2) (tfCons (tfName 3) tfNil)))) d r).map .nx) (sbind (mbind (mbind (fName 1) fun x => mbind (mbind (mbind (mbind (mbind (fComp (fAny (mbind (mbind (fStF (fName 3) (mpure (.str ",")) gSplit) fun ds => mpure (.list ds)) fun d => mlift (if iterable d then some (d, []) else none))) (tfName 4) [4] (mpure true) (fCall 1 g_number_in (mbind (fName 4) fun x => mbind (mpure []) fun xs => mpure (x :: xs)))) fun ds => mpure (.list ds)) fun x => mbind (mpure []) fun xs => mpure (x :: xs)) fun x => mlift ((g1 gTup) x)) fun x => mbind (mpure []) fun xs => mpure (x :: xs)) fun xs => mpure (x :: xs)) fun ds => mlift (if szOk ds.length then some (.tuple ds) else none)) fun d r => some (.rt false d r)))
def g_states_in : FM := mBody [] 1 5 m_states_in
theorem F_states_in {P : Program} {w : World} {K : PySem.W.Frag} {mg : Str → Option Value} {base : Heap} {as : Nat → Addr} (G : Gd K mg as) (F_number_in : Fn P w K mg base (fun c => .ref (as c)) "number_in" S_number_in 1 ["word"] g_number_in) (T : Tx K mg "states_in" S_states_in ["word"]) : Fn P w K mg base (fun c => .ref (as c)) "states_in" S_states_in 2 ["word"] g_states_in :=
  fn_mk (P := P) (w := w) (K := K) (mg := mg) (base := base) (C := fun c => .ref (as c)) (N := N_states_in) (k := 1) (PI := []) (m := m_states_in) T sc_states_in (by decide) (fun f cdv A outer s H E hr => by
    have hu := huE hr
    have hv := hvE hr
    have tk := tkE (P := P) (w := w) (K := K) (mg := mg) (base := base) (N := N_states_in) (x := "states_in") (S := S_states_in) (f := f) (cdv := cdv) (A := A) (outer := outer) (s := s) (H := H) (E := E)
    have hp := hpE (P := P) (w := w) (K := K) (mg := mg) (base := base) (N := N_states_in) (x := "states_in") (S := S_states_in) (f := f) (cdv := cdv) (A := A) (outer := outer) (s := s) (H := H) (E := E)
    exact ⟨_, (pss_cons (ps_asg (pe_m1 PySem.F.slot_str_partition PySem.F.type_str_partition ms_part (pv 0) pe_str) (pg_sq rfl (pgs_cons (pg_name (i := 1) nd_states_in rfl (by first | exact .inl rfl | exact .inr rfl)) (pgs_cons (pg_name (i := 2) nd_states_in rfl (by first | exact .inl rfl | exact .inr rfl)) (pgs_cons (pg_name (i := 3) nd_states_in rfl (by first | exact .inl rfl | exact .inr rfl)) pgs_nil))))) (pss_one (ps_ret (pe_tupN (pa_cons (pv 1) (pa_cons (pe_callTy cd_tuple (by rfl) G.m_tuple boot_tuple (pa_cons (pe_lc (own := [("own", 4)]) rfl nd_states_in (pi_any (pe_m1 PySem.F.slot_str_split PySem.F.type_str_split ms_split (pv 3) pe_str)) (blkOk_by (by (first | decide +kernel | rfl | kernel_rfl))) (fun _ _ _ _ _ => (pg_name (i := 4) nd_states_in rfl (by first | exact .inl rfl | exact .inr rfl))) (fun _ _ _ _ _ => pts_nil) (fun _ _ _ _ _ => (pe_fn F_number_in hr (by omega) takes0 (by rfl) (pa_cons (pv 4) pa_nil)))) pa_nil)) pa_nil)))))),
      (rs_seq (rs_asg (rd_st1 (rd_var 0) (rd_c fun _ => .str _)) (tg_sq (tgs_cons (tg_name 1) (tgs_cons (tg_name 2) (tgs_cons (tg_name 3) tgs_nil)))) (by decide)) (rs_ret (rd_tup (ra_cons (rd_var 1) (ra_cons (rd_cb (ra_cons (rd_of_f (rf_lc (ri_any (rl_of (rd_of_f (rf_st1 (rd_var 3) (rd_c fun _ => .str _))))) (tg_name 4) (by decide) rt_yes (rd_call (ra_cons (rd_var 4) ra_nil)))) ra_nil)) ra_nil)))))⟩)
/-! shelf_text -/
abbrev S_shelf_text : Stmt := topS 38
abbrev N_shelf_text : List Str := ["shelf", "lines", "release", "rules", "first", "last", "own"]
theorem sc_shelf_text : FnScope N_shelf_text ["shelf"] (defScope S_shelf_text) := ⟨rfl, rfl, rfl, by decide +kernel, rfl, by decide +kernel, by decide +kernel⟩
theorem nd_shelf_text : (N_shelf_text).Nodup := by decide +kernel
def m_shelf_text : MS := (mseq (sbind (mbind (mpure []) fun ds => mlift (if szOk ds.length then some ds else none)) fun ds r => some (.nx (r.set 1 (.mu (.list ds))))) (mseq (fFor (fAny (fLock 0)) (tfSq 4 (tfCons (tfName 2) (tfCons (tfName 3) (tfCons (tfName 4) (tfCons (tfName 5) tfNil))))) (mseq (sbind (fMu 1 (mbind (fSt1 (mpure (.str " ")) (mbind (mbind (mbind (mpure (.str "release")) fun x => mbind (mbind (fCall 1 g_release_word (mbind (fName 2) fun x => mbind (mpure []) fun xs => mpure (x :: xs))) fun x => mbind (mbind (mbind (mbind (fName 4) fun x => mbind (mpure []) fun xs => mpure (x :: xs)) fun x => mlift ((g1 gStr) x)) fun x => mbind (mbind (mbind (mbind (mbind (fName 5) fun x => mbind (mpure .none) fun y => mlift (gIs x y)) fun d => mlift (asB d)) fun b => if b then (mpure (.str "-")) else (mbind (mbind (fName 5) fun x => mbind (mpure []) fun xs => mpure (x :: xs)) fun x => mlift ((g1 gStr) x))) fun x => mbind (mpure []) fun xs => mpure (x :: xs)) fun xs => mpure (x :: xs)) fun xs => mpure (x :: xs)) fun xs => mpure (x :: xs)) fun ds => mlift (if szOk ds.length then some ds else none)) fun ds => mpure (.list ds)) gJoin) fun x => mbind (mpure []) fun xs => mpure (x :: xs)) gApp) fun _ r => some (.nx r)) (sbind (fExt 1 (fComp (fAny (fLock 3)) (tfName 6) [6] (mpure true) (mbind (mpure (.str "let ")) fun x => mbind (fCall 1 g_states_word (mbind (fName 6) fun x => mbind (mpure []) fun xs => mpure (x :: xs))) fun y => mlift (gAdd x y)))) fun _ r => some (.nx r)))) (sbind (fSt1 (mpure (.str "
")) (fName 1) gJoin) fun d r => some (.rt false d r))))
def g_shelf_text : FM := mBody [] 1 7 m_shelf_text
theorem F_shelf_text {P : Program} {w : World} {K : PySem.W.Frag} {mg : Str → Option Value} {base : Heap} {as : Nat → Addr} (G : Gd K mg as) (F_release_word : Fn P w K mg base (fun c => .ref (as c)) "release_word" S_release_word 1 ["release"] g_release_word) (F_states_word : Fn P w K mg base (fun c => .ref (as c)) "states_word" S_states_word 1 ["part"] g_states_word) (T : Tx K mg "shelf_text" S_shelf_text ["shelf"]) : Fn P w K mg base (fun c => .ref (as c)) "shelf_text" S_shelf_text 2 ["shelf"] g_shelf_text :=
  fn_mk (P := P) (w := w) (K := K) (mg := mg) (base := base) (C := fun c => .ref (as c)) (N := N_shelf_text) (k := 1) (PI := []) (m := m_shelf_text) T sc_shelf_text (by decide) (fun f cdv A outer s H E hr => by
    have hu := huE hr
    have hv := hvE hr
    have tk := tkE (P := P) (w := w) (K := K) (mg := mg) (base := base) (N := N_shelf_text) (x := "shelf_text") (S := S_shelf_text) (f := f) (cdv := cdv) (A := A) (outer := outer) (s := s) (H := H) (E := E)
    have hp := hpE (P := P) (w := w) (K := K) (mg := mg) (base := base) (N := N_shelf_text) (x := "shelf_text") (S := S_shelf_text) (f := f) (cdv := cdv) (A := A) (outer := outer) (s := s) (H := H) (E := E)
    exact ⟨_, (pss_cons (ps_set (i := 1) nd_shelf_text rfl (by first | exact .inl rfl | exact .inr rfl) (pe_lst pa_nil)) (pss_cons (ps_for hp rfl (pi_any (pv 0)) (pg_sq rfl (pgs_cons (pg_name (i := 2) nd_shelf_text rfl (by first | exact .inl rfl | exact .inr rfl)) (pgs_cons (pg_name (i := 3) nd_shelf_text rfl (by first | exact .inl rfl | exact .inr rfl)) (pgs_cons (pg_name (i := 4) nd_shelf_text rfl (by first | exact .inl rfl | exact .inr rfl)) (pgs_cons (pg_name (i := 5) nd_shelf_text rfl (by first | exact .inl rfl | exact .inr rfl)) pgs_nil))))) (pss_cons (ps_expr (pe_bm PySem.F.plainAttrs_list PySem.F.slot_list_append PySem.F.type_list_append mt_append (pv 1) (pa_cons (pe_m1 PySem.F.slot_str_join PySem.F.type_str_join ms_join pe_str (pe_lst (pa_cons pe_str (pa_cons (pe_fn F_release_word hr (by omega) tk (by rfl) (pa_cons (pv 2) pa_nil)) (pa_cons (pe_callTy cd_str (by rfl) G.m_str boot_str (pa_cons (pv 4) pa_nil)) (pa_cons (pe_ifExp (pt_cmpR opd_is (pv 5) pe_non (nomark _)) pe_str (pe_callTy cd_str (by rfl) G.m_str boot_str (pa_cons (pv 5) pa_nil))) pa_nil)))))) pa_nil))) (pss_one (ps_expr (pe_bm PySem.F.plainAttrs_list PySem.F.slot_list_extend PySem.F.type_list_extend mt_extend (pv 1) (pa_cons (pe_lc (own := [("own", 6)]) rfl nd_shelf_text (pi_any (pv 3)) (blkOk_by (by (first | decide +kernel | rfl | kernel_rfl))) (fun _ _ _ _ _ => (pg_name (i := 6) nd_shelf_text rfl (by first | exact .inl rfl | exact .inr rfl))) (fun _ _ _ _ _ => pts_nil) (fun _ _ _ _ _ => (pe_op opd_add pe_str (pe_fn F_states_word hr (by omega) takes0 (by rfl) (pa_cons (pv 6) pa_nil))))) pa_nil)))))) (pss_one (ps_ret (pe_m1 PySem.F.slot_str_join PySem.F.type_str_join ms_join pe_str (pv 1)))))),
      (rs_seq (rs_setM (rf_lst ra_nil) (by decide)) (rs_seq (rs_for (ri_any (rl_var 0)) (tg_sq (tgs_cons (tg_name 2) (tgs_cons (tg_name 3) (tgs_cons (tg_name 4) (tgs_cons (tg_name 5) tgs_nil))))) (by decide) (rs_seq (rs_drop (rd_app (ra_cons (rd_st1 (rd_c fun _ => .str _) (rd_of_f (rf_lst (ra_cons (rd_c fun _ => .str _) (ra_cons (rd_call (ra_cons (rd_var 2) ra_nil)) (ra_cons (rd_cb (ra_cons (rd_var 4) ra_nil)) (ra_cons (rd_if (rt_test (rd_op (rd_var 5) (rd_c fun _ => .non))) (rd_c fun _ => .str _) (rd_cb (ra_cons (rd_var 5) ra_nil))) ra_nil))))))) ra_nil))) (rs_drop (rd_ext (rf_lc (ri_any (rl_var 3)) (tg_name 6) (by decide) rt_yes (rd_op (rd_c fun _ => .str _) (rd_call (ra_cons (rd_var 6) ra_nil)))))))) (rs_ret (rd_st1 (rd_c fun _ => .str _) (rd_var 1)))))⟩)
/-! lock_text -/
abbrev S_lock_text : Stmt := topS 39
abbrev N_lock_text : List Str := ["lock", "own"]
theorem sc_lock_text : FnScope N_lock_text ["lock"] (defScope S_lock_text) := ⟨rfl, rfl, rfl, by decide +kernel, rfl, by decide +kernel, by decide +kernel⟩
theorem nd_lock_text : (N_lock_text).Nodup := by decide +kernel
def m_lock_text : MS := (sbind (fSt1 (mpure (.str " ")) (mbind (mbind (mbind (mbind (mpure (.str "lock")) fun x => mbind (mpure []) fun xs => mpure (x :: xs)) fun ds => mlift (if szOk ds.length then some ds else none)) fun ds => mpure (.list ds)) fun x => mbind (mbind (fComp (fAny (fLock 0)) (tfName 1) [1] (mpure true) (fCall 1 g_release_word (mbind (fName 1) fun x => mbind (mpure []) fun xs => mpure (x :: xs)))) fun ds => mpure (.list ds)) fun y => mlift (gAdd x y)) gJoin) fun d r => some (.rt false d r))
def g_lock_text : FM := mBody [] 1 2 m_lock_text
theorem F_lock_text {P : Program} {w : World} {K : PySem.W.Frag} {mg : Str → Option Value} {base : Heap} {as : Nat → Addr} (G : Gd K mg as) (F_release_word : Fn P w K mg base (fun c => .ref (as c)) "release_word" S_release_word 1 ["release"] g_release_word) (T : Tx K mg "lock_text" S_lock_text ["lock"]) : Fn P w K mg base (fun c => .ref (as c)) "lock_text" S_lock_text 2 ["lock"] g_lock_text :=
  fn_mk (P := P) (w := w) (K := K) (mg := mg) (base := base) (C := fun c => .ref (as c)) (N := N_lock_text) (k := 1) (PI := []) (m := m_lock_text) T sc_lock_text (by decide) (fun f cdv A outer s H E hr => by
    have hu := huE hr
    have hv := hvE hr
    have tk := tkE (P := P) (w := w) (K := K) (mg := mg) (base := base) (N := N_lock_text) (x := "lock_text") (S := S_lock_text) (f := f) (cdv := cdv) (A := A) (outer := outer) (s := s) (H := H) (E := E)
    have hp := hpE (P := P) (w := w) (K := K) (mg := mg) (base := base) (N := N_lock_text) (x := "lock_text") (S := S_lock_text) (f := f) (cdv := cdv) (A := A) (outer := outer) (s := s) (H := H) (E := E)
    exact ⟨_, (pss_one (ps_ret (pe_m1 PySem.F.slot_str_join PySem.F.type_str_join ms_join pe_str (pe_op opd_add (pe_lst (pa_cons pe_str pa_nil)) (pe_lc (own := [("own", 1)]) rfl nd_lock_text (pi_any (pv 0)) (blkOk_by (by (first | decide +kernel | rfl | kernel_rfl))) (fun _ _ _ _ _ => (pg_name (i := 1) nd_lock_text rfl (by first | exact .inl rfl | exact .inr rfl))) (fun _ _ _ _ _ => pts_nil) (fun _ _ _ _ _ => (pe_fn F_release_word hr (by omega) takes0 (by rfl) (pa_cons (pv 1) pa_nil)))))))),
      (rs_ret (rd_st1 (rd_c fun _ => .str _) (rd_op (rd_of_f (rf_lst (ra_cons (rd_c fun _ => .str _) ra_nil))) (rd_of_f (rf_lc (ri_any (rl_var 0)) (tg_name 1) (by decide) rt_yes (rd_call (ra_cons (rd_var 1) ra_nil)))))))⟩)
/-! wish_text -/
abbrev S_wish_text : Stmt := topS 40
abbrev N_wish_text : List Str := ["wish", "own"]
theorem sc_wish_text : FnScope N_wish_text ["wish"] (defScope S_wish_text) := ⟨rfl, rfl, rfl, by decide +kernel, rfl, by decide +kernel, by decide +kernel⟩
theorem nd_wish_text : (N_wish_text).Nodup := by decide +kernel
def m_wish_text : MS := (sbind (fSt1 (mpure (.str " ")) (mbind (mbind (mbind (mbind (mpure (.str "wish")) fun x => mbind (mpure []) fun xs => mpure (x :: xs)) fun ds => mlift (if szOk ds.length then some ds else none)) fun ds => mpure (.list ds)) fun x => mbind (mbind (fComp (fAny (fLock 0)) (tfName 1) [1] (mpure true) (fCall 1 g_states_word (mbind (fName 1) fun x => mbind (mpure []) fun xs => mpure (x :: xs)))) fun ds => mpure (.list ds)) fun y => mlift (gAdd x y)) gJoin) fun d r => some (.rt false d r))
def g_wish_text : FM := mBody [] 1 2 m_wish_text
theorem F_wish_text {P : Program} {w : World} {K : PySem.W.Frag} {mg : Str → Option Value} {base : Heap} {as : Nat → Addr} (G : Gd K mg as) (F_states_word : Fn P w K mg base (fun c => .ref (as c)) "states_word" S_states_word 1 ["part"] g_states_word) (T : Tx K mg "wish_text" S_wish_text ["wish"]) : Fn P w K mg base (fun c => .ref (as c)) "wish_text" S_wish_text 2 ["wish"] g_wish_text :=
  fn_mk (P := P) (w := w) (K := K) (mg := mg) (base := base) (C := fun c => .ref (as c)) (N := N_wish_text) (k := 1) (PI := []) (m := m_wish_text) T sc_wish_text (by decide) (fun f cdv A outer s H E hr => by
    have hu := huE hr
    have hv := hvE hr
    have tk := tkE (P := P) (w := w) (K := K) (mg := mg) (base := base) (N := N_wish_text) (x := "wish_text") (S := S_wish_text) (f := f) (cdv := cdv) (A := A) (outer := outer) (s := s) (H := H) (E := E)
    have hp := hpE (P := P) (w := w) (K := K) (mg := mg) (base := base) (N := N_wish_text) (x := "wish_text") (S := S_wish_text) (f := f) (cdv := cdv) (A := A) (outer := outer) (s := s) (H := H) (E := E)
    exact ⟨_, (pss_one (ps_ret (pe_m1 PySem.F.slot_str_join PySem.F.type_str_join ms_join pe_str (pe_op opd_add (pe_lst (pa_cons pe_str pa_nil)) (pe_lc (own := [("own", 1)]) rfl nd_wish_text (pi_any (pv 0)) (blkOk_by (by (first | decide +kernel | rfl | kernel_rfl))) (fun _ _ _ _ _ => (pg_name (i := 1) nd_wish_text rfl (by first | exact .inl rfl | exact .inr rfl))) (fun _ _ _ _ _ => pts_nil) (fun _ _ _ _ _ => (pe_fn F_states_word hr (by omega) takes0 (by rfl) (pa_cons (pv 1) pa_nil)))))))),
      (rs_ret (rd_st1 (rd_c fun _ => .str _) (rd_op (rd_of_f (rf_lst (ra_cons (rd_c fun _ => .str _) ra_nil))) (rd_of_f (rf_lc (ri_any (rl_var 0)) (tg_name 1) (by decide) rt_yes (rd_call (ra_cons (rd_var 1) ra_nil)))))))⟩)
/-! is_set_from -/
abbrev S_is_set_from : Stmt := topS 8
abbrev N_is_set_from : List Str := ["least", "thing", "own"]
theorem sc_is_set_from : FnScope N_is_set_from ["least", "thing"] (defScope S_is_set_from) := ⟨rfl, rfl, rfl, by decide +kernel, rfl, by decide +kernel, by decide +kernel⟩
theorem nd_is_set_from : (N_is_set_from).Nodup := by decide +kernel
def m_is_set_from : MS := (mseq (sbind (mbind (mbind (mbind (mbind (fName 1) fun d => mpure (.bool (isA .tup d))) fun d => mlift (asB d)) fun b => mpure (!b)) fun b => if b then mpure true else (mbind (mbind (fName 1) fun x => mbind (mbind (mpure []) fun ds => mlift (if szOk ds.length then some (.tuple ds) else none)) fun y => mlift (gEq x y)) fun d => mlift (asB d))) fun b => if b then (sbind (mpure (.bool false)) fun d r => some (.rt false d r)) else (fun r => some (.nx r))) (sbind (mbind (mbind (mbind (mbind (fComp (fAny (fLock 1)) (tfName 2) [2] (mpure true) (fCall 2 g_is_number_from (mbind (fName 0) fun x => mbind (mbind (fName 2) fun x => mbind (mpure []) fun xs => mpure (x :: xs)) fun xs => mpure (x :: xs)))) fun ds => mpure (.list ds)) fun x => mbind (mpure []) fun xs => mpure (x :: xs)) fun x => mlift ((g1 gAll) x)) fun d => mbind (mlift (asB d)) fun b => if b then (fCall 1 g_ascends (mbind (fName 1) fun x => mbind (mpure []) fun xs => mpure (x :: xs))) else mpure (.bool false)) fun d r => some (.rt false d r)))
def g_is_set_from : FM := mBody [] 2 3 m_is_set_from
theorem F_is_set_from {P : Program} {w : World} {K : PySem.W.Frag} {mg : Str → Option Value} {base : Heap} {as : Nat → Addr} (G : Gd K mg as) (F_ascends : Fn P w K mg base (fun c => .ref (as c)) "ascends" S_ascends 1 ["things"] g_ascends) (F_is_number_from : Fn P w K mg base (fun c => .ref (as c)) "is_number_from" S_is_number_from 2 ["least", "thing"] g_is_number_from) (T : Tx K mg "is_set_from" S_is_set_from ["least", "thing"]) : Fn P w K mg base (fun c => .ref (as c)) "is_set_from" S_is_set_from 3 ["least", "thing"] g_is_set_from :=
  fn_mk (P := P) (w := w) (K := K) (mg := mg) (base := base) (C := fun c => .ref (as c)) (N := N_is_set_from) (k := 2) (PI := []) (m := m_is_set_from) T sc_is_set_from (by decide) (fun f cdv A outer s H E hr => by
    have hu := huE hr
    have hv := hvE hr
    have tk := tkE (P := P) (w := w) (K := K) (mg := mg) (base := base) (N := N_is_set_from) (x := "is_set_from") (S := S_is_set_from) (f := f) (cdv := cdv) (A := A) (outer := outer) (s := s) (H := H) (E := E)
    have hp := hpE (P := P) (w := w) (K := K) (mg := mg) (base := base) (N := N_is_set_from) (x := "is_set_from") (S := S_is_set_from) (f := f) (cdv := cdv) (A := A) (outer := outer) (s := s) (H := H) (E := E)
    exact ⟨_, (pss_cons (ps_if (pw_or (pt_not (pt_val (pe_callB call_isi (by rfl) G.m_isinstance boot_isinstance (pa_cons (pv 1) (pa_cons (pe_ty .tup (by rfl) G.m_tuple boot_tuple) pa_nil))))) (pw_or1 (pt_cmpR (opd_eq hu) (pv 1) (pe_tupN pa_nil) (nomark _)))).pt (pss_one (ps_ret pe_bl)) pss_nil) (pss_one (ps_ret (pe_and (pe_callB (cd_all (by rfl)) (by rfl) G.m_all boot_all (pa_cons (pe_lc (own := [("own", 2)]) rfl nd_is_set_from (pi_any (pv 1)) (blkOk_by (by (first | decide +kernel | rfl | kernel_rfl))) (fun _ _ _ _ _ => (pg_name (i := 2) nd_is_set_from rfl (by first | exact .inl rfl | exact .inr rfl))) (fun _ _ _ _ _ => pts_nil) (fun _ _ _ _ _ => (pe_fn F_is_number_from hr (by omega) takes0 (by rfl) (pa_cons (pv 0) (pa_cons (pv 2) pa_nil))))) pa_nil)) (pe_one (pe_fn F_ascends hr (by omega) tk (by rfl) (pa_cons (pv 1) pa_nil))))))),
      (rs_seq (rs_if (rt_or (rt_not (rt_B (rd_isi .tup (rd_var 1)))) (rt_test (rd_op (rd_var 1) (rd_tup ra_nil)))) (rs_ret (rd_c fun _ => .bl _)) rs_nil) (rs_ret (rd_and (rd_cb (ra_cons (rd_of_f (rf_lc (ri_any (rl_var 1)) (tg_name 2) (by decide) rt_yes (rd_call (ra_cons (rd_var 0) (ra_cons (rd_var 2) ra_nil))))) ra_nil)) (rd_call (ra_cons (rd_var 1) ra_nil)))))⟩)
/-! is_release -/
abbrev S_is_release : Stmt := topS 11
abbrev N_is_release : List Str := ["thing"]
theorem sc_is_release : FnScope N_is_release ["thing"] (defScope S_is_release) := ⟨rfl, rfl, rfl, by decide +kernel, rfl, by decide +kernel, by decide +kernel⟩
theorem nd_is_release : (N_is_release).Nodup := by decide +kernel
def m_is_release : MS := (sbind (mbind (fCall 2 g_is_tuple_of (mbind (mpure (.int 2)) fun x => mbind (mbind (fName 0) fun x => mbind (mpure []) fun xs => mpure (x :: xs)) fun xs => mpure (x :: xs))) fun d => mbind (mlift (asB d)) fun b => if b then (mbind (fCall 1 g_is_name (mbind (mbind (fName 0) fun x => mbind (mpure (.int 0)) fun y => mlift (gIx x y)) fun x => mbind (mpure []) fun xs => mpure (x :: xs))) fun d => mbind (mlift (asB d)) fun b => if b then (fCall 2 g_is_number_from (mbind (mpure (.int 1)) fun x => mbind (mbind (mbind (fName 0) fun x => mbind (mpure (.int 1)) fun y => mlift (gIx x y)) fun x => mbind (mpure []) fun xs => mpure (x :: xs)) fun xs => mpure (x :: xs))) else mpure (.bool false)) else mpure (.bool false)) fun d r => some (.rt false d r))
def g_is_release : FM := mBody [] 1 1 m_is_release
theorem F_is_release {P : Program} {w : World} {K : PySem.W.Frag} {mg : Str → Option Value} {base : Heap} {as : Nat → Addr} (G : Gd K mg as) (F_is_name : Fn P w K mg base (fun c => .ref (as c)) "is_name" S_is_name 1 ["thing"] g_is_name) (F_is_number_from : Fn P w K mg base (fun c => .ref (as c)) "is_number_from" S_is_number_from 2 ["least", "thing"] g_is_number_from) (F_is_tuple_of : Fn P w K mg base (fun c => .ref (as c)) "is_tuple_of" S_is_tuple_of 1 ["many", "thing"] g_is_tuple_of) (T : Tx K mg "is_release" S_is_release ["thing"]) : Fn P w K mg base (fun c => .ref (as c)) "is_release" S_is_release 3 ["thing"] g_is_release :=
  fn_mk (P := P) (w := w) (K := K) (mg := mg) (base := base) (C := fun c => .ref (as c)) (N := N_is_release) (k := 2) (PI := []) (m := m_is_release) T sc_is_release (by decide) (fun f cdv A outer s H E hr => by
    have hu := huE hr
    have hv := hvE hr
    have tk := tkE (P := P) (w := w) (K := K) (mg := mg) (base := base) (N := N_is_release) (x := "is_release") (S := S_is_release) (f := f) (cdv := cdv) (A := A) (outer := outer) (s := s) (H := H) (E := E)
    have hp := hpE (P := P) (w := w) (K := K) (mg := mg) (base := base) (N := N_is_release) (x := "is_release") (S := S_is_release) (f := f) (cdv := cdv) (A := A) (outer := outer) (s := s) (H := H) (E := E)
    exact ⟨_, (pss_one (ps_ret (pe_and (pe_fn F_is_tuple_of hr (by omega) tk (by rfl) (pa_cons pe_int (pa_cons (pv 0) pa_nil))) (pe_and (pe_fn F_is_name hr (by omega) tk (by rfl) (pa_cons (pe_ix ixd (pv 0) pe_int (fun _ _ => rfl)) pa_nil)) (pe_one (pe_fn F_is_number_from hr (by omega) tk (by rfl) (pa_cons pe_int (pa_cons (pe_ix ixd (pv 0) pe_int (fun _ _ => rfl)) pa_nil)))))))),
      (rs_ret (rd_and (rd_call (ra_cons (rd_c fun _ => .int _) (ra_cons (rd_var 0) ra_nil))) (rd_and (rd_call (ra_cons (rd_op (rd_var 0) (rd_c fun _ => .int _)) ra_nil)) (rd_call (ra_cons (rd_c fun _ => .int _) (ra_cons (rd_op (rd_var 0) (rd_c fun _ => .int _)) ra_nil))))))⟩)
/-! lock_in -/
abbrev S_lock_in : Stmt := topS 33
abbrev N_lock_in : List Str := ["words", "word"]
theorem sc_lock_in : FnScope N_lock_in ["words"] (defScope S_lock_in) := ⟨rfl, rfl, rfl, by decide +kernel, rfl, by decide +kernel, by decide +kernel⟩
theorem nd_lock_in : (N_lock_in).Nodup := by decide +kernel
def m_lock_in : MS := (sbind (mbind (mbind (mbind (fComp (fAny (fLock 0)) (tfName 1) [1] (mpure true) (fCall 1 g_release_in (mbind (fName 1) fun x => mbind (mpure []) fun xs => mpure (x :: xs)))) fun ds => mpure (.list ds)) fun x => mbind (mpure []) fun xs => mpure (x :: xs)) fun x => mlift ((g1 gTup) x)) fun d r => some (.rt false d r))
def g_lock_in : FM := mBody [] 1 2 m_lock_in
theorem F_lock_in {P : Program} {w : World} {K : PySem.W.Frag} {mg : Str → Option Value} {base : Heap} {as : Nat → Addr} (G : Gd K mg as) (F_release_in : Fn P w K mg base (fun c => .ref (as c)) "release_in" S_release_in 2 ["word"] g_release_in) (T : Tx K mg "lock_in" S_lock_in ["words"]) : Fn P w K mg base (fun c => .ref (as c)) "lock_in" S_lock_in 3 ["words"] g_lock_in :=
  fn_mk (P := P) (w := w) (K := K) (mg := mg) (base := base) (C := fun c => .ref (as c)) (N := N_lock_in) (k := 2) (PI := []) (m := m_lock_in) T sc_lock_in (by decide) (fun f cdv A outer s H E hr => by
    have hu := huE hr
    have hv := hvE hr
    have tk := tkE (P := P) (w := w) (K := K) (mg := mg) (base := base) (N := N_lock_in) (x := "lock_in") (S := S_lock_in) (f := f) (cdv := cdv) (A := A) (outer := outer) (s := s) (H := H) (E := E)
    have hp := hpE (P := P) (w := w) (K := K) (mg := mg) (base := base) (N := N_lock_in) (x := "lock_in") (S := S_lock_in) (f := f) (cdv := cdv) (A := A) (outer := outer) (s := s) (H := H) (E := E)
    exact ⟨_, (pss_one (ps_ret (pe_callTy cd_tuple (by rfl) G.m_tuple boot_tuple (pa_cons (pe_lc (own := [("word", 1)]) rfl nd_lock_in (pi_any (pv 0)) (blkOk_by (by (first | decide +kernel | rfl | kernel_rfl))) (fun _ _ _ _ _ => (pg_name (i := 1) nd_lock_in rfl (by first | exact .inl rfl | exact .inr rfl))) (fun _ _ _ _ _ => pts_nil) (fun _ _ _ _ _ => (pe_fn F_release_in hr (by omega) takes0 (by rfl) (pa_cons (pv 1) pa_nil)))) pa_nil)))),
      (rs_ret (rd_cb (ra_cons (rd_of_f (rf_lc (ri_any (rl_var 0)) (tg_name 1) (by decide) rt_yes (rd_call (ra_cons (rd_var 1) ra_nil)))) ra_nil)))⟩)
/-! wish_in -/
abbrev S_wish_in : Stmt := topS 34
abbrev N_wish_in : List Str := ["words", "word"]
theorem sc_wish_in : FnScope N_wish_in ["words"] (defScope S_wish_in) := ⟨rfl, rfl, rfl, by decide +kernel, rfl, by decide +kernel, by decide +kernel⟩
theorem nd_wish_in : (N_wish_in).Nodup := by decide +kernel
def m_wish_in : MS := (sbind (mbind (mbind (mbind (fComp (fAny (fLock 0)) (tfName 1) [1] (mpure true) (fCall 1 g_states_in (mbind (fName 1) fun x => mbind (mpure []) fun xs => mpure (x :: xs)))) fun ds => mpure (.list ds)) fun x => mbind (mpure []) fun xs => mpure (x :: xs)) fun x => mlift ((g1 gTup) x)) fun d r => some (.rt false d r))
def g_wish_in : FM := mBody [] 1 2 m_wish_in
theorem F_wish_in {P : Program} {w : World} {K : PySem.W.Frag} {mg : Str → Option Value} {base : Heap} {as : Nat → Addr} (G : Gd K mg as) (F_states_in : Fn P w K mg base (fun c => .ref (as c)) "states_in" S_states_in 2 ["word"] g_states_in) (T : Tx K mg "wish_in" S_wish_in ["words"]) : Fn P w K mg base (fun c => .ref (as c)) "wish_in" S_wish_in 3 ["words"] g_wish_in :=
  fn_mk (P := P) (w := w) (K := K) (mg := mg) (base := base) (C := fun c => .ref (as c)) (N := N_wish_in) (k := 2) (PI := []) (m := m_wish_in) T sc_wish_in (by decide) (fun f cdv A outer s H E hr => by
    have hu := huE hr
    have hv := hvE hr
    have tk := tkE (P := P) (w := w) (K := K) (mg := mg) (base := base) (N := N_wish_in) (x := "wish_in") (S := S_wish_in) (f := f) (cdv := cdv) (A := A) (outer := outer) (s := s) (H := H) (E := E)
    have hp := hpE (P := P) (w := w) (K := K) (mg := mg) (base := base) (N := N_wish_in) (x := "wish_in") (S := S_wish_in) (f := f) (cdv := cdv) (A := A) (outer := outer) (s := s) (H := H) (E := E)
    exact ⟨_, (pss_one (ps_ret (pe_callTy cd_tuple (by rfl) G.m_tuple boot_tuple (pa_cons (pe_lc (own := [("word", 1)]) rfl nd_wish_in (pi_any (pv 0)) (blkOk_by (by (first | decide +kernel | rfl | kernel_rfl))) (fun _ _ _ _ _ => (pg_name (i := 1) nd_wish_in rfl (by first | exact .inl rfl | exact .inr rfl))) (fun _ _ _ _ _ => pts_nil) (fun _ _ _ _ _ => (pe_fn F_states_in hr (by omega) takes0 (by rfl) (pa_cons (pv 1) pa_nil)))) pa_nil)))),
      (rs_ret (rd_cb (ra_cons (rd_of_f (rf_lc (ri_any (rl_var 0)) (tg_name 1) (by decide) rt_yes (rd_call (ra_cons (rd_var 1) ra_nil)))) ra_nil)))⟩)
/-! telling_text -/
abbrev S_telling_text : Stmt := topS 41
abbrev N_telling_text : List Str := ["telling", "row"]
theorem sc_telling_text : FnScope N_telling_text ["telling"] (defScope S_telling_text) := ⟨rfl, rfl, rfl, by decide +kernel, rfl, by decide +kernel, by decide +kernel⟩
theorem nd_telling_text : (N_telling_text).Nodup := by decide +kernel
def m_telling_text : MS := (sbind (fSt1 (mpure (.str "
")) (mbind (fComp (fAny (fLock 0)) (tfName 1) [1] (mpure true) (fSt1 (mpure (.str " ")) (mbind (mbind (mbind (mbind (mpure (.str "row")) fun x => mbind (mpure []) fun xs => mpure (x :: xs)) fun ds => mlift (if szOk ds.length then some ds else none)) fun ds => mpure (.list ds)) fun x => mbind (fCall 1 g_row_words (mbind (fName 1) fun x => mbind (mpure []) fun xs => mpure (x :: xs))) fun y => mlift (gAdd x y)) gJoin)) fun ds => mpure (.list ds)) gJoin) fun d r => some (.rt false d r))
def g_telling_text : FM := mBody [] 1 2 m_telling_text
theorem F_telling_text {P : Program} {w : World} {K : PySem.W.Frag} {mg : Str → Option Value} {base : Heap} {as : Nat → Addr} (G : Gd K mg as) (F_row_words : Fn P w K mg base (fun c => .ref (as c)) "row_words" S_row_words 2 ["row"] g_row_words) (T : Tx K mg "telling_text" S_telling_text ["telling"]) : Fn P w K mg base (fun c => .ref (as c)) "telling_text" S_telling_text 3 ["telling"] g_telling_text :=
  fn_mk (P := P) (w := w) (K := K) (mg := mg) (base := base) (C := fun c => .ref (as c)) (N := N_telling_text) (k := 2) (PI := []) (m := m_telling_text) T sc_telling_text (by decide) (fun f cdv A outer s H E hr => by
    have hu := huE hr
    have hv := hvE hr
    have tk := tkE (P := P) (w := w) (K := K) (mg := mg) (base := base) (N := N_telling_text) (x := "telling_text") (S := S_telling_text) (f := f) (cdv := cdv) (A := A) (outer := outer) (s := s) (H := H) (E := E)
    have hp := hpE (P := P) (w := w) (K := K) (mg := mg) (base := base) (N := N_telling_text) (x := "telling_text") (S := S_telling_text) (f := f) (cdv := cdv) (A := A) (outer := outer) (s := s) (H := H) (E := E)
    exact ⟨_, (pss_one (ps_ret (pe_m1 PySem.F.slot_str_join PySem.F.type_str_join ms_join pe_str (pe_lc (own := [("row", 1)]) rfl nd_telling_text (pi_any (pv 0)) (blkOk_by (by (first | decide +kernel | rfl | kernel_rfl))) (fun _ _ _ _ _ => (pg_name (i := 1) nd_telling_text rfl (by first | exact .inl rfl | exact .inr rfl))) (fun _ _ _ _ _ => pts_nil) (fun _ _ _ _ _ => (pe_m1 PySem.F.slot_str_join PySem.F.type_str_join ms_join pe_str (pe_op opd_add (pe_lst (pa_cons pe_str pa_nil)) (pe_fn F_row_words hr (by omega) takes0 (by rfl) (pa_cons (pv 1) pa_nil))))))))),
      (rs_ret (rd_st1 (rd_c fun _ => .str _) (rd_of_f (rf_lc (ri_any (rl_var 0)) (tg_name 1) (by decide) rt_yes (rd_st1 (rd_c fun _ => .str _) (rd_op (rd_of_f (rf_lst (ra_cons (rd_c fun _ => .str _) ra_nil))) (rd_call (ra_cons (rd_var 1) ra_nil))))))))⟩)
/-! _words_behind -/
abbrev S__words_behind : Stmt := topS 46
abbrev N__words_behind : List Str := ["word", "text", "words"]
theorem sc__words_behind : FnScope N__words_behind ["word", "text"] (defScope S__words_behind) := ⟨rfl, rfl, rfl, by decide +kernel, rfl, by decide +kernel, by decide +kernel⟩
theorem nd__words_behind : (N__words_behind).Nodup := by decide +kernel
def m__words_behind : MS := (mseq (sbind (mbind (fStF (mbind (mbind (fStF (fName 1) (mpure (.str "
")) gSplit) fun ds => mpure (.list ds)) fun x => mbind (mpure (.int 0)) fun y => mlift (gIx x y)) (mpure (.str " ")) gSplit) fun ds => mpure (.list ds)) fun d r => (tfName 2 d r).map .nx) (mseq (sbind (mbind (mbind (mbind (fName 2) fun x => mbind (mpure (.int 0)) fun y => mlift (gIx x y)) fun x => mbind (fName 0) fun y => mlift (gNe x y)) fun d => mlift (asB d)) fun b => if b then (sbind (mpure (.int 0)) fun d r => some (.ex (0, [("line", d)]) r)) else (fun r => some (.nx r))) (sbind (fSl (fName 2) (mbind (mpure (.int 1)) fun d => mlift (asI d)) (mpure none)) fun d r => some (.rt false d r))))
def g__words_behind : FM := mBody [] 2 3 m__words_behind
theorem F__words_behind {P : Program} {w : World} {K : PySem.W.Frag} {mg : Str → Option Value} {base : Heap} {as : Nat → Addr} (G : Gd K mg as) (F_BadText : InitOk P w K mg base (as 0) "line") (T : Tx K mg "_words_behind" S__words_behind ["word", "text"]) : Fn P w K mg base (fun c => .ref (as c)) "_words_behind" S__words_behind 3 ["word", "text"] g__words_behind :=
  fn_mk (P := P) (w := w) (K := K) (mg := mg) (base := base) (C := fun c => .ref (as c)) (N := N__words_behind) (k := 2) (PI := []) (m := m__words_behind) T sc__words_behind (by decide) (fun f cdv A outer s H E hr => by
    have hu := huE hr
    have hv := hvE hr
    have tk := tkE (P := P) (w := w) (K := K) (mg := mg) (base := base) (N := N__words_behind) (x := "_words_behind") (S := S__words_behind) (f := f) (cdv := cdv) (A := A) (outer := outer) (s := s) (H := H) (E := E)
    have hp := hpE (P := P) (w := w) (K := K) (mg := mg) (base := base) (N := N__words_behind) (x := "_words_behind") (S := S__words_behind) (f := f) (cdv := cdv) (A := A) (outer := outer) (s := s) (H := H) (E := E)
    exact ⟨_, (pss_cons (ps_set (i := 2) nd__words_behind rfl (by first | exact .inl rfl | exact .inr rfl) (pe_m1 PySem.F.slot_str_split PySem.F.type_str_split ms_split (pe_ix ixd (pe_m1 PySem.F.slot_str_split PySem.F.type_str_split ms_split (pv 1) pe_str) pe_int (fun _ _ => rfl)) pe_str)) (pss_cons (ps_if (pt_cmpR (opd_ne hu) (pe_ix ixd (pv 2) pe_int (fun _ _ => rfl)) (pv 0) (nomark _)) (pss_one (ps_raise1 (B := "ValueError") (f := "line") G.x_BadText F_BadText hr (by omega) rfl tk (by rfl) pe_int)) pss_nil) (pss_one (ps_ret (pe_slice sld (pv 2) (po_some pe_int) po_none))))),
      (rs_seq (rs_asg (rd_of_f (rf_st1 (rd_op (rd_of_f (rf_st1 (rd_var 1) (rd_c fun _ => .str _))) (rd_c fun _ => .int _)) (rd_c fun _ => .str _))) (tg_name 2) (by decide)) (rs_seq (rs_if (rt_test (rd_op (rd_op (rd_var 2) (rd_c fun _ => .int _)) (rd_var 0))) (rs_raise1 (c := 0) (f := "line") G.c_BadText (rd_c fun _ => .int _)) rs_nil) (rs_ret (rd_sl (rd_var 2) (ro_some (rd_c fun _ => .int _)) ro_none))))⟩)
/-! _check_only_line -/
abbrev S__check_only_line : Stmt := topS 47
abbrev N__check_only_line : List Str := ["text", "fit"]
theorem sc__check_only_line : FnScope N__check_only_line ["text", "fit"] (defScope S__check_only_line) := ⟨rfl, rfl, rfl, by decide +kernel, rfl, by decide +kernel, by decide +kernel⟩
theorem nd__check_only_line : (N__check_only_line).Nodup := by decide +kernel
def m__check_only_line : MS := (mseq (sbind (mbind (mbind (fName 1) fun d => mlift (asB d)) fun b => mpure (!b)) fun b => if b then (sbind (mpure (.int 0)) fun d r => some (.ex (0, [("line", d)]) r)) else (fun r => some (.nx r))) (sbind (mbind (mbind (mbind (mbind (fCall 1 g_lines_of (mbind (fName 0) fun x => mbind (mpure []) fun xs => mpure (x :: xs))) fun x => mbind (mpure []) fun xs => mpure (x :: xs)) fun x => mlift ((g1 gLen) x)) fun x => mbind (mpure (.int 1)) fun y => mlift ((gCmp fun _ b => b) x y)) fun d => mlift (asB d)) fun b => if b then (sbind (mpure (.int 1)) fun d r => some (.ex (0, [("line", d)]) r)) else (fun r => some (.nx r))))
def g__check_only_line : FM := mBody [] 2 2 m__check_only_line
theorem F__check_only_line {P : Program} {w : World} {K : PySem.W.Frag} {mg : Str → Option Value} {base : Heap} {as : Nat → Addr} (G : Gd K mg as) (F_lines_of : Fn P w K mg base (fun c => .ref (as c)) "lines_of" S_lines_of 1 ["text"] g_lines_of) (F_BadText : InitOk P w K mg base (as 0) "line") (T : Tx K mg "_check_only_line" S__check_only_line ["text", "fit"]) : Fn P w K mg base (fun c => .ref (as c)) "_check_only_line" S__check_only_line 3 ["text", "fit"] g__check_only_line :=
  fn_mk (P := P) (w := w) (K := K) (mg := mg) (base := base) (C := fun c => .ref (as c)) (N := N__check_only_line) (k := 2) (PI := []) (m := m__check_only_line) T sc__check_only_line (by decide) (fun f cdv A outer s H E hr => by
    have hu := huE hr
    have hv := hvE hr
    have tk := tkE (P := P) (w := w) (K := K) (mg := mg) (base := base) (N := N__check_only_line) (x := "_check_only_line") (S := S__check_only_line) (f := f) (cdv := cdv) (A := A) (outer := outer) (s := s) (H := H) (E := E)
    have hp := hpE (P := P) (w := w) (K := K) (mg := mg) (base := base) (N := N__check_only_line) (x := "_check_only_line") (S := S__check_only_line) (f := f) (cdv := cdv) (A := A) (outer := outer) (s := s) (H := H) (E := E)
    exact ⟨_, (pss_cons (ps_if (pt_not (pt_val (pv 1))) (pss_one (ps_raise1 (B := "ValueError") (f := "line") G.x_BadText F_BadText hr (by omega) rfl tk (by rfl) pe_int)) pss_nil) (pss_one (ps_if (pt_cmpR (opd_gt hu) (pe_callB cd_len (by rfl) G.m_len PySem.boot_len (pa_cons (pe_fn F_lines_of hr (by omega) tk (by rfl) (pa_cons (pv 0) pa_nil)) pa_nil)) pe_int (nomark _)) (pss_one (ps_raise1 (B := "ValueError") (f := "line") G.x_BadText F_BadText hr (by omega) rfl tk (by rfl) pe_int)) pss_nil))),
      (rs_seq (rs_if (rt_not (rt_B (rd_var 1))) (rs_raise1 (c := 0) (f := "line") G.c_BadText (rd_c fun _ => .int _)) rs_nil) (rs_if (rt_test (rd_op (rd_cb (ra_cons (rd_call (ra_cons (rd_var 0) ra_nil)) ra_nil)) (rd_c fun _ => .int _))) (rs_raise1 (c := 0) (f := "line") G.c_BadText (rd_c fun _ => .int _)) rs_nil))⟩)
/-! _with_line -/
abbrev S__with_line : Stmt := topS 48
abbrev N__with_line : List Str := ["shelf", "words", "last", "release", "rules", "first"]
theorem sc__with_line : FnScope N__with_line ["shelf", "words"] (defScope S__with_line) := ⟨rfl, rfl, rfl, by decide +kernel, rfl, by decide +kernel, by decide +kernel⟩
theorem nd__with_line : (N__with_line).Nodup := by decide +kernel
def m__with_line : MS := (mseq (sbind (mbind (mbind (mbind (mbind (mbind (fName 1) fun x => mbind (mpure []) fun xs => mpure (x :: xs)) fun x => mlift ((g1 gLen) x)) fun x => mbind (mpure (.int 4)) fun y => mlift (gEq x y)) fun d => mlift (asB d)) fun b => if b then (mbind (mbind (mbind (fName 1) fun x => mbind (mpure (.int 0)) fun y => mlift (gIx x y)) fun x => mbind (mpure (.str "release")) fun y => mlift (gEq x y)) fun d => mlift (asB d)) else mpure false) fun b => if b then (mseq (sbind (mbind (mbind (mbind (mbind (fName 1) fun x => mbind (mpure (.int 3)) fun y => mlift (gIx x y)) fun x => mbind (mpure (.str "-")) fun y => mlift (gEq x y)) fun d => mlift (asB d)) fun b => if b then (mpure .none) else (fCall 1 g_number_in (mbind (mbind (fName 1) fun x => mbind (mpure (.int 3)) fun y => mlift (gIx x y)) fun x => mbind (mpure []) fun xs => mpure (x :: xs)))) fun d r => (tfName 2 d r).map .nx) (sbind (mbind (fName 0) fun x => mbind (mbind (mbind (mbind (mbind (fCall 1 g_release_in (mbind (mbind (fName 1) fun x => mbind (mpure (.int 1)) fun y => mlift (gIx x y)) fun x => mbind (mpure []) fun xs => mpure (x :: xs))) fun x => mbind (mbind (mbind (mpure []) fun ds => mlift (if szOk ds.length then some (.tuple ds) else none)) fun x => mbind (mbind (fCall 1 g_number_in (mbind (mbind (fName 1) fun x => mbind (mpure (.int 2)) fun y => mlift (gIx x y)) fun x => mbind (mpure []) fun xs => mpure (x :: xs))) fun x => mbind (mbind (fName 2) fun x => mbind (mpure []) fun xs => mpure (x :: xs)) fun xs => mpure (x :: xs)) fun xs => mpure (x :: xs)) fun xs => mpure (x :: xs)) fun ds => mlift (if szOk ds.length then some (.tuple ds) else none)) fun x => mbind (mpure []) fun xs => mpure (x :: xs)) fun ds => mlift (if szOk ds.length then some (.tuple ds) else none)) fun y => mlift (gAdd x y)) fun d r => some (.rt false d r))) else (fun r => some (.nx r))) (mseq (sbind (mbind (mbind (mbind (mbind (mbind (fName 1) fun x => mbind (mpure []) fun xs => mpure (x :: xs)) fun x => mlift ((g1 gLen) x)) fun x => mbind (mpure (.int 2)) fun y => mlift (gEq x y)) fun d => mlift (asB d)) fun b => if b then (mbind (mbind (mbind (mbind (fName 1) fun x => mbind (mpure (.int 0)) fun y => mlift (gIx x y)) fun x => mbind (mpure (.str "let")) fun y => mlift (gEq x y)) fun d => mlift (asB d)) fun b => if b then (mbind (mbind (fName 0) fun x => mbind (mbind (mpure []) fun ds => mlift (if szOk ds.length then some (.tuple ds) else none)) fun y => mlift (gNe x y)) fun d => mlift (asB d)) else mpure false) else mpure false) fun b => if b then (mseq (sbind (mbind (fName 0) fun x => mbind (mbind (mpure (.int 1)) fun x => mlift (gNeg x)) fun y => mlift (gIx x y)) fun d r => ((tfSq 4 (tfCons (tfName 3) (tfCons (tfName 4) (tfCons (tfName 5) (tfCons (tfName 2) tfNil))))) d r).map .nx) (sbind (mbind (fSl (fName 0) (mpure none) (mbind (mbind (mpure (.int 1)) fun x => mlift (gNeg x)) fun d => mlift (asI d))) fun x => mbind (mbind (mbind (mbind (mbind (fName 3) fun x => mbind (mbind (mbind (fName 4) fun x => mbind (mbind (mbind (fCall 1 g_states_in (mbind (mbind (fName 1) fun x => mbind (mpure (.int 1)) fun y => mlift (gIx x y)) fun x => mbind (mpure []) fun xs => mpure (x :: xs))) fun x => mbind (mpure []) fun xs => mpure (x :: xs)) fun ds => mlift (if szOk ds.length then some (.tuple ds) else none)) fun y => mlift (gAdd x y)) fun x => mbind (mbind (fName 5) fun x => mbind (mbind (fName 2) fun x => mbind (mpure []) fun xs => mpure (x :: xs)) fun xs => mpure (x :: xs)) fun xs => mpure (x :: xs)) fun xs => mpure (x :: xs)) fun ds => mlift (if szOk ds.length then some (.tuple ds) else none)) fun x => mbind (mpure []) fun xs => mpure (x :: xs)) fun ds => mlift (if szOk ds.length then some (.tuple ds) else none)) fun y => mlift (gAdd x y)) fun d r => some (.rt false d r))) else (fun r => some (.nx r))) (sbind (mpure .none) fun d r => some (.rt false d r))))
def g__with_line : FM := mBody [] 2 6 m__with_line
theorem F__with_line {P : Program} {w : World} {K : PySem.W.Frag} {mg : Str → Option Value} {base : Heap} {as : Nat → Addr} (G : Gd K mg as) (F_number_in : Fn P w K mg base (fun c => .ref (as c)) "number_in" S_number_in 1 ["word"] g_number_in) (F_release_in : Fn P w K mg base (fun c => .ref (as c)) "release_in" S_release_in 2 ["word"] g_release_in) (F_states_in : Fn P w K mg base (fun c => .ref (as c)) "states_in" S_states_in 2 ["word"] g_states_in) (T : Tx K mg "_with_line" S__with_line ["shelf", "words"]) : Fn P w K mg base (fun c => .ref (as c)) "_with_line" S__with_line 3 ["shelf", "words"] g__with_line :=
  fn_mk (P := P) (w := w) (K := K) (mg := mg) (base := base) (C := fun c => .ref (as c)) (N := N__with_line) (k := 2) (PI := []) (m := m__with_line) T sc__with_line (by decide) (fun f cdv A outer s H E hr => by
    have hu := huE hr
    have hv := hvE hr
    have tk := tkE (P := P) (w := w) (K := K) (mg := mg) (base := base) (N := N__with_line) (x := "_with_line") (S := S__with_line) (f := f) (cdv := cdv) (A := A) (outer := outer) (s := s) (H := H) (E := E)
    have hp := hpE (P := P) (w := w) (K := K) (mg := mg) (base := base) (N := N__with_line) (x := "_with_line") (S := S__with_line) (f := f) (cdv := cdv) (A := A) (outer := outer) (s := s) (H := H) (E := E)
    exact ⟨_, (pss_cons (ps_if (pw_and (pt_cmpR (opd_eq hu) (pe_callB cd_len (by rfl) G.m_len PySem.boot_len (pa_cons (pv 1) pa_nil)) pe_int (nomark _)) (pw_and1 (pt_cmpR (opd_eq hu) (pe_ix ixd (pv 1) pe_int (fun _ _ => rfl)) pe_str (nomark _)))).pt (pss_cons (ps_set (i := 2) nd__with_line rfl (by first | exact .inl rfl | exact .inr rfl) (pe_ifExp (pt_cmpR (opd_eq hu) (pe_ix ixd (pv 1) pe_int (fun _ _ => rfl)) pe_str (nomark _)) pe_non (pe_fn F_number_in hr (by omega) tk (by rfl) (pa_cons (pe_ix ixd (pv 1) pe_int (fun _ _ => rfl)) pa_nil)))) (pss_one (ps_ret (pe_op opd_add (pv 0) (pe_tupN (pa_cons (pe_tupN (pa_cons (pe_fn F_release_in hr (by omega) tk (by rfl) (pa_cons (pe_ix ixd (pv 1) pe_int (fun _ _ => rfl)) pa_nil)) (pa_cons (pe_tupN pa_nil) (pa_cons (pe_fn F_number_in hr (by omega) tk (by rfl) (pa_cons (pe_ix ixd (pv 1) pe_int (fun _ _ => rfl)) pa_nil)) (pa_cons (pv 2) pa_nil))))) pa_nil)))))) pss_nil) (pss_cons (ps_if (pw_and (pt_cmpR (opd_eq hu) (pe_callB cd_len (by rfl) G.m_len PySem.boot_len (pa_cons (pv 1) pa_nil)) pe_int (nomark _)) (pw_and (pt_cmpR (opd_eq hu) (pe_ix ixd (pv 1) pe_int (fun _ _ => rfl)) pe_str (nomark _)) (pw_and1 (pt_cmpR (opd_ne hu) (pv 0) (pe_tupN pa_nil) (nomark _))))).pt (pss_cons (ps_asg (pe_ix ixd (pv 0) (pe_un und_neg pe_int) (fun _ _ => rfl)) (pg_sq rfl (pgs_cons (pg_name (i := 3) nd__with_line rfl (by first | exact .inl rfl | exact .inr rfl)) (pgs_cons (pg_name (i := 4) nd__with_line rfl (by first | exact .inl rfl | exact .inr rfl)) (pgs_cons (pg_name (i := 5) nd__with_line rfl (by first | exact .inl rfl | exact .inr rfl)) (pgs_cons (pg_name (i := 2) nd__with_line rfl (by first | exact .inl rfl | exact .inr rfl)) pgs_nil)))))) (pss_one (ps_ret (pe_op opd_add (pe_slice sld (pv 0) po_none (po_some (pe_un und_neg pe_int))) (pe_tupN (pa_cons (pe_tupN (pa_cons (pv 3) (pa_cons (pe_op opd_add (pv 4) (pe_tupN (pa_cons (pe_fn F_states_in hr (by omega) tk (by rfl) (pa_cons (pe_ix ixd (pv 1) pe_int (fun _ _ => rfl)) pa_nil)) pa_nil))) (pa_cons (pv 5) (pa_cons (pv 2) pa_nil))))) pa_nil)))))) pss_nil) (pss_one (ps_ret pe_non)))),
      (rs_seq (rs_if (rt_and (rt_test (rd_op (rd_cb (ra_cons (rd_var 1) ra_nil)) (rd_c fun _ => .int _))) (rt_test (rd_op (rd_op (rd_var 1) (rd_c fun _ => .int _)) (rd_c fun _ => .str _)))) (rs_seq (rs_asg (rd_if (rt_test (rd_op (rd_op (rd_var 1) (rd_c fun _ => .int _)) (rd_c fun _ => .str _))) (rd_c fun _ => .non) (rd_call (ra_cons (rd_op (rd_var 1) (rd_c fun _ => .int _)) ra_nil))) (tg_name 2) (by decide)) (rs_ret (rd_op (rd_var 0) (rd_tup (ra_cons (rd_tup (ra_cons (rd_call (ra_cons (rd_op (rd_var 1) (rd_c fun _ => .int _)) ra_nil)) (ra_cons (rd_tup ra_nil) (ra_cons (rd_call (ra_cons (rd_op (rd_var 1) (rd_c fun _ => .int _)) ra_nil)) (ra_cons (rd_var 2) ra_nil))))) ra_nil))))) rs_nil) (rs_seq (rs_if (rt_and (rt_test (rd_op (rd_cb (ra_cons (rd_var 1) ra_nil)) (rd_c fun _ => .int _))) (rt_and (rt_test (rd_op (rd_op (rd_var 1) (rd_c fun _ => .int _)) (rd_c fun _ => .str _))) (rt_test (rd_op (rd_var 0) (rd_tup ra_nil))))) (rs_seq (rs_asg (rd_op (rd_var 0) (rd_un (rd_c fun _ => .int _))) (tg_sq (tgs_cons (tg_name 3) (tgs_cons (tg_name 4) (tgs_cons (tg_name 5) (tgs_cons (tg_name 2) tgs_nil))))) (by decide)) (rs_ret (rd_op (rd_sl (rd_var 0) ro_none (ro_some (rd_un (rd_c fun _ => .int _)))) (rd_tup (ra_cons (rd_tup (ra_cons (rd_var 3) (ra_cons (rd_op (rd_var 4) (rd_tup (ra_cons (rd_call (ra_cons (rd_op (rd_var 1) (rd_c fun _ => .int _)) ra_nil)) ra_nil))) (ra_cons (rd_var 5) (ra_cons (rd_var 2) ra_nil))))) ra_nil))))) rs_nil) (rs_ret (rd_c fun _ => .non))))⟩)
/-! is_lot -/
abbrev S_is_lot : Stmt := topS 12
abbrev N_is_lot : List Str := ["thing"]
theorem sc_is_lot : FnScope N_is_lot ["thing"] (defScope S_is_lot) := ⟨rfl, rfl, rfl, by decide +kernel, rfl, by decide +kernel, by decide +kernel⟩
theorem nd_is_lot : (N_is_lot).Nodup := by decide +kernel
def m_is_lot : MS := (sbind (fCall 2 g_is_set_from (mbind (mpure (.int 0)) fun x => mbind (mbind (fName 0) fun x => mbind (mpure []) fun xs => mpure (x :: xs)) fun xs => mpure (x :: xs))) fun d r => some (.rt false d r))
def g_is_lot : FM := mBody [] 1 1 m_is_lot
theorem F_is_lot {P : Program} {w : World} {K : PySem.W.Frag} {mg : Str → Option Value} {base : Heap} {as : Nat → Addr} (G : Gd K mg as) (F_is_set_from : Fn P w K mg base (fun c => .ref (as c)) "is_set_from" S_is_set_from 3 ["least", "thing"] g_is_set_from) (T : Tx K mg "is_lot" S_is_lot ["thing"]) : Fn P w K mg base (fun c => .ref (as c)) "is_lot" S_is_lot 4 ["thing"] g_is_lot :=
  fn_mk (P := P) (w := w) (K := K) (mg := mg) (base := base) (C := fun c => .ref (as c)) (N := N_is_lot) (k := 3) (PI := []) (m := m_is_lot) T sc_is_lot (by decide) (fun f cdv A outer s H E hr => by
    have hu := huE hr
    have hv := hvE hr
    have tk := tkE (P := P) (w := w) (K := K) (mg := mg) (base := base) (N := N_is_lot) (x := "is_lot") (S := S_is_lot) (f := f) (cdv := cdv) (A := A) (outer := outer) (s := s) (H := H) (E := E)
    have hp := hpE (P := P) (w := w) (K := K) (mg := mg) (base := base) (N := N_is_lot) (x := "is_lot") (S := S_is_lot) (f := f) (cdv := cdv) (A := A) (outer := outer) (s := s) (H := H) (E := E)
    exact ⟨_, (pss_one (ps_ret (pe_fn F_is_set_from hr (by omega) tk (by rfl) (pa_cons pe_int (pa_cons (pv 0) pa_nil))))),
      (rs_ret (rd_call (ra_cons (rd_c fun _ => .int _) (ra_cons (rd_var 0) ra_nil))))⟩)
/-! is_lock -/
abbrev S_is_lock : Stmt := topS 16
abbrev N_is_lock : List Str := ["thing", "own"]
theorem sc_is_lock : FnScope N_is_lock ["thing"] (defScope S_is_lock) := ⟨rfl, rfl, rfl, by decide +kernel, rfl, by decide +kernel, by decide +kernel⟩
theorem nd_is_lock : (N_is_lock).Nodup := by decide +kernel
def m_is_lock : MS := (mseq (sbind (mbind (mbind (mbind (mbind (fName 0) fun d => mpure (.bool (isA .tup d))) fun d => mlift (asB d)) fun b => mpure (!b)) fun b => if b then mpure true else (mbind (mbind (mbind (mbind (mbind (fComp (fAny (fLock 0)) (tfName 1) [1] (mpure true) (fCall 1 g_is_release (mbind (fName 1) fun x => mbind (mpure []) fun xs => mpure (x :: xs)))) fun ds => mpure (.list ds)) fun x => mbind (mpure []) fun xs => mpure (x :: xs)) fun x => mlift ((g1 gAll) x)) fun d => mlift (asB d)) fun b => mpure (!b))) fun b => if b then (sbind (mpure (.bool false)) fun d r => some (.rt false d r)) else (fun r => some (.nx r))) (sbind (fCall 1 g_ascends (mbind (mbind (fComp (fAny (fLock 0)) (tfName 1) [1] (mpure true) (mbind (fName 1) fun x => mbind (mpure (.int 0)) fun y => mlift (gIx x y))) fun ds => mpure (.list ds)) fun x => mbind (mpure []) fun xs => mpure (x :: xs))) fun d r => some (.rt false d r)))
def g_is_lock : FM := mBody [] 1 2 m_is_lock
theorem F_is_lock {P : Program} {w : World} {K : PySem.W.Frag} {mg : Str → Option Value} {base : Heap} {as : Nat → Addr} (G : Gd K mg as) (F_ascends : Fn P w K mg base (fun c => .ref (as c)) "ascends" S_ascends 1 ["things"] g_ascends) (F_is_release : Fn P w K mg base (fun c => .ref (as c)) "is_release" S_is_release 3 ["thing"] g_is_release) (T : Tx K mg "is_lock" S_is_lock ["thing"]) : Fn P w K mg base (fun c => .ref (as c)) "is_lock" S_is_lock 4 ["thing"] g_is_lock :=
  fn_mk (P := P) (w := w) (K := K) (mg := mg) (base := base) (C := fun c => .ref (as c)) (N := N_is_lock) (k := 3) (PI := []) (m := m_is_lock) T sc_is_lock (by decide) (fun f cdv A outer s H E hr => by
    have hu := huE hr
    have hv := hvE hr
    have tk := tkE (P := P) (w := w) (K := K) (mg := mg) (base := base) (N := N_is_lock) (x := "is_lock") (S := S_is_lock) (f := f) (cdv := cdv) (A := A) (outer := outer) (s := s) (H := H) (E := E)
    have hp := hpE (P := P) (w := w) (K := K) (mg := mg) (base := base) (N := N_is_lock) (x := "is_lock") (S := S_is_lock) (f := f) (cdv := cdv) (A := A) (outer := outer) (s := s) (H := H) (E := E)
    exact ⟨_, (pss_cons (ps_if (pw_or (pt_not (pt_val (pe_callB call_isi (by rfl) G.m_isinstance boot_isinstance (pa_cons (pv 0) (pa_cons (pe_ty .tup (by rfl) G.m_tuple boot_tuple) pa_nil))))) (pw_or1 (pt_not (pt_val (pe_callB (cd_all (by rfl)) (by rfl) G.m_all boot_all (pa_cons (pe_lc (own := [("own", 1)]) rfl nd_is_lock (pi_any (pv 0)) (blkOk_by (by (first | decide +kernel | rfl | kernel_rfl))) (fun _ _ _ _ _ => (pg_name (i := 1) nd_is_lock rfl (by first | exact .inl rfl | exact .inr rfl))) (fun _ _ _ _ _ => pts_nil) (fun _ _ _ _ _ => (pe_fn F_is_release hr (by omega) takes0 (by rfl) (pa_cons (pv 1) pa_nil)))) pa_nil)))))).pt (pss_one (ps_ret pe_bl)) pss_nil) (pss_one (ps_ret (pe_fn F_ascends hr (by omega) tk (by rfl) (pa_cons (pe_lc (own := [("own", 1)]) rfl nd_is_lock (pi_any (pv 0)) (blkOk_by (by (first | decide +kernel | rfl | kernel_rfl))) (fun _ _ _ _ _ => (pg_name (i := 1) nd_is_lock rfl (by first | exact .inl rfl | exact .inr rfl))) (fun _ _ _ _ _ => pts_nil) (fun _ _ _ _ _ => (pe_ix ixd (pv 1) pe_int (fun _ _ => rfl)))) pa_nil))))),
      (rs_seq (rs_if (rt_or (rt_not (rt_B (rd_isi .tup (rd_var 0)))) (rt_not (rt_B (rd_cb (ra_cons (rd_of_f (rf_lc (ri_any (rl_var 0)) (tg_name 1) (by decide) rt_yes (rd_call (ra_cons (rd_var 1) ra_nil)))) ra_nil))))) (rs_ret (rd_c fun _ => .bl _)) rs_nil) (rs_ret (rd_call (ra_cons (rd_of_f (rf_lc (ri_any (rl_var 0)) (tg_name 1) (by decide) rt_yes (rd_op (rd_var 1) (rd_c fun _ => .int _)))) ra_nil))))⟩)
/-! is_wish -/
abbrev S_is_wish : Stmt := topS 21
abbrev N_is_wish : List Str := ["thing", "own"]
theorem sc_is_wish : FnScope N_is_wish ["thing"] (defScope S_is_wish) := ⟨rfl, rfl, rfl, by decide +kernel, rfl, by decide +kernel, by decide +kernel⟩
theorem nd_is_wish : (N_is_wish).Nodup := by decide +kernel
def m_is_wish : MS := (mseq (sbind (mbind (mbind (mbind (fName 0) fun d => mpure (.bool (isA .tup d))) fun d => mlift (asB d)) fun b => mpure (!b)) fun b => if b then (sbind (mpure (.bool false)) fun d r => some (.rt false d r)) else (fun r => some (.nx r))) (mseq (sbind (mbind (mbind (mbind (mbind (mbind (fComp (fAny (fLock 0)) (tfName 1) [1] (mpure true) (mbind (fCall 2 g_is_tuple_of (mbind (mpure (.int 2)) fun x => mbind (mbind (fName 1) fun x => mbind (mpure []) fun xs => mpure (x :: xs)) fun xs => mpure (x :: xs))) fun d => mbind (mlift (asB d)) fun b => if b then (mbind (fCall 1 g_is_name (mbind (mbind (fName 1) fun x => mbind (mpure (.int 0)) fun y => mlift (gIx x y)) fun x => mbind (mpure []) fun xs => mpure (x :: xs))) fun d => mbind (mlift (asB d)) fun b => if b then (fCall 2 g_is_set_from (mbind (mpure (.int 1)) fun x => mbind (mbind (mbind (fName 1) fun x => mbind (mpure (.int 1)) fun y => mlift (gIx x y)) fun x => mbind (mpure []) fun xs => mpure (x :: xs)) fun xs => mpure (x :: xs))) else mpure (.bool false)) else mpure (.bool false))) fun ds => mpure (.list ds)) fun x => mbind (mpure []) fun xs => mpure (x :: xs)) fun x => mlift ((g1 gAll) x)) fun d => mlift (asB d)) fun b => mpure (!b)) fun b => if b then (sbind (mpure (.bool false)) fun d r => some (.rt false d r)) else (fun r => some (.nx r))) (sbind (mbind (mbind (mbind (mbind (fComp (fAny (fLock 0)) (tfName 1) [1] (mpure true) (mbind (fName 1) fun x => mbind (mpure (.int 0)) fun y => mlift (gIx x y))) fun ds => mpure (.list ds)) fun x => mbind (mpure []) fun xs => mpure (x :: xs)) fun x => mlift (gSetLen x)) fun x => mbind (mbind (mbind (fName 0) fun x => mbind (mpure []) fun xs => mpure (x :: xs)) fun x => mlift ((g1 gLen) x)) fun y => mlift (gEq x y)) fun d r => some (.rt false d r))))
def g_is_wish : FM := mBody [] 1 2 m_is_wish
theorem F_is_wish {P : Program} {w : World} {K : PySem.W.Frag} {mg : Str → Option Value} {base : Heap} {as : Nat → Addr} (G : Gd K mg as) (F_is_name : Fn P w K mg base (fun c => .ref (as c)) "is_name" S_is_name 1 ["thing"] g_is_name) (F_is_set_from : Fn P w K mg base (fun c => .ref (as c)) "is_set_from" S_is_set_from 3 ["least", "thing"] g_is_set_from) (F_is_tuple_of : Fn P w K mg base (fun c => .ref (as c)) "is_tuple_of" S_is_tuple_of 1 ["many", "thing"] g_is_tuple_of) (T : Tx K mg "is_wish" S_is_wish ["thing"]) : Fn P w K mg base (fun c => .ref (as c)) "is_wish" S_is_wish 4 ["thing"] g_is_wish :=
  fn_mk (P := P) (w := w) (K := K) (mg := mg) (base := base) (C := fun c => .ref (as c)) (N := N_is_wish) (k := 3) (PI := []) (m := m_is_wish) T sc_is_wish (by decide) (fun f cdv A outer s H E hr => by
    have hu := huE hr
    have hv := hvE hr
    have tk := tkE (P := P) (w := w) (K := K) (mg := mg) (base := base) (N := N_is_wish) (x := "is_wish") (S := S_is_wish) (f := f) (cdv := cdv) (A := A) (outer := outer) (s := s) (H := H) (E := E)
    have hp := hpE (P := P) (w := w) (K := K) (mg := mg) (base := base) (N := N_is_wish) (x := "is_wish") (S := S_is_wish) (f := f) (cdv := cdv) (A := A) (outer := outer) (s := s) (H := H) (E := E)
    exact ⟨_, (pss_cons (ps_if (pt_not (pt_val (pe_callB call_isi (by rfl) G.m_isinstance boot_isinstance (pa_cons (pv 0) (pa_cons (pe_ty .tup (by rfl) G.m_tuple boot_tuple) pa_nil))))) (pss_one (ps_ret pe_bl)) pss_nil) (pss_cons (ps_if (pt_not (pt_val (pe_callB (cd_all (by rfl)) (by rfl) G.m_all boot_all (pa_cons (pe_lc (own := [("own", 1)]) rfl nd_is_wish (pi_any (pv 0)) (blkOk_by (by (first | decide +kernel | rfl | kernel_rfl))) (fun _ _ _ _ _ => (pg_name (i := 1) nd_is_wish rfl (by first | exact .inl rfl | exact .inr rfl))) (fun _ _ _ _ _ => pts_nil) (fun _ _ _ _ _ => (pe_and (pe_fn F_is_tuple_of hr (by omega) takes0 (by rfl) (pa_cons pe_int (pa_cons (pv 1) pa_nil))) (pe_and (pe_fn F_is_name hr (by omega) takes0 (by rfl) (pa_cons (pe_ix ixd (pv 1) pe_int (fun _ _ => rfl)) pa_nil)) (pe_one (pe_fn F_is_set_from hr (by omega) takes0 (by rfl) (pa_cons pe_int (pa_cons (pe_ix ixd (pv 1) pe_int (fun _ _ => rfl)) pa_nil)))))))) pa_nil)))) (pss_one (ps_ret pe_bl)) pss_nil) (pss_one (ps_ret (pe_cmpR (opd_eq hu) (pe_setlen (by rfl) hu (by rfl) G.m_len (by rfl) G.m_set (pa_cons (pe_lc (own := [("own", 1)]) rfl nd_is_wish (pi_any (pv 0)) (blkOk_by (by (first | decide +kernel | rfl | kernel_rfl))) (fun _ _ _ _ _ => (pg_name (i := 1) nd_is_wish rfl (by first | exact .inl rfl | exact .inr rfl))) (fun _ _ _ _ _ => pts_nil) (fun _ _ _ _ _ => (pe_ix ixd (pv 1) pe_int (fun _ _ => rfl)))) pa_nil)) (pe_callB cd_len (by rfl) G.m_len PySem.boot_len (pa_cons (pv 0) pa_nil)) (nomark _)))))),
      (rs_seq (rs_if (rt_not (rt_B (rd_isi .tup (rd_var 0)))) (rs_ret (rd_c fun _ => .bl _)) rs_nil) (rs_seq (rs_if (rt_not (rt_B (rd_cb (ra_cons (rd_of_f (rf_lc (ri_any (rl_var 0)) (tg_name 1) (by decide) rt_yes (rd_and (rd_call (ra_cons (rd_c fun _ => .int _) (ra_cons (rd_var 1) ra_nil))) (rd_and (rd_call (ra_cons (rd_op (rd_var 1) (rd_c fun _ => .int _)) ra_nil)) (rd_call (ra_cons (rd_c fun _ => .int _) (ra_cons (rd_op (rd_var 1) (rd_c fun _ => .int _)) ra_nil))))))) ra_nil)))) (rs_ret (rd_c fun _ => .bl _)) rs_nil) (rs_ret (rd_op (rd_cb (ra_cons (rd_of_f (rf_lc (ri_any (rl_var 0)) (tg_name 1) (by decide) rt_yes (rd_op (rd_var 1) (rd_c fun _ => .int _)))) ra_nil)) (rd_cb (ra_cons (rd_var 0) ra_nil))))))⟩)
/-! answer_in -/
abbrev S_answer_in : Stmt := topS 35
abbrev N_answer_in : List Str := ["words"]
theorem sc_answer_in : FnScope N_answer_in ["words"] (defScope S_answer_in) := ⟨rfl, rfl, rfl, by decide +kernel, rfl, by decide +kernel, by decide +kernel⟩
theorem nd_answer_in : (N_answer_in).Nodup := by decide +kernel
def m_answer_in : MS := (sbind (mbind (mbind (mbind (fName 0) fun x => mbind (mbind (mbind (mbind (mpure (.str "none")) fun x => mbind (mpure []) fun xs => mpure (x :: xs)) fun ds => mlift (if szOk ds.length then some ds else none)) fun ds => mpure (.list ds)) fun y => mlift (gEq x y)) fun d => mlift (asB d)) fun b => if b then (mpure .none) else (fCall 1 g_lock_in (mbind (fName 0) fun x => mbind (mpure []) fun xs => mpure (x :: xs)))) fun d r => some (.rt false d r))
def g_answer_in : FM := mBody [] 1 1 m_answer_in
theorem F_answer_in {P : Program} {w : World} {K : PySem.W.Frag} {mg : Str → Option Value} {base : Heap} {as : Nat → Addr} (G : Gd K mg as) (F_lock_in : Fn P w K mg base (fun c => .ref (as c)) "lock_in" S_lock_in 3 ["words"] g_lock_in) (T : Tx K mg "answer_in" S_answer_in ["words"]) : Fn P w K mg base (fun c => .ref (as c)) "answer_in" S_answer_in 4 ["words"] g_answer_in :=
  fn_mk (P := P) (w := w) (K := K) (mg := mg) (base := base) (C := fun c => .ref (as c)) (N := N_answer_in) (k := 3) (PI := []) (m := m_answer_in) T sc_answer_in (by decide) (fun f cdv A outer s H E hr => by
    have hu := huE hr
    have hv := hvE hr
    have tk := tkE (P := P) (w := w) (K := K) (mg := mg) (base := base) (N := N_answer_in) (x := "answer_in") (S := S_answer_in) (f := f) (cdv := cdv) (A := A) (outer := outer) (s := s) (H := H) (E := E)
    have hp := hpE (P := P) (w := w) (K := K) (mg := mg) (base := base) (N := N_answer_in) (x := "answer_in") (S := S_answer_in) (f := f) (cdv := cdv) (A := A) (outer := outer) (s := s) (H := H) (E := E)
    exact ⟨_, (pss_one (ps_ret (pe_ifExp (pt_cmpR (opd_eq hu) (pv 0) (pe_lst (pa_cons pe_str pa_nil)) (nomark _)) pe_non (pe_fn F_lock_in hr (by omega) tk (by rfl) (pa_cons (pv 0) pa_nil))))),
      (rs_ret (rd_if (rt_test (rd_op (rd_var 0) (rd_of_f (rf_lst (ra_cons (rd_c fun _ => .str _) ra_nil))))) (rd_c fun _ => .non) (rd_call (ra_cons (rd_var 0) ra_nil))))⟩)
/-! is_rules -/
abbrev S_is_rules : Stmt := topS 13
abbrev N_is_rules : List Str := ["thing", "own"]
theorem sc_is_rules : FnScope N_is_rules ["thing"] (defScope S_is_rules) := ⟨rfl, rfl, rfl, by decide +kernel, rfl, by decide +kernel, by decide +kernel⟩
theorem nd_is_rules : (N_is_rules).Nodup := by decide +kernel
def m_is_rules : MS := (mseq (sbind (mbind (mbind (mbind (fName 0) fun d => mpure (.bool (isA .tup d))) fun d => mlift (asB d)) fun b => mpure (!b)) fun b => if b then (sbind (mpure (.bool false)) fun d r => some (.rt false d r)) else (fun r => some (.nx r))) (mseq (sbind (mbind (mbind (mbind (mbind (mbind (fComp (fAny (fLock 0)) (tfName 1) [1] (mpure true) (mbind (fCall 2 g_is_tuple_of (mbind (mpure (.int 2)) fun x => mbind (mbind (fName 1) fun x => mbind (mpure []) fun xs => mpure (x :: xs)) fun xs => mpure (x :: xs))) fun d => mbind (mlift (asB d)) fun b => if b then (mbind (fCall 1 g_is_name (mbind (mbind (fName 1) fun x => mbind (mpure (.int 0)) fun y => mlift (gIx x y)) fun x => mbind (mpure []) fun xs => mpure (x :: xs))) fun d => mbind (mlift (asB d)) fun b => if b then (fCall 1 g_is_lot (mbind (mbind (fName 1) fun x => mbind (mpure (.int 1)) fun y => mlift (gIx x y)) fun x => mbind (mpure []) fun xs => mpure (x :: xs))) else mpure (.bool false)) else mpure (.bool false))) fun ds => mpure (.list ds)) fun x => mbind (mpure []) fun xs => mpure (x :: xs)) fun x => mlift ((g1 gAll) x)) fun d => mlift (asB d)) fun b => mpure (!b)) fun b => if b then (sbind (mpure (.bool false)) fun d r => some (.rt false d r)) else (fun r => some (.nx r))) (sbind (fCall 1 g_ascends (mbind (mbind (fComp (fAny (fLock 0)) (tfName 1) [1] (mpure true) (mbind (fName 1) fun x => mbind (mpure (.int 0)) fun y => mlift (gIx x y))) fun ds => mpure (.list ds)) fun x => mbind (mpure []) fun xs => mpure (x :: xs))) fun d r => some (.rt false d r))))
def g_is_rules : FM := mBody [] 1 2 m_is_rules
theorem F_is_rules {P : Program} {w : World} {K : PySem.W.Frag} {mg : Str → Option Value} {base : Heap} {as : Nat → Addr} (G : Gd K mg as) (F_ascends : Fn P w K mg base (fun c => .ref (as c)) "ascends" S_ascends 1 ["things"] g_ascends) (F_is_lot : Fn P w K mg base (fun c => .ref (as c)) "is_lot" S_is_lot 4 ["thing"] g_is_lot) (F_is_name : Fn P w K mg base (fun c => .ref (as c)) "is_name" S_is_name 1 ["thing"] g_is_name) (F_is_tuple_of : Fn P w K mg base (fun c => .ref (as c)) "is_tuple_of" S_is_tuple_of 1 ["many", "thing"] g_is_tuple_of) (T : Tx K mg "is_rules" S_is_rules ["thing"]) : Fn P w K mg base (fun c => .ref (as c)) "is_rules" S_is_rules 5 ["thing"] g_is_rules :=
  fn_mk (P := P) (w := w) (K := K) (mg := mg) (base := base) (C := fun c => .ref (as c)) (N := N_is_rules) (k := 4) (PI := []) (m := m_is_rules) T sc_is_rules (by decide) (fun f cdv A outer s H E hr => by
    have hu := huE hr
    have hv := hvE hr
    have tk := tkE (P := P) (w := w) (K := K) (mg := mg) (base := base) (N := N_is_rules) (x := "is_rules") (S := S_is_rules) (f := f) (cdv := cdv) (A := A) (outer := outer) (s := s) (H := H) (E := E)
    have hp := hpE (P := P) (w := w) (K := K) (mg := mg) (base := base) (N := N_is_rules) (x := "is_rules") (S := S_is_rules) (f := f) (cdv := cdv) (A := A) (outer := outer) (s := s) (H := H) (E := E)
    exact ⟨_, (pss_cons (ps_if (pt_not (pt_val (pe_callB call_isi (by rfl) G.m_isinstance boot_isinstance (pa_cons (pv 0) (pa_cons (pe_ty .tup (by rfl) G.m_tuple boot_tuple) pa_nil))))) (pss_one (ps_ret pe_bl)) pss_nil) (pss_cons (ps_if (pt_not (pt_val (pe_callB (cd_all (by rfl)) (by rfl) G.m_all boot_all (pa_cons (pe_lc (own := [("own", 1)]) rfl nd_is_rules (pi_any (pv 0)) (blkOk_by (by (first | decide +kernel | rfl | kernel_rfl))) (fun _ _ _ _ _ => (pg_name (i := 1) nd_is_rules rfl (by first | exact .inl rfl | exact .inr rfl))) (fun _ _ _ _ _ => pts_nil) (fun _ _ _ _ _ => (pe_and (pe_fn F_is_tuple_of hr (by omega) takes0 (by rfl) (pa_cons pe_int (pa_cons (pv 1) pa_nil))) (pe_and (pe_fn F_is_name hr (by omega) takes0 (by rfl) (pa_cons (pe_ix ixd (pv 1) pe_int (fun _ _ => rfl)) pa_nil)) (pe_one (pe_fn F_is_lot hr (by omega) takes0 (by rfl) (pa_cons (pe_ix ixd (pv 1) pe_int (fun _ _ => rfl)) pa_nil))))))) pa_nil)))) (pss_one (ps_ret pe_bl)) pss_nil) (pss_one (ps_ret (pe_fn F_ascends hr (by omega) tk (by rfl) (pa_cons (pe_lc (own := [("own", 1)]) rfl nd_is_rules (pi_any (pv 0)) (blkOk_by (by (first | decide +kernel | rfl | kernel_rfl))) (fun _ _ _ _ _ => (pg_name (i := 1) nd_is_rules rfl (by first | exact .inl rfl | exact .inr rfl))) (fun _ _ _ _ _ => pts_nil) (fun _ _ _ _ _ => (pe_ix ixd (pv 1) pe_int (fun _ _ => rfl)))) pa_nil)))))),
      (rs_seq (rs_if (rt_not (rt_B (rd_isi .tup (rd_var 0)))) (rs_ret (rd_c fun _ => .bl _)) rs_nil) (rs_seq (rs_if (rt_not (rt_B (rd_cb (ra_cons (rd_of_f (rf_lc (ri_any (rl_var 0)) (tg_name 1) (by decide) rt_yes (rd_and (rd_call (ra_cons (rd_c fun _ => .int _) (ra_cons (rd_var 1) ra_nil))) (rd_and (rd_call (ra_cons (rd_op (rd_var 1) (rd_c fun _ => .int _)) ra_nil)) (rd_call (ra_cons (rd_op (rd_var 1) (rd_c fun _ => .int _)) ra_nil)))))) ra_nil)))) (rs_ret (rd_c fun _ => .bl _)) rs_nil) (rs_ret (rd_call (ra_cons (rd_of_f (rf_lc (ri_any (rl_var 0)) (tg_name 1) (by decide) rt_yes (rd_op (rd_var 1) (rd_c fun _ => .int _)))) ra_nil)))))⟩)
/-! is_row -/
abbrev S_is_row : Stmt := topS 23
abbrev N_is_row : List Str := ["thing"]
theorem sc_is_row : FnScope N_is_row ["thing"] (defScope S_is_row) := ⟨rfl, rfl, rfl, by decide +kernel, rfl, by decide +kernel, by decide +kernel⟩
theorem nd_is_row : (N_is_row).Nodup := by decide +kernel
def m_is_row : MS := (mseq (sbind (mbind (mbind (mbind (fCall 2 g_is_tuple_of (mbind (mpure (.int 3)) fun x => mbind (mbind (fName 0) fun x => mbind (mpure []) fun xs => mpure (x :: xs)) fun xs => mpure (x :: xs))) fun d => mlift (asB d)) fun b => mpure (!b)) fun b => if b then mpure true else (mbind (mbind (mbind (fCall 2 g_is_number_from (mbind (mpure (.int 0)) fun x => mbind (mbind (mbind (fName 0) fun x => mbind (mpure (.int 0)) fun y => mlift (gIx x y)) fun x => mbind (mpure []) fun xs => mpure (x :: xs)) fun xs => mpure (x :: xs))) fun d => mlift (asB d)) fun b => mpure (!b)) fun b => if b then mpure true else (mbind (mbind (fCall 1 g_is_wish (mbind (mbind (fName 0) fun x => mbind (mpure (.int 1)) fun y => mlift (gIx x y)) fun x => mbind (mpure []) fun xs => mpure (x :: xs))) fun d => mlift (asB d)) fun b => mpure (!b)))) fun b => if b then (sbind (mpure (.bool false)) fun d r => some (.rt false d r)) else (fun r => some (.nx r))) (sbind (mbind (mbind (mbind (fName 0) fun x => mbind (mpure (.int 2)) fun y => mlift (gIx x y)) fun x => mbind (mpure .none) fun y => mlift (gIs x y)) fun d => mbind (mlift (asB d)) fun b => if b then mpure (.bool true) else (fCall 1 g_is_lock (mbind (mbind (fName 0) fun x => mbind (mpure (.int 2)) fun y => mlift (gIx x y)) fun x => mbind (mpure []) fun xs => mpure (x :: xs)))) fun d r => some (.rt false d r)))
def g_is_row : FM := mBody [] 1 1 m_is_row
theorem F_is_row {P : Program} {w : World} {K : PySem.W.Frag} {mg : Str → Option Value} {base : Heap} {as : Nat → Addr} (G : Gd K mg as) (F_is_lock : Fn P w K mg base (fun c => .ref (as c)) "is_lock" S_is_lock 4 ["thing"] g_is_lock) (F_is_number_from : Fn P w K mg base (fun c => .ref (as c)) "is_number_from" S_is_number_from 2 ["least", "thing"] g_is_number_from) (F_is_tuple_of : Fn P w K mg base (fun c => .ref (as c)) "is_tuple_of" S_is_tuple_of 1 ["many", "thing"] g_is_tuple_of) (F_is_wish : Fn P w K mg base (fun c => .ref (as c)) "is_wish" S_is_wish 4 ["thing"] g_is_wish) (T : Tx K mg "is_row" S_is_row ["thing"]) : Fn P w K mg base (fun c => .ref (as c)) "is_row" S_is_row 5 ["thing"] g_is_row :=
  fn_mk (P := P) (w := w) (K := K) (mg := mg) (base := base) (C := fun c => .ref (as c)) (N := N_is_row) (k := 4) (PI := []) (m := m_is_row) T sc_is_row (by decide) (fun f cdv A outer s H E hr => by
    have hu := huE hr
    have hv := hvE hr
    have tk := tkE (P := P) (w := w) (K := K) (mg := mg) (base := base) (N := N_is_row) (x := "is_row") (S := S_is_row) (f := f) (cdv := cdv) (A := A) (outer := outer) (s := s) (H := H) (E := E)
    have hp := hpE (P := P) (w := w) (K := K) (mg := mg) (base := base) (N := N_is_row) (x := "is_row") (S := S_is_row) (f := f) (cdv := cdv) (A := A) (outer := outer) (s := s) (H := H) (E := E)
    exact ⟨_, (pss_cons (ps_if (pw_or (pt_not (pt_val (pe_fn F_is_tuple_of hr (by omega) tk (by rfl) (pa_cons pe_int (pa_cons (pv 0) pa_nil))))) (pw_or (pt_not (pt_val (pe_fn F_is_number_from hr (by omega) tk (by rfl) (pa_cons pe_int (pa_cons (pe_ix ixd (pv 0) pe_int (fun _ _ => rfl)) pa_nil))))) (pw_or1 (pt_not (pt_val (pe_fn F_is_wish hr (by omega) tk (by rfl) (pa_cons (pe_ix ixd (pv 0) pe_int (fun _ _ => rfl)) pa_nil))))))).pt (pss_one (ps_ret pe_bl)) pss_nil) (pss_one (ps_ret (pe_or (pe_cmpR opd_is (pe_ix ixd (pv 0) pe_int (fun _ _ => rfl)) pe_non (nomark _)) (pe_one (pe_fn F_is_lock hr (by omega) tk (by rfl) (pa_cons (pe_ix ixd (pv 0) pe_int (fun _ _ => rfl)) pa_nil))))))),
      (rs_seq (rs_if (rt_or (rt_not (rt_B (rd_call (ra_cons (rd_c fun _ => .int _) (ra_cons (rd_var 0) ra_nil))))) (rt_or (rt_not (rt_B (rd_call (ra_cons (rd_c fun _ => .int _) (ra_cons (rd_op (rd_var 0) (rd_c fun _ => .int _)) ra_nil))))) (rt_not (rt_B (rd_call (ra_cons (rd_op (rd_var 0) (rd_c fun _ => .int _)) ra_nil)))))) (rs_ret (rd_c fun _ => .bl _)) rs_nil) (rs_ret (rd_or (rd_op (rd_op (rd_var 0) (rd_c fun _ => .int _)) (rd_c fun _ => .non)) (rd_call (ra_cons (rd_op (rd_var 0) (rd_c fun _ => .int _)) ra_nil)))))⟩)
/-! row_in -/
abbrev S_row_in : Stmt := topS 36
abbrev N_row_in : List Str := ["words", "at"]
theorem sc_row_in : FnScope N_row_in ["words"] (defScope S_row_in) := ⟨rfl, rfl, rfl, by decide +kernel, rfl, by decide +kernel, by decide +kernel⟩
theorem nd_row_in : (N_row_in).Nodup := by decide +kernel
def m_row_in : MS := (mseq (sbind (mbind (mbind (mpure (.str "->")) fun x => mbind (fName 0) fun y => mlift ((gIn true) x y)) fun d => mlift (asB d)) fun b => if b then (sbind (mpure .none) fun d r => some (.rt false d r)) else (fun r => some (.nx r))) (mseq (sbind (mbind (fName 0) fun x => if isLst x then mbind (mbind (mpure (.str "->")) fun x => mbind (mpure []) fun xs => mpure (x :: xs)) fun ds => mlift (gIndex x ds) else fun _ => none) fun d r => (tfName 1 d r).map .nx) (sbind (mbind (mbind (fCall 1 g_number_in (mbind (mbind (fName 0) fun x => mbind (mpure (.int 0)) fun y => mlift (gIx x y)) fun x => mbind (mpure []) fun xs => mpure (x :: xs))) fun x => mbind (mbind (fCall 1 g_wish_in (mbind (fSl (fName 0) (mbind (mpure (.int 1)) fun d => mlift (asI d)) (mbind (fName 1) fun d => mlift (asI d))) fun x => mbind (mpure []) fun xs => mpure (x :: xs))) fun x => mbind (mbind (fCall 1 g_answer_in (mbind (fSl (fName 0) (mbind (mbind (fName 1) fun x => mbind (mpure (.int 1)) fun y => mlift (gAdd x y)) fun d => mlift (asI d)) (mpure none)) fun x => mbind (mpure []) fun xs => mpure (x :: xs))) fun x => mbind (mpure []) fun xs => mpure (x :: xs)) fun xs => mpure (x :: xs)) fun xs => mpure (x :: xs)) fun ds => mlift (if szOk ds.length then some (.tuple ds) else none)) fun d r => some (.rt false d r))))
def g_row_in : FM := mBody [] 1 2 m_row_in
theorem F_row_in {P : Program} {w : World} {K : PySem.W.Frag} {mg : Str → Option Value} {base : Heap} {as : Nat → Addr} (G : Gd K mg as) (F_answer_in : Fn P w K mg base (fun c => .ref (as c)) "answer_in" S_answer_in 4 ["words"] g_answer_in) (F_number_in : Fn P w K mg base (fun c => .ref (as c)) "number_in" S_number_in 1 ["word"] g_number_in) (F_wish_in : Fn P w K mg base (fun c => .ref (as c)) "wish_in" S_wish_in 3 ["words"] g_wish_in) (T : Tx K mg "row_in" S_row_in ["words"]) : Fn P w K mg base (fun c => .ref (as c)) "row_in" S_row_in 5 ["words"] g_row_in :=
  fn_mk (P := P) (w := w) (K := K) (mg := mg) (base := base) (C := fun c => .ref (as c)) (N := N_row_in) (k := 4) (PI := []) (m := m_row_in) T sc_row_in (by decide) (fun f cdv A outer s H E hr => by
    have hu := huE hr
    have hv := hvE hr
    have tk := tkE (P := P) (w := w) (K := K) (mg := mg) (base := base) (N := N_row_in) (x := "row_in") (S := S_row_in) (f := f) (cdv := cdv) (A := A) (outer := outer) (s := s) (H := H) (E := E)
    have hp := hpE (P := P) (w := w) (K := K) (mg := mg) (base := base) (N := N_row_in) (x := "row_in") (S := S_row_in) (f := f) (cdv := cdv) (A := A) (outer := outer) (s := s) (H := H) (E := E)
    exact ⟨_, (pss_cons (ps_if (pt_cmpR (opd_notin hv) pe_str (pv 0) (by rfl)) (pss_one (ps_ret pe_non)) pss_nil) (pss_cons (ps_set (i := 1) nd_row_in rfl (by first | exact .inl rfl | exact .inr rfl) (pe_bm PySem.F.plainAttrs_list PySem.F.slot_list_index PySem.F.type_list_index (mt_idx hv) (pv 0) (pa_cons pe_str pa_nil))) (pss_one (ps_ret (pe_tupN (pa_cons (pe_fn F_number_in hr (by omega) tk (by rfl) (pa_cons (pe_ix ixd (pv 0) pe_int (fun _ _ => rfl)) pa_nil)) (pa_cons (pe_fn F_wish_in hr (by omega) tk (by rfl) (pa_cons (pe_slice sld (pv 0) (po_some pe_int) (po_some (pv 1))) pa_nil)) (pa_cons (pe_fn F_answer_in hr (by omega) tk (by rfl) (pa_cons (pe_slice sld (pv 0) (po_some (pe_op opd_add (pv 1) pe_int)) po_none) pa_nil)) pa_nil)))))))),
      (rs_seq (rs_if (rt_test (rd_op (rd_c fun _ => .str _) (rd_var 0))) (rs_ret (rd_c fun _ => .non)) rs_nil) (rs_seq (rs_asg (rd_idx (rd_var 0) (ra_cons (rd_c fun _ => .str _) ra_nil)) (tg_name 1) (by decide)) (rs_ret (rd_tup (ra_cons (rd_call (ra_cons (rd_op (rd_var 0) (rd_c fun _ => .int _)) ra_nil)) (ra_cons (rd_call (ra_cons (rd_sl (rd_var 0) (ro_some (rd_c fun _ => .int _)) (ro_some (rd_var 1))) ra_nil)) (ra_cons (rd_call (ra_cons (rd_sl (rd_var 0) (ro_some (rd_op (rd_var 1) (rd_c fun _ => .int _))) ro_none) ra_nil)) ra_nil)))))))⟩)
/-! read_lock -/
abbrev S_read_lock : Stmt := topS 43
abbrev N_read_lock : List Str := ["text", "lock"]
theorem sc_read_lock : FnScope N_read_lock ["text"] (defScope S_read_lock) := ⟨rfl, rfl, rfl, by decide +kernel, rfl, by decide +kernel, by decide +kernel⟩
theorem nd_read_lock : (N_read_lock).Nodup := by decide +kernel
def m_read_lock : MS := (mseq (sbind (fCall 1 g_lock_in (mbind (fCall 2 g__words_behind (mbind (mpure (.str "lock")) fun x => mbind (mbind (fName 0) fun x => mbind (mpure []) fun xs => mpure (x :: xs)) fun xs => mpure (x :: xs))) fun x => mbind (mpure []) fun xs => mpure (x :: xs))) fun d r => (tfName 1 d r).map .nx) (mseq (sbind (fCall 2 g__check_only_line (mbind (fName 0) fun x => mbind (mbind (fCall 1 g_is_lock (mbind (fName 1) fun x => mbind (mpure []) fun xs => mpure (x :: xs))) fun x => mbind (mpure []) fun xs => mpure (x :: xs)) fun xs => mpure (x :: xs))) fun _ r => some (.nx r)) (sbind (fName 1) fun d r => some (.rt false d r))))
def g_read_lock : FM := mBody [] 1 2 m_read_lock
theorem F_read_lock {P : Program} {w : World} {K : PySem.W.Frag} {mg : Str → Option Value} {base : Heap} {as : Nat → Addr} (G : Gd K mg as) (F__check_only_line : Fn P w K mg base (fun c => .ref (as c)) "_check_only_line" S__check_only_line 3 ["text", "fit"] g__check_only_line) (F__words_behind : Fn P w K mg base (fun c => .ref (as c)) "_words_behind" S__words_behind 3 ["word", "text"] g__words_behind) (F_is_lock : Fn P w K mg base (fun c => .ref (as c)) "is_lock" S_is_lock 4 ["thing"] g_is_lock) (F_lock_in : Fn P w K mg base (fun c => .ref (as c)) "lock_in" S_lock_in 3 ["words"] g_lock_in) (T : Tx K mg "read_lock" S_read_lock ["text"]) : Fn P w K mg base (fun c => .ref (as c)) "read_lock" S_read_lock 5 ["text"] g_read_lock :=
  fn_mk (P := P) (w := w) (K := K) (mg := mg) (base := base) (C := fun c => .ref (as c)) (N := N_read_lock) (k := 4) (PI := []) (m := m_read_lock) T sc_read_lock (by decide) (fun f cdv A outer s H E hr => by
    have hu := huE hr
    have hv := hvE hr
    have tk := tkE (P := P) (w := w) (K := K) (mg := mg) (base := base) (N := N_read_lock) (x := "read_lock") (S := S_read_lock) (f := f) (cdv := cdv) (A := A) (outer := outer) (s := s) (H := H) (E := E)
    have hp := hpE (P := P) (w := w) (K := K) (mg := mg) (base := base) (N := N_read_lock) (x := "read_lock") (S := S_read_lock) (f := f) (cdv := cdv) (A := A) (outer := outer) (s := s) (H := H) (E := E)
    exact ⟨_, (pss_cons (ps_set (i := 1) nd_read_lock rfl (by first | exact .inl rfl | exact .inr rfl) (pe_fn F_lock_in hr (by omega) tk (by rfl) (pa_cons (pe_fn F__words_behind hr (by omega) tk (by rfl) (pa_cons pe_str (pa_cons (pv 0) pa_nil))) pa_nil))) (pss_cons (ps_expr (pe_fn F__check_only_line hr (by omega) tk (by rfl) (pa_cons (pv 0) (pa_cons (pe_fn F_is_lock hr (by omega) tk (by rfl) (pa_cons (pv 1) pa_nil)) pa_nil)))) (pss_one (ps_ret (pv 1))))),
      (rs_seq (rs_asg (rd_call (ra_cons (rd_call (ra_cons (rd_c fun _ => .str _) (ra_cons (rd_var 0) ra_nil))) ra_nil)) (tg_name 1) (by decide)) (rs_seq (rs_drop (rd_call (ra_cons (rd_var 0) (ra_cons (rd_call (ra_cons (rd_var 1) ra_nil)) ra_nil)))) (rs_ret (rd_var 1))))⟩)
/-! read_wish -/
abbrev S_read_wish : Stmt := topS 44
abbrev N_read_wish : List Str := ["text", "wish"]
theorem sc_read_wish : FnScope N_read_wish ["text"] (defScope S_read_wish) := ⟨rfl, rfl, rfl, by decide +kernel, rfl, by decide +kernel, by decide +kernel⟩
theorem nd_read_wish : (N_read_wish).Nodup := by decide +kernel
def m_read_wish : MS := (mseq (sbind (fCall 1 g_wish_in (mbind (fCall 2 g__words_behind (mbind (mpure (.str "wish")) fun x => mbind (mbind (fName 0) fun x => mbind (mpure []) fun xs => mpure (x :: xs)) fun xs => mpure (x :: xs))) fun x => mbind (mpure []) fun xs => mpure (x :: xs))) fun d r => (tfName 1 d r).map .nx) (mseq (sbind (fCall 2 g__check_only_line (mbind (fName 0) fun x => mbind (mbind (fCall 1 g_is_wish (mbind (fName 1) fun x => mbind (mpure []) fun xs => mpure (x :: xs))) fun x => mbind (mpure []) fun xs => mpure (x :: xs)) fun xs => mpure (x :: xs))) fun _ r => some (.nx r)) (sbind (fName 1) fun d r => some (.rt false d r))))
def g_read_wish : FM := mBody [] 1 2 m_read_wish
theorem F_read_wish {P : Program} {w : World} {K : PySem.W.Frag} {mg : Str → Option Value} {base : Heap} {as : Nat → Addr} (G : Gd K mg as) (F__check_only_line : Fn P w K mg base (fun c => .ref (as c)) "_check_only_line" S__check_only_line 3 ["text", "fit"] g__check_only_line) (F__words_behind : Fn P w K mg base (fun c => .ref (as c)) "_words_behind" S__words_behind 3 ["word", "text"] g__words_behind) (F_is_wish : Fn P w K mg base (fun c => .ref (as c)) "is_wish" S_is_wish 4 ["thing"] g_is_wish) (F_wish_in : Fn P w K mg base (fun c => .ref (as c)) "wish_in" S_wish_in 3 ["words"] g_wish_in) (T : Tx K mg "read_wish" S_read_wish ["text"]) : Fn P w K mg base (fun c => .ref (as c)) "read_wish" S_read_wish 5 ["text"] g_read_wish :=
  fn_mk (P := P) (w := w) (K := K) (mg := mg) (base := base) (C := fun c => .ref (as c)) (N := N_read_wish) (k := 4) (PI := []) (m := m_read_wish) T sc_read_wish (by decide) (fun f cdv A outer s H E hr => by
    have hu := huE hr
    have hv := hvE hr
    have tk := tkE (P := P) (w := w) (K := K) (mg := mg) (base := base) (N := N_read_wish) (x := "read_wish") (S := S_read_wish) (f := f) (cdv := cdv) (A := A) (outer := outer) (s := s) (H := H) (E := E)
    have hp := hpE (P := P) (w := w) (K := K) (mg := mg) (base := base) (N := N_read_wish) (x := "read_wish") (S := S_read_wish) (f := f) (cdv := cdv) (A := A) (outer := outer) (s := s) (H := H) (E := E)
    exact ⟨_, (pss_cons (ps_set (i := 1) nd_read_wish rfl (by first | exact .inl rfl | exact .inr rfl) (pe_fn F_wish_in hr (by omega) tk (by rfl) (pa_cons (pe_fn F__words_behind hr (by omega) tk (by rfl) (pa_cons pe_str (pa_cons (pv 0) pa_nil))) pa_nil))) (pss_cons (ps_expr (pe_fn F__check_only_line hr (by omega) tk (by rfl) (pa_cons (pv 0) (pa_cons (pe_fn F_is_wish hr (by omega) tk (by rfl) (pa_cons (pv 1) pa_nil)) pa_nil)))) (pss_one (ps_ret (pv 1))))),
      (rs_seq (rs_asg (rd_call (ra_cons (rd_call (ra_cons (rd_c fun _ => .str _) (ra_cons (rd_var 0) ra_nil))) ra_nil)) (tg_name 1) (by decide)) (rs_seq (rs_drop (rd_call (ra_cons (rd_var 0) (ra_cons (rd_call (ra_cons (rd_var 1) ra_nil)) ra_nil)))) (rs_ret (rd_var 1))))⟩)
/-! read_telling -/
abbrev S_read_telling : Stmt := topS 45
abbrev N_read_telling : List Str := ["text", "rows", "at", "line", "words", "row"]
theorem sc_read_telling : FnScope N_read_telling ["text"] (defScope S_read_telling) := ⟨rfl, rfl, rfl, by decide +kernel, rfl, by decide +kernel, by decide +kernel⟩
theorem nd_read_telling : (N_read_telling).Nodup := by decide +kernel
def m_read_telling : MS := (mseq (sbind (mbind (mpure []) fun ds => mlift (if szOk ds.length then some ds else none)) fun ds r => some (.nx (r.set 1 (.mu (.list ds))))) (mseq (fFor (fEnum (mbind (fCall 1 g_lines_of (mbind (fName 0) fun x => mbind (mpure []) fun xs => mpure (x :: xs))) fun d => mlift (if iterable d then some (d, []) else none))) (tfSq 2 (tfCons (tfName 2) (tfCons (tfName 3) tfNil))) (mseq (sbind (mbind (fStF (fName 3) (mpure (.str " ")) gSplit) fun ds => mpure (.list ds)) fun d r => (tfName 4 d r).map .nx) (mseq (sbind (fCall 1 g_row_in (mbind (fSl (fName 4) (mbind (mpure (.int 1)) fun d => mlift (asI d)) (mpure none)) fun x => mbind (mpure []) fun xs => mpure (x :: xs))) fun d r => (tfName 5 d r).map .nx) (mseq (sbind (mbind (mbind (mbind (mbind (fName 4) fun x => mbind (mpure (.int 0)) fun y => mlift (gIx x y)) fun x => mbind (mpure (.str "row")) fun y => mlift (gNe x y)) fun d => mlift (asB d)) fun b => if b then mpure true else (mbind (mbind (fCall 1 g_is_row (mbind (fName 5) fun x => mbind (mpure []) fun xs => mpure (x :: xs))) fun d => mlift (asB d)) fun b => mpure (!b))) fun b => if b then (sbind (fName 2) fun d r => some (.ex (0, [("line", d)]) r)) else (fun r => some (.nx r))) (sbind (fMu 1 (mbind (fName 5) fun x => mbind (mpure []) fun xs => mpure (x :: xs)) gApp) fun _ r => some (.nx r)))))) (sbind (mbind (mbind (fName 1) fun x => mbind (mpure []) fun xs => mpure (x :: xs)) fun x => mlift ((g1 gTup) x)) fun d r => some (.rt false d r))))
def g_read_telling : FM := mBody [] 1 6 m_read_telling
theorem F_read_telling {P : Program} {w : World} {K : PySem.W.Frag} {mg : Str → Option Value} {base : Heap} {as : Nat → Addr} (G : Gd K mg as) (F_is_row : Fn P w K mg base (fun c => .ref (as c)) "is_row" S_is_row 5 ["thing"] g_is_row) (F_lines_of : Fn P w K mg base (fun c => .ref (as c)) "lines_of" S_lines_of 1 ["text"] g_lines_of) (F_row_in : Fn P w K mg base (fun c => .ref (as c)) "row_in" S_row_in 5 ["words"] g_row_in) (F_BadText : InitOk P w K mg base (as 0) "line") (T : Tx K mg "read_telling" S_read_telling ["text"]) : Fn P w K mg base (fun c => .ref (as c)) "read_telling" S_read_telling 6 ["text"] g_read_telling :=
  fn_mk (P := P) (w := w) (K := K) (mg := mg) (base := base) (C := fun c => .ref (as c)) (N := N_read_telling) (k := 5) (PI := []) (m := m_read_telling) T sc_read_telling (by decide) (fun f cdv A outer s H E hr => by
    have hu := huE hr
    have hv := hvE hr
    have tk := tkE (P := P) (w := w) (K := K) (mg := mg) (base := base) (N := N_read_telling) (x := "read_telling") (S := S_read_telling) (f := f) (cdv := cdv) (A := A) (outer := outer) (s := s) (H := H) (E := E)
    have hp := hpE (P := P) (w := w) (K := K) (mg := mg) (base := base) (N := N_read_telling) (x := "read_telling") (S := S_read_telling) (f := f) (cdv := cdv) (A := A) (outer := outer) (s := s) (H := H) (E := E)
    exact ⟨_, (pss_cons (ps_set (i := 1) nd_read_telling rfl (by first | exact .inl rfl | exact .inr rfl) (pe_lst pa_nil)) (pss_cons (ps_for hp rfl (pi_enum (by rfl) G.m_enumerate (pa_cons (pe_fn F_lines_of hr (by omega) tk (by rfl) (pa_cons (pv 0) pa_nil)) pa_nil)) (pg_sq rfl (pgs_cons (pg_name (i := 2) nd_read_telling rfl (by first | exact .inl rfl | exact .inr rfl)) (pgs_cons (pg_name (i := 3) nd_read_telling rfl (by first | exact .inl rfl | exact .inr rfl)) pgs_nil))) (pss_cons (ps_set (i := 4) nd_read_telling rfl (by first | exact .inl rfl | exact .inr rfl) (pe_m1 PySem.F.slot_str_split PySem.F.type_str_split ms_split (pv 3) pe_str)) (pss_cons (ps_set (i := 5) nd_read_telling rfl (by first | exact .inl rfl | exact .inr rfl) (pe_fn F_row_in hr (by omega) tk (by rfl) (pa_cons (pe_slice sld (pv 4) (po_some pe_int) po_none) pa_nil))) (pss_cons (ps_if (pw_or (pt_cmpR (opd_ne hu) (pe_ix ixd (pv 4) pe_int (fun _ _ => rfl)) pe_str (nomark _)) (pw_or1 (pt_not (pt_val (pe_fn F_is_row hr (by omega) tk (by rfl) (pa_cons (pv 5) pa_nil)))))).pt (pss_one (ps_raise1 (B := "ValueError") (f := "line") G.x_BadText F_BadText hr (by omega) rfl tk (by rfl) (pv 2))) pss_nil) (pss_one (ps_expr (pe_bm PySem.F.plainAttrs_list PySem.F.slot_list_append PySem.F.type_list_append mt_append (pv 1) (pa_cons (pv 5) pa_nil)))))))) (pss_one (ps_ret (pe_callTy cd_tuple (by rfl) G.m_tuple boot_tuple (pa_cons (pv 1) pa_nil)))))),
      (rs_seq (rs_setM (rf_lst ra_nil) (by decide)) (rs_seq (rs_for (ri_enum (rl_of (rd_call (ra_cons (rd_var 0) ra_nil)))) (tg_sq (tgs_cons (tg_name 2) (tgs_cons (tg_name 3) tgs_nil))) (by decide) (rs_seq (rs_asg (rd_of_f (rf_st1 (rd_var 3) (rd_c fun _ => .str _))) (tg_name 4) (by decide)) (rs_seq (rs_asg (rd_call (ra_cons (rd_sl (rd_var 4) (ro_some (rd_c fun _ => .int _)) ro_none) ra_nil)) (tg_name 5) (by decide)) (rs_seq (rs_if (rt_or (rt_test (rd_op (rd_op (rd_var 4) (rd_c fun _ => .int _)) (rd_c fun _ => .str _))) (rt_not (rt_B (rd_call (ra_cons (rd_var 5) ra_nil))))) (rs_raise1 (c := 0) (f := "line") G.c_BadText (rd_var 2)) rs_nil) (rs_drop (rd_app (ra_cons (rd_var 5) ra_nil))))))) (rs_ret (rd_cb (ra_cons (rd_var 1) ra_nil)))))⟩)
/-! frozen -/
abbrev S_frozen : Stmt := topS 3
abbrev N_frozen : List Str := ["value", "part"]
theorem sc_frozen : FnScope N_frozen ["value"] (defScope S_frozen) := ⟨rfl, rfl, rfl, by decide +kernel, rfl, by decide +kernel, by decide +kernel⟩
theorem nd_frozen : (N_frozen).Nodup := by decide +kernel
def m_frozen (g : FM) : MS := (mseq (sbind (mbind (mbind (fName 0) fun d => mpure (.bool (isAny [.lst, .tup] d))) fun d => mlift (asB d)) fun b => if b then (sbind (mbind (mbind (mbind (fComp (fAny (fLock 0)) (tfName 1) [1] (mpure true) (fCall 1 g (mbind (fName 1) fun x => mbind (mpure []) fun xs => mpure (x :: xs)))) fun ds => mpure (.list ds)) fun x => mbind (mpure []) fun xs => mpure (x :: xs)) fun x => mlift ((g1 gTup) x)) fun d r => some (.rt false d r)) else (fun r => some (.nx r))) (sbind (fName 0) fun d r => some (.rt false d r)))
def g_frozen : Nat → FM := mRec m_frozen [] 1 2
theorem F_frozen {P : Program} {w : World} {K : PySem.W.Frag} {mg : Str → Option Value} {base : Heap} {as : Nat → Addr} (G : Gd K mg as)  (T : Tx K mg "frozen" S_frozen ["value"]) : Fn P w K mg base (fun c => .ref (as c)) "frozen" S_frozen 10 ["value"] (g_frozen 10) :=
  fn_rec (P := P) (w := w) (K := K) (mg := mg) (base := base) (C := fun c => .ref (as c)) (N := N_frozen) (k := 0) (PI := []) (m := m_frozen) T sc_frozen (by decide) (fun j g Fr f cdv A outer s H E hr => by
    have hu := huE hr
    have hv := hvE hr
    have tk := tkE (P := P) (w := w) (K := K) (mg := mg) (base := base) (N := N_frozen) (x := "frozen") (S := S_frozen) (f := f) (cdv := cdv) (A := A) (outer := outer) (s := s) (H := H) (E := E)
    have hp := hpE (P := P) (w := w) (K := K) (mg := mg) (base := base) (N := N_frozen) (x := "frozen") (S := S_frozen) (f := f) (cdv := cdv) (A := A) (outer := outer) (s := s) (H := H) (E := E)
    exact ⟨_, (pss_cons (ps_if (pt_val (pe_callB call_isiT (by rfl) G.m_isinstance boot_isinstance (pa_cons (pv 0) (pa_cons (pe_tup (pa_cons (pe_ty .lst (by rfl) G.m_list boot_list) (pa_cons (pe_ty .tup (by rfl) G.m_tuple boot_tuple) pa_nil))) pa_nil)))) (pss_one (ps_ret (pe_callTy cd_tuple (by rfl) G.m_tuple boot_tuple (pa_cons (pe_lc (own := [("part", 1)]) rfl nd_frozen (pi_any (pv 0)) (blkOk_by (by (first | decide +kernel | rfl | kernel_rfl))) (fun _ _ _ _ _ => (pg_name (i := 1) nd_frozen rfl (by first | exact .inl rfl | exact .inr rfl))) (fun _ _ _ _ _ => pts_nil) (fun _ _ _ _ _ => (pe_fn Fr hr (by omega) takes0 (by rfl) (pa_cons (pv 1) pa_nil)))) pa_nil)))) pss_nil) (pss_one (ps_ret (pv 0)))),
      (rs_seq (rs_if (rt_B (rd_isiT [.lst, .tup] (by decide) (rd_var 0))) (rs_ret (rd_cb (ra_cons (rd_of_f (rf_lc (ri_any (rl_var 0)) (tg_name 1) (by decide) rt_yes (rd_call (ra_cons (rd_var 1) ra_nil)))) ra_nil))) rs_nil) (rs_ret (rd_var 0)))⟩) 10
/-! _law_lists -/
abbrev S__law_lists : Stmt := topS 50
abbrev N__law_lists : List Str := ["matter", "bit"]
theorem sc__law_lists : FnScope N__law_lists ["matter"] (defScope S__law_lists) := ⟨rfl, rfl, rfl, by decide +kernel, rfl, by decide +kernel, by decide +kernel⟩
theorem nd__law_lists : (N__law_lists).Nodup := by decide +kernel
def m__law_lists (g : FM) : MS := (sbind (mbind (mbind (mbind (fName 0) fun d => mpure (.bool (isAny [.lst, .tup] d))) fun d => mlift (asB d)) fun b => if b then (mbind (fComp (fAny (fLock 0)) (tfName 1) [1] (mpure true) (fCall 1 g (mbind (fName 1) fun x => mbind (mpure []) fun xs => mpure (x :: xs)))) fun ds => mpure (.list ds)) else (fName 0)) fun d r => some (.rt false d r))
def g__law_lists : Nat → FM := mRec m__law_lists [] 1 2
theorem F__law_lists {P : Program} {w : World} {K : PySem.W.Frag} {mg : Str → Option Value} {base : Heap} {as : Nat → Addr} (G : Gd K mg as)  (T : Tx K mg "_law_lists" S__law_lists ["matter"]) : Fn P w K mg base (fun c => .ref (as c)) "_law_lists" S__law_lists 10 ["matter"] (g__law_lists 10) :=
  fn_rec (P := P) (w := w) (K := K) (mg := mg) (base := base) (C := fun c => .ref (as c)) (N := N__law_lists) (k := 0) (PI := []) (m := m__law_lists) T sc__law_lists (by decide) (fun j g Fr f cdv A outer s H E hr => by
    have hu := huE hr
    have hv := hvE hr
    have tk := tkE (P := P) (w := w) (K := K) (mg := mg) (base := base) (N := N__law_lists) (x := "_law_lists") (S := S__law_lists) (f := f) (cdv := cdv) (A := A) (outer := outer) (s := s) (H := H) (E := E)
    have hp := hpE (P := P) (w := w) (K := K) (mg := mg) (base := base) (N := N__law_lists) (x := "_law_lists") (S := S__law_lists) (f := f) (cdv := cdv) (A := A) (outer := outer) (s := s) (H := H) (E := E)
    exact ⟨_, (pss_one (ps_ret (pe_ifExp (pt_val (pe_callB call_isiT (by rfl) G.m_isinstance boot_isinstance (pa_cons (pv 0) (pa_cons (pe_tup (pa_cons (pe_ty .lst (by rfl) G.m_list boot_list) (pa_cons (pe_ty .tup (by rfl) G.m_tuple boot_tuple) pa_nil))) pa_nil)))) (pe_lc (own := [("bit", 1)]) rfl nd__law_lists (pi_any (pv 0)) (blkOk_by (by (first | decide +kernel | rfl | kernel_rfl))) (fun _ _ _ _ _ => (pg_name (i := 1) nd__law_lists rfl (by first | exact .inl rfl | exact .inr rfl))) (fun _ _ _ _ _ => pts_nil) (fun _ _ _ _ _ => (pe_fn Fr hr (by omega) takes0 (by rfl) (pa_cons (pv 1) pa_nil)))) (pv 0)))),
      (rs_ret (rd_if (rt_B (rd_isiT [.lst, .tup] (by decide) (rd_var 0))) (rd_of_f (rf_lc (ri_any (rl_var 0)) (tg_name 1) (by decide) rt_yes (rd_call (ra_cons (rd_var 1) ra_nil)))) (rd_var 0)))⟩) 10
/-! _law_same -/
abbrev S__law_same : Stmt := topS 51
abbrev N__law_same : List Str := ["got", "due", "mine", "its"]
theorem sc__law_same : FnScope N__law_same ["got", "due"] (defScope S__law_same) := ⟨rfl, rfl, rfl, by decide +kernel, rfl, by decide +kernel, by decide +kernel⟩
theorem nd__law_same : (N__law_same).Nodup := by decide +kernel
def m__law_same (g : FM) : MS := (mseq (sbind (mbind (mbind (fName 1) fun d => mpure (.bool (isAny [.lst, .tup] d))) fun d => mlift (asB d)) fun b => if b then (mseq (sbind (mbind (mbind (mbind (mbind (fName 0) fun d => mpure (.bool (isA .lst d))) fun x => mbind (mbind (fName 1) fun d => mpure (.bool (isA .lst d))) fun y => mlift (gNe x y)) fun d => mlift (asB d)) fun b => if b then mpure true else (mbind (mbind (mbind (fName 0) fun d => mpure (.bool (isA .tup d))) fun x => mbind (mbind (fName 1) fun d => mpure (.bool (isA .tup d))) fun y => mlift (gNe x y)) fun d => mlift (asB d))) fun b => if b then (sbind (mpure (.bool false)) fun d r => some (.rt false d r)) else (fun r => some (.nx r))) (sbind (mbind (mbind (mbind (mbind (fName 0) fun x => mbind (mpure []) fun xs => mpure (x :: xs)) fun x => mlift ((g1 gLen) x)) fun x => mbind (mbind (mbind (fName 1) fun x => mbind (mpure []) fun xs => mpure (x :: xs)) fun x => mlift ((g1 gLen) x)) fun y => mlift (gEq x y)) fun d => mbind (mlift (asB d)) fun b => if b then (mbind (mbind (mbind (fComp (fZip (fLock 0) (fLock 1)) (tfSq 2 (tfCons (tfName 2) (tfCons (tfName 3) tfNil))) [2, 3] (mpure true) (fCall 2 g (mbind (fName 2) fun x => mbind (mbind (fName 3) fun x => mbind (mpure []) fun xs => mpure (x :: xs)) fun xs => mpure (x :: xs)))) fun ds => mpure (.list ds)) fun x => mbind (mpure []) fun xs => mpure (x :: xs)) fun x => mlift ((g1 gAll) x)) else mpure (.bool false)) fun d r => some (.rt false d r))) else (fun r => some (.nx r))) (mseq (sbind (mbind (mbind (mbind (fName 1) fun x => mbind (mpure .none) fun y => mlift (gIs x y)) fun d => mlift (asB d)) fun b => if b then mpure true else (mbind (mbind (fName 1) fun d => mpure (.bool (isAny [.bl, .str] d))) fun d => mlift (asB d))) fun b => if b then (sbind (mbind (mbind (fName 0) fun x => mbind (fName 1) fun y => mlift (gEq x y)) fun d => mbind (mlift (asB d)) fun b => if b then (mbind (mbind (mbind (fName 0) fun d => mpure (.bool (isA .bl d))) fun x => mbind (mbind (fName 1) fun d => mpure (.bool (isA .bl d))) fun y => mlift (gEq x y)) fun d => mbind (mlift (asB d)) fun b => if b then (mbind (mbind (fName 0) fun x => mbind (mpure .none) fun y => mlift (gIs x y)) fun x => mbind (mbind (fName 1) fun x => mbind (mpure .none) fun y => mlift (gIs x y)) fun y => mlift (gEq x y)) else mpure (.bool false)) else mpure (.bool false)) fun d r => some (.rt false d r)) else (fun r => some (.nx r))) (sbind (mbind (mbind (fName 0) fun d => mpure (.bool (isA .int d))) fun d => mbind (mlift (asB d)) fun b => if b then (mbind (mbind (mbind (fName 0) fun d => mpure (.bool (isA .bl d))) fun d => mlift ((asB d).map fun b => .bool (!b))) fun d => mbind (mlift (asB d)) fun b => if b then (mbind (fName 0) fun x => mbind (fName 1) fun y => mlift (gEq x y)) else mpure (.bool false)) else mpure (.bool false)) fun d r => some (.rt false d r))))
def g__law_same : Nat → FM := mRec m__law_same [] 2 4
theorem F__law_same {P : Program} {w : World} {K : PySem.W.Frag} {mg : Str → Option Value} {base : Heap} {as : Nat → Addr} (G : Gd K mg as)  (T : Tx K mg "_law_same" S__law_same ["got", "due"]) : Fn P w K mg base (fun c => .ref (as c)) "_law_same" S__law_same 10 ["got", "due"] (g__law_same 10) :=
  fn_rec (P := P) (w := w) (K := K) (mg := mg) (base := base) (C := fun c => .ref (as c)) (N := N__law_same) (k := 0) (PI := []) (m := m__law_same) T sc__law_same (by decide) (fun j g Fr f cdv A outer s H E hr => by
    have hu := huE hr
    have hv := hvE hr
    have tk := tkE (P := P) (w := w) (K := K) (mg := mg) (base := base) (N := N__law_same) (x := "_law_same") (S := S__law_same) (f := f) (cdv := cdv) (A := A) (outer := outer) (s := s) (H := H) (E := E)
    have hp := hpE (P := P) (w := w) (K := K) (mg := mg) (base := base) (N := N__law_same) (x := "_law_same") (S := S__law_same) (f := f) (cdv := cdv) (A := A) (outer := outer) (s := s) (H := H) (E := E)
    exact ⟨_, (pss_cons (ps_if (pt_val (pe_callB call_isiT (by rfl) G.m_isinstance boot_isinstance (pa_cons (pv 1) (pa_cons (pe_tup (pa_cons (pe_ty .lst (by rfl) G.m_list boot_list) (pa_cons (pe_ty .tup (by rfl) G.m_tuple boot_tuple) pa_nil))) pa_nil)))) (pss_cons (ps_if (pw_or (pt_cmpR (opd_ne hu) (pe_callB call_isi (by rfl) G.m_isinstance boot_isinstance (pa_cons (pv 0) (pa_cons (pe_ty .lst (by rfl) G.m_list boot_list) pa_nil))) (pe_callB call_isi (by rfl) G.m_isinstance boot_isinstance (pa_cons (pv 1) (pa_cons (pe_ty .lst (by rfl) G.m_list boot_list) pa_nil))) (nomark _)) (pw_or1 (pt_cmpR (opd_ne hu) (pe_callB call_isi (by rfl) G.m_isinstance boot_isinstance (pa_cons (pv 0) (pa_cons (pe_ty .tup (by rfl) G.m_tuple boot_tuple) pa_nil))) (pe_callB call_isi (by rfl) G.m_isinstance boot_isinstance (pa_cons (pv 1) (pa_cons (pe_ty .tup (by rfl) G.m_tuple boot_tuple) pa_nil))) (nomark _)))).pt (pss_one (ps_ret pe_bl)) pss_nil) (pss_one (ps_ret (pe_and (pe_cmpR (opd_eq hu) (pe_callB cd_len (by rfl) G.m_len PySem.boot_len (pa_cons (pv 0) pa_nil)) (pe_callB cd_len (by rfl) G.m_len PySem.boot_len (pa_cons (pv 1) pa_nil)) (nomark _)) (pe_one (pe_callB (cd_all (by rfl)) (by rfl) G.m_all boot_all (pa_cons (pe_lc (own := [("mine", 2), ("its", 3)]) rfl nd__law_same (pi_zipN (by rfl) G.m_zip (pa_cons (pv 0) (pa_cons (pv 1) pa_nil))) (blkOk_by (by (first | decide +kernel | rfl | kernel_rfl))) (fun _ _ _ _ _ => (pg_sq rfl (pgs_cons (pg_name (i := 2) nd__law_same rfl (by first | exact .inl rfl | exact .inr rfl)) (pgs_cons (pg_name (i := 3) nd__law_same rfl (by first | exact .inl rfl | exact .inr rfl)) pgs_nil)))) (fun _ _ _ _ _ => pts_nil) (fun _ _ _ _ _ => (pe_fn Fr hr (by omega) takes0 (by rfl) (pa_cons (pv 2) (pa_cons (pv 3) pa_nil))))) pa_nil))))))) pss_nil) (pss_cons (ps_if (pw_or (pt_cmpR opd_is (pv 1) pe_non (nomark _)) (pw_or1 (pt_val (pe_callB call_isiT (by rfl) G.m_isinstance boot_isinstance (pa_cons (pv 1) (pa_cons (pe_tup (pa_cons (pe_ty .bl (by rfl) G.m_bool boot_bool) (pa_cons (pe_ty .str (by rfl) G.m_str boot_str) pa_nil))) pa_nil)))))).pt (pss_one (ps_ret (pe_and (pe_cmpR (opd_eq hu) (pv 0) (pv 1) (nomark _)) (pe_and (pe_cmpR (opd_eq hu) (pe_callB call_isi (by rfl) G.m_isinstance boot_isinstance (pa_cons (pv 0) (pa_cons (pe_ty .bl (by rfl) G.m_bool boot_bool) pa_nil))) (pe_callB call_isi (by rfl) G.m_isinstance boot_isinstance (pa_cons (pv 1) (pa_cons (pe_ty .bl (by rfl) G.m_bool boot_bool) pa_nil))) (nomark _)) (pe_one (pe_cmpR (opd_eq hu) (pe_cmpR opd_is (pv 0) pe_non (nomark _)) (pe_cmpR opd_is (pv 1) pe_non (nomark _)) (nomark _))))))) pss_nil) (pss_one (ps_ret (pe_and (pe_callB call_isi (by rfl) G.m_isinstance boot_isinstance (pa_cons (pv 0) (pa_cons (pe_ty .int (by rfl) G.m_int boot_int) pa_nil))) (pe_and (pe_not (pe_callB call_isi (by rfl) G.m_isinstance boot_isinstance (pa_cons (pv 0) (pa_cons (pe_ty .bl (by rfl) G.m_bool boot_bool) pa_nil)))) (pe_one (pe_cmpR (opd_eq hu) (pv 0) (pv 1) (nomark _))))))))),
      (rs_seq (rs_if (rt_B (rd_isiT [.lst, .tup] (by decide) (rd_var 1))) (rs_seq (rs_if (rt_or (rt_test (rd_op (rd_isi .lst (rd_var 0)) (rd_isi .lst (rd_var 1)))) (rt_test (rd_op (rd_isi .tup (rd_var 0)) (rd_isi .tup (rd_var 1))))) (rs_ret (rd_c fun _ => .bl _)) rs_nil) (rs_ret (rd_and (rd_op (rd_cb (ra_cons (rd_var 0) ra_nil)) (rd_cb (ra_cons (rd_var 1) ra_nil))) (rd_cb (ra_cons (rd_of_f (rf_lc (ri_zip (rl_var 0) (rl_var 1)) (tg_sq (tgs_cons (tg_name 2) (tgs_cons (tg_name 3) tgs_nil))) (by decide) rt_yes (rd_call (ra_cons (rd_var 2) (ra_cons (rd_var 3) ra_nil))))) ra_nil))))) rs_nil) (rs_seq (rs_if (rt_or (rt_test (rd_op (rd_var 1) (rd_c fun _ => .non))) (rt_B (rd_isiT [.bl, .str] (by decide) (rd_var 1)))) (rs_ret (rd_and (rd_op (rd_var 0) (rd_var 1)) (rd_and (rd_op (rd_isi .bl (rd_var 0)) (rd_isi .bl (rd_var 1))) (rd_op (rd_op (rd_var 0) (rd_c fun _ => .non)) (rd_op (rd_var 1) (rd_c fun _ => .non)))))) rs_nil) (rs_ret (rd_and (rd_isi .int (rd_var 0)) (rd_and (rd_not (rd_isi .bl (rd_var 0))) (rd_op (rd_var 0) (rd_var 1)))))))⟩) 10
/-! lot_in -/
abbrev S_lot_in : Stmt := topS 14
abbrev N_lot_in : List Str := ["rules", "name", "own", "lot"]
theorem sc_lot_in : FnScope N_lot_in ["rules", "name"] (defScope S_lot_in) := ⟨rfl, rfl, rfl, by decide +kernel, rfl, by decide +kernel, by decide +kernel⟩
theorem nd_lot_in : (N_lot_in).Nodup := by decide +kernel
def m_lot_in : MS := (mseq (fFor (fAny (fLock 0)) (tfSq 2 (tfCons (tfName 2) (tfCons (tfName 3) tfNil))) (sbind (mbind (mbind (fName 2) fun x => mbind (fName 1) fun y => mlift (gEq x y)) fun d => mlift (asB d)) fun b => if b then (sbind (fCall 1 (g_frozen 10) (mbind (fName 3) fun x => mbind (mpure []) fun xs => mpure (x :: xs))) fun d r => some (.rt false d r)) else (fun r => some (.nx r)))) (sbind (mpure .none) fun d r => some (.rt false d r)))
def g_lot_in : FM := mBody [] 2 4 m_lot_in
theorem F_lot_in {P : Program} {w : World} {K : PySem.W.Frag} {mg : Str → Option Value} {base : Heap} {as : Nat → Addr} (G : Gd K mg as) (F_frozen : Fn P w K mg base (fun c => .ref (as c)) "frozen" S_frozen 10 ["value"] (g_frozen 10)) (T : Tx K mg "lot_in" S_lot_in ["rules", "name"]) : Fn P w K mg base (fun c => .ref (as c)) "lot_in" S_lot_in 11 ["rules", "name"] g_lot_in :=
  fn_mk (P := P) (w := w) (K := K) (mg := mg) (base := base) (C := fun c => .ref (as c)) (N := N_lot_in) (k := 10) (PI := []) (m := m_lot_in) T sc_lot_in (by decide) (fun f cdv A outer s H E hr => by
    have hu := huE hr
    have hv := hvE hr
    have tk := tkE (P := P) (w := w) (K := K) (mg := mg) (base := base) (N := N_lot_in) (x := "lot_in") (S := S_lot_in) (f := f) (cdv := cdv) (A := A) (outer := outer) (s := s) (H := H) (E := E)
    have hp := hpE (P := P) (w := w) (K := K) (mg := mg) (base := base) (N := N_lot_in) (x := "lot_in") (S := S_lot_in) (f := f) (cdv := cdv) (A := A) (outer := outer) (s := s) (H := H) (E := E)
    exact ⟨_, (pss_cons (ps_for hp rfl (pi_any (pv 0)) (pg_sq rfl (pgs_cons (pg_name (i := 2) nd_lot_in rfl (by first | exact .inl rfl | exact .inr rfl)) (pgs_cons (pg_name (i := 3) nd_lot_in rfl (by first | exact .inl rfl | exact .inr rfl)) pgs_nil))) (pss_one (ps_if (pt_cmpR (opd_eq hu) (pv 2) (pv 1) (nomark _)) (pss_one (ps_ret (pe_fn F_frozen hr (by omega) tk (by rfl) (pa_cons (pv 3) pa_nil)))) pss_nil))) (pss_one (ps_ret pe_non))),
      (rs_seq (rs_for (ri_any (rl_var 0)) (tg_sq (tgs_cons (tg_name 2) (tgs_cons (tg_name 3) tgs_nil))) (by decide) (rs_if (rt_test (rd_op (rd_var 2) (rd_var 1))) (rs_ret (rd_call (ra_cons (rd_var 3) ra_nil))) rs_nil)) (rs_ret (rd_c fun _ => .non)))⟩)
/-! _is_entry -/
abbrev S__is_entry : Stmt := topS 19
abbrev N__is_entry : List Str := ["thing"]
theorem sc__is_entry : FnScope N__is_entry ["thing"] (defScope S__is_entry) := ⟨rfl, rfl, rfl, by decide +kernel, rfl, by decide +kernel, by decide +kernel⟩
theorem nd__is_entry : (N__is_entry).Nodup := by decide +kernel
def m__is_entry : MS := (mseq (sbind (mbind (mbind (mbind (fCall 2 g_is_tuple_of (mbind (mpure (.int 4)) fun x => mbind (mbind (fName 0) fun x => mbind (mpure []) fun xs => mpure (x :: xs)) fun xs => mpure (x :: xs))) fun d => mlift (asB d)) fun b => mpure (!b)) fun b => if b then mpure true else (mbind (mbind (mbind (fCall 1 g_is_release (mbind (mbind (fName 0) fun x => mbind (mpure (.int 0)) fun y => mlift (gIx x y)) fun x => mbind (mpure []) fun xs => mpure (x :: xs))) fun d => mlift (asB d)) fun b => mpure (!b)) fun b => if b then mpure true else (mbind (mbind (fCall 1 g_is_rules (mbind (mbind (fName 0) fun x => mbind (mpure (.int 1)) fun y => mlift (gIx x y)) fun x => mbind (mpure []) fun xs => mpure (x :: xs))) fun d => mlift (asB d)) fun b => mpure (!b)))) fun b => if b then (sbind (mpure (.bool false)) fun d r => some (.rt false d r)) else (fun r => some (.nx r))) (mseq (sbind (mbind (mbind (mbind (fCall 2 g_lot_in (mbind (mbind (fName 0) fun x => mbind (mpure (.int 1)) fun y => mlift (gIx x y)) fun x => mbind (mbind (mbind (mbind (fName 0) fun x => mbind (mpure (.int 0)) fun y => mlift (gIx x y)) fun x => mbind (mpure (.int 0)) fun y => mlift (gIx x y)) fun x => mbind (mpure []) fun xs => mpure (x :: xs)) fun xs => mpure (x :: xs))) fun x => mbind (mpure .none) fun y => mlift (gIsNot x y)) fun d => mlift (asB d)) fun b => if b then mpure true else (mbind (mbind (fCall 2 g_is_number_from (mbind (mpure (.int 0)) fun x => mbind (mbind (mbind (fName 0) fun x => mbind (mpure (.int 2)) fun y => mlift (gIx x y)) fun x => mbind (mpure []) fun xs => mpure (x :: xs)) fun xs => mpure (x :: xs))) fun d => mlift (asB d)) fun b => mpure (!b))) fun b => if b then (sbind (mpure (.bool false)) fun d r => some (.rt false d r)) else (fun r => some (.nx r))) (sbind (mbind (mbind (mbind (fName 0) fun x => mbind (mpure (.int 3)) fun y => mlift (gIx x y)) fun x => mbind (mpure .none) fun y => mlift (gIs x y)) fun d => mbind (mlift (asB d)) fun b => if b then mpure (.bool true) else (fCall 2 g_is_number_from (mbind (mbind (fName 0) fun x => mbind (mpure (.int 2)) fun y => mlift (gIx x y)) fun x => mbind (mbind (mbind (fName 0) fun x => mbind (mpure (.int 3)) fun y => mlift (gIx x y)) fun x => mbind (mpure []) fun xs => mpure (x :: xs)) fun xs => mpure (x :: xs)))) fun d r => some (.rt false d r))))
def g__is_entry : FM := mBody [] 1 1 m__is_entry
theorem F__is_entry {P : Program} {w : World} {K : PySem.W.Frag} {mg : Str → Option Value} {base : Heap} {as : Nat → Addr} (G : Gd K mg as) (F_is_number_from : Fn P w K mg base (fun c => .ref (as c)) "is_number_from" S_is_number_from 2 ["least", "thing"] g_is_number_from) (F_is_release : Fn P w K mg base (fun c => .ref (as c)) "is_release" S_is_release 3 ["thing"] g_is_release) (F_is_rules : Fn P w K mg base (fun c => .ref (as c)) "is_rules" S_is_rules 5 ["thing"] g_is_rules) (F_is_tuple_of : Fn P w K mg base (fun c => .ref (as c)) "is_tuple_of" S_is_tuple_of 1 ["many", "thing"] g_is_tuple_of) (F_lot_in : Fn P w K mg base (fun c => .ref (as c)) "lot_in" S_lot_in 11 ["rules", "name"] g_lot_in) (T : Tx K mg "_is_entry" S__is_entry ["thing"]) : Fn P w K mg base (fun c => .ref (as c)) "_is_entry" S__is_entry 12 ["thing"] g__is_entry :=
  fn_mk (P := P) (w := w) (K := K) (mg := mg) (base := base) (C := fun c => .ref (as c)) (N := N__is_entry) (k := 11) (PI := []) (m := m__is_entry) T sc__is_entry (by decide) (fun f cdv A outer s H E hr => by
    have hu := huE hr
    have hv := hvE hr
    have tk := tkE (P := P) (w := w) (K := K) (mg := mg) (base := base) (N := N__is_entry) (x := "_is_entry") (S := S__is_entry) (f := f) (cdv := cdv) (A := A) (outer := outer) (s := s) (H := H) (E := E)
    have hp := hpE (P := P) (w := w) (K := K) (mg := mg) (base := base) (N := N__is_entry) (x := "_is_entry") (S := S__is_entry) (f := f) (cdv := cdv) (A := A) (outer := outer) (s := s) (H := H) (E := E)
    exact ⟨_, (pss_cons (ps_if (pw_or (pt_not (pt_val (pe_fn F_is_tuple_of hr (by omega) tk (by rfl) (pa_cons pe_int (pa_cons (pv 0) pa_nil))))) (pw_or (pt_not (pt_val (pe_fn F_is_release hr (by omega) tk (by rfl) (pa_cons (pe_ix ixd (pv 0) pe_int (fun _ _ => rfl)) pa_nil)))) (pw_or1 (pt_not (pt_val (pe_fn F_is_rules hr (by omega) tk (by rfl) (pa_cons (pe_ix ixd (pv 0) pe_int (fun _ _ => rfl)) pa_nil))))))).pt (pss_one (ps_ret pe_bl)) pss_nil) (pss_cons (ps_if (pw_or (pt_cmpR opd_isnot (pe_fn F_lot_in hr (by omega) tk (by rfl) (pa_cons (pe_ix ixd (pv 0) pe_int (fun _ _ => rfl)) (pa_cons (pe_ix ixd (pe_ix ixd (pv 0) pe_int (fun _ _ => rfl)) pe_int (fun _ _ => rfl)) pa_nil))) pe_non (nomark _)) (pw_or1 (pt_not (pt_val (pe_fn F_is_number_from hr (by omega) tk (by rfl) (pa_cons pe_int (pa_cons (pe_ix ixd (pv 0) pe_int (fun _ _ => rfl)) pa_nil))))))).pt (pss_one (ps_ret pe_bl)) pss_nil) (pss_one (ps_ret (pe_or (pe_cmpR opd_is (pe_ix ixd (pv 0) pe_int (fun _ _ => rfl)) pe_non (nomark _)) (pe_one (pe_fn F_is_number_from hr (by omega) tk (by rfl) (pa_cons (pe_ix ixd (pv 0) pe_int (fun _ _ => rfl)) (pa_cons (pe_ix ixd (pv 0) pe_int (fun _ _ => rfl)) pa_nil))))))))),
      (rs_seq (rs_if (rt_or (rt_not (rt_B (rd_call (ra_cons (rd_c fun _ => .int _) (ra_cons (rd_var 0) ra_nil))))) (rt_or (rt_not (rt_B (rd_call (ra_cons (rd_op (rd_var 0) (rd_c fun _ => .int _)) ra_nil)))) (rt_not (rt_B (rd_call (ra_cons (rd_op (rd_var 0) (rd_c fun _ => .int _)) ra_nil)))))) (rs_ret (rd_c fun _ => .bl _)) rs_nil) (rs_seq (rs_if (rt_or (rt_test (rd_op (rd_call (ra_cons (rd_op (rd_var 0) (rd_c fun _ => .int _)) (ra_cons (rd_op (rd_op (rd_var 0) (rd_c fun _ => .int _)) (rd_c fun _ => .int _)) ra_nil))) (rd_c fun _ => .non))) (rt_not (rt_B (rd_call (ra_cons (rd_c fun _ => .int _) (ra_cons (rd_op (rd_var 0) (rd_c fun _ => .int _)) ra_nil)))))) (rs_ret (rd_c fun _ => .bl _)) rs_nil) (rs_ret (rd_or (rd_op (rd_op (rd_var 0) (rd_c fun _ => .int _)) (rd_c fun _ => .non)) (rd_call (ra_cons (rd_op (rd_var 0) (rd_c fun _ => .int _)) (ra_cons (rd_op (rd_var 0) (rd_c fun _ => .int _)) ra_nil)))))))⟩)
/-! is_shelf -/
abbrev S_is_shelf : Stmt := topS 18
abbrev N_is_shelf : List Str := ["thing", "own"]
theorem sc_is_shelf : FnScope N_is_shelf ["thing"] (defScope S_is_shelf) := ⟨rfl, rfl, rfl, by decide +kernel, rfl, by decide +kernel, by decide +kernel⟩
theorem nd_is_shelf : (N_is_shelf).Nodup := by decide +kernel
def m_is_shelf : MS := (mseq (sbind (mbind (mbind (mbind (mbind (fName 0) fun d => mpure (.bool (isA .tup d))) fun d => mlift (asB d)) fun b => mpure (!b)) fun b => if b then mpure true else (mbind (mbind (mbind (mbind (mbind (fComp (fAny (fLock 0)) (tfName 1) [1] (mpure true) (fCall 1 g__is_entry (mbind (fName 1) fun x => mbind (mpure []) fun xs => mpure (x :: xs)))) fun ds => mpure (.list ds)) fun x => mbind (mpure []) fun xs => mpure (x :: xs)) fun x => mlift ((g1 gAll) x)) fun d => mlift (asB d)) fun b => mpure (!b))) fun b => if b then (sbind (mpure (.bool false)) fun d r => some (.rt false d r)) else (fun r => some (.nx r))) (sbind (fCall 1 g_ascends (mbind (mbind (fComp (fAny (fLock 0)) (tfName 1) [1] (mpure true) (mbind (fName 1) fun x => mbind (mpure (.int 0)) fun y => mlift (gIx x y))) fun ds => mpure (.list ds)) fun x => mbind (mpure []) fun xs => mpure (x :: xs))) fun d r => some (.rt false d r)))
def g_is_shelf : FM := mBody [] 1 2 m_is_shelf
theorem F_is_shelf {P : Program} {w : World} {K : PySem.W.Frag} {mg : Str → Option Value} {base : Heap} {as : Nat → Addr} (G : Gd K mg as) (F__is_entry : Fn P w K mg base (fun c => .ref (as c)) "_is_entry" S__is_entry 12 ["thing"] g__is_entry) (F_ascends : Fn P w K mg base (fun c => .ref (as c)) "ascends" S_ascends 1 ["things"] g_ascends) (T : Tx K mg "is_shelf" S_is_shelf ["thing"]) : Fn P w K mg base (fun c => .ref (as c)) "is_shelf" S_is_shelf 13 ["thing"] g_is_shelf :=
  fn_mk (P := P) (w := w) (K := K) (mg := mg) (base := base) (C := fun c => .ref (as c)) (N := N_is_shelf) (k := 12) (PI := []) (m := m_is_shelf) T sc_is_shelf (by decide) (fun f cdv A outer s H E hr => by
    have hu := huE hr
    have hv := hvE hr
    have tk := tkE (P := P) (w := w) (K := K) (mg := mg) (base := base) (N := N_is_shelf) (x := "is_shelf") (S := S_is_shelf) (f := f) (cdv := cdv) (A := A) (outer := outer) (s := s) (H := H) (E := E)
    have hp := hpE (P := P) (w := w) (K := K) (mg := mg) (base := base) (N := N_is_shelf) (x := "is_shelf") (S := S_is_shelf) (f := f) (cdv := cdv) (A := A) (outer := outer) (s := s) (H := H) (E := E)
    exact ⟨_, (pss_cons (ps_if (pw_or (pt_not (pt_val (pe_callB call_isi (by rfl) G.m_isinstance boot_isinstance (pa_cons (pv 0) (pa_cons (pe_ty .tup (by rfl) G.m_tuple boot_tuple) pa_nil))))) (pw_or1 (pt_not (pt_val (pe_callB (cd_all (by rfl)) (by rfl) G.m_all boot_all (pa_cons (pe_lc (own := [("own", 1)]) rfl nd_is_shelf (pi_any (pv 0)) (blkOk_by (by (first | decide +kernel | rfl | kernel_rfl))) (fun _ _ _ _ _ => (pg_name (i := 1) nd_is_shelf rfl (by first | exact .inl rfl | exact .inr rfl))) (fun _ _ _ _ _ => pts_nil) (fun _ _ _ _ _ => (pe_fn F__is_entry hr (by omega) takes0 (by rfl) (pa_cons (pv 1) pa_nil)))) pa_nil)))))).pt (pss_one (ps_ret pe_bl)) pss_nil) (pss_one (ps_ret (pe_fn F_ascends hr (by omega) tk (by rfl) (pa_cons (pe_lc (own := [("own", 1)]) rfl nd_is_shelf (pi_any (pv 0)) (blkOk_by (by (first | decide +kernel | rfl | kernel_rfl))) (fun _ _ _ _ _ => (pg_name (i := 1) nd_is_shelf rfl (by first | exact .inl rfl | exact .inr rfl))) (fun _ _ _ _ _ => pts_nil) (fun _ _ _ _ _ => (pe_ix ixd (pv 1) pe_int (fun _ _ => rfl)))) pa_nil))))),
      (rs_seq (rs_if (rt_or (rt_not (rt_B (rd_isi .tup (rd_var 0)))) (rt_not (rt_B (rd_cb (ra_cons (rd_of_f (rf_lc (ri_any (rl_var 0)) (tg_name 1) (by decide) rt_yes (rd_call (ra_cons (rd_var 1) ra_nil)))) ra_nil))))) (rs_ret (rd_c fun _ => .bl _)) rs_nil) (rs_ret (rd_call (ra_cons (rd_of_f (rf_lc (ri_any (rl_var 0)) (tg_name 1) (by decide) rt_yes (rd_op (rd_var 1) (rd_c fun _ => .int _)))) ra_nil))))⟩)
/-! read_shelf -/
abbrev S_read_shelf : Stmt := topS 42
abbrev N_read_shelf : List Str := ["text", "shelf", "at", "line"]
theorem sc_read_shelf : FnScope N_read_shelf ["text"] (defScope S_read_shelf) := ⟨rfl, rfl, rfl, by decide +kernel, rfl, by decide +kernel, by decide +kernel⟩
theorem nd_read_shelf : (N_read_shelf).Nodup := by decide +kernel
def m_read_shelf : MS := (mseq (sbind (mbind (mpure []) fun ds => mlift (if szOk ds.length then some (.tuple ds) else none)) fun d r => (tfName 1 d r).map .nx) (mseq (fFor (fEnum (mbind (fCall 1 g_lines_of (mbind (fName 0) fun x => mbind (mpure []) fun xs => mpure (x :: xs))) fun d => mlift (if iterable d then some (d, []) else none))) (tfSq 2 (tfCons (tfName 2) (tfCons (tfName 3) tfNil))) (mseq (sbind (fCall 2 g__with_line (mbind (fName 1) fun x => mbind (mbind (mbind (fStF (fName 3) (mpure (.str " ")) gSplit) fun ds => mpure (.list ds)) fun x => mbind (mpure []) fun xs => mpure (x :: xs)) fun xs => mpure (x :: xs))) fun d r => (tfName 1 d r).map .nx) (sbind (mbind (mbind (fCall 1 g_is_shelf (mbind (fName 1) fun x => mbind (mpure []) fun xs => mpure (x :: xs))) fun d => mlift (asB d)) fun b => mpure (!b)) fun b => if b then (sbind (fName 2) fun d r => some (.ex (0, [("line", d)]) r)) else (fun r => some (.nx r))))) (sbind (fName 1) fun d r => some (.rt false d r))))
def g_read_shelf : FM := mBody [] 1 4 m_read_shelf
theorem F_read_shelf {P : Program} {w : World} {K : PySem.W.Frag} {mg : Str → Option Value} {base : Heap} {as : Nat → Addr} (G : Gd K mg as) (F__with_line : Fn P w K mg base (fun c => .ref (as c)) "_with_line" S__with_line 3 ["shelf", "words"] g__with_line) (F_is_shelf : Fn P w K mg base (fun c => .ref (as c)) "is_shelf" S_is_shelf 13 ["thing"] g_is_shelf) (F_lines_of : Fn P w K mg base (fun c => .ref (as c)) "lines_of" S_lines_of 1 ["text"] g_lines_of) (F_BadText : InitOk P w K mg base (as 0) "line") (T : Tx K mg "read_shelf" S_read_shelf ["text"]) : Fn P w K mg base (fun c => .ref (as c)) "read_shelf" S_read_shelf 14 ["text"] g_read_shelf :=
  fn_mk (P := P) (w := w) (K := K) (mg := mg) (base := base) (C := fun c => .ref (as c)) (N := N_read_shelf) (k := 13) (PI := []) (m := m_read_shelf) T sc_read_shelf (by decide) (fun f cdv A outer s H E hr => by
    have hu := huE hr
    have hv := hvE hr
    have tk := tkE (P := P) (w := w) (K := K) (mg := mg) (base := base) (N := N_read_shelf) (x := "read_shelf") (S := S_read_shelf) (f := f) (cdv := cdv) (A := A) (outer := outer) (s := s) (H := H) (E := E)
    have hp := hpE (P := P) (w := w) (K := K) (mg := mg) (base := base) (N := N_read_shelf) (x := "read_shelf") (S := S_read_shelf) (f := f) (cdv := cdv) (A := A) (outer := outer) (s := s) (H := H) (E := E)
    exact ⟨_, (pss_cons (ps_set (i := 1) nd_read_shelf rfl (by first | exact .inl rfl | exact .inr rfl) (pe_tupN pa_nil)) (pss_cons (ps_for hp rfl (pi_enum (by rfl) G.m_enumerate (pa_cons (pe_fn F_lines_of hr (by omega) tk (by rfl) (pa_cons (pv 0) pa_nil)) pa_nil)) (pg_sq rfl (pgs_cons (pg_name (i := 2) nd_read_shelf rfl (by first | exact .inl rfl | exact .inr rfl)) (pgs_cons (pg_name (i := 3) nd_read_shelf rfl (by first | exact .inl rfl | exact .inr rfl)) pgs_nil))) (pss_cons (ps_set (i := 1) nd_read_shelf rfl (by first | exact .inl rfl | exact .inr rfl) (pe_fn F__with_line hr (by omega) tk (by rfl) (pa_cons (pv 1) (pa_cons (pe_m1 PySem.F.slot_str_split PySem.F.type_str_split ms_split (pv 3) pe_str) pa_nil)))) (pss_one (ps_if (pt_not (pt_val (pe_fn F_is_shelf hr (by omega) tk (by rfl) (pa_cons (pv 1) pa_nil)))) (pss_one (ps_raise1 (B := "ValueError") (f := "line") G.x_BadText F_BadText hr (by omega) rfl tk (by rfl) (pv 2))) pss_nil)))) (pss_one (ps_ret (pv 1))))),
      (rs_seq (rs_asg (rd_tup ra_nil) (tg_name 1) (by decide)) (rs_seq (rs_for (ri_enum (rl_of (rd_call (ra_cons (rd_var 0) ra_nil)))) (tg_sq (tgs_cons (tg_name 2) (tgs_cons (tg_name 3) tgs_nil))) (by decide) (rs_seq (rs_asg (rd_call (ra_cons (rd_var 1) (ra_cons (rd_of_f (rf_st1 (rd_var 3) (rd_c fun _ => .str _))) ra_nil))) (tg_name 1) (by decide)) (rs_if (rt_not (rt_B (rd_call (ra_cons (rd_var 1) ra_nil)))) (rs_raise1 (c := 0) (f := "line") G.c_BadText (rd_var 2)) rs_nil))) (rs_ret (rd_var 1))))⟩)
/-! _law_read -/
abbrev S__law_read : Stmt := topS 52
abbrev N__law_read : List Str := ["door_so", "text_so", "error"]
theorem sc__law_read : FnScope N__law_read ["door_so", "text_so"] (defScope S__law_read) := ⟨rfl, rfl, rfl, by decide +kernel, rfl, by decide +kernel, by decide +kernel⟩
theorem nd__law_read : (N__law_read).Nodup := by decide +kernel
def m__law_read : MS := (fTryM NE [(0, mRetL 2 [.str "bad", .fld "line", .isa "ValueError"])] (sbind (fSel [(1, g_read_shelf), (1, g_read_lock), (1, g_read_wish), (1, g_read_telling)] (fName 0) (mbind (fName 1) fun x => mbind (mpure []) fun xs => mpure (x :: xs))) fun d r => some (.rt false d r)))
def g__law_read : FM := mBody [] 2 3 m__law_read
theorem F__law_read {P : Program} {w : World} {K : PySem.W.Frag} {mg : Str → Option Value} {base : Heap} {as : Nat → Addr} (G : Gd K mg as) (F_read_lock : Fn P w K mg base (fun c => .ref (as c)) "read_lock" S_read_lock 5 ["text"] g_read_lock) (F_read_shelf : Fn P w K mg base (fun c => .ref (as c)) "read_shelf" S_read_shelf 14 ["text"] g_read_shelf) (F_read_telling : Fn P w K mg base (fun c => .ref (as c)) "read_telling" S_read_telling 6 ["text"] g_read_telling) (F_read_wish : Fn P w K mg base (fun c => .ref (as c)) "read_wish" S_read_wish 5 ["text"] g_read_wish) (T : Tx K mg "_law_read" S__law_read ["door_so", "text_so"]) : Fn P w K mg base (fun c => .ref (as c)) "_law_read" S__law_read 15 ["door_so", "text_so"] g__law_read :=
  fn_mk (P := P) (w := w) (K := K) (mg := mg) (base := base) (C := fun c => .ref (as c)) (N := N__law_read) (k := 14) (PI := []) (m := m__law_read) T sc__law_read (by decide) (fun f cdv A outer s H E hr => by
    have hu := huE hr
    have hv := hvE hr
    have tk := tkE (P := P) (w := w) (K := K) (mg := mg) (base := base) (N := N__law_read) (x := "_law_read") (S := S__law_read) (f := f) (cdv := cdv) (A := A) (outer := outer) (s := s) (H := H) (E := E)
    have hp := hpE (P := P) (w := w) (K := K) (mg := mg) (base := base) (N := N__law_read) (x := "_law_read") (S := S__law_read) (f := f) (cdv := cdv) (A := A) (outer := outer) (s := s) (H := H) (E := E)
    obtain ⟨Cs1, hS1, hz1⟩ := Sels.of (k := 14) F_read_shelf (by omega) (Sels.of F_read_lock (by omega) (Sels.of F_read_wish (by omega) (Sels.of F_read_telling (by omega) ⟨[], .nil, Nat.le_refl _⟩)))
    exact ⟨_, (pss_one (ps_try_ma rfl rfl nd__law_read tk (fun W pn xe tk2 hp => (pss_one (ps_ret (pe_sel hS1 hr tk2 (pe_ix ixAtT (pe_selsT hS1 (pa_sels rfl hS1 (.cons ⟨⟨_, rfl⟩, by rfl, by decide⟩ (.cons ⟨⟨_, rfl⟩, by rfl, by decide⟩ (.cons ⟨⟨_, rfl⟩, by rfl, by decide⟩ (.cons ⟨⟨_, rfl⟩, by rfl, by decide⟩ .nil)))) (fun _ _ _ => by rfl))) (pv 0) (fun _ _ => rfl)) (pa_cons (pv 1) pa_nil))))) (.as (i := 2) rfl rfl ⟨by rfl, by decide, .inl G.x_BadText.gC⟩ (pss_tsD fun a d oe pn hz hf => (pss_one (ps_ret (pe_lst (pa_cons pe_str (pa_cons (pe_xf G.x_BadText.xf G.x_BadText.hno hz hf (pv 2)) (pa_cons (pe_isD (T := "ValueError") G.x_BadText.is hz hf (by rfl) (by rfl) G.m_isinstance G.m_ValueError boot_ValueError (pv 2)) pa_nil))))))) .nil))),
      (rs_try_ma (C := fun c => .ref (as c)) G.xx (fun W => (rs_ret (rd_selT hS1 (Nat.le_trans hz1 (by decide)) (rd_var 0) (ra_cons (rd_var 1) ra_nil)))) (.cons (ho_retL (by decide) (es := [.str "bad", .fld "line", .isa "ValueError"]) G.c_BadText (.str (.fld (.isa G.x_BadText.ve .nil)))) .nil))⟩)
/-! _law_texts_right -/
abbrev S__law_texts_right : Stmt := topS 53
abbrev N__law_texts_right : List Str := ["shelf_so", "text_so", "rows_so", "lines_so", "got", "due"]
theorem sc__law_texts_right : FnScope N__law_texts_right [] (defScope S__law_texts_right) := ⟨rfl, rfl, rfl, by decide +kernel, rfl, by decide +kernel, by decide +kernel⟩
theorem nd__law_texts_right : (N__law_texts_right).Nodup := by decide +kernel
def m__law_texts_right : MS := (mseq (sbind (mbind (mbind (mbind (mbind (mbind (mbind (mpure (.str "app")) fun x => mbind (mbind (mpure (.int 1)) fun x => mbind (mpure []) fun xs => mpure (x :: xs)) fun xs => mpure (x :: xs)) fun ds => mlift (if szOk ds.length then some (.tuple ds) else none)) fun x => mbind (mbind (mbind (mbind (mbind (mbind (mpure (.str "lib")) fun x => mbind (mbind (mbind (mbind (mpure (.int 1)) fun x => mbind (mbind (mpure (.int 2)) fun x => mbind (mpure []) fun xs => mpure (x :: xs)) fun xs => mpure (x :: xs)) fun ds => mlift (if szOk ds.length then some (.tuple ds) else none)) fun x => mbind (mpure []) fun xs => mpure (x :: xs)) fun xs => mpure (x :: xs)) fun ds => mlift (if szOk ds.length then some (.tuple ds) else none)) fun x => mbind (mbind (mbind (mbind (mpure (.str "zip")) fun x => mbind (mbind (mbind (mbind (mpure (.int 0)) fun x => mbind (mpure []) fun xs => mpure (x :: xs)) fun ds => mlift (if szOk ds.length then some (.tuple ds) else none)) fun x => mbind (mpure []) fun xs => mpure (x :: xs)) fun xs => mpure (x :: xs)) fun ds => mlift (if szOk ds.length then some (.tuple ds) else none)) fun x => mbind (mpure []) fun xs => mpure (x :: xs)) fun xs => mpure (x :: xs)) fun ds => mlift (if szOk ds.length then some (.tuple ds) else none)) fun x => mbind (mbind (mpure (.int 0)) fun x => mbind (mbind (mpure .none) fun x => mbind (mpure []) fun xs => mpure (x :: xs)) fun xs => mpure (x :: xs)) fun xs => mpure (x :: xs)) fun xs => mpure (x :: xs)) fun ds => mlift (if szOk ds.length then some (.tuple ds) else none)) fun x => mbind (mbind (mbind (mbind (mbind (mbind (mpure (.str "lib")) fun x => mbind (mbind (mpure (.int 2)) fun x => mbind (mpure []) fun xs => mpure (x :: xs)) fun xs => mpure (x :: xs)) fun ds => mlift (if szOk ds.length then some (.tuple ds) else none)) fun x => mbind (mbind (mbind (mpure []) fun ds => mlift (if szOk ds.length then some (.tuple ds) else none)) fun x => mbind (mbind (mpure (.int 3)) fun x => mbind (mbind (mpure (.int 5)) fun x => mbind (mpure []) fun xs => mpure (x :: xs)) fun xs => mpure (x :: xs)) fun xs => mpure (x :: xs)) fun xs => mpure (x :: xs)) fun ds => mlift (if szOk ds.length then some (.tuple ds) else none)) fun x => mbind (mbind (mbind (mbind (mbind (mbind (mpure (.str "lib")) fun x => mbind (mbind (mpure (.int 10)) fun x => mbind (mpure []) fun xs => mpure (x :: xs)) fun xs => mpure (x :: xs)) fun ds => mlift (if szOk ds.length then some (.tuple ds) else none)) fun x => mbind (mbind (mbind (mbind (mbind (mbind (mpure (.str "app")) fun x => mbind (mbind (mbind (mbind (mpure (.int 0)) fun x => mbind (mbind (mpure (.int 1)) fun x => mbind (mbind (mpure (.int 12)) fun x => mbind (mpure []) fun xs => mpure (x :: xs)) fun xs => mpure (x :: xs)) fun xs => mpure (x :: xs)) fun ds => mlift (if szOk ds.length then some (.tuple ds) else none)) fun x => mbind (mpure []) fun xs => mpure (x :: xs)) fun xs => mpure (x :: xs)) fun ds => mlift (if szOk ds.length then some (.tuple ds) else none)) fun x => mbind (mpure []) fun xs => mpure (x :: xs)) fun ds => mlift (if szOk ds.length then some (.tuple ds) else none)) fun x => mbind (mbind (mpure (.int 7)) fun x => mbind (mbind (mpure (.int 7)) fun x => mbind (mpure []) fun xs => mpure (x :: xs)) fun xs => mpure (x :: xs)) fun xs => mpure (x :: xs)) fun xs => mpure (x :: xs)) fun ds => mlift (if szOk ds.length then some (.tuple ds) else none)) fun x => mbind (mpure []) fun xs => mpure (x :: xs)) fun xs => mpure (x :: xs)) fun xs => mpure (x :: xs)) fun ds => mlift (if szOk ds.length then some (.tuple ds) else none)) fun d r => (tfName 0 d r).map .nx) (mseq (sbind (mpure (.str "release app:1 0 -
let lib:1,2
let zip:0
release lib:2 3 5
release lib:10 7 7
let app:0,1,12")) fun d r => (tfName 1 d r).map .nx) (mseq (sbind (mbind (mbind (mbind (mbind (mpure (.int 4)) fun x => mbind (mbind (mbind (mbind (mbind (mbind (mpure (.str "lib")) fun x => mbind (mbind (mbind (mbind (mpure (.int 1)) fun x => mbind (mbind (mpure (.int 2)) fun x => mbind (mpure []) fun xs => mpure (x :: xs)) fun xs => mpure (x :: xs)) fun ds => mlift (if szOk ds.length then some (.tuple ds) else none)) fun x => mbind (mpure []) fun xs => mpure (x :: xs)) fun xs => mpure (x :: xs)) fun ds => mlift (if szOk ds.length then some (.tuple ds) else none)) fun x => mbind (mpure []) fun xs => mpure (x :: xs)) fun ds => mlift (if szOk ds.length then some (.tuple ds) else none)) fun x => mbind (mbind (mbind (mbind (mbind (mbind (mpure (.str "app")) fun x => mbind (mbind (mpure (.int 1)) fun x => mbind (mpure []) fun xs => mpure (x :: xs)) fun xs => mpure (x :: xs)) fun ds => mlift (if szOk ds.length then some (.tuple ds) else none)) fun x => mbind (mbind (mbind (mbind (mpure (.str "lib")) fun x => mbind (mbind (mpure (.int 2)) fun x => mbind (mpure []) fun xs => mpure (x :: xs)) fun xs => mpure (x :: xs)) fun ds => mlift (if szOk ds.length then some (.tuple ds) else none)) fun x => mbind (mpure []) fun xs => mpure (x :: xs)) fun xs => mpure (x :: xs)) fun ds => mlift (if szOk ds.length then some (.tuple ds) else none)) fun x => mbind (mpure []) fun xs => mpure (x :: xs)) fun xs => mpure (x :: xs)) fun xs => mpure (x :: xs)) fun ds => mlift (if szOk ds.length then some (.tuple ds) else none)) fun x => mbind (mbind (mbind (mbind (mpure (.int 0)) fun x => mbind (mbind (mbind (mpure []) fun ds => mlift (if szOk ds.length then some (.tuple ds) else none)) fun x => mbind (mbind (mbind (mpure []) fun ds => mlift (if szOk ds.length then some (.tuple ds) else none)) fun x => mbind (mpure []) fun xs => mpure (x :: xs)) fun xs => mpure (x :: xs)) fun xs => mpure (x :: xs)) fun ds => mlift (if szOk ds.length then some (.tuple ds) else none)) fun x => mbind (mbind (mbind (mbind (mpure (.int 7)) fun x => mbind (mbind (mbind (mbind (mbind (mbind (mpure (.str "zip")) fun x => mbind (mbind (mbind (mbind (mpure (.int 9)) fun x => mbind (mpure []) fun xs => mpure (x :: xs)) fun ds => mlift (if szOk ds.length then some (.tuple ds) else none)) fun x => mbind (mpure []) fun xs => mpure (x :: xs)) fun xs => mpure (x :: xs)) fun ds => mlift (if szOk ds.length then some (.tuple ds) else none)) fun x => mbind (mbind (mbind (mbind (mpure (.str "app")) fun x => mbind (mbind (mbind (mbind (mpure (.int 2)) fun x => mbind (mbind (mpure (.int 10)) fun x => mbind (mpure []) fun xs => mpure (x :: xs)) fun xs => mpure (x :: xs)) fun ds => mlift (if szOk ds.length then some (.tuple ds) else none)) fun x => mbind (mpure []) fun xs => mpure (x :: xs)) fun xs => mpure (x :: xs)) fun ds => mlift (if szOk ds.length then some (.tuple ds) else none)) fun x => mbind (mpure []) fun xs => mpure (x :: xs)) fun xs => mpure (x :: xs)) fun ds => mlift (if szOk ds.length then some (.tuple ds) else none)) fun x => mbind (mbind (mpure .none) fun x => mbind (mpure []) fun xs => mpure (x :: xs)) fun xs => mpure (x :: xs)) fun xs => mpure (x :: xs)) fun ds => mlift (if szOk ds.length then some (.tuple ds) else none)) fun x => mbind (mpure []) fun xs => mpure (x :: xs)) fun xs => mpure (x :: xs)) fun xs => mpure (x :: xs)) fun ds => mlift (if szOk ds.length then some (.tuple ds) else none)) fun d r => (tfName 2 d r).map .nx) (mseq (sbind (mpure (.str "row 4 lib:1,2 -> app:1 lib:2
row 0 ->
row 7 zip:9 app:2,10 -> none")) fun d r => (tfName 3 d r).map .nx) (mseq (sbind (mbind (mbind (mbind (fCall 1 g_shelf_text (mbind (fName 0) fun x => mbind (mpure []) fun xs => mpure (x :: xs))) fun x => mbind (mbind (fCallP 1 1 g_shelf_text [0] (mbind (fCall 1 (g__law_lists 10) (mbind (fName 0) fun x => mbind (mpure []) fun xs => mpure (x :: xs))) fun x => mbind (mpure []) fun xs => mpure (x :: xs))) fun x => mbind (mbind (fCall 1 g_shelf_text (mbind (mbind (mpure []) fun ds => mlift (if szOk ds.length then some (.tuple ds) else none)) fun x => mbind (mpure []) fun xs => mpure (x :: xs))) fun x => mbind (mbind (fCall 2 g__law_read (mbind (mpure (.int 0)) fun x => mbind (mbind (fName 1) fun x => mbind (mpure []) fun xs => mpure (x :: xs)) fun xs => mpure (x :: xs))) fun x => mbind (mpure []) fun xs => mpure (x :: xs)) fun xs => mpure (x :: xs)) fun xs => mpure (x :: xs)) fun xs => mpure (x :: xs)) fun ds => mlift (if szOk ds.length then some ds else none)) fun ds => mpure (.list ds)) fun d r => (tfName 4 d r).map .nx) (mseq (sbind (mbind (fName 4) fun x => mbind (mbind (mbind (mbind (fCallP 1 1 g_read_shelf [0] (mbind (mpure (.str "")) fun x => mbind (mpure []) fun xs => mpure (x :: xs))) fun x => mbind (mbind (fCall 1 g_lock_text (mbind (mbind (mbind (mbind (mbind (mpure (.str "app")) fun x => mbind (mbind (mpure (.int 1)) fun x => mbind (mpure []) fun xs => mpure (x :: xs)) fun xs => mpure (x :: xs)) fun ds => mlift (if szOk ds.length then some (.tuple ds) else none)) fun x => mbind (mbind (mbind (mbind (mpure (.str "lib")) fun x => mbind (mbind (mpure (.int 2)) fun x => mbind (mpure []) fun xs => mpure (x :: xs)) fun xs => mpure (x :: xs)) fun ds => mlift (if szOk ds.length then some (.tuple ds) else none)) fun x => mbind (mpure []) fun xs => mpure (x :: xs)) fun xs => mpure (x :: xs)) fun ds => mlift (if szOk ds.length then some (.tuple ds) else none)) fun x => mbind (mpure []) fun xs => mpure (x :: xs))) fun x => mbind (mbind (fCallP 1 1 g_lock_text [0] (mbind (mbind (mbind (mpure []) fun ds => mlift (if szOk ds.length then some ds else none)) fun ds => mpure (.list ds)) fun x => mbind (mpure []) fun xs => mpure (x :: xs))) fun x => mbind (mpure []) fun xs => mpure (x :: xs)) fun xs => mpure (x :: xs)) fun xs => mpure (x :: xs)) fun ds => mlift (if szOk ds.length then some ds else none)) fun ds => mpure (.list ds)) fun y => mlift (gAdd x y)) fun d r => (tfName 4 d r).map .nx) (mseq (sbind (mbind (fName 4) fun x => mbind (mbind (mbind (mbind (fCall 2 g__law_read (mbind (mpure (.int 1)) fun x => mbind (mbind (mpure (.str "lock app:1 lib:20")) fun x => mbind (mpure []) fun xs => mpure (x :: xs)) fun xs => mpure (x :: xs))) fun x => mbind (mbind (fCallP 1 1 g_read_lock [0] (mbind (mpure (.str "lock")) fun x => mbind (mpure []) fun xs => mpure (x :: xs))) fun x => mbind (mpure []) fun xs => mpure (x :: xs)) fun xs => mpure (x :: xs)) fun ds => mlift (if szOk ds.length then some ds else none)) fun ds => mpure (.list ds)) fun y => mlift (gAdd x y)) fun d r => (tfName 4 d r).map .nx) (mseq (sbind (mbind (fName 4) fun x => mbind (mbind (mbind (mbind (fCall 1 g_wish_text (mbind (mbind (mbind (mbind (mbind (mpure (.str "lib")) fun x => mbind (mbind (mbind (mbind (mpure (.int 1)) fun x => mbind (mbind (mpure (.int 2)) fun x => mbind (mpure []) fun xs => mpure (x :: xs)) fun xs => mpure (x :: xs)) fun ds => mlift (if szOk ds.length then some (.tuple ds) else none)) fun x => mbind (mpure []) fun xs => mpure (x :: xs)) fun xs => mpure (x :: xs)) fun ds => mlift (if szOk ds.length then some (.tuple ds) else none)) fun x => mbind (mbind (mbind (mbind (mpure (.str "app")) fun x => mbind (mbind (mbind (mbind (mpure (.int 1)) fun x => mbind (mpure []) fun xs => mpure (x :: xs)) fun ds => mlift (if szOk ds.length then some (.tuple ds) else none)) fun x => mbind (mpure []) fun xs => mpure (x :: xs)) fun xs => mpure (x :: xs)) fun ds => mlift (if szOk ds.length then some (.tuple ds) else none)) fun x => mbind (mpure []) fun xs => mpure (x :: xs)) fun xs => mpure (x :: xs)) fun ds => mlift (if szOk ds.length then some (.tuple ds) else none)) fun x => mbind (mpure []) fun xs => mpure (x :: xs))) fun x => mbind (mbind (fCallP 1 1 g_wish_text [0] (mbind (mbind (mbind (mbind (mbind (mbind (mbind (mpure (.str "zip")) fun x => mbind (mbind (mbind (mbind (mbind (mpure (.int 3)) fun x => mbind (mbind (mpure (.int 12)) fun x => mbind (mpure []) fun xs => mpure (x :: xs)) fun xs => mpure (x :: xs)) fun ds => mlift (if szOk ds.length then some ds else none)) fun ds => mpure (.list ds)) fun x => mbind (mpure []) fun xs => mpure (x :: xs)) fun xs => mpure (x :: xs)) fun ds => mlift (if szOk ds.length then some ds else none)) fun ds => mpure (.list ds)) fun x => mbind (mpure []) fun xs => mpure (x :: xs)) fun ds => mlift (if szOk ds.length then some ds else none)) fun ds => mpure (.list ds)) fun x => mbind (mpure []) fun xs => mpure (x :: xs))) fun x => mbind (mbind (fCall 1 g_wish_text (mbind (mbind (mpure []) fun ds => mlift (if szOk ds.length then some (.tuple ds) else none)) fun x => mbind (mpure []) fun xs => mpure (x :: xs))) fun x => mbind (mpure []) fun xs => mpure (x :: xs)) fun xs => mpure (x :: xs)) fun xs => mpure (x :: xs)) fun ds => mlift (if szOk ds.length then some ds else none)) fun ds => mpure (.list ds)) fun y => mlift (gAdd x y)) fun d r => (tfName 4 d r).map .nx) (mseq (sbind (mbind (fName 4) fun x => mbind (mbind (mbind (mbind (fCall 2 g__law_read (mbind (mpure (.int 2)) fun x => mbind (mbind (mpure (.str "wish lib:1,2 app:1")) fun x => mbind (mpure []) fun xs => mpure (x :: xs)) fun xs => mpure (x :: xs))) fun x => mbind (mbind (fCallP 1 1 g_read_wish [0] (mbind (mpure (.str "wish")) fun x => mbind (mpure []) fun xs => mpure (x :: xs))) fun x => mbind (mbind (fCall 1 g_telling_text (mbind (fName 2) fun x => mbind (mpure []) fun xs => mpure (x :: xs))) fun x => mbind (mpure []) fun xs => mpure (x :: xs)) fun xs => mpure (x :: xs)) fun xs => mpure (x :: xs)) fun ds => mlift (if szOk ds.length then some ds else none)) fun ds => mpure (.list ds)) fun y => mlift (gAdd x y)) fun d r => (tfName 4 d r).map .nx) (mseq (sbind (mbind (fName 4) fun x => mbind (mbind (mbind (mbind (fCallP 1 1 g_telling_text [0] (mbind (fCall 1 (g__law_lists 10) (mbind (fName 2) fun x => mbind (mpure []) fun xs => mpure (x :: xs))) fun x => mbind (mpure []) fun xs => mpure (x :: xs))) fun x => mbind (mbind (fCall 1 g_telling_text (mbind (mbind (mbind (mpure []) fun ds => mlift (if szOk ds.length then some ds else none)) fun ds => mpure (.list ds)) fun x => mbind (mpure []) fun xs => mpure (x :: xs))) fun x => mbind (mbind (fCall 2 g__law_read (mbind (mpure (.int 3)) fun x => mbind (mbind (fName 3) fun x => mbind (mpure []) fun xs => mpure (x :: xs)) fun xs => mpure (x :: xs))) fun x => mbind (mpure []) fun xs => mpure (x :: xs)) fun xs => mpure (x :: xs)) fun xs => mpure (x :: xs)) fun ds => mlift (if szOk ds.length then some ds else none)) fun ds => mpure (.list ds)) fun y => mlift (gAdd x y)) fun d r => (tfName 4 d r).map .nx) (mseq (sbind (mbind (fName 4) fun x => mbind (mbind (mbind (mbind (fCallP 1 1 g_read_telling [0] (mbind (mpure (.str "")) fun x => mbind (mpure []) fun xs => mpure (x :: xs))) fun x => mbind (mbind (fCall 2 g__law_read (mbind (mpure (.int 3)) fun x => mbind (mbind (mpure (.str "row 1000000 -> abcdefghijkl:1000000")) fun x => mbind (mpure []) fun xs => mpure (x :: xs)) fun xs => mpure (x :: xs))) fun x => mbind (mpure []) fun xs => mpure (x :: xs)) fun xs => mpure (x :: xs)) fun ds => mlift (if szOk ds.length then some ds else none)) fun ds => mpure (.list ds)) fun y => mlift (gAdd x y)) fun d r => (tfName 4 d r).map .nx) (mseq (sbind (mbind (fName 4) fun x => mbind (mbind (mbind (mbind (fCall 2 g__law_read (mbind (mpure (.int 0)) fun x => mbind (mbind (mpure (.str "release b:9 0 0
let none:0
release none:10 0 -")) fun x => mbind (mpure []) fun xs => mpure (x :: xs)) fun xs => mpure (x :: xs))) fun x => mbind (mpure []) fun xs => mpure (x :: xs)) fun ds => mlift (if szOk ds.length then some ds else none)) fun ds => mpure (.list ds)) fun y => mlift (gAdd x y)) fun d r => (tfName 4 d r).map .nx) (mseq (sbind (mbind (fName 4) fun x => mbind (mbind (mbind (mbind (fCall 2 g__law_read (mbind (mpure (.int 3)) fun x => mbind (mbind (mpure (.str "row 0 none:1 -> none:1
row 0 none:1 -> none")) fun x => mbind (mpure []) fun xs => mpure (x :: xs)) fun xs => mpure (x :: xs))) fun x => mbind (mpure []) fun xs => mpure (x :: xs)) fun ds => mlift (if szOk ds.length then some ds else none)) fun ds => mpure (.list ds)) fun y => mlift (gAdd x y)) fun d r => (tfName 4 d r).map .nx) (mseq (sbind (mbind (mbind (mbind (fName 1) fun x => mbind (mbind (fName 1) fun x => mbind (mbind (mpure (.str "")) fun x => mbind (mbind (fName 0) fun x => mbind (mbind (mbind (mpure []) fun ds => mlift (if szOk ds.length then some (.tuple ds) else none)) fun x => mbind (mbind (mpure (.str "lock app:1 lib:2")) fun x => mbind (mbind (mpure (.str "lock")) fun x => mbind (mbind (mbind (mbind (mbind (mbind (mpure (.str "app")) fun x => mbind (mbind (mpure (.int 1)) fun x => mbind (mpure []) fun xs => mpure (x :: xs)) fun xs => mpure (x :: xs)) fun ds => mlift (if szOk ds.length then some (.tuple ds) else none)) fun x => mbind (mbind (mbind (mbind (mpure (.str "lib")) fun x => mbind (mbind (mpure (.int 20)) fun x => mbind (mpure []) fun xs => mpure (x :: xs)) fun xs => mpure (x :: xs)) fun ds => mlift (if szOk ds.length then some (.tuple ds) else none)) fun x => mbind (mpure []) fun xs => mpure (x :: xs)) fun xs => mpure (x :: xs)) fun ds => mlift (if szOk ds.length then some (.tuple ds) else none)) fun x => mbind (mbind (mbind (mpure []) fun ds => mlift (if szOk ds.length then some (.tuple ds) else none)) fun x => mbind (mpure []) fun xs => mpure (x :: xs)) fun xs => mpure (x :: xs)) fun xs => mpure (x :: xs)) fun xs => mpure (x :: xs)) fun xs => mpure (x :: xs)) fun xs => mpure (x :: xs)) fun xs => mpure (x :: xs)) fun xs => mpure (x :: xs)) fun xs => mpure (x :: xs)) fun ds => mlift (if szOk ds.length then some ds else none)) fun ds => mpure (.list ds)) fun d r => (tfName 5 d r).map .nx) (mseq (sbind (mbind (fName 5) fun x => mbind (mbind (mbind (mbind (mpure (.str "wish lib:1,2 app:1")) fun x => mbind (mbind (mpure (.str "wish zip:3,12")) fun x => mbind (mbind (mpure (.str "wish")) fun x => mbind (mbind (mbind (mbind (mbind (mbind (mpure (.str "lib")) fun x => mbind (mbind (mbind (mbind (mpure (.int 1)) fun x => mbind (mbind (mpure (.int 2)) fun x => mbind (mpure []) fun xs => mpure (x :: xs)) fun xs => mpure (x :: xs)) fun ds => mlift (if szOk ds.length then some (.tuple ds) else none)) fun x => mbind (mpure []) fun xs => mpure (x :: xs)) fun xs => mpure (x :: xs)) fun ds => mlift (if szOk ds.length then some (.tuple ds) else none)) fun x => mbind (mbind (mbind (mbind (mpure (.str "app")) fun x => mbind (mbind (mbind (mbind (mpure (.int 1)) fun x => mbind (mpure []) fun xs => mpure (x :: xs)) fun ds => mlift (if szOk ds.length then some (.tuple ds) else none)) fun x => mbind (mpure []) fun xs => mpure (x :: xs)) fun xs => mpure (x :: xs)) fun ds => mlift (if szOk ds.length then some (.tuple ds) else none)) fun x => mbind (mpure []) fun xs => mpure (x :: xs)) fun xs => mpure (x :: xs)) fun ds => mlift (if szOk ds.length then some (.tuple ds) else none)) fun x => mbind (mbind (mbind (mpure []) fun ds => mlift (if szOk ds.length then some (.tuple ds) else none)) fun x => mbind (mbind (fName 3) fun x => mbind (mpure []) fun xs => mpure (x :: xs)) fun xs => mpure (x :: xs)) fun xs => mpure (x :: xs)) fun xs => mpure (x :: xs)) fun xs => mpure (x :: xs)) fun xs => mpure (x :: xs)) fun ds => mlift (if szOk ds.length then some ds else none)) fun ds => mpure (.list ds)) fun y => mlift (gAdd x y)) fun d r => (tfName 5 d r).map .nx) (mseq (sbind (mbind (fName 5) fun x => mbind (mbind (mbind (mbind (fName 3) fun x => mbind (mbind (mpure (.str "")) fun x => mbind (mbind (fName 2) fun x => mbind (mbind (mbind (mpure []) fun ds => mlift (if szOk ds.length then some (.tuple ds) else none)) fun x => mbind (mbind (mbind (mbind (mbind (mbind (mpure (.int 1000000)) fun x => mbind (mbind (mbind (mpure []) fun ds => mlift (if szOk ds.length then some (.tuple ds) else none)) fun x => mbind (mbind (mbind (mbind (mbind (mbind (mpure (.str "abcdefghijkl")) fun x => mbind (mbind (mpure (.int 1000000)) fun x => mbind (mpure []) fun xs => mpure (x :: xs)) fun xs => mpure (x :: xs)) fun ds => mlift (if szOk ds.length then some (.tuple ds) else none)) fun x => mbind (mpure []) fun xs => mpure (x :: xs)) fun ds => mlift (if szOk ds.length then some (.tuple ds) else none)) fun x => mbind (mpure []) fun xs => mpure (x :: xs)) fun xs => mpure (x :: xs)) fun xs => mpure (x :: xs)) fun ds => mlift (if szOk ds.length then some (.tuple ds) else none)) fun x => mbind (mpure []) fun xs => mpure (x :: xs)) fun ds => mlift (if szOk ds.length then some (.tuple ds) else none)) fun x => mbind (mpure []) fun xs => mpure (x :: xs)) fun xs => mpure (x :: xs)) fun xs => mpure (x :: xs)) fun xs => mpure (x :: xs)) fun xs => mpure (x :: xs)) fun ds => mlift (if szOk ds.length then some ds else none)) fun ds => mpure (.list ds)) fun y => mlift (gAdd x y)) fun d r => (tfName 5 d r).map .nx) (mseq (sbind (mbind (fName 5) fun x => mbind (mbind (mbind (mbind (mbind (mbind (mbind (mbind (mbind (mbind (mpure (.str "b")) fun x => mbind (mbind (mpure (.int 9)) fun x => mbind (mpure []) fun xs => mpure (x :: xs)) fun xs => mpure (x :: xs)) fun ds => mlift (if szOk ds.length then some (.tuple ds) else none)) fun x => mbind (mbind (mbind (mbind (mbind (mbind (mpure (.str "none")) fun x => mbind (mbind (mbind (mbind (mpure (.int 0)) fun x => mbind (mpure []) fun xs => mpure (x :: xs)) fun ds => mlift (if szOk ds.length then some (.tuple ds) else none)) fun x => mbind (mpure []) fun xs => mpure (x :: xs)) fun xs => mpure (x :: xs)) fun ds => mlift (if szOk ds.length then some (.tuple ds) else none)) fun x => mbind (mpure []) fun xs => mpure (x :: xs)) fun ds => mlift (if szOk ds.length then some (.tuple ds) else none)) fun x => mbind (mbind (mpure (.int 0)) fun x => mbind (mbind (mpure (.int 0)) fun x => mbind (mpure []) fun xs => mpure (x :: xs)) fun xs => mpure (x :: xs)) fun xs => mpure (x :: xs)) fun xs => mpure (x :: xs)) fun ds => mlift (if szOk ds.length then some (.tuple ds) else none)) fun x => mbind (mbind (mbind (mbind (mbind (mbind (mpure (.str "none")) fun x => mbind (mbind (mpure (.int 10)) fun x => mbind (mpure []) fun xs => mpure (x :: xs)) fun xs => mpure (x :: xs)) fun ds => mlift (if szOk ds.length then some (.tuple ds) else none)) fun x => mbind (mbind (mbind (mpure []) fun ds => mlift (if szOk ds.length then some (.tuple ds) else none)) fun x => mbind (mbind (mpure (.int 0)) fun x => mbind (mbind (mpure .none) fun x => mbind (mpure []) fun xs => mpure (x :: xs)) fun xs => mpure (x :: xs)) fun xs => mpure (x :: xs)) fun xs => mpure (x :: xs)) fun ds => mlift (if szOk ds.length then some (.tuple ds) else none)) fun x => mbind (mpure []) fun xs => mpure (x :: xs)) fun xs => mpure (x :: xs)) fun ds => mlift (if szOk ds.length then some (.tuple ds) else none)) fun x => mbind (mpure []) fun xs => mpure (x :: xs)) fun ds => mlift (if szOk ds.length then some ds else none)) fun ds => mpure (.list ds)) fun y => mlift (gAdd x y)) fun d r => (tfName 5 d r).map .nx) (mseq (sbind (mbind (fName 5) fun x => mbind (mbind (mbind (mbind (mbind (mbind (mbind (mbind (mpure (.int 0)) fun x => mbind (mbind (mbind (mbind (mbind (mbind (mpure (.str "none")) fun x => mbind (mbind (mbind (mbind (mpure (.int 1)) fun x => mbind (mpure []) fun xs => mpure (x :: xs)) fun ds => mlift (if szOk ds.length then some (.tuple ds) else none)) fun x => mbind (mpure []) fun xs => mpure (x :: xs)) fun xs => mpure (x :: xs)) fun ds => mlift (if szOk ds.length then some (.tuple ds) else none)) fun x => mbind (mpure []) fun xs => mpure (x :: xs)) fun ds => mlift (if szOk ds.length then some (.tuple ds) else none)) fun x => mbind (mbind (mbind (mbind (mbind (mbind (mpure (.str "none")) fun x => mbind (mbind (mpure (.int 1)) fun x => mbind (mpure []) fun xs => mpure (x :: xs)) fun xs => mpure (x :: xs)) fun ds => mlift (if szOk ds.length then some (.tuple ds) else none)) fun x => mbind (mpure []) fun xs => mpure (x :: xs)) fun ds => mlift (if szOk ds.length then some (.tuple ds) else none)) fun x => mbind (mpure []) fun xs => mpure (x :: xs)) fun xs => mpure (x :: xs)) fun xs => mpure (x :: xs)) fun ds => mlift (if szOk ds.length then some (.tuple ds) else none)) fun x => mbind (mbind (mbind (mbind (mpure (.int 0)) fun x => mbind (mbind (mbind (mbind (mbind (mbind (mpure (.str "none")) fun x => mbind (mbind (mbind (mbind (mpure (.int 1)) fun x => mbind (mpure []) fun xs => mpure (x :: xs)) fun ds => mlift (if szOk ds.length then some (.tuple ds) else none)) fun x => mbind (mpure []) fun xs => mpure (x :: xs)) fun xs => mpure (x :: xs)) fun ds => mlift (if szOk ds.length then some (.tuple ds) else none)) fun x => mbind (mpure []) fun xs => mpure (x :: xs)) fun ds => mlift (if szOk ds.length then some (.tuple ds) else none)) fun x => mbind (mbind (mpure .none) fun x => mbind (mpure []) fun xs => mpure (x :: xs)) fun xs => mpure (x :: xs)) fun xs => mpure (x :: xs)) fun ds => mlift (if szOk ds.length then some (.tuple ds) else none)) fun x => mbind (mpure []) fun xs => mpure (x :: xs)) fun xs => mpure (x :: xs)) fun ds => mlift (if szOk ds.length then some (.tuple ds) else none)) fun x => mbind (mpure []) fun xs => mpure (x :: xs)) fun ds => mlift (if szOk ds.length then some ds else none)) fun ds => mpure (.list ds)) fun y => mlift (gAdd x y)) fun d r => (tfName 5 d r).map .nx) (mseq (sbind (mbind (fName 4) fun x => mbind (mbind (mbind (mbind (fCall 2 g__law_read (mbind (mpure (.int 0)) fun x => mbind (mbind (mpure (.str "release a:1 9 10
release a:2 2 100")) fun x => mbind (mpure []) fun xs => mpure (x :: xs)) fun xs => mpure (x :: xs))) fun x => mbind (mbind (fCall 2 g__law_read (mbind (mpure (.int 0)) fun x => mbind (mbind (mpure (.str "release a:1 10 9")) fun x => mbind (mpure []) fun xs => mpure (x :: xs)) fun xs => mpure (x :: xs))) fun x => mbind (mbind (fCall 2 g__law_read (mbind (mpure (.int 0)) fun x => mbind (mbind (mpure (.str "release a:1 100 20")) fun x => mbind (mpure []) fun xs => mpure (x :: xs)) fun xs => mpure (x :: xs))) fun x => mbind (mpure []) fun xs => mpure (x :: xs)) fun xs => mpure (x :: xs)) fun xs => mpure (x :: xs)) fun ds => mlift (if szOk ds.length then some ds else none)) fun ds => mpure (.list ds)) fun y => mlift (gAdd x y)) fun d r => (tfName 4 d r).map .nx) (mseq (sbind (mbind (fName 5) fun x => mbind (mbind (mbind (mbind (mbind (mbind (mbind (mbind (mbind (mbind (mpure (.str "a")) fun x => mbind (mbind (mpure (.int 1)) fun x => mbind (mpure []) fun xs => mpure (x :: xs)) fun xs => mpure (x :: xs)) fun ds => mlift (if szOk ds.length then some (.tuple ds) else none)) fun x => mbind (mbind (mbind (mpure []) fun ds => mlift (if szOk ds.length then some (.tuple ds) else none)) fun x => mbind (mbind (mpure (.int 9)) fun x => mbind (mbind (mpure (.int 10)) fun x => mbind (mpure []) fun xs => mpure (x :: xs)) fun xs => mpure (x :: xs)) fun xs => mpure (x :: xs)) fun xs => mpure (x :: xs)) fun ds => mlift (if szOk ds.length then some (.tuple ds) else none)) fun x => mbind (mbind (mbind (mbind (mbind (mbind (mpure (.str "a")) fun x => mbind (mbind (mpure (.int 2)) fun x => mbind (mpure []) fun xs => mpure (x :: xs)) fun xs => mpure (x :: xs)) fun ds => mlift (if szOk ds.length then some (.tuple ds) else none)) fun x => mbind (mbind (mbind (mpure []) fun ds => mlift (if szOk ds.length then some (.tuple ds) else none)) fun x => mbind (mbind (mpure (.int 2)) fun x => mbind (mbind (mpure (.int 100)) fun x => mbind (mpure []) fun xs => mpure (x :: xs)) fun xs => mpure (x :: xs)) fun xs => mpure (x :: xs)) fun xs => mpure (x :: xs)) fun ds => mlift (if szOk ds.length then some (.tuple ds) else none)) fun x => mbind (mpure []) fun xs => mpure (x :: xs)) fun xs => mpure (x :: xs)) fun ds => mlift (if szOk ds.length then some (.tuple ds) else none)) fun x => mbind (mbind (mbind (mbind (mbind (mpure (.str "bad")) fun x => mbind (mbind (mpure (.int 0)) fun x => mbind (mbind (mpure (.bool true)) fun x => mbind (mpure []) fun xs => mpure (x :: xs)) fun xs => mpure (x :: xs)) fun xs => mpure (x :: xs)) fun ds => mlift (if szOk ds.length then some ds else none)) fun ds => mpure (.list ds)) fun x => mbind (mbind (mbind (mbind (mbind (mpure (.str "bad")) fun x => mbind (mbind (mpure (.int 0)) fun x => mbind (mbind (mpure (.bool true)) fun x => mbind (mpure []) fun xs => mpure (x :: xs)) fun xs => mpure (x :: xs)) fun xs => mpure (x :: xs)) fun ds => mlift (if szOk ds.length then some ds else none)) fun ds => mpure (.list ds)) fun x => mbind (mpure []) fun xs => mpure (x :: xs)) fun xs => mpure (x :: xs)) fun xs => mpure (x :: xs)) fun ds => mlift (if szOk ds.length then some ds else none)) fun ds => mpure (.list ds)) fun y => mlift (gAdd x y)) fun d r => (tfName 5 d r).map .nx) (sbind (fCall 2 (g__law_same 10) (mbind (fName 4) fun x => mbind (mbind (fName 5) fun x => mbind (mpure []) fun xs => mpure (x :: xs)) fun xs => mpure (x :: xs))) fun d r => some (.rt false d r))))))))))))))))))))))
def g__law_texts_right : FM := mBody [] 0 6 m__law_texts_right
theorem F__law_texts_right {P : Program} {w : World} {K : PySem.W.Frag} {mg : Str → Option Value} {base : Heap} {as : Nat → Addr} (G : Gd K mg as) (F__law_lists : Fn P w K mg base (fun c => .ref (as c)) "_law_lists" S__law_lists 10 ["matter"] (g__law_lists 10)) (F__law_read : Fn P w K mg base (fun c => .ref (as c)) "_law_read" S__law_read 15 ["door_so", "text_so"] g__law_read) (F__law_same : Fn P w K mg base (fun c => .ref (as c)) "_law_same" S__law_same 10 ["got", "due"] (g__law_same 10)) (F_lock_text : Fn P w K mg base (fun c => .ref (as c)) "lock_text" S_lock_text 2 ["lock"] g_lock_text) (F_read_lock : Fn P w K mg base (fun c => .ref (as c)) "read_lock" S_read_lock 5 ["text"] g_read_lock) (F_read_shelf : Fn P w K mg base (fun c => .ref (as c)) "read_shelf" S_read_shelf 14 ["text"] g_read_shelf) (F_read_telling : Fn P w K mg base (fun c => .ref (as c)) "read_telling" S_read_telling 6 ["text"] g_read_telling) (F_read_wish : Fn P w K mg base (fun c => .ref (as c)) "read_wish" S_read_wish 5 ["text"] g_read_wish) (F_shelf_text : Fn P w K mg base (fun c => .ref (as c)) "shelf_text" S_shelf_text 2 ["shelf"] g_shelf_text) (F_telling_text : Fn P w K mg base (fun c => .ref (as c)) "telling_text" S_telling_text 3 ["telling"] g_telling_text) (F_wish_text : Fn P w K mg base (fun c => .ref (as c)) "wish_text" S_wish_text 2 ["wish"] g_wish_text) (T : Tx K mg "_law_texts_right" S__law_texts_right []) : Fn P w K mg base (fun c => .ref (as c)) "_law_texts_right" S__law_texts_right 16 [] g__law_texts_right :=
  fn_mk (P := P) (w := w) (K := K) (mg := mg) (base := base) (C := fun c => .ref (as c)) (N := N__law_texts_right) (k := 15) (PI := []) (m := m__law_texts_right) T sc__law_texts_right (by decide) (fun f cdv A outer s H E hr => by
    have hu := huE hr
    have hv := hvE hr
    have tk := tkE (P := P) (w := w) (K := K) (mg := mg) (base := base) (N := N__law_texts_right) (x := "_law_texts_right") (S := S__law_texts_right) (f := f) (cdv := cdv) (A := A) (outer := outer) (s := s) (H := H) (E := E)
    have hp := hpE (P := P) (w := w) (K := K) (mg := mg) (base := base) (N := N__law_texts_right) (x := "_law_texts_right") (S := S__law_texts_right) (f := f) (cdv := cdv) (A := A) (outer := outer) (s := s) (H := H) (E := E)
    exact ⟨_, (pss_cons (ps_set (i := 0) nd__law_texts_right rfl (by first | exact .inl rfl | exact .inr rfl) (pe_tupN (pa_cons (pe_tupN (pa_cons (pe_tupN (pa_cons pe_str (pa_cons pe_int pa_nil))) (pa_cons (pe_tupN (pa_cons (pe_tupN (pa_cons pe_str (pa_cons (pe_tupN (pa_cons pe_int (pa_cons pe_int pa_nil))) pa_nil))) (pa_cons (pe_tupN (pa_cons pe_str (pa_cons (pe_tupN (pa_cons pe_int pa_nil)) pa_nil))) pa_nil))) (pa_cons pe_int (pa_cons pe_non pa_nil))))) (pa_cons (pe_tupN (pa_cons (pe_tupN (pa_cons pe_str (pa_cons pe_int pa_nil))) (pa_cons (pe_tupN pa_nil) (pa_cons pe_int (pa_cons pe_int pa_nil))))) (pa_cons (pe_tupN (pa_cons (pe_tupN (pa_cons pe_str (pa_cons pe_int pa_nil))) (pa_cons (pe_tupN (pa_cons (pe_tupN (pa_cons pe_str (pa_cons (pe_tupN (pa_cons pe_int (pa_cons pe_int (pa_cons pe_int pa_nil)))) pa_nil))) pa_nil)) (pa_cons pe_int (pa_cons pe_int pa_nil))))) pa_nil))))) (pss_cons (ps_set (i := 1) nd__law_texts_right rfl (by first | exact .inl rfl | exact .inr rfl) pe_str) (pss_cons (ps_set (i := 2) nd__law_texts_right rfl (by first | exact .inl rfl | exact .inr rfl) (pe_tupN (pa_cons (pe_tupN (pa_cons pe_int (pa_cons (pe_tupN (pa_cons (pe_tupN (pa_cons pe_str (pa_cons (pe_tupN (pa_cons pe_int (pa_cons pe_int pa_nil))) pa_nil))) pa_nil)) (pa_cons (pe_tupN (pa_cons (pe_tupN (pa_cons pe_str (pa_cons pe_int pa_nil))) (pa_cons (pe_tupN (pa_cons pe_str (pa_cons pe_int pa_nil))) pa_nil))) pa_nil)))) (pa_cons (pe_tupN (pa_cons pe_int (pa_cons (pe_tupN pa_nil) (pa_cons (pe_tupN pa_nil) pa_nil)))) (pa_cons (pe_tupN (pa_cons pe_int (pa_cons (pe_tupN (pa_cons (pe_tupN (pa_cons pe_str (pa_cons (pe_tupN (pa_cons pe_int pa_nil)) pa_nil))) (pa_cons (pe_tupN (pa_cons pe_str (pa_cons (pe_tupN (pa_cons pe_int (pa_cons pe_int pa_nil))) pa_nil))) pa_nil))) (pa_cons pe_non pa_nil)))) pa_nil))))) (pss_cons (ps_set (i := 3) nd__law_texts_right rfl (by first | exact .inl rfl | exact .inr rfl) pe_str) (pss_cons (ps_set (i := 4) nd__law_texts_right rfl (by first | exact .inl rfl | exact .inr rfl) (pe_lst (pa_cons (pe_fn F_shelf_text hr (by omega) tk (by rfl) (pa_cons (pv 0) pa_nil)) (pa_cons (pe_fnK (ks := ["shelf"]) (is := [0]) F_shelf_text hr (by omega) tk (by rfl) (fun _ _ _ _ _ _ ws hl => match ws, hl with | [_], _ => rfl) (pk_cons (pe_fn F__law_lists hr (by omega) tk (by rfl) (pa_cons (pv 0) pa_nil)) pk_nil)) (pa_cons (pe_fn F_shelf_text hr (by omega) tk (by rfl) (pa_cons (pe_tupN pa_nil) pa_nil)) (pa_cons (pe_fn F__law_read hr (by omega) tk (by rfl) (pa_cons pe_int (pa_cons (pv 1) pa_nil))) pa_nil)))))) (pss_cons (ps_set (i := 4) nd__law_texts_right rfl (by first | exact .inl rfl | exact .inr rfl) (pe_op opd_add (pv 4) (pe_lst (pa_cons (pe_fnK (ks := ["text"]) (is := [0]) F_read_shelf hr (by omega) tk (by rfl) (fun _ _ _ _ _ _ ws hl => match ws, hl with | [_], _ => rfl) (pk_cons pe_str pk_nil)) (pa_cons (pe_fn F_lock_text hr (by omega) tk (by rfl) (pa_cons (pe_tupN (pa_cons (pe_tupN (pa_cons pe_str (pa_cons pe_int pa_nil))) (pa_cons (pe_tupN (pa_cons pe_str (pa_cons pe_int pa_nil))) pa_nil))) pa_nil)) (pa_cons (pe_fnK (ks := ["lock"]) (is := [0]) F_lock_text hr (by omega) tk (by rfl) (fun _ _ _ _ _ _ ws hl => match ws, hl with | [_], _ => rfl) (pk_cons (pe_lst pa_nil) pk_nil)) pa_nil)))))) (pss_cons (ps_set (i := 4) nd__law_texts_right rfl (by first | exact .inl rfl | exact .inr rfl) (pe_op opd_add (pv 4) (pe_lst (pa_cons (pe_fn F__law_read hr (by omega) tk (by rfl) (pa_cons pe_int (pa_cons pe_str pa_nil))) (pa_cons (pe_fnK (ks := ["text"]) (is := [0]) F_read_lock hr (by omega) tk (by rfl) (fun _ _ _ _ _ _ ws hl => match ws, hl with | [_], _ => rfl) (pk_cons pe_str pk_nil)) pa_nil))))) (pss_cons (ps_set (i := 4) nd__law_texts_right rfl (by first | exact .inl rfl | exact .inr rfl) (pe_op opd_add (pv 4) (pe_lst (pa_cons (pe_fn F_wish_text hr (by omega) tk (by rfl) (pa_cons (pe_tupN (pa_cons (pe_tupN (pa_cons pe_str (pa_cons (pe_tupN (pa_cons pe_int (pa_cons pe_int pa_nil))) pa_nil))) (pa_cons (pe_tupN (pa_cons pe_str (pa_cons (pe_tupN (pa_cons pe_int pa_nil)) pa_nil))) pa_nil))) pa_nil)) (pa_cons (pe_fnK (ks := ["wish"]) (is := [0]) F_wish_text hr (by omega) tk (by rfl) (fun _ _ _ _ _ _ ws hl => match ws, hl with | [_], _ => rfl) (pk_cons (pe_lst (pa_cons (pe_lst (pa_cons pe_str (pa_cons (pe_lst (pa_cons pe_int (pa_cons pe_int pa_nil))) pa_nil))) pa_nil)) pk_nil)) (pa_cons (pe_fn F_wish_text hr (by omega) tk (by rfl) (pa_cons (pe_tupN pa_nil) pa_nil)) pa_nil)))))) (pss_cons (ps_set (i := 4) nd__law_texts_right rfl (by first | exact .inl rfl | exact .inr rfl) (pe_op opd_add (pv 4) (pe_lst (pa_cons (pe_fn F__law_read hr (by omega) tk (by rfl) (pa_cons pe_int (pa_cons pe_str pa_nil))) (pa_cons (pe_fnK (ks := ["text"]) (is := [0]) F_read_wish hr (by omega) tk (by rfl) (fun _ _ _ _ _ _ ws hl => match ws, hl with | [_], _ => rfl) (pk_cons pe_str pk_nil)) (pa_cons (pe_fn F_telling_text hr (by omega) tk (by rfl) (pa_cons (pv 2) pa_nil)) pa_nil)))))) (pss_cons (ps_set (i := 4) nd__law_texts_right rfl (by first | exact .inl rfl | exact .inr rfl) (pe_op opd_add (pv 4) (pe_lst (pa_cons (pe_fnK (ks := ["telling"]) (is := [0]) F_telling_text hr (by omega) tk (by rfl) (fun _ _ _ _ _ _ ws hl => match ws, hl with | [_], _ => rfl) (pk_cons (pe_fn F__law_lists hr (by omega) tk (by rfl) (pa_cons (pv 2) pa_nil)) pk_nil)) (pa_cons (pe_fn F_telling_text hr (by omega) tk (by rfl) (pa_cons (pe_lst pa_nil) pa_nil)) (pa_cons (pe_fn F__law_read hr (by omega) tk (by rfl) (pa_cons pe_int (pa_cons (pv 3) pa_nil))) pa_nil)))))) (pss_cons (ps_set (i := 4) nd__law_texts_right rfl (by first | exact .inl rfl | exact .inr rfl) (pe_op opd_add (pv 4) (pe_lst (pa_cons (pe_fnK (ks := ["text"]) (is := [0]) F_read_telling hr (by omega) tk (by rfl) (fun _ _ _ _ _ _ ws hl => match ws, hl with | [_], _ => rfl) (pk_cons pe_str pk_nil)) (pa_cons (pe_fn F__law_read hr (by omega) tk (by rfl) (pa_cons pe_int (pa_cons pe_str pa_nil))) pa_nil))))) (pss_cons (ps_set (i := 4) nd__law_texts_right rfl (by first | exact .inl rfl | exact .inr rfl) (pe_op opd_add (pv 4) (pe_lst (pa_cons (pe_fn F__law_read hr (by omega) tk (by rfl) (pa_cons pe_int (pa_cons pe_str pa_nil))) pa_nil)))) (pss_cons (ps_set (i := 4) nd__law_texts_right rfl (by first | exact .inl rfl | exact .inr rfl) (pe_op opd_add (pv 4) (pe_lst (pa_cons (pe_fn F__law_read hr (by omega) tk (by rfl) (pa_cons pe_int (pa_cons pe_str pa_nil))) pa_nil)))) (pss_cons (ps_set (i := 5) nd__law_texts_right rfl (by first | exact .inl rfl | exact .inr rfl) (pe_lst (pa_cons (pv 1) (pa_cons (pv 1) (pa_cons pe_str (pa_cons (pv 0) (pa_cons (pe_tupN pa_nil) (pa_cons pe_str (pa_cons pe_str (pa_cons (pe_tupN (pa_cons (pe_tupN (pa_cons pe_str (pa_cons pe_int pa_nil))) (pa_cons (pe_tupN (pa_cons pe_str (pa_cons pe_int pa_nil))) pa_nil))) (pa_cons (pe_tupN pa_nil) pa_nil))))))))))) (pss_cons (ps_set (i := 5) nd__law_texts_right rfl (by first | exact .inl rfl | exact .inr rfl) (pe_op opd_add (pv 5) (pe_lst (pa_cons pe_str (pa_cons pe_str (pa_cons pe_str (pa_cons (pe_tupN (pa_cons (pe_tupN (pa_cons pe_str (pa_cons (pe_tupN (pa_cons pe_int (pa_cons pe_int pa_nil))) pa_nil))) (pa_cons (pe_tupN (pa_cons pe_str (pa_cons (pe_tupN (pa_cons pe_int pa_nil)) pa_nil))) pa_nil))) (pa_cons (pe_tupN pa_nil) (pa_cons (pv 3) pa_nil))))))))) (pss_cons (ps_set (i := 5) nd__law_texts_right rfl (by first | exact .inl rfl | exact .inr rfl) (pe_op opd_add (pv 5) (pe_lst (pa_cons (pv 3) (pa_cons pe_str (pa_cons (pv 2) (pa_cons (pe_tupN pa_nil) (pa_cons (pe_tupN (pa_cons (pe_tupN (pa_cons pe_int (pa_cons (pe_tupN pa_nil) (pa_cons (pe_tupN (pa_cons (pe_tupN (pa_cons pe_str (pa_cons pe_int pa_nil))) pa_nil)) pa_nil)))) pa_nil)) pa_nil)))))))) (pss_cons (ps_set (i := 5) nd__law_texts_right rfl (by first | exact .inl rfl | exact .inr rfl) (pe_op opd_add (pv 5) (pe_lst (pa_cons (pe_tupN (pa_cons (pe_tupN (pa_cons (pe_tupN (pa_cons pe_str (pa_cons pe_int pa_nil))) (pa_cons (pe_tupN (pa_cons (pe_tupN (pa_cons pe_str (pa_cons (pe_tupN (pa_cons pe_int pa_nil)) pa_nil))) pa_nil)) (pa_cons pe_int (pa_cons pe_int pa_nil))))) (pa_cons (pe_tupN (pa_cons (pe_tupN (pa_cons pe_str (pa_cons pe_int pa_nil))) (pa_cons (pe_tupN pa_nil) (pa_cons pe_int (pa_cons pe_non pa_nil))))) pa_nil))) pa_nil)))) (pss_cons (ps_set (i := 5) nd__law_texts_right rfl (by first | exact .inl rfl | exact .inr rfl) (pe_op opd_add (pv 5) (pe_lst (pa_cons (pe_tupN (pa_cons (pe_tupN (pa_cons pe_int (pa_cons (pe_tupN (pa_cons (pe_tupN (pa_cons pe_str (pa_cons (pe_tupN (pa_cons pe_int pa_nil)) pa_nil))) pa_nil)) (pa_cons (pe_tupN (pa_cons (pe_tupN (pa_cons pe_str (pa_cons pe_int pa_nil))) pa_nil)) pa_nil)))) (pa_cons (pe_tupN (pa_cons pe_int (pa_cons (pe_tupN (pa_cons (pe_tupN (pa_cons pe_str (pa_cons (pe_tupN (pa_cons pe_int pa_nil)) pa_nil))) pa_nil)) (pa_cons pe_non pa_nil)))) pa_nil))) pa_nil)))) (pss_cons (ps_set (i := 4) nd__law_texts_right rfl (by first | exact .inl rfl | exact .inr rfl) (pe_op opd_add (pv 4) (pe_lst (pa_cons (pe_fn F__law_read hr (by omega) tk (by rfl) (pa_cons pe_int (pa_cons pe_str pa_nil))) (pa_cons (pe_fn F__law_read hr (by omega) tk (by rfl) (pa_cons pe_int (pa_cons pe_str pa_nil))) (pa_cons (pe_fn F__law_read hr (by omega) tk (by rfl) (pa_cons pe_int (pa_cons pe_str pa_nil))) pa_nil)))))) (pss_cons (ps_set (i := 5) nd__law_texts_right rfl (by first | exact .inl rfl | exact .inr rfl) (pe_op opd_add (pv 5) (pe_lst (pa_cons (pe_tupN (pa_cons (pe_tupN (pa_cons (pe_tupN (pa_cons pe_str (pa_cons pe_int pa_nil))) (pa_cons (pe_tupN pa_nil) (pa_cons pe_int (pa_cons pe_int pa_nil))))) (pa_cons (pe_tupN (pa_cons (pe_tupN (pa_cons pe_str (pa_cons pe_int pa_nil))) (pa_cons (pe_tupN pa_nil) (pa_cons pe_int (pa_cons pe_int pa_nil))))) pa_nil))) (pa_cons (pe_lst (pa_cons pe_str (pa_cons pe_int (pa_cons pe_bl pa_nil)))) (pa_cons (pe_lst (pa_cons pe_str (pa_cons pe_int (pa_cons pe_bl pa_nil)))) pa_nil)))))) (pss_one (ps_ret (pe_fn F__law_same hr (by omega) tk (by rfl) (pa_cons (pv 4) (pa_cons (pv 5) pa_nil))))))))))))))))))))))))),
      (rs_seq (rs_asg (rd_tup (ra_cons (rd_tup (ra_cons (rd_tup (ra_cons (rd_c fun _ => .str _) (ra_cons (rd_c fun _ => .int _) ra_nil))) (ra_cons (rd_tup (ra_cons (rd_tup (ra_cons (rd_c fun _ => .str _) (ra_cons (rd_tup (ra_cons (rd_c fun _ => .int _) (ra_cons (rd_c fun _ => .int _) ra_nil))) ra_nil))) (ra_cons (rd_tup (ra_cons (rd_c fun _ => .str _) (ra_cons (rd_tup (ra_cons (rd_c fun _ => .int _) ra_nil)) ra_nil))) ra_nil))) (ra_cons (rd_c fun _ => .int _) (ra_cons (rd_c fun _ => .non) ra_nil))))) (ra_cons (rd_tup (ra_cons (rd_tup (ra_cons (rd_c fun _ => .str _) (ra_cons (rd_c fun _ => .int _) ra_nil))) (ra_cons (rd_tup ra_nil) (ra_cons (rd_c fun _ => .int _) (ra_cons (rd_c fun _ => .int _) ra_nil))))) (ra_cons (rd_tup (ra_cons (rd_tup (ra_cons (rd_c fun _ => .str _) (ra_cons (rd_c fun _ => .int _) ra_nil))) (ra_cons (rd_tup (ra_cons (rd_tup (ra_cons (rd_c fun _ => .str _) (ra_cons (rd_tup (ra_cons (rd_c fun _ => .int _) (ra_cons (rd_c fun _ => .int _) (ra_cons (rd_c fun _ => .int _) ra_nil)))) ra_nil))) ra_nil)) (ra_cons (rd_c fun _ => .int _) (ra_cons (rd_c fun _ => .int _) ra_nil))))) ra_nil)))) (tg_name 0) (by decide)) (rs_seq (rs_asg (rd_c fun _ => .str _) (tg_name 1) (by decide)) (rs_seq (rs_asg (rd_tup (ra_cons (rd_tup (ra_cons (rd_c fun _ => .int _) (ra_cons (rd_tup (ra_cons (rd_tup (ra_cons (rd_c fun _ => .str _) (ra_cons (rd_tup (ra_cons (rd_c fun _ => .int _) (ra_cons (rd_c fun _ => .int _) ra_nil))) ra_nil))) ra_nil)) (ra_cons (rd_tup (ra_cons (rd_tup (ra_cons (rd_c fun _ => .str _) (ra_cons (rd_c fun _ => .int _) ra_nil))) (ra_cons (rd_tup (ra_cons (rd_c fun _ => .str _) (ra_cons (rd_c fun _ => .int _) ra_nil))) ra_nil))) ra_nil)))) (ra_cons (rd_tup (ra_cons (rd_c fun _ => .int _) (ra_cons (rd_tup ra_nil) (ra_cons (rd_tup ra_nil) ra_nil)))) (ra_cons (rd_tup (ra_cons (rd_c fun _ => .int _) (ra_cons (rd_tup (ra_cons (rd_tup (ra_cons (rd_c fun _ => .str _) (ra_cons (rd_tup (ra_cons (rd_c fun _ => .int _) ra_nil)) ra_nil))) (ra_cons (rd_tup (ra_cons (rd_c fun _ => .str _) (ra_cons (rd_tup (ra_cons (rd_c fun _ => .int _) (ra_cons (rd_c fun _ => .int _) ra_nil))) ra_nil))) ra_nil))) (ra_cons (rd_c fun _ => .non) ra_nil)))) ra_nil)))) (tg_name 2) (by decide)) (rs_seq (rs_asg (rd_c fun _ => .str _) (tg_name 3) (by decide)) (rs_seq (rs_asg (rd_of_f (rf_lst (ra_cons (rd_call (ra_cons (rd_var 0) ra_nil)) (ra_cons (rd_callP (ra_cons (rd_call (ra_cons (rd_var 0) ra_nil)) ra_nil)) (ra_cons (rd_call (ra_cons (rd_tup ra_nil) ra_nil)) (ra_cons (rd_call (ra_cons (rd_c fun _ => .int _) (ra_cons (rd_var 1) ra_nil))) ra_nil)))))) (tg_name 4) (by decide)) (rs_seq (rs_asg (rd_op (rd_var 4) (rd_of_f (rf_lst (ra_cons (rd_callP (ra_cons (rd_c fun _ => .str _) ra_nil)) (ra_cons (rd_call (ra_cons (rd_tup (ra_cons (rd_tup (ra_cons (rd_c fun _ => .str _) (ra_cons (rd_c fun _ => .int _) ra_nil))) (ra_cons (rd_tup (ra_cons (rd_c fun _ => .str _) (ra_cons (rd_c fun _ => .int _) ra_nil))) ra_nil))) ra_nil)) (ra_cons (rd_callP (ra_cons (rd_of_f (rf_lst ra_nil)) ra_nil)) ra_nil)))))) (tg_name 4) (by decide)) (rs_seq (rs_asg (rd_op (rd_var 4) (rd_of_f (rf_lst (ra_cons (rd_call (ra_cons (rd_c fun _ => .int _) (ra_cons (rd_c fun _ => .str _) ra_nil))) (ra_cons (rd_callP (ra_cons (rd_c fun _ => .str _) ra_nil)) ra_nil))))) (tg_name 4) (by decide)) (rs_seq (rs_asg (rd_op (rd_var 4) (rd_of_f (rf_lst (ra_cons (rd_call (ra_cons (rd_tup (ra_cons (rd_tup (ra_cons (rd_c fun _ => .str _) (ra_cons (rd_tup (ra_cons (rd_c fun _ => .int _) (ra_cons (rd_c fun _ => .int _) ra_nil))) ra_nil))) (ra_cons (rd_tup (ra_cons (rd_c fun _ => .str _) (ra_cons (rd_tup (ra_cons (rd_c fun _ => .int _) ra_nil)) ra_nil))) ra_nil))) ra_nil)) (ra_cons (rd_callP (ra_cons (rd_of_f (rf_lst (ra_cons (rd_of_f (rf_lst (ra_cons (rd_c fun _ => .str _) (ra_cons (rd_of_f (rf_lst (ra_cons (rd_c fun _ => .int _) (ra_cons (rd_c fun _ => .int _) ra_nil)))) ra_nil)))) ra_nil))) ra_nil)) (ra_cons (rd_call (ra_cons (rd_tup ra_nil) ra_nil)) ra_nil)))))) (tg_name 4) (by decide)) (rs_seq (rs_asg (rd_op (rd_var 4) (rd_of_f (rf_lst (ra_cons (rd_call (ra_cons (rd_c fun _ => .int _) (ra_cons (rd_c fun _ => .str _) ra_nil))) (ra_cons (rd_callP (ra_cons (rd_c fun _ => .str _) ra_nil)) (ra_cons (rd_call (ra_cons (rd_var 2) ra_nil)) ra_nil)))))) (tg_name 4) (by decide)) (rs_seq (rs_asg (rd_op (rd_var 4) (rd_of_f (rf_lst (ra_cons (rd_callP (ra_cons (rd_call (ra_cons (rd_var 2) ra_nil)) ra_nil)) (ra_cons (rd_call (ra_cons (rd_of_f (rf_lst ra_nil)) ra_nil)) (ra_cons (rd_call (ra_cons (rd_c fun _ => .int _) (ra_cons (rd_var 3) ra_nil))) ra_nil)))))) (tg_name 4) (by decide)) (rs_seq (rs_asg (rd_op (rd_var 4) (rd_of_f (rf_lst (ra_cons (rd_callP (ra_cons (rd_c fun _ => .str _) ra_nil)) (ra_cons (rd_call (ra_cons (rd_c fun _ => .int _) (ra_cons (rd_c fun _ => .str _) ra_nil))) ra_nil))))) (tg_name 4) (by decide)) (rs_seq (rs_asg (rd_op (rd_var 4) (rd_of_f (rf_lst (ra_cons (rd_call (ra_cons (rd_c fun _ => .int _) (ra_cons (rd_c fun _ => .str _) ra_nil))) ra_nil)))) (tg_name 4) (by decide)) (rs_seq (rs_asg (rd_op (rd_var 4) (rd_of_f (rf_lst (ra_cons (rd_call (ra_cons (rd_c fun _ => .int _) (ra_cons (rd_c fun _ => .str _) ra_nil))) ra_nil)))) (tg_name 4) (by decide)) (rs_seq (rs_asg (rd_of_f (rf_lst (ra_cons (rd_var 1) (ra_cons (rd_var 1) (ra_cons (rd_c fun _ => .str _) (ra_cons (rd_var 0) (ra_cons (rd_tup ra_nil) (ra_cons (rd_c fun _ => .str _) (ra_cons (rd_c fun _ => .str _) (ra_cons (rd_tup (ra_cons (rd_tup (ra_cons (rd_c fun _ => .str _) (ra_cons (rd_c fun _ => .int _) ra_nil))) (ra_cons (rd_tup (ra_cons (rd_c fun _ => .str _) (ra_cons (rd_c fun _ => .int _) ra_nil))) ra_nil))) (ra_cons (rd_tup ra_nil) ra_nil))))))))))) (tg_name 5) (by decide)) (rs_seq (rs_asg (rd_op (rd_var 5) (rd_of_f (rf_lst (ra_cons (rd_c fun _ => .str _) (ra_cons (rd_c fun _ => .str _) (ra_cons (rd_c fun _ => .str _) (ra_cons (rd_tup (ra_cons (rd_tup (ra_cons (rd_c fun _ => .str _) (ra_cons (rd_tup (ra_cons (rd_c fun _ => .int _) (ra_cons (rd_c fun _ => .int _) ra_nil))) ra_nil))) (ra_cons (rd_tup (ra_cons (rd_c fun _ => .str _) (ra_cons (rd_tup (ra_cons (rd_c fun _ => .int _) ra_nil)) ra_nil))) ra_nil))) (ra_cons (rd_tup ra_nil) (ra_cons (rd_var 3) ra_nil))))))))) (tg_name 5) (by decide)) (rs_seq (rs_asg (rd_op (rd_var 5) (rd_of_f (rf_lst (ra_cons (rd_var 3) (ra_cons (rd_c fun _ => .str _) (ra_cons (rd_var 2) (ra_cons (rd_tup ra_nil) (ra_cons (rd_tup (ra_cons (rd_tup (ra_cons (rd_c fun _ => .int _) (ra_cons (rd_tup ra_nil) (ra_cons (rd_tup (ra_cons (rd_tup (ra_cons (rd_c fun _ => .str _) (ra_cons (rd_c fun _ => .int _) ra_nil))) ra_nil)) ra_nil)))) ra_nil)) ra_nil)))))))) (tg_name 5) (by decide)) (rs_seq (rs_asg (rd_op (rd_var 5) (rd_of_f (rf_lst (ra_cons (rd_tup (ra_cons (rd_tup (ra_cons (rd_tup (ra_cons (rd_c fun _ => .str _) (ra_cons (rd_c fun _ => .int _) ra_nil))) (ra_cons (rd_tup (ra_cons (rd_tup (ra_cons (rd_c fun _ => .str _) (ra_cons (rd_tup (ra_cons (rd_c fun _ => .int _) ra_nil)) ra_nil))) ra_nil)) (ra_cons (rd_c fun _ => .int _) (ra_cons (rd_c fun _ => .int _) ra_nil))))) (ra_cons (rd_tup (ra_cons (rd_tup (ra_cons (rd_c fun _ => .str _) (ra_cons (rd_c fun _ => .int _) ra_nil))) (ra_cons (rd_tup ra_nil) (ra_cons (rd_c fun _ => .int _) (ra_cons (rd_c fun _ => .non) ra_nil))))) ra_nil))) ra_nil)))) (tg_name 5) (by decide)) (rs_seq (rs_asg (rd_op (rd_var 5) (rd_of_f (rf_lst (ra_cons (rd_tup (ra_cons (rd_tup (ra_cons (rd_c fun _ => .int _) (ra_cons (rd_tup (ra_cons (rd_tup (ra_cons (rd_c fun _ => .str _) (ra_cons (rd_tup (ra_cons (rd_c fun _ => .int _) ra_nil)) ra_nil))) ra_nil)) (ra_cons (rd_tup (ra_cons (rd_tup (ra_cons (rd_c fun _ => .str _) (ra_cons (rd_c fun _ => .int _) ra_nil))) ra_nil)) ra_nil)))) (ra_cons (rd_tup (ra_cons (rd_c fun _ => .int _) (ra_cons (rd_tup (ra_cons (rd_tup (ra_cons (rd_c fun _ => .str _) (ra_cons (rd_tup (ra_cons (rd_c fun _ => .int _) ra_nil)) ra_nil))) ra_nil)) (ra_cons (rd_c fun _ => .non) ra_nil)))) ra_nil))) ra_nil)))) (tg_name 5) (by decide)) (rs_seq (rs_asg (rd_op (rd_var 4) (rd_of_f (rf_lst (ra_cons (rd_call (ra_cons (rd_c fun _ => .int _) (ra_cons (rd_c fun _ => .str _) ra_nil))) (ra_cons (rd_call (ra_cons (rd_c fun _ => .int _) (ra_cons (rd_c fun _ => .str _) ra_nil))) (ra_cons (rd_call (ra_cons (rd_c fun _ => .int _) (ra_cons (rd_c fun _ => .str _) ra_nil))) ra_nil)))))) (tg_name 4) (by decide)) (rs_seq (rs_asg (rd_op (rd_var 5) (rd_of_f (rf_lst (ra_cons (rd_tup (ra_cons (rd_tup (ra_cons (rd_tup (ra_cons (rd_c fun _ => .str _) (ra_cons (rd_c fun _ => .int _) ra_nil))) (ra_cons (rd_tup ra_nil) (ra_cons (rd_c fun _ => .int _) (ra_cons (rd_c fun _ => .int _) ra_nil))))) (ra_cons (rd_tup (ra_cons (rd_tup (ra_cons (rd_c fun _ => .str _) (ra_cons (rd_c fun _ => .int _) ra_nil))) (ra_cons (rd_tup ra_nil) (ra_cons (rd_c fun _ => .int _) (ra_cons (rd_c fun _ => .int _) ra_nil))))) ra_nil))) (ra_cons (rd_of_f (rf_lst (ra_cons (rd_c fun _ => .str _) (ra_cons (rd_c fun _ => .int _) (ra_cons (rd_c fun _ => .bl _) ra_nil))))) (ra_cons (rd_of_f (rf_lst (ra_cons (rd_c fun _ => .str _) (ra_cons (rd_c fun _ => .int _) (ra_cons (rd_c fun _ => .bl _) ra_nil))))) ra_nil)))))) (tg_name 5) (by decide)) (rs_ret (rd_call (ra_cons (rd_var 4) (ra_cons (rd_var 5) ra_nil))))))))))))))))))))))))⟩)
/-! _law_bads_right -/
abbrev S__law_bads_right : Stmt := topS 56
abbrev N__law_bads_right : List Str := ["bads_so", "own"]
theorem sc__law_bads_right : FnScope N__law_bads_right ["bads_so"] (defScope S__law_bads_right) := ⟨rfl, rfl, rfl, by decide +kernel, rfl, by decide +kernel, by decide +kernel⟩
theorem nd__law_bads_right : (N__law_bads_right).Nodup := by decide +kernel
def m__law_bads_right : MS := (sbind (fCall 2 (g__law_same 10) (mbind (mbind (fComp (fAny (fLock 0)) (tfName 1) [1] (mpure true) (fCall 2 g__law_read (mbind (mbind (fName 1) fun x => mbind (mpure (.int 0)) fun y => mlift (gIx x y)) fun x => mbind (mbind (mbind (fName 1) fun x => mbind (mpure (.int 1)) fun y => mlift (gIx x y)) fun x => mbind (mpure []) fun xs => mpure (x :: xs)) fun xs => mpure (x :: xs)))) fun ds => mpure (.list ds)) fun x => mbind (mbind (mbind (fComp (fAny (fLock 0)) (tfName 1) [1] (mpure true) (mbind (mbind (mbind (mpure (.str "bad")) fun x => mbind (mbind (mbind (fName 1) fun x => mbind (mpure (.int 2)) fun y => mlift (gIx x y)) fun x => mbind (mbind (mpure (.bool true)) fun x => mbind (mpure []) fun xs => mpure (x :: xs)) fun xs => mpure (x :: xs)) fun xs => mpure (x :: xs)) fun ds => mlift (if szOk ds.length then some ds else none)) fun ds => mpure (.list ds))) fun ds => mpure (.list ds)) fun x => mbind (mpure []) fun xs => mpure (x :: xs)) fun xs => mpure (x :: xs))) fun d r => some (.rt false d r))
def g__law_bads_right : FM := mBody [] 1 2 m__law_bads_right
theorem F__law_bads_right {P : Program} {w : World} {K : PySem.W.Frag} {mg : Str → Option Value} {base : Heap} {as : Nat → Addr} (G : Gd K mg as) (F__law_read : Fn P w K mg base (fun c => .ref (as c)) "_law_read" S__law_read 15 ["door_so", "text_so"] g__law_read) (F__law_same : Fn P w K mg base (fun c => .ref (as c)) "_law_same" S__law_same 10 ["got", "due"] (g__law_same 10)) (T : Tx K mg "_law_bads_right" S__law_bads_right ["bads_so"]) : Fn P w K mg base (fun c => .ref (as c)) "_law_bads_right" S__law_bads_right 16 ["bads_so"] g__law_bads_right :=
  fn_mk (P := P) (w := w) (K := K) (mg := mg) (base := base) (C := fun c => .ref (as c)) (N := N__law_bads_right) (k := 15) (PI := []) (m := m__law_bads_right) T sc__law_bads_right (by decide) (fun f cdv A outer s H E hr => by
    have hu := huE hr
    have hv := hvE hr
    have tk := tkE (P := P) (w := w) (K := K) (mg := mg) (base := base) (N := N__law_bads_right) (x := "_law_bads_right") (S := S__law_bads_right) (f := f) (cdv := cdv) (A := A) (outer := outer) (s := s) (H := H) (E := E)
    have hp := hpE (P := P) (w := w) (K := K) (mg := mg) (base := base) (N := N__law_bads_right) (x := "_law_bads_right") (S := S__law_bads_right) (f := f) (cdv := cdv) (A := A) (outer := outer) (s := s) (H := H) (E := E)
    exact ⟨_, (pss_one (ps_ret (pe_fn F__law_same hr (by omega) tk (by rfl) (pa_cons (pe_lc (own := [("own", 1)]) rfl nd__law_bads_right (pi_any (pv 0)) (blkOk_by (by (first | decide +kernel | rfl | kernel_rfl))) (fun _ _ _ _ _ => (pg_name (i := 1) nd__law_bads_right rfl (by first | exact .inl rfl | exact .inr rfl))) (fun _ _ _ _ _ => pts_nil) (fun _ _ _ _ _ => (pe_fn F__law_read hr (by omega) takes0 (by rfl) (pa_cons (pe_ix ixd (pv 1) pe_int (fun _ _ => rfl)) (pa_cons (pe_ix ixd (pv 1) pe_int (fun _ _ => rfl)) pa_nil))))) (pa_cons (pe_lc (own := [("own", 1)]) rfl nd__law_bads_right (pi_any (pv 0)) (blkOk_by (by (first | decide +kernel | rfl | kernel_rfl))) (fun _ _ _ _ _ => (pg_name (i := 1) nd__law_bads_right rfl (by first | exact .inl rfl | exact .inr rfl))) (fun _ _ _ _ _ => pts_nil) (fun _ _ _ _ _ => (pe_lst (pa_cons pe_str (pa_cons (pe_ix ixd (pv 1) pe_int (fun _ _ => rfl)) (pa_cons pe_bl pa_nil)))))) pa_nil))))),
      (rs_ret (rd_call (ra_cons (rd_of_f (rf_lc (ri_any (rl_var 0)) (tg_name 1) (by decide) rt_yes (rd_call (ra_cons (rd_op (rd_var 1) (rd_c fun _ => .int _)) (ra_cons (rd_op (rd_var 1) (rd_c fun _ => .int _)) ra_nil))))) (ra_cons (rd_of_f (rf_lc (ri_any (rl_var 0)) (tg_name 1) (by decide) rt_yes (rd_of_f (rf_lst (ra_cons (rd_c fun _ => .str _) (ra_cons (rd_op (rd_var 1) (rd_c fun _ => .int _)) (ra_cons (rd_c fun _ => .bl _) ra_nil))))))) ra_nil))))⟩)
/-! law -/
abbrev S_law : Stmt := topS 57
abbrev N_law : List Str := ["script"]
theorem sc_law : FnScope N_law ["script"] (defScope S_law) := ⟨rfl, rfl, rfl, by decide +kernel, rfl, by decide +kernel, by decide +kernel⟩
theorem nd_law : (N_law).Nodup := by decide +kernel
def m_law : MS := (mseq (sbind (mbind (mbind (mbind (fCall0 g__law_texts_right) fun d => mlift (asB d)) fun b => mpure (!b)) fun b => if b then mpure true else (mbind (mbind (fCall 1 g__law_bads_right (mbind (fCall0 g__law_first_bads) fun x => mbind (mpure []) fun xs => mpure (x :: xs))) fun d => mlift (asB d)) fun b => mpure (!b))) fun b => if b then (sbind (mpure (.bool false)) fun d r => some (.rt false d r)) else (fun r => some (.nx r))) (sbind (fCall 1 g__law_bads_right (mbind (fCall0 g__law_other_bads) fun x => mbind (mpure []) fun xs => mpure (x :: xs))) fun d r => some (.rt false d r)))
def g_law : FM := mBody [] 1 1 m_law
theorem F_law {P : Program} {w : World} {K : PySem.W.Frag} {mg : Str → Option Value} {base : Heap} {as : Nat → Addr} (G : Gd K mg as) (F__law_bads_right : Fn P w K mg base (fun c => .ref (as c)) "_law_bads_right" S__law_bads_right 16 ["bads_so"] g__law_bads_right) (F__law_first_bads : Fn P w K mg base (fun c => .ref (as c)) "_law_first_bads" S__law_first_bads 1 [] g__law_first_bads) (F__law_other_bads : Fn P w K mg base (fun c => .ref (as c)) "_law_other_bads" S__law_other_bads 1 [] g__law_other_bads) (F__law_texts_right : Fn P w K mg base (fun c => .ref (as c)) "_law_texts_right" S__law_texts_right 16 [] g__law_texts_right) (T : Tx K mg "law" S_law ["script"]) : Fn P w K mg base (fun c => .ref (as c)) "law" S_law 17 ["script"] g_law :=
  fn_mk (P := P) (w := w) (K := K) (mg := mg) (base := base) (C := fun c => .ref (as c)) (N := N_law) (k := 16) (PI := []) (m := m_law) T sc_law (by decide) (fun f cdv A outer s H E hr => by
    have hu := huE hr
    have hv := hvE hr
    have tk := tkE (P := P) (w := w) (K := K) (mg := mg) (base := base) (N := N_law) (x := "law") (S := S_law) (f := f) (cdv := cdv) (A := A) (outer := outer) (s := s) (H := H) (E := E)
    have hp := hpE (P := P) (w := w) (K := K) (mg := mg) (base := base) (N := N_law) (x := "law") (S := S_law) (f := f) (cdv := cdv) (A := A) (outer := outer) (s := s) (H := H) (E := E)
    exact ⟨_, (pss_cons (ps_if (pw_or (pt_not (pt_val (pe_fn0 F__law_texts_right hr (by omega) (by rfl)))) (pw_or1 (pt_not (pt_val (pe_fn F__law_bads_right hr (by omega) tk (by rfl) (pa_cons (pe_fn0 F__law_first_bads hr (by omega) (by rfl)) pa_nil)))))).pt (pss_one (ps_ret pe_bl)) pss_nil) (pss_one (ps_ret (pe_fn F__law_bads_right hr (by omega) tk (by rfl) (pa_cons (pe_fn0 F__law_other_bads hr (by omega) (by rfl)) pa_nil))))),
      (rs_seq (rs_if (rt_or (rt_not (rt_B rd_call0)) (rt_not (rt_B (rd_call (ra_cons rd_call0 ra_nil))))) (rs_ret (rd_c fun _ => .bl _)) rs_nil) (rs_ret (rd_call (ra_cons rd_call0 ra_nil))))⟩)
def okT : Option (Ro PyData) → Bool
  | some (.ok (.bool true) _) => true
  | _ => false
theorem okT_of {f : M PyData} (h : ∀ ρ, f ρ = match f [] with | some (.ok d _) => some (.ok d ρ) | some (.ex c _) => some (.ex c ρ) | none => none) (k : okT (f []) = true) (ρ : Rho) : f ρ = some (.ok (.bool true) ρ) := by
  rw [h ρ]
  unfold okT at k
  split at k
  · rename_i e; rw [e]
  · cases k
theorem fres_any (r : Option So) (ρ : Rho) : fRes r ρ = match fRes r [] with | some (.ok d _) => some (.ok d ρ) | some (.ex c _) => some (.ex c ρ) | none => none := by
  unfold fRes
  split <;> first | rfl | (rename_i h; cases r with | none => rfl | some o => cases o with | rt fr d x => (cases fr <;> first | rfl | (cases d <;> rfl)) | _ => rfl)
theorem call0_any (h : FM) (ρ : Rho) : fCall0 h ρ = match fCall0 h [] with | some (.ok d _) => some (.ok d ρ) | some (.ex c _) => some (.ex c ρ) | none => none := by
  unfold fCall0
  split
  · rfl
  · rename_i r e
    have := fres_any (h []) ρ
    cases hh : h [] with
    | none => rfl
    | some o => cases o <;> first | (rw [hh] at this; exact this) | rfl
theorem call1_any {g h : FM} (k : okT (fCall 1 g (mbind (fCall0 h) fun x => mbind (mpure []) fun xs => mpure (x :: xs)) []) = true) (ρ : Rho) : fCall 1 g (mbind (fCall0 h) fun x => mbind (mpure []) fun xs => mpure (x :: xs)) ρ = some (.ok (.bool true) ρ) := by
  refine okT_of (fun ρ => ?_) k ρ
  unfold fCall
  simp only [mbind, mpure]
  rw [call0_any h ρ]
  cases fCall0 h [] with
  | none => rfl
  | some o =>
    cases o with
    | ex c r => rfl
    | ok d r =>
      simp only [List.length_cons, List.length_nil, Nat.zero_add, if_true, List.map_cons, List.map_nil]
      rw [fres_any (g [Sl.im d]) ρ, fres_any (g [Sl.im d]) r]
      cases fRes (g [Sl.im d]) [] with
      | none => rfl
      | some o => cases o <;> rfl
theorem p_texts : g__law_texts_right [] = some (.rt false (.bool true) []) := yes_of (by decide +kernel)
theorem p_first (ρ : Rho) : fCall 1 g__law_bads_right (mbind (fCall0 g__law_first_bads) fun x => mbind (mpure []) fun xs => mpure (x :: xs)) ρ = some (.ok (.bool true) ρ) := call1_any (by decide +kernel) ρ
theorem p_other (ρ : Rho) : fCall 1 g__law_bads_right (mbind (fCall0 g__law_other_bads) fun x => mbind (mpure []) fun xs => mpure (x :: xs)) ρ = some (.ok (.bool true) ρ) := call1_any (by decide +kernel) ρ
theorem hlaw : ∀ ns : List Int, ns.length ≤ 63 → ∃ ρ, g_law [.im (.list (ns.map PyData.int))] = some (.rt false (.bool true) ρ) := by
  intro ns hl
  refine ⟨[.im (.list (ns.map .int))], ?_⟩
  unfold g_law
  have e1 : fCall0 g__law_texts_right = fun ρ => some (.ok (.bool true) ρ) := by funext ρ; simp only [fCall0, p_texts, fRes]
  have e2 : fCall 1 g__law_bads_right (mbind (fCall0 g__law_first_bads) fun x => mbind (mpure []) fun xs => mpure (x :: xs)) = fun ρ => some (.ok (.bool true) ρ) := funext p_first
  have e3 : fCall 1 g__law_bads_right (mbind (fCall0 g__law_other_bads) fun x => mbind (mpure []) fun xs => mpure (x :: xs)) = fun ρ => some (.ok (.bool true) ρ) := funext p_other
  simp only [mBody, onlyIm, m_law, e1, e2, e3, mseq, sbind, mbind, mpure, mlift, asB, Bool.not_true, if_true, if_false, Bool.false_eq_true, reduceIte, List.length_cons, List.length_nil, Nat.reduceAdd, List.map_cons, List.map_nil, List.replicate, List.cons_append, List.nil_append, back, Option.map_some, Bool.and_self, Bool.and_true]

theorem all_mk {w : World} {K : PySem.W.Frag} {h : Heap} {mg : Str → Option Value} {fa : Addr} {f_is_number f_is_tuple_of f_ascends f_is_name f_lines_of f_release_word f_states_word f_number_in f__law_first_bads f__law_other_bads f_is_number_from f_row_words f_release_in f_states_in f_shelf_text f_lock_text f_wish_text f_is_set_from f_is_release f_lock_in f_wish_in f_telling_text f__words_behind f__check_only_line f__with_line f_is_lot f_is_lock f_is_wish f_answer_in f_is_rules f_is_row f_row_in f_read_lock f_read_wish f_read_telling f_frozen f__law_lists f__law_same f_lot_in f__is_entry f_is_shelf f_read_shelf f__law_read f__law_texts_right f__law_bads_right f_law : Addr} {e_BadText : Addr} (X : K.In h) (G : h.Ns mainGlobals mg) (hfa : mg "law" = some (.ref fa))
    {od_is_number an_is_number : Option Addr} {sl_is_number : Array (Option Value)} {oc_is_number kV_is_number dc_is_number pm_is_number cd_is_number ct_is_number : Value}
    (a_is_number : PySem.W.nsIn K mainGlobals "is_number" = some (some (.ref f_is_number))) (l_is_number : K.lookup f_is_number = some ⟨oc_is_number, od_is_number, .func (PySem.W.fnOf "is_number" "is_number" (defArgs S_is_number) (defBody S_is_number) (defScope S_is_number) .none kV_is_number dc_is_number pm_is_number an_is_number cd_is_number ct_is_number), sl_is_number⟩) (c_is_number : PySem.W.codeIn K cd_is_number "is_number" = true) (k_is_number : PySem.W.keepIn K (.ref f_is_number) = true)
    {od_is_tuple_of an_is_tuple_of : Option Addr} {sl_is_tuple_of : Array (Option Value)} {oc_is_tuple_of kV_is_tuple_of dc_is_tuple_of pm_is_tuple_of cd_is_tuple_of ct_is_tuple_of : Value}
    (a_is_tuple_of : PySem.W.nsIn K mainGlobals "is_tuple_of" = some (some (.ref f_is_tuple_of))) (l_is_tuple_of : K.lookup f_is_tuple_of = some ⟨oc_is_tuple_of, od_is_tuple_of, .func (PySem.W.fnOf "is_tuple_of" "is_tuple_of" (defArgs S_is_tuple_of) (defBody S_is_tuple_of) (defScope S_is_tuple_of) .none kV_is_tuple_of dc_is_tuple_of pm_is_tuple_of an_is_tuple_of cd_is_tuple_of ct_is_tuple_of), sl_is_tuple_of⟩) (c_is_tuple_of : PySem.W.codeIn K cd_is_tuple_of "is_tuple_of" = true) (k_is_tuple_of : PySem.W.keepIn K (.ref f_is_tuple_of) = true)
    {od_ascends an_ascends : Option Addr} {sl_ascends : Array (Option Value)} {oc_ascends kV_ascends dc_ascends pm_ascends cd_ascends ct_ascends : Value}
    (a_ascends : PySem.W.nsIn K mainGlobals "ascends" = some (some (.ref f_ascends))) (l_ascends : K.lookup f_ascends = some ⟨oc_ascends, od_ascends, .func (PySem.W.fnOf "ascends" "ascends" (defArgs S_ascends) (defBody S_ascends) (defScope S_ascends) .none kV_ascends dc_ascends pm_ascends an_ascends cd_ascends ct_ascends), sl_ascends⟩) (c_ascends : PySem.W.codeIn K cd_ascends "ascends" = true) (k_ascends : PySem.W.keepIn K (.ref f_ascends) = true)
    {od_is_name an_is_name : Option Addr} {sl_is_name : Array (Option Value)} {oc_is_name kV_is_name dc_is_name pm_is_name cd_is_name ct_is_name : Value}
    (a_is_name : PySem.W.nsIn K mainGlobals "is_name" = some (some (.ref f_is_name))) (l_is_name : K.lookup f_is_name = some ⟨oc_is_name, od_is_name, .func (PySem.W.fnOf "is_name" "is_name" (defArgs S_is_name) (defBody S_is_name) (defScope S_is_name) .none kV_is_name dc_is_name pm_is_name an_is_name cd_is_name ct_is_name), sl_is_name⟩) (c_is_name : PySem.W.codeIn K cd_is_name "is_name" = true) (k_is_name : PySem.W.keepIn K (.ref f_is_name) = true)
    {od_lines_of an_lines_of : Option Addr} {sl_lines_of : Array (Option Value)} {oc_lines_of kV_lines_of dc_lines_of pm_lines_of cd_lines_of ct_lines_of : Value}
    (a_lines_of : PySem.W.nsIn K mainGlobals "lines_of" = some (some (.ref f_lines_of))) (l_lines_of : K.lookup f_lines_of = some ⟨oc_lines_of, od_lines_of, .func (PySem.W.fnOf "lines_of" "lines_of" (defArgs S_lines_of) (defBody S_lines_of) (defScope S_lines_of) .none kV_lines_of dc_lines_of pm_lines_of an_lines_of cd_lines_of ct_lines_of), sl_lines_of⟩) (c_lines_of : PySem.W.codeIn K cd_lines_of "lines_of" = true) (k_lines_of : PySem.W.keepIn K (.ref f_lines_of) = true)
    {od_release_word an_release_word : Option Addr} {sl_release_word : Array (Option Value)} {oc_release_word kV_release_word dc_release_word pm_release_word cd_release_word ct_release_word : Value}
    (a_release_word : PySem.W.nsIn K mainGlobals "release_word" = some (some (.ref f_release_word))) (l_release_word : K.lookup f_release_word = some ⟨oc_release_word, od_release_word, .func (PySem.W.fnOf "release_word" "release_word" (defArgs S_release_word) (defBody S_release_word) (defScope S_release_word) .none kV_release_word dc_release_word pm_release_word an_release_word cd_release_word ct_release_word), sl_release_word⟩) (c_release_word : PySem.W.codeIn K cd_release_word "release_word" = true) (k_release_word : PySem.W.keepIn K (.ref f_release_word) = true)
    {od_states_word an_states_word : Option Addr} {sl_states_word : Array (Option Value)} {oc_states_word kV_states_word dc_states_word pm_states_word cd_states_word ct_states_word : Value}
    (a_states_word : PySem.W.nsIn K mainGlobals "states_word" = some (some (.ref f_states_word))) (l_states_word : K.lookup f_states_word = some ⟨oc_states_word, od_states_word, .func (PySem.W.fnOf "states_word" "states_word" (defArgs S_states_word) (defBody S_states_word) (defScope S_states_word) .none kV_states_word dc_states_word pm_states_word an_states_word cd_states_word ct_states_word), sl_states_word⟩) (c_states_word : PySem.W.codeIn K cd_states_word "states_word" = true) (k_states_word : PySem.W.keepIn K (.ref f_states_word) = true)
    {od_number_in an_number_in : Option Addr} {sl_number_in : Array (Option Value)} {oc_number_in kV_number_in dc_number_in pm_number_in cd_number_in ct_number_in : Value}
    (a_number_in : PySem.W.nsIn K mainGlobals "number_in" = some (some (.ref f_number_in))) (l_number_in : K.lookup f_number_in = some ⟨oc_number_in, od_number_in, .func (PySem.W.fnOf "number_in" "number_in" (defArgs S_number_in) (defBody S_number_in) (defScope S_number_in) .none kV_number_in dc_number_in pm_number_in an_number_in cd_number_in ct_number_in), sl_number_in⟩) (c_number_in : PySem.W.codeIn K cd_number_in "number_in" = true) (k_number_in : PySem.W.keepIn K (.ref f_number_in) = true)
    {od__law_first_bads an__law_first_bads : Option Addr} {sl__law_first_bads : Array (Option Value)} {oc__law_first_bads kV__law_first_bads dc__law_first_bads pm__law_first_bads cd__law_first_bads ct__law_first_bads : Value}
    (a__law_first_bads : PySem.W.nsIn K mainGlobals "_law_first_bads" = some (some (.ref f__law_first_bads))) (l__law_first_bads : K.lookup f__law_first_bads = some ⟨oc__law_first_bads, od__law_first_bads, .func (PySem.W.fnOf "_law_first_bads" "_law_first_bads" (defArgs S__law_first_bads) (defBody S__law_first_bads) (defScope S__law_first_bads) .none kV__law_first_bads dc__law_first_bads pm__law_first_bads an__law_first_bads cd__law_first_bads ct__law_first_bads), sl__law_first_bads⟩) (c__law_first_bads : PySem.W.codeIn K cd__law_first_bads "_law_first_bads" = true) (k__law_first_bads : PySem.W.keepIn K (.ref f__law_first_bads) = true)
    {od__law_other_bads an__law_other_bads : Option Addr} {sl__law_other_bads : Array (Option Value)} {oc__law_other_bads kV__law_other_bads dc__law_other_bads pm__law_other_bads cd__law_other_bads ct__law_other_bads : Value}
    (a__law_other_bads : PySem.W.nsIn K mainGlobals "_law_other_bads" = some (some (.ref f__law_other_bads))) (l__law_other_bads : K.lookup f__law_other_bads = some ⟨oc__law_other_bads, od__law_other_bads, .func (PySem.W.fnOf "_law_other_bads" "_law_other_bads" (defArgs S__law_other_bads) (defBody S__law_other_bads) (defScope S__law_other_bads) .none kV__law_other_bads dc__law_other_bads pm__law_other_bads an__law_other_bads cd__law_other_bads ct__law_other_bads), sl__law_other_bads⟩) (c__law_other_bads : PySem.W.codeIn K cd__law_other_bads "_law_other_bads" = true) (k__law_other_bads : PySem.W.keepIn K (.ref f__law_other_bads) = true)
    {od_is_number_from an_is_number_from : Option Addr} {sl_is_number_from : Array (Option Value)} {oc_is_number_from kV_is_number_from dc_is_number_from pm_is_number_from cd_is_number_from ct_is_number_from : Value}
    (a_is_number_from : PySem.W.nsIn K mainGlobals "is_number_from" = some (some (.ref f_is_number_from))) (l_is_number_from : K.lookup f_is_number_from = some ⟨oc_is_number_from, od_is_number_from, .func (PySem.W.fnOf "is_number_from" "is_number_from" (defArgs S_is_number_from) (defBody S_is_number_from) (defScope S_is_number_from) .none kV_is_number_from dc_is_number_from pm_is_number_from an_is_number_from cd_is_number_from ct_is_number_from), sl_is_number_from⟩) (c_is_number_from : PySem.W.codeIn K cd_is_number_from "is_number_from" = true) (k_is_number_from : PySem.W.keepIn K (.ref f_is_number_from) = true)
    {od_row_words an_row_words : Option Addr} {sl_row_words : Array (Option Value)} {oc_row_words kV_row_words dc_row_words pm_row_words cd_row_words ct_row_words : Value}
    (a_row_words : PySem.W.nsIn K mainGlobals "row_words" = some (some (.ref f_row_words))) (l_row_words : K.lookup f_row_words = some ⟨oc_row_words, od_row_words, .func (PySem.W.fnOf "row_words" "row_words" (defArgs S_row_words) (defBody S_row_words) (defScope S_row_words) .none kV_row_words dc_row_words pm_row_words an_row_words cd_row_words ct_row_words), sl_row_words⟩) (c_row_words : PySem.W.codeIn K cd_row_words "row_words" = true) (k_row_words : PySem.W.keepIn K (.ref f_row_words) = true)
    {od_release_in an_release_in : Option Addr} {sl_release_in : Array (Option Value)} {oc_release_in kV_release_in dc_release_in pm_release_in cd_release_in ct_release_in : Value}
    (a_release_in : PySem.W.nsIn K mainGlobals "release_in" = some (some (.ref f_release_in))) (l_release_in : K.lookup f_release_in = some ⟨oc_release_in, od_release_in, .func (PySem.W.fnOf "release_in" "release_in" (defArgs S_release_in) (defBody S_release_in) (defScope S_release_in) .none kV_release_in dc_release_in pm_release_in an_release_in cd_release_in ct_release_in), sl_release_in⟩) (c_release_in : PySem.W.codeIn K cd_release_in "release_in" = true) (k_release_in : PySem.W.keepIn K (.ref f_release_in) = true)
    {od_states_in an_states_in : Option Addr} {sl_states_in : Array (Option Value)} {oc_states_in kV_states_in dc_states_in pm_states_in cd_states_in ct_states_in : Value}
    (a_states_in : PySem.W.nsIn K mainGlobals "states_in" = some (some (.ref f_states_in))) (l_states_in : K.lookup f_states_in = some ⟨oc_states_in, od_states_in, .func (PySem.W.fnOf "states_in" "states_in" (defArgs S_states_in) (defBody S_states_in) (defScope S_states_in) .none kV_states_in dc_states_in pm_states_in an_states_in cd_states_in ct_states_in), sl_states_in⟩) (c_states_in : PySem.W.codeIn K cd_states_in "states_in" = true) (k_states_in : PySem.W.keepIn K (.ref f_states_in) = true)
    {od_shelf_text an_shelf_text : Option Addr} {sl_shelf_text : Array (Option Value)} {oc_shelf_text kV_shelf_text dc_shelf_text pm_shelf_text cd_shelf_text ct_shelf_text : Value}
    (a_shelf_text : PySem.W.nsIn K mainGlobals "shelf_text" = some (some (.ref f_shelf_text))) (l_shelf_text : K.lookup f_shelf_text = some ⟨oc_shelf_text, od_shelf_text, .func (PySem.W.fnOf "shelf_text" "shelf_text" (defArgs S_shelf_text) (defBody S_shelf_text) (defScope S_shelf_text) .none kV_shelf_text dc_shelf_text pm_shelf_text an_shelf_text cd_shelf_text ct_shelf_text), sl_shelf_text⟩) (c_shelf_text : PySem.W.codeIn K cd_shelf_text "shelf_text" = true) (k_shelf_text : PySem.W.keepIn K (.ref f_shelf_text) = true)
    {od_lock_text an_lock_text : Option Addr} {sl_lock_text : Array (Option Value)} {oc_lock_text kV_lock_text dc_lock_text pm_lock_text cd_lock_text ct_lock_text : Value}
    (a_lock_text : PySem.W.nsIn K mainGlobals "lock_text" = some (some (.ref f_lock_text))) (l_lock_text : K.lookup f_lock_text = some ⟨oc_lock_text, od_lock_text, .func (PySem.W.fnOf "lock_text" "lock_text" (defArgs S_lock_text) (defBody S_lock_text) (defScope S_lock_text) .none kV_lock_text dc_lock_text pm_lock_text an_lock_text cd_lock_text ct_lock_text), sl_lock_text⟩) (c_lock_text : PySem.W.codeIn K cd_lock_text "lock_text" = true) (k_lock_text : PySem.W.keepIn K (.ref f_lock_text) = true)
    {od_wish_text an_wish_text : Option Addr} {sl_wish_text : Array (Option Value)} {oc_wish_text kV_wish_text dc_wish_text pm_wish_text cd_wish_text ct_wish_text : Value}
    (a_wish_text : PySem.W.nsIn K mainGlobals "wish_text" = some (some (.ref f_wish_text))) (l_wish_text : K.lookup f_wish_text = some ⟨oc_wish_text, od_wish_text, .func (PySem.W.fnOf "wish_text" "wish_text" (defArgs S_wish_text) (defBody S_wish_text) (defScope S_wish_text) .none kV_wish_text dc_wish_text pm_wish_text an_wish_text cd_wish_text ct_wish_text), sl_wish_text⟩) (c_wish_text : PySem.W.codeIn K cd_wish_text "wish_text" = true) (k_wish_text : PySem.W.keepIn K (.ref f_wish_text) = true)
    {od_is_set_from an_is_set_from : Option Addr} {sl_is_set_from : Array (Option Value)} {oc_is_set_from kV_is_set_from dc_is_set_from pm_is_set_from cd_is_set_from ct_is_set_from : Value}
    (a_is_set_from : PySem.W.nsIn K mainGlobals "is_set_from" = some (some (.ref f_is_set_from))) (l_is_set_from : K.lookup f_is_set_from = some ⟨oc_is_set_from, od_is_set_from, .func (PySem.W.fnOf "is_set_from" "is_set_from" (defArgs S_is_set_from) (defBody S_is_set_from) (defScope S_is_set_from) .none kV_is_set_from dc_is_set_from pm_is_set_from an_is_set_from cd_is_set_from ct_is_set_from), sl_is_set_from⟩) (c_is_set_from : PySem.W.codeIn K cd_is_set_from "is_set_from" = true) (k_is_set_from : PySem.W.keepIn K (.ref f_is_set_from) = true)
    {od_is_release an_is_release : Option Addr} {sl_is_release : Array (Option Value)} {oc_is_release kV_is_release dc_is_release pm_is_release cd_is_release ct_is_release : Value}
    (a_is_release : PySem.W.nsIn K mainGlobals "is_release" = some (some (.ref f_is_release))) (l_is_release : K.lookup f_is_release = some ⟨oc_is_release, od_is_release, .func (PySem.W.fnOf "is_release" "is_release" (defArgs S_is_release) (defBody S_is_release) (defScope S_is_release) .none kV_is_release dc_is_release pm_is_release an_is_release cd_is_release ct_is_release), sl_is_release⟩) (c_is_release : PySem.W.codeIn K cd_is_release "is_release" = true) (k_is_release : PySem.W.keepIn K (.ref f_is_release) = true)
    {od_lock_in an_lock_in : Option Addr} {sl_lock_in : Array (Option Value)} {oc_lock_in kV_lock_in dc_lock_in pm_lock_in cd_lock_in ct_lock_in : Value}
    (a_lock_in : PySem.W.nsIn K mainGlobals "lock_in" = some (some (.ref f_lock_in))) (l_lock_in : K.lookup f_lock_in = some ⟨oc_lock_in, od_lock_in, .func (PySem.W.fnOf "lock_in" "lock_in" (defArgs S_lock_in) (defBody S_lock_in) (defScope S_lock_in) .none kV_lock_in dc_lock_in pm_lock_in an_lock_in cd_lock_in ct_lock_in), sl_lock_in⟩) (c_lock_in : PySem.W.codeIn K cd_lock_in "lock_in" = true) (k_lock_in : PySem.W.keepIn K (.ref f_lock_in) = true)
    {od_wish_in an_wish_in : Option Addr} {sl_wish_in : Array (Option Value)} {oc_wish_in kV_wish_in dc_wish_in pm_wish_in cd_wish_in ct_wish_in : Value}
    (a_wish_in : PySem.W.nsIn K mainGlobals "wish_in" = some (some (.ref f_wish_in))) (l_wish_in : K.lookup f_wish_in = some ⟨oc_wish_in, od_wish_in, .func (PySem.W.fnOf "wish_in" "wish_in" (defArgs S_wish_in) (defBody S_wish_in) (defScope S_wish_in) .none kV_wish_in dc_wish_in pm_wish_in an_wish_in cd_wish_in ct_wish_in), sl_wish_in⟩) (c_wish_in : PySem.W.codeIn K cd_wish_in "wish_in" = true) (k_wish_in : PySem.W.keepIn K (.ref f_wish_in) = true)
    {od_telling_text an_telling_text : Option Addr} {sl_telling_text : Array (Option Value)} {oc_telling_text kV_telling_text dc_telling_text pm_telling_text cd_telling_text ct_telling_text : Value}
    (a_telling_text : PySem.W.nsIn K mainGlobals "telling_text" = some (some (.ref f_telling_text))) (l_telling_text : K.lookup f_telling_text = some ⟨oc_telling_text, od_telling_text, .func (PySem.W.fnOf "telling_text" "telling_text" (defArgs S_telling_text) (defBody S_telling_text) (defScope S_telling_text) .none kV_telling_text dc_telling_text pm_telling_text an_telling_text cd_telling_text ct_telling_text), sl_telling_text⟩) (c_telling_text : PySem.W.codeIn K cd_telling_text "telling_text" = true) (k_telling_text : PySem.W.keepIn K (.ref f_telling_text) = true)
    {od__words_behind an__words_behind : Option Addr} {sl__words_behind : Array (Option Value)} {oc__words_behind kV__words_behind dc__words_behind pm__words_behind cd__words_behind ct__words_behind : Value}
    (a__words_behind : PySem.W.nsIn K mainGlobals "_words_behind" = some (some (.ref f__words_behind))) (l__words_behind : K.lookup f__words_behind = some ⟨oc__words_behind, od__words_behind, .func (PySem.W.fnOf "_words_behind" "_words_behind" (defArgs S__words_behind) (defBody S__words_behind) (defScope S__words_behind) .none kV__words_behind dc__words_behind pm__words_behind an__words_behind cd__words_behind ct__words_behind), sl__words_behind⟩) (c__words_behind : PySem.W.codeIn K cd__words_behind "_words_behind" = true) (k__words_behind : PySem.W.keepIn K (.ref f__words_behind) = true)
    {od__check_only_line an__check_only_line : Option Addr} {sl__check_only_line : Array (Option Value)} {oc__check_only_line kV__check_only_line dc__check_only_line pm__check_only_line cd__check_only_line ct__check_only_line : Value}
    (a__check_only_line : PySem.W.nsIn K mainGlobals "_check_only_line" = some (some (.ref f__check_only_line))) (l__check_only_line : K.lookup f__check_only_line = some ⟨oc__check_only_line, od__check_only_line, .func (PySem.W.fnOf "_check_only_line" "_check_only_line" (defArgs S__check_only_line) (defBody S__check_only_line) (defScope S__check_only_line) .none kV__check_only_line dc__check_only_line pm__check_only_line an__check_only_line cd__check_only_line ct__check_only_line), sl__check_only_line⟩) (c__check_only_line : PySem.W.codeIn K cd__check_only_line "_check_only_line" = true) (k__check_only_line : PySem.W.keepIn K (.ref f__check_only_line) = true)
    {od__with_line an__with_line : Option Addr} {sl__with_line : Array (Option Value)} {oc__with_line kV__with_line dc__with_line pm__with_line cd__with_line ct__with_line : Value}
    (a__with_line : PySem.W.nsIn K mainGlobals "_with_line" = some (some (.ref f__with_line))) (l__with_line : K.lookup f__with_line = some ⟨oc__with_line, od__with_line, .func (PySem.W.fnOf "_with_line" "_with_line" (defArgs S__with_line) (defBody S__with_line) (defScope S__with_line) .none kV__with_line dc__with_line pm__with_line an__with_line cd__with_line ct__with_line), sl__with_line⟩) (c__with_line : PySem.W.codeIn K cd__with_line "_with_line" = true) (k__with_line : PySem.W.keepIn K (.ref f__with_line) = true)
    {od_is_lot an_is_lot : Option Addr} {sl_is_lot : Array (Option Value)} {oc_is_lot kV_is_lot dc_is_lot pm_is_lot cd_is_lot ct_is_lot : Value}
    (a_is_lot : PySem.W.nsIn K mainGlobals "is_lot" = some (some (.ref f_is_lot))) (l_is_lot : K.lookup f_is_lot = some ⟨oc_is_lot, od_is_lot, .func (PySem.W.fnOf "is_lot" "is_lot" (defArgs S_is_lot) (defBody S_is_lot) (defScope S_is_lot) .none kV_is_lot dc_is_lot pm_is_lot an_is_lot cd_is_lot ct_is_lot), sl_is_lot⟩) (c_is_lot : PySem.W.codeIn K cd_is_lot "is_lot" = true) (k_is_lot : PySem.W.keepIn K (.ref f_is_lot) = true)
    {od_is_lock an_is_lock : Option Addr} {sl_is_lock : Array (Option Value)} {oc_is_lock kV_is_lock dc_is_lock pm_is_lock cd_is_lock ct_is_lock : Value}
    (a_is_lock : PySem.W.nsIn K mainGlobals "is_lock" = some (some (.ref f_is_lock))) (l_is_lock : K.lookup f_is_lock = some ⟨oc_is_lock, od_is_lock, .func (PySem.W.fnOf "is_lock" "is_lock" (defArgs S_is_lock) (defBody S_is_lock) (defScope S_is_lock) .none kV_is_lock dc_is_lock pm_is_lock an_is_lock cd_is_lock ct_is_lock), sl_is_lock⟩) (c_is_lock : PySem.W.codeIn K cd_is_lock "is_lock" = true) (k_is_lock : PySem.W.keepIn K (.ref f_is_lock) = true)
    {od_is_wish an_is_wish : Option Addr} {sl_is_wish : Array (Option Value)} {oc_is_wish kV_is_wish dc_is_wish pm_is_wish cd_is_wish ct_is_wish : Value}
    (a_is_wish : PySem.W.nsIn K mainGlobals "is_wish" = some (some (.ref f_is_wish))) (l_is_wish : K.lookup f_is_wish = some ⟨oc_is_wish, od_is_wish, .func (PySem.W.fnOf "is_wish" "is_wish" (defArgs S_is_wish) (defBody S_is_wish) (defScope S_is_wish) .none kV_is_wish dc_is_wish pm_is_wish an_is_wish cd_is_wish ct_is_wish), sl_is_wish⟩) (c_is_wish : PySem.W.codeIn K cd_is_wish "is_wish" = true) (k_is_wish : PySem.W.keepIn K (.ref f_is_wish) = true)
    {od_answer_in an_answer_in : Option Addr} {sl_answer_in : Array (Option Value)} {oc_answer_in kV_answer_in dc_answer_in pm_answer_in cd_answer_in ct_answer_in : Value}
    (a_answer_in : PySem.W.nsIn K mainGlobals "answer_in" = some (some (.ref f_answer_in))) (l_answer_in : K.lookup f_answer_in = some ⟨oc_answer_in, od_answer_in, .func (PySem.W.fnOf "answer_in" "answer_in" (defArgs S_answer_in) (defBody S_answer_in) (defScope S_answer_in) .none kV_answer_in dc_answer_in pm_answer_in an_answer_in cd_answer_in ct_answer_in), sl_answer_in⟩) (c_answer_in : PySem.W.codeIn K cd_answer_in "answer_in" = true) (k_answer_in : PySem.W.keepIn K (.ref f_answer_in) = true)
    {od_is_rules an_is_rules : Option Addr} {sl_is_rules : Array (Option Value)} {oc_is_rules kV_is_rules dc_is_rules pm_is_rules cd_is_rules ct_is_rules : Value}
    (a_is_rules : PySem.W.nsIn K mainGlobals "is_rules" = some (some (.ref f_is_rules))) (l_is_rules : K.lookup f_is_rules = some ⟨oc_is_rules, od_is_rules, .func (PySem.W.fnOf "is_rules" "is_rules" (defArgs S_is_rules) (defBody S_is_rules) (defScope S_is_rules) .none kV_is_rules dc_is_rules pm_is_rules an_is_rules cd_is_rules ct_is_rules), sl_is_rules⟩) (c_is_rules : PySem.W.codeIn K cd_is_rules "is_rules" = true) (k_is_rules : PySem.W.keepIn K (.ref f_is_rules) = true)
    {od_is_row an_is_row : Option Addr} {sl_is_row : Array (Option Value)} {oc_is_row kV_is_row dc_is_row pm_is_row cd_is_row ct_is_row : Value}
    (a_is_row : PySem.W.nsIn K mainGlobals "is_row" = some (some (.ref f_is_row))) (l_is_row : K.lookup f_is_row = some ⟨oc_is_row, od_is_row, .func (PySem.W.fnOf "is_row" "is_row" (defArgs S_is_row) (defBody S_is_row) (defScope S_is_row) .none kV_is_row dc_is_row pm_is_row an_is_row cd_is_row ct_is_row), sl_is_row⟩) (c_is_row : PySem.W.codeIn K cd_is_row "is_row" = true) (k_is_row : PySem.W.keepIn K (.ref f_is_row) = true)
    {od_row_in an_row_in : Option Addr} {sl_row_in : Array (Option Value)} {oc_row_in kV_row_in dc_row_in pm_row_in cd_row_in ct_row_in : Value}
    (a_row_in : PySem.W.nsIn K mainGlobals "row_in" = some (some (.ref f_row_in))) (l_row_in : K.lookup f_row_in = some ⟨oc_row_in, od_row_in, .func (PySem.W.fnOf "row_in" "row_in" (defArgs S_row_in) (defBody S_row_in) (defScope S_row_in) .none kV_row_in dc_row_in pm_row_in an_row_in cd_row_in ct_row_in), sl_row_in⟩) (c_row_in : PySem.W.codeIn K cd_row_in "row_in" = true) (k_row_in : PySem.W.keepIn K (.ref f_row_in) = true)
    {od_read_lock an_read_lock : Option Addr} {sl_read_lock : Array (Option Value)} {oc_read_lock kV_read_lock dc_read_lock pm_read_lock cd_read_lock ct_read_lock : Value}
    (a_read_lock : PySem.W.nsIn K mainGlobals "read_lock" = some (some (.ref f_read_lock))) (l_read_lock : K.lookup f_read_lock = some ⟨oc_read_lock, od_read_lock, .func (PySem.W.fnOf "read_lock" "read_lock" (defArgs S_read_lock) (defBody S_read_lock) (defScope S_read_lock) .none kV_read_lock dc_read_lock pm_read_lock an_read_lock cd_read_lock ct_read_lock), sl_read_lock⟩) (c_read_lock : PySem.W.codeIn K cd_read_lock "read_lock" = true) (k_read_lock : PySem.W.keepIn K (.ref f_read_lock) = true)
    {od_read_wish an_read_wish : Option Addr} {sl_read_wish : Array (Option Value)} {oc_read_wish kV_read_wish dc_read_wish pm_read_wish cd_read_wish ct_read_wish : Value}
    (a_read_wish : PySem.W.nsIn K mainGlobals "read_wish" = some (some (.ref f_read_wish))) (l_read_wish : K.lookup f_read_wish = some ⟨oc_read_wish, od_read_wish, .func (PySem.W.fnOf "read_wish" "read_wish" (defArgs S_read_wish) (defBody S_read_wish) (defScope S_read_wish) .none kV_read_wish dc_read_wish pm_read_wish an_read_wish cd_read_wish ct_read_wish), sl_read_wish⟩) (c_read_wish : PySem.W.codeIn K cd_read_wish "read_wish" = true) (k_read_wish : PySem.W.keepIn K (.ref f_read_wish) = true)
    {od_read_telling an_read_telling : Option Addr} {sl_read_telling : Array (Option Value)} {oc_read_telling kV_read_telling dc_read_telling pm_read_telling cd_read_telling ct_read_telling : Value}
    (a_read_telling : PySem.W.nsIn K mainGlobals "read_telling" = some (some (.ref f_read_telling))) (l_read_telling : K.lookup f_read_telling = some ⟨oc_read_telling, od_read_telling, .func (PySem.W.fnOf "read_telling" "read_telling" (defArgs S_read_telling) (defBody S_read_telling) (defScope S_read_telling) .none kV_read_telling dc_read_telling pm_read_telling an_read_telling cd_read_telling ct_read_telling), sl_read_telling⟩) (c_read_telling : PySem.W.codeIn K cd_read_telling "read_telling" = true) (k_read_telling : PySem.W.keepIn K (.ref f_read_telling) = true)
    {od_frozen an_frozen : Option Addr} {sl_frozen : Array (Option Value)} {oc_frozen kV_frozen dc_frozen pm_frozen cd_frozen ct_frozen : Value}
    (a_frozen : PySem.W.nsIn K mainGlobals "frozen" = some (some (.ref f_frozen))) (l_frozen : K.lookup f_frozen = some ⟨oc_frozen, od_frozen, .func (PySem.W.fnOf "frozen" "frozen" (defArgs S_frozen) (defBody S_frozen) (defScope S_frozen) .none kV_frozen dc_frozen pm_frozen an_frozen cd_frozen ct_frozen), sl_frozen⟩) (c_frozen : PySem.W.codeIn K cd_frozen "frozen" = true) (k_frozen : PySem.W.keepIn K (.ref f_frozen) = true)
    {od__law_lists an__law_lists : Option Addr} {sl__law_lists : Array (Option Value)} {oc__law_lists kV__law_lists dc__law_lists pm__law_lists cd__law_lists ct__law_lists : Value}
    (a__law_lists : PySem.W.nsIn K mainGlobals "_law_lists" = some (some (.ref f__law_lists))) (l__law_lists : K.lookup f__law_lists = some ⟨oc__law_lists, od__law_lists, .func (PySem.W.fnOf "_law_lists" "_law_lists" (defArgs S__law_lists) (defBody S__law_lists) (defScope S__law_lists) .none kV__law_lists dc__law_lists pm__law_lists an__law_lists cd__law_lists ct__law_lists), sl__law_lists⟩) (c__law_lists : PySem.W.codeIn K cd__law_lists "_law_lists" = true) (k__law_lists : PySem.W.keepIn K (.ref f__law_lists) = true)
    {od__law_same an__law_same : Option Addr} {sl__law_same : Array (Option Value)} {oc__law_same kV__law_same dc__law_same pm__law_same cd__law_same ct__law_same : Value}
    (a__law_same : PySem.W.nsIn K mainGlobals "_law_same" = some (some (.ref f__law_same))) (l__law_same : K.lookup f__law_same = some ⟨oc__law_same, od__law_same, .func (PySem.W.fnOf "_law_same" "_law_same" (defArgs S__law_same) (defBody S__law_same) (defScope S__law_same) .none kV__law_same dc__law_same pm__law_same an__law_same cd__law_same ct__law_same), sl__law_same⟩) (c__law_same : PySem.W.codeIn K cd__law_same "_law_same" = true) (k__law_same : PySem.W.keepIn K (.ref f__law_same) = true)
    {od_lot_in an_lot_in : Option Addr} {sl_lot_in : Array (Option Value)} {oc_lot_in kV_lot_in dc_lot_in pm_lot_in cd_lot_in ct_lot_in : Value}
    (a_lot_in : PySem.W.nsIn K mainGlobals "lot_in" = some (some (.ref f_lot_in))) (l_lot_in : K.lookup f_lot_in = some ⟨oc_lot_in, od_lot_in, .func (PySem.W.fnOf "lot_in" "lot_in" (defArgs S_lot_in) (defBody S_lot_in) (defScope S_lot_in) .none kV_lot_in dc_lot_in pm_lot_in an_lot_in cd_lot_in ct_lot_in), sl_lot_in⟩) (c_lot_in : PySem.W.codeIn K cd_lot_in "lot_in" = true) (k_lot_in : PySem.W.keepIn K (.ref f_lot_in) = true)
    {od__is_entry an__is_entry : Option Addr} {sl__is_entry : Array (Option Value)} {oc__is_entry kV__is_entry dc__is_entry pm__is_entry cd__is_entry ct__is_entry : Value}
    (a__is_entry : PySem.W.nsIn K mainGlobals "_is_entry" = some (some (.ref f__is_entry))) (l__is_entry : K.lookup f__is_entry = some ⟨oc__is_entry, od__is_entry, .func (PySem.W.fnOf "_is_entry" "_is_entry" (defArgs S__is_entry) (defBody S__is_entry) (defScope S__is_entry) .none kV__is_entry dc__is_entry pm__is_entry an__is_entry cd__is_entry ct__is_entry), sl__is_entry⟩) (c__is_entry : PySem.W.codeIn K cd__is_entry "_is_entry" = true) (k__is_entry : PySem.W.keepIn K (.ref f__is_entry) = true)
    {od_is_shelf an_is_shelf : Option Addr} {sl_is_shelf : Array (Option Value)} {oc_is_shelf kV_is_shelf dc_is_shelf pm_is_shelf cd_is_shelf ct_is_shelf : Value}
    (a_is_shelf : PySem.W.nsIn K mainGlobals "is_shelf" = some (some (.ref f_is_shelf))) (l_is_shelf : K.lookup f_is_shelf = some ⟨oc_is_shelf, od_is_shelf, .func (PySem.W.fnOf "is_shelf" "is_shelf" (defArgs S_is_shelf) (defBody S_is_shelf) (defScope S_is_shelf) .none kV_is_shelf dc_is_shelf pm_is_shelf an_is_shelf cd_is_shelf ct_is_shelf), sl_is_shelf⟩) (c_is_shelf : PySem.W.codeIn K cd_is_shelf "is_shelf" = true) (k_is_shelf : PySem.W.keepIn K (.ref f_is_shelf) = true)
    {od_read_shelf an_read_shelf : Option Addr} {sl_read_shelf : Array (Option Value)} {oc_read_shelf kV_read_shelf dc_read_shelf pm_read_shelf cd_read_shelf ct_read_shelf : Value}
    (a_read_shelf : PySem.W.nsIn K mainGlobals "read_shelf" = some (some (.ref f_read_shelf))) (l_read_shelf : K.lookup f_read_shelf = some ⟨oc_read_shelf, od_read_shelf, .func (PySem.W.fnOf "read_shelf" "read_shelf" (defArgs S_read_shelf) (defBody S_read_shelf) (defScope S_read_shelf) .none kV_read_shelf dc_read_shelf pm_read_shelf an_read_shelf cd_read_shelf ct_read_shelf), sl_read_shelf⟩) (c_read_shelf : PySem.W.codeIn K cd_read_shelf "read_shelf" = true) (k_read_shelf : PySem.W.keepIn K (.ref f_read_shelf) = true)
    {od__law_read an__law_read : Option Addr} {sl__law_read : Array (Option Value)} {oc__law_read kV__law_read dc__law_read pm__law_read cd__law_read ct__law_read : Value}
    (a__law_read : PySem.W.nsIn K mainGlobals "_law_read" = some (some (.ref f__law_read))) (l__law_read : K.lookup f__law_read = some ⟨oc__law_read, od__law_read, .func (PySem.W.fnOf "_law_read" "_law_read" (defArgs S__law_read) (defBody S__law_read) (defScope S__law_read) .none kV__law_read dc__law_read pm__law_read an__law_read cd__law_read ct__law_read), sl__law_read⟩) (c__law_read : PySem.W.codeIn K cd__law_read "_law_read" = true) (k__law_read : PySem.W.keepIn K (.ref f__law_read) = true)
    {od__law_texts_right an__law_texts_right : Option Addr} {sl__law_texts_right : Array (Option Value)} {oc__law_texts_right kV__law_texts_right dc__law_texts_right pm__law_texts_right cd__law_texts_right ct__law_texts_right : Value}
    (a__law_texts_right : PySem.W.nsIn K mainGlobals "_law_texts_right" = some (some (.ref f__law_texts_right))) (l__law_texts_right : K.lookup f__law_texts_right = some ⟨oc__law_texts_right, od__law_texts_right, .func (PySem.W.fnOf "_law_texts_right" "_law_texts_right" (defArgs S__law_texts_right) (defBody S__law_texts_right) (defScope S__law_texts_right) .none kV__law_texts_right dc__law_texts_right pm__law_texts_right an__law_texts_right cd__law_texts_right ct__law_texts_right), sl__law_texts_right⟩) (c__law_texts_right : PySem.W.codeIn K cd__law_texts_right "_law_texts_right" = true) (k__law_texts_right : PySem.W.keepIn K (.ref f__law_texts_right) = true)
    {od__law_bads_right an__law_bads_right : Option Addr} {sl__law_bads_right : Array (Option Value)} {oc__law_bads_right kV__law_bads_right dc__law_bads_right pm__law_bads_right cd__law_bads_right ct__law_bads_right : Value}
    (a__law_bads_right : PySem.W.nsIn K mainGlobals "_law_bads_right" = some (some (.ref f__law_bads_right))) (l__law_bads_right : K.lookup f__law_bads_right = some ⟨oc__law_bads_right, od__law_bads_right, .func (PySem.W.fnOf "_law_bads_right" "_law_bads_right" (defArgs S__law_bads_right) (defBody S__law_bads_right) (defScope S__law_bads_right) .none kV__law_bads_right dc__law_bads_right pm__law_bads_right an__law_bads_right cd__law_bads_right ct__law_bads_right), sl__law_bads_right⟩) (c__law_bads_right : PySem.W.codeIn K cd__law_bads_right "_law_bads_right" = true) (k__law_bads_right : PySem.W.keepIn K (.ref f__law_bads_right) = true)
    {od_law an_law : Option Addr} {sl_law : Array (Option Value)} {oc_law kV_law dc_law pm_law cd_law ct_law : Value}
    (a_law : PySem.W.nsIn K mainGlobals "law" = some (some (.ref f_law))) (l_law : K.lookup f_law = some ⟨oc_law, od_law, .func (PySem.W.fnOf "law" "law" (defArgs S_law) (defBody S_law) (defScope S_law) .none kV_law dc_law pm_law an_law cd_law ct_law), sl_law⟩) (c_law : PySem.W.codeIn K cd_law "law" = true) (k_law : PySem.W.keepIn K (.ref f_law) = true)
    {tk_FIGURES : Tok} (kk_FIGURES : PySem.W.nsIn K mainGlobals "FIGURES" = some (some (.str "0123456789" tk_FIGURES)))
    (z_ValueError : PySem.W.nsIn K mainGlobals "ValueError" = some none)
    (z_all : PySem.W.nsIn K mainGlobals "all" = some none)
    (z_bool : PySem.W.nsIn K mainGlobals "bool" = some none)
    (z_enumerate : PySem.W.nsIn K mainGlobals "enumerate" = some none)
    (z_int : PySem.W.nsIn K mainGlobals "int" = some none)
    (z_isinstance : PySem.W.nsIn K mainGlobals "isinstance" = some none)
    (z_len : PySem.W.nsIn K mainGlobals "len" = some none)
    (z_list : PySem.W.nsIn K mainGlobals "list" = some none)
    (z_range : PySem.W.nsIn K mainGlobals "range" = some none)
    (z_set : PySem.W.nsIn K mainGlobals "set" = some none)
    (z_str : PySem.W.nsIn K mainGlobals "str" = some none)
    (z_tuple : PySem.W.nsIn K mainGlobals "tuple" = some none)
    (z_zip : PySem.W.nsIn K mainGlobals "zip" = some none)
    (hn0 : PySem.W.specialIn K (.builtin "object.__class__") "__get__" = some (some (.builtin "getset_descriptor.__get__"))) (ht0 : PySem.W.takesIn K (.builtin "object.__class__") = some true)
    (vv0 : PySem.W.findCls K (.type "ValueError") (.type "type") "__init__" = some (.val (.builtin "ValueError.__init__")))
    {i_BadText N_BadText : Addr} {nm_BadText qn_BadText : Str} {bs_BadText bm_BadText : List Value} {sn_BadText : List Str} {sub_BadText : List Value} {ab_BadText : Bool} {col_BadText : Option Bool} {dd_BadText odi_BadText ani_BadText : Option Addr} {ka_BadText kb_BadText kcc_BadText kd_BadText ke_BadText : Option Value} {sli_BadText : Array (Option Value)} {oci_BadText kVi_BadText dci_BadText pmi_BadText cdi_BadText cti_BadText : Value}
    (na_BadText : PySem.W.nsIn K mainGlobals "BadText" = some (some (.ref e_BadText)))
    (oc_BadText : K.lookup e_BadText = some (excClassObj nm_BadText qn_BadText e_BadText N_BadText bs_BadText bm_BadText true sn_BadText sub_BadText ab_BadText col_BadText dd_BadText ka_BadText kb_BadText kcc_BadText kd_BadText ke_BadText "ValueError.__new__"))
    (rv_BadText : PySem.HandSPX.refsVE bm_BadText = true)
    (sa_BadText : PySem.W.findIn K (.ref e_BadText) "__setattr__" = some (some (.builtin "object.__setattr__")))
    (nf_BadText : PySem.W.findIn K (.ref e_BadText) "line" = some none)
    (ii_BadText : PySem.W.findIn K (.ref e_BadText) "__init__" = some (some (.ref i_BadText)))
    (it_BadText : PySem.W.typeIn K (.ref i_BadText) = some (.type "function"))
    (il_BadText : K.lookup i_BadText = some ⟨oci_BadText, odi_BadText, .func (PySem.W.fnOf "__init__" "BadText.__init__" (defArgs SI_BadText) (defBody SI_BadText) (defScope SI_BadText) .none kVi_BadText dci_BadText pmi_BadText ani_BadText cdi_BadText cti_BadText), sli_BadText⟩)
    (ic_BadText : PySem.W.codeIn K cdi_BadText "BadText.__init__" = true)
    (ik_BadText : PySem.W.keepIn K (.ref i_BadText) = true)
    (kc_BadText : PySem.W.keepIn K (.ref e_BadText) = true)
    (sb_BadText : PySem.W.subIn K (.ref e_BadText) (.type "BaseException") = some true)
    (ty_BadText : PySem.W.typeIn K (.ref e_BadText) = some (.type "type"))
    (hg_BadText : PySem.W.findIn K (.ref e_BadText) "__getattribute__" = some (some (.builtin "BaseException.__getattribute__")))
    (hk_BadText : PySem.W.findIn K (.ref e_BadText) "__getattr__" = some none)
    (hd_BadText : PySem.W.hasDictIn K e_BadText = true)
    (ha_BadText : PySem.W.findIn K (.ref e_BadText) "__class__" = some (some (.builtin "object.__class__")))
    (hm_BadText : PySem.W.mroIn K e_BadText (.type "object") = some true)
    (ve_BadText : PySem.W.kitOne K (.ref e_BadText) (.type "ValueError") = some true)
    (s_BadText_BadText : PySem.W.subIn K (.ref e_BadText) (.ref e_BadText) = some true)
    (hlaw : ∀ ns : List Int, ns.length ≤ 63 → ∃ ρ, g_law [.im (.list (ns.map PyData.int))] = some (.rt false (.bool true) ρ)) :
    ∃ fd : FuncData, (∀ (s : Shared) (v : Value), BindsTo s fd ⟨[v], []⟩ [("script", v)]) ∧ ∀ base : Heap, K.In base → base.Ns mainGlobals mg → FnOk PySem.Challenge.pw_lockstold_k57_texts_by_hand_and_what_is w K mg base (L2.CX PySem.Challenge.pw_lockstold_k57_texts_by_hand_and_what_is w) 17 fa fd ["script"] (spL K) := by
  have e := hfa.symm.trans (PySem.W.mg_of X G a_law)
  cases e
  have G0 : Gd K mg (fun c => match c with | 0 => e_BadText | _ => 0) := by
    refine { m_ValueError := PySem.W.mg_none_of X G z_ValueError, m_all := PySem.W.mg_none_of X G z_all, m_bool := PySem.W.mg_none_of X G z_bool, m_enumerate := PySem.W.mg_none_of X G z_enumerate, m_int := PySem.W.mg_none_of X G z_int, m_isinstance := PySem.W.mg_none_of X G z_isinstance, k_FIGURES := ⟨_, PySem.W.mg_of X G kk_FIGURES⟩, m_len := PySem.W.mg_none_of X G z_len, m_list := PySem.W.mg_none_of X G z_list, m_range := PySem.W.mg_none_of X G z_range, m_set := PySem.W.mg_none_of X G z_set, m_str := PySem.W.mg_none_of X G z_str, m_tuple := PySem.W.mg_none_of X G z_tuple, x_BadText := exi_mk X G na_BadText oc_BadText rv_BadText sa_BadText sb_BadText ty_BadText kc_BadText hg_BadText hk_BadText hd_BadText ha_BadText hn0 ht0 hm_BadText ve_BadText nf_BadText, m_zip := PySem.W.mg_none_of X G z_zip, xx := fun i hi j hj => ?_ }
    have hi : i < 1 := hi
    have hj : j < 1 := hj
    have hi : i = 0 := by omega
    have hj : j = 0 := by omega
    rcases hi with rfl <;> rcases hj with rfl <;> first | exact PySem.W.exm_ref sb_BadText hd_BadText ty_BadText s_BadText_BadText
  have T_is_number : Tx K mg "is_number" S_is_number ["thing"] := tx_mk X G a_is_number l_is_number c_is_number k_is_number (fun _ _ _ _ _ _ us hl => match us, hl with | [_], _ => rfl)
  have T_is_tuple_of : Tx K mg "is_tuple_of" S_is_tuple_of ["many", "thing"] := tx_mk X G a_is_tuple_of l_is_tuple_of c_is_tuple_of k_is_tuple_of (fun _ _ _ _ _ _ us hl => match us, hl with | [_, _], _ => rfl)
  have T_ascends : Tx K mg "ascends" S_ascends ["things"] := tx_mk X G a_ascends l_ascends c_ascends k_ascends (fun _ _ _ _ _ _ us hl => match us, hl with | [_], _ => rfl)
  have T_is_name : Tx K mg "is_name" S_is_name ["thing"] := tx_mk X G a_is_name l_is_name c_is_name k_is_name (fun _ _ _ _ _ _ us hl => match us, hl with | [_], _ => rfl)
  have T_lines_of : Tx K mg "lines_of" S_lines_of ["text"] := tx_mk X G a_lines_of l_lines_of c_lines_of k_lines_of (fun _ _ _ _ _ _ us hl => match us, hl with | [_], _ => rfl)
  have T_release_word : Tx K mg "release_word" S_release_word ["release"] := tx_mk X G a_release_word l_release_word c_release_word k_release_word (fun _ _ _ _ _ _ us hl => match us, hl with | [_], _ => rfl)
  have T_states_word : Tx K mg "states_word" S_states_word ["part"] := tx_mk X G a_states_word l_states_word c_states_word k_states_word (fun _ _ _ _ _ _ us hl => match us, hl with | [_], _ => rfl)
  have T_number_in : Tx K mg "number_in" S_number_in ["word"] := tx_mk X G a_number_in l_number_in c_number_in k_number_in (fun _ _ _ _ _ _ us hl => match us, hl with | [_], _ => rfl)
  have T__law_first_bads : Tx K mg "_law_first_bads" S__law_first_bads [] := tx_mk X G a__law_first_bads l__law_first_bads c__law_first_bads k__law_first_bads (fun _ _ _ _ _ _ us hl => match us, hl with | [], _ => rfl)
  have T__law_other_bads : Tx K mg "_law_other_bads" S__law_other_bads [] := tx_mk X G a__law_other_bads l__law_other_bads c__law_other_bads k__law_other_bads (fun _ _ _ _ _ _ us hl => match us, hl with | [], _ => rfl)
  have T_is_number_from : Tx K mg "is_number_from" S_is_number_from ["least", "thing"] := tx_mk X G a_is_number_from l_is_number_from c_is_number_from k_is_number_from (fun _ _ _ _ _ _ us hl => match us, hl with | [_, _], _ => rfl)
  have T_row_words : Tx K mg "row_words" S_row_words ["row"] := tx_mk X G a_row_words l_row_words c_row_words k_row_words (fun _ _ _ _ _ _ us hl => match us, hl with | [_], _ => rfl)
  have T_release_in : Tx K mg "release_in" S_release_in ["word"] := tx_mk X G a_release_in l_release_in c_release_in k_release_in (fun _ _ _ _ _ _ us hl => match us, hl with | [_], _ => rfl)
  have T_states_in : Tx K mg "states_in" S_states_in ["word"] := tx_mk X G a_states_in l_states_in c_states_in k_states_in (fun _ _ _ _ _ _ us hl => match us, hl with | [_], _ => rfl)
  have T_shelf_text : Tx K mg "shelf_text" S_shelf_text ["shelf"] := tx_mk X G a_shelf_text l_shelf_text c_shelf_text k_shelf_text (fun _ _ _ _ _ _ us hl => match us, hl with | [_], _ => rfl)
  have T_lock_text : Tx K mg "lock_text" S_lock_text ["lock"] := tx_mk X G a_lock_text l_lock_text c_lock_text k_lock_text (fun _ _ _ _ _ _ us hl => match us, hl with | [_], _ => rfl)
  have T_wish_text : Tx K mg "wish_text" S_wish_text ["wish"] := tx_mk X G a_wish_text l_wish_text c_wish_text k_wish_text (fun _ _ _ _ _ _ us hl => match us, hl with | [_], _ => rfl)
  have T_is_set_from : Tx K mg "is_set_from" S_is_set_from ["least", "thing"] := tx_mk X G a_is_set_from l_is_set_from c_is_set_from k_is_set_from (fun _ _ _ _ _ _ us hl => match us, hl with | [_, _], _ => rfl)
  have T_is_release : Tx K mg "is_release" S_is_release ["thing"] := tx_mk X G a_is_release l_is_release c_is_release k_is_release (fun _ _ _ _ _ _ us hl => match us, hl with | [_], _ => rfl)
  have T_lock_in : Tx K mg "lock_in" S_lock_in ["words"] := tx_mk X G a_lock_in l_lock_in c_lock_in k_lock_in (fun _ _ _ _ _ _ us hl => match us, hl with | [_], _ => rfl)
  have T_wish_in : Tx K mg "wish_in" S_wish_in ["words"] := tx_mk X G a_wish_in l_wish_in c_wish_in k_wish_in (fun _ _ _ _ _ _ us hl => match us, hl with | [_], _ => rfl)
  have T_telling_text : Tx K mg "telling_text" S_telling_text ["telling"] := tx_mk X G a_telling_text l_telling_text c_telling_text k_telling_text (fun _ _ _ _ _ _ us hl => match us, hl with | [_], _ => rfl)
  have T__words_behind : Tx K mg "_words_behind" S__words_behind ["word", "text"] := tx_mk X G a__words_behind l__words_behind c__words_behind k__words_behind (fun _ _ _ _ _ _ us hl => match us, hl with | [_, _], _ => rfl)
  have T__check_only_line : Tx K mg "_check_only_line" S__check_only_line ["text", "fit"] := tx_mk X G a__check_only_line l__check_only_line c__check_only_line k__check_only_line (fun _ _ _ _ _ _ us hl => match us, hl with | [_, _], _ => rfl)
  have T__with_line : Tx K mg "_with_line" S__with_line ["shelf", "words"] := tx_mk X G a__with_line l__with_line c__with_line k__with_line (fun _ _ _ _ _ _ us hl => match us, hl with | [_, _], _ => rfl)
  have T_is_lot : Tx K mg "is_lot" S_is_lot ["thing"] := tx_mk X G a_is_lot l_is_lot c_is_lot k_is_lot (fun _ _ _ _ _ _ us hl => match us, hl with | [_], _ => rfl)
  have T_is_lock : Tx K mg "is_lock" S_is_lock ["thing"] := tx_mk X G a_is_lock l_is_lock c_is_lock k_is_lock (fun _ _ _ _ _ _ us hl => match us, hl with | [_], _ => rfl)
  have T_is_wish : Tx K mg "is_wish" S_is_wish ["thing"] := tx_mk X G a_is_wish l_is_wish c_is_wish k_is_wish (fun _ _ _ _ _ _ us hl => match us, hl with | [_], _ => rfl)
  have T_answer_in : Tx K mg "answer_in" S_answer_in ["words"] := tx_mk X G a_answer_in l_answer_in c_answer_in k_answer_in (fun _ _ _ _ _ _ us hl => match us, hl with | [_], _ => rfl)
  have T_is_rules : Tx K mg "is_rules" S_is_rules ["thing"] := tx_mk X G a_is_rules l_is_rules c_is_rules k_is_rules (fun _ _ _ _ _ _ us hl => match us, hl with | [_], _ => rfl)
  have T_is_row : Tx K mg "is_row" S_is_row ["thing"] := tx_mk X G a_is_row l_is_row c_is_row k_is_row (fun _ _ _ _ _ _ us hl => match us, hl with | [_], _ => rfl)
  have T_row_in : Tx K mg "row_in" S_row_in ["words"] := tx_mk X G a_row_in l_row_in c_row_in k_row_in (fun _ _ _ _ _ _ us hl => match us, hl with | [_], _ => rfl)
  have T_read_lock : Tx K mg "read_lock" S_read_lock ["text"] := tx_mk X G a_read_lock l_read_lock c_read_lock k_read_lock (fun _ _ _ _ _ _ us hl => match us, hl with | [_], _ => rfl)
  have T_read_wish : Tx K mg "read_wish" S_read_wish ["text"] := tx_mk X G a_read_wish l_read_wish c_read_wish k_read_wish (fun _ _ _ _ _ _ us hl => match us, hl with | [_], _ => rfl)
  have T_read_telling : Tx K mg "read_telling" S_read_telling ["text"] := tx_mk X G a_read_telling l_read_telling c_read_telling k_read_telling (fun _ _ _ _ _ _ us hl => match us, hl with | [_], _ => rfl)
  have T_frozen : Tx K mg "frozen" S_frozen ["value"] := tx_mk X G a_frozen l_frozen c_frozen k_frozen (fun _ _ _ _ _ _ us hl => match us, hl with | [_], _ => rfl)
  have T__law_lists : Tx K mg "_law_lists" S__law_lists ["matter"] := tx_mk X G a__law_lists l__law_lists c__law_lists k__law_lists (fun _ _ _ _ _ _ us hl => match us, hl with | [_], _ => rfl)
  have T__law_same : Tx K mg "_law_same" S__law_same ["got", "due"] := tx_mk X G a__law_same l__law_same c__law_same k__law_same (fun _ _ _ _ _ _ us hl => match us, hl with | [_, _], _ => rfl)
  have T_lot_in : Tx K mg "lot_in" S_lot_in ["rules", "name"] := tx_mk X G a_lot_in l_lot_in c_lot_in k_lot_in (fun _ _ _ _ _ _ us hl => match us, hl with | [_, _], _ => rfl)
  have T__is_entry : Tx K mg "_is_entry" S__is_entry ["thing"] := tx_mk X G a__is_entry l__is_entry c__is_entry k__is_entry (fun _ _ _ _ _ _ us hl => match us, hl with | [_], _ => rfl)
  have T_is_shelf : Tx K mg "is_shelf" S_is_shelf ["thing"] := tx_mk X G a_is_shelf l_is_shelf c_is_shelf k_is_shelf (fun _ _ _ _ _ _ us hl => match us, hl with | [_], _ => rfl)
  have T_read_shelf : Tx K mg "read_shelf" S_read_shelf ["text"] := tx_mk X G a_read_shelf l_read_shelf c_read_shelf k_read_shelf (fun _ _ _ _ _ _ us hl => match us, hl with | [_], _ => rfl)
  have T__law_read : Tx K mg "_law_read" S__law_read ["door_so", "text_so"] := tx_mk X G a__law_read l__law_read c__law_read k__law_read (fun _ _ _ _ _ _ us hl => match us, hl with | [_, _], _ => rfl)
  have T__law_texts_right : Tx K mg "_law_texts_right" S__law_texts_right [] := tx_mk X G a__law_texts_right l__law_texts_right c__law_texts_right k__law_texts_right (fun _ _ _ _ _ _ us hl => match us, hl with | [], _ => rfl)
  have T__law_bads_right : Tx K mg "_law_bads_right" S__law_bads_right ["bads_so"] := tx_mk X G a__law_bads_right l__law_bads_right c__law_bads_right k__law_bads_right (fun _ _ _ _ _ _ us hl => match us, hl with | [_], _ => rfl)
  have T_law : Tx K mg "law" S_law ["script"] := tx_mk X G a_law l_law c_law k_law (fun _ _ _ _ _ _ us hl => match us, hl with | [_], _ => rfl)
  refine ⟨PySem.W.fnOf "law" "law" (defArgs S_law) (defBody S_law) (defScope S_law) .none kV_law dc_law pm_law an_law cd_law ct_law, fun s v => .of_eq rfl, fun base _ _ => ?_⟩
  have F_BadText := I_BadText (P := PySem.Challenge.pw_lockstold_k57_texts_by_hand_and_what_is) (w := w) (base := base) G0.x_BadText.T nf_BadText ii_BadText it_BadText (fun_mk il_BadText ic_BadText ik_BadText) ((fun_mk il_BadText ic_BadText ik_BadText).binds (fun _ _ _ _ _ _ us hl => match us, hl with | [_, _], _ => rfl)) (PySem.W.mg_none_of X G z_ValueError) vv0
  have F_is_number := F_is_number (P := PySem.Challenge.pw_lockstold_k57_texts_by_hand_and_what_is) (w := w) (base := base) G0  T_is_number
  have F_is_tuple_of := F_is_tuple_of (P := PySem.Challenge.pw_lockstold_k57_texts_by_hand_and_what_is) (w := w) (base := base) G0  T_is_tuple_of
  have F_ascends := F_ascends (P := PySem.Challenge.pw_lockstold_k57_texts_by_hand_and_what_is) (w := w) (base := base) G0  T_ascends
  have F_is_name := F_is_name (P := PySem.Challenge.pw_lockstold_k57_texts_by_hand_and_what_is) (w := w) (base := base) G0  T_is_name
  have F_lines_of := F_lines_of (P := PySem.Challenge.pw_lockstold_k57_texts_by_hand_and_what_is) (w := w) (base := base) G0  T_lines_of
  have F_release_word := F_release_word (P := PySem.Challenge.pw_lockstold_k57_texts_by_hand_and_what_is) (w := w) (base := base) G0  T_release_word
  have F_states_word := F_states_word (P := PySem.Challenge.pw_lockstold_k57_texts_by_hand_and_what_is) (w := w) (base := base) G0  T_states_word
  have F_number_in := F_number_in (P := PySem.Challenge.pw_lockstold_k57_texts_by_hand_and_what_is) (w := w) (base := base) G0  T_number_in
  have F__law_first_bads := F__law_first_bads (P := PySem.Challenge.pw_lockstold_k57_texts_by_hand_and_what_is) (w := w) (base := base) G0  T__law_first_bads
  have F__law_other_bads := F__law_other_bads (P := PySem.Challenge.pw_lockstold_k57_texts_by_hand_and_what_is) (w := w) (base := base) G0  T__law_other_bads
  have F_is_number_from := F_is_number_from (P := PySem.Challenge.pw_lockstold_k57_texts_by_hand_and_what_is) (w := w) (base := base) G0 F_is_number T_is_number_from
  have F_row_words := F_row_words (P := PySem.Challenge.pw_lockstold_k57_texts_by_hand_and_what_is) (w := w) (base := base) G0 F_release_word F_states_word T_row_words
  have F_release_in := F_release_in (P := PySem.Challenge.pw_lockstold_k57_texts_by_hand_and_what_is) (w := w) (base := base) G0 F_number_in T_release_in
  have F_states_in := F_states_in (P := PySem.Challenge.pw_lockstold_k57_texts_by_hand_and_what_is) (w := w) (base := base) G0 F_number_in T_states_in
  have F_shelf_text := F_shelf_text (P := PySem.Challenge.pw_lockstold_k57_texts_by_hand_and_what_is) (w := w) (base := base) G0 F_release_word F_states_word T_shelf_text
  have F_lock_text := F_lock_text (P := PySem.Challenge.pw_lockstold_k57_texts_by_hand_and_what_is) (w := w) (base := base) G0 F_release_word T_lock_text
  have F_wish_text := F_wish_text (P := PySem.Challenge.pw_lockstold_k57_texts_by_hand_and_what_is) (w := w) (base := base) G0 F_states_word T_wish_text
  have F_is_set_from := F_is_set_from (P := PySem.Challenge.pw_lockstold_k57_texts_by_hand_and_what_is) (w := w) (base := base) G0 F_ascends F_is_number_from T_is_set_from
  have F_is_release := F_is_release (P := PySem.Challenge.pw_lockstold_k57_texts_by_hand_and_what_is) (w := w) (base := base) G0 F_is_name F_is_number_from F_is_tuple_of T_is_release
  have F_lock_in := F_lock_in (P := PySem.Challenge.pw_lockstold_k57_texts_by_hand_and_what_is) (w := w) (base := base) G0 F_release_in T_lock_in
  have F_wish_in := F_wish_in (P := PySem.Challenge.pw_lockstold_k57_texts_by_hand_and_what_is) (w := w) (base := base) G0 F_states_in T_wish_in
  have F_telling_text := F_telling_text (P := PySem.Challenge.pw_lockstold_k57_texts_by_hand_and_what_is) (w := w) (base := base) G0 F_row_words T_telling_text
  have F__words_behind := F__words_behind (P := PySem.Challenge.pw_lockstold_k57_texts_by_hand_and_what_is) (w := w) (base := base) G0 F_BadText T__words_behind
  have F__check_only_line := F__check_only_line (P := PySem.Challenge.pw_lockstold_k57_texts_by_hand_and_what_is) (w := w) (base := base) G0 F_lines_of F_BadText T__check_only_line
  have F__with_line := F__with_line (P := PySem.Challenge.pw_lockstold_k57_texts_by_hand_and_what_is) (w := w) (base := base) G0 F_number_in F_release_in F_states_in T__with_line
  have F_is_lot := F_is_lot (P := PySem.Challenge.pw_lockstold_k57_texts_by_hand_and_what_is) (w := w) (base := base) G0 F_is_set_from T_is_lot
  have F_is_lock := F_is_lock (P := PySem.Challenge.pw_lockstold_k57_texts_by_hand_and_what_is) (w := w) (base := base) G0 F_ascends F_is_release T_is_lock
  have F_is_wish := F_is_wish (P := PySem.Challenge.pw_lockstold_k57_texts_by_hand_and_what_is) (w := w) (base := base) G0 F_is_name F_is_set_from F_is_tuple_of T_is_wish
  have F_answer_in := F_answer_in (P := PySem.Challenge.pw_lockstold_k57_texts_by_hand_and_what_is) (w := w) (base := base) G0 F_lock_in T_answer_in
  have F_is_rules := F_is_rules (P := PySem.Challenge.pw_lockstold_k57_texts_by_hand_and_what_is) (w := w) (base := base) G0 F_ascends F_is_lot F_is_name F_is_tuple_of T_is_rules
  have F_is_row := F_is_row (P := PySem.Challenge.pw_lockstold_k57_texts_by_hand_and_what_is) (w := w) (base := base) G0 F_is_lock F_is_number_from F_is_tuple_of F_is_wish T_is_row
  have F_row_in := F_row_in (P := PySem.Challenge.pw_lockstold_k57_texts_by_hand_and_what_is) (w := w) (base := base) G0 F_answer_in F_number_in F_wish_in T_row_in
  have F_read_lock := F_read_lock (P := PySem.Challenge.pw_lockstold_k57_texts_by_hand_and_what_is) (w := w) (base := base) G0 F__check_only_line F__words_behind F_is_lock F_lock_in T_read_lock
  have F_read_wish := F_read_wish (P := PySem.Challenge.pw_lockstold_k57_texts_by_hand_and_what_is) (w := w) (base := base) G0 F__check_only_line F__words_behind F_is_wish F_wish_in T_read_wish
  have F_read_telling := F_read_telling (P := PySem.Challenge.pw_lockstold_k57_texts_by_hand_and_what_is) (w := w) (base := base) G0 F_is_row F_lines_of F_row_in F_BadText T_read_telling
  have F_frozen := F_frozen (P := PySem.Challenge.pw_lockstold_k57_texts_by_hand_and_what_is) (w := w) (base := base) G0  T_frozen
  have F__law_lists := F__law_lists (P := PySem.Challenge.pw_lockstold_k57_texts_by_hand_and_what_is) (w := w) (base := base) G0  T__law_lists
  have F__law_same := F__law_same (P := PySem.Challenge.pw_lockstold_k57_texts_by_hand_and_what_is) (w := w) (base := base) G0  T__law_same
  have F_lot_in := F_lot_in (P := PySem.Challenge.pw_lockstold_k57_texts_by_hand_and_what_is) (w := w) (base := base) G0 F_frozen T_lot_in
  have F__is_entry := F__is_entry (P := PySem.Challenge.pw_lockstold_k57_texts_by_hand_and_what_is) (w := w) (base := base) G0 F_is_number_from F_is_release F_is_rules F_is_tuple_of F_lot_in T__is_entry
  have F_is_shelf := F_is_shelf (P := PySem.Challenge.pw_lockstold_k57_texts_by_hand_and_what_is) (w := w) (base := base) G0 F__is_entry F_ascends T_is_shelf
  have F_read_shelf := F_read_shelf (P := PySem.Challenge.pw_lockstold_k57_texts_by_hand_and_what_is) (w := w) (base := base) G0 F__with_line F_is_shelf F_lines_of F_BadText T_read_shelf
  have F__law_read := F__law_read (P := PySem.Challenge.pw_lockstold_k57_texts_by_hand_and_what_is) (w := w) (base := base) G0 F_read_lock F_read_shelf F_read_telling F_read_wish T__law_read
  have F__law_texts_right := F__law_texts_right (P := PySem.Challenge.pw_lockstold_k57_texts_by_hand_and_what_is) (w := w) (base := base) G0 F__law_lists F__law_read F__law_same F_lock_text F_read_lock F_read_shelf F_read_telling F_read_wish F_shelf_text F_telling_text F_wish_text T__law_texts_right
  have F__law_bads_right := F__law_bads_right (P := PySem.Challenge.pw_lockstold_k57_texts_by_hand_and_what_is) (w := w) (base := base) G0 F__law_read F__law_same T__law_bads_right
  have F_law := F_law (P := PySem.Challenge.pw_lockstold_k57_texts_by_hand_and_what_is) (w := w) (base := base) G0 F__law_bads_right F__law_first_bads F__law_other_bads F__law_texts_right T_law
  exact law_end hfa l_law F_law hlaw
end EvLaw
open PySem PySem.W PyProof.Rows
set_option maxHeartbeats 0 in
theorem PySem.Challenge.cw_lockstold_k57_texts_by_hand_and_what_is_holds : PySem.Challenge.rw_lockstold_k57_texts_by_hand_and_what_is.Holds := by
  w_on; o_law; k_head; (case hw => w_witness2)
  k_fill
  refine L2.walk_of (l := PySem.Challenge.rw_lockstold_k57_texts_by_hand_and_what_is) (n := 63) (k := 17) (x := "script") (CX := fun w => L2.CX PySem.Challenge.pw_lockstold_k57_texts_by_hand_and_what_is w) (sp := fun w => Ev.spL _) rfl (by decide) rfl ⟨rfl, by decide, by decide⟩ (fun w h Y => PySem.W.kIn_of Y) ?F (fun _ _ a ns hl _ hS => ⟨a, ns, rfl, hS, hl, fun _ => rfl⟩) ?z
  case z =>
    intro _ _ _ _ _ h
    obtain ⟨_, _, _, _, _, _, _, _, _, _, _, _, z⟩ := h
    exact z
  case F =>
    intro w mg fa h KX G hmg
    refine' EvLaw.all_mk KX G hmg ?a_is_number ?l_is_number ?c_is_number ?k_is_number ?a_is_tuple_of ?l_is_tuple_of ?c_is_tuple_of ?k_is_tuple_of ?a_ascends ?l_ascends ?c_ascends ?k_ascends ?a_is_name ?l_is_name ?c_is_name ?k_is_name ?a_lines_of ?l_lines_of ?c_lines_of ?k_lines_of ?a_release_word ?l_release_word ?c_release_word ?k_release_word ?a_states_word ?l_states_word ?c_states_word ?k_states_word ?a_number_in ?l_number_in ?c_number_in ?k_number_in ?a__law_first_bads ?l__law_first_bads ?c__law_first_bads ?k__law_first_bads ?a__law_other_bads ?l__law_other_bads ?c__law_other_bads ?k__law_other_bads ?a_is_number_from ?l_is_number_from ?c_is_number_from ?k_is_number_from ?a_row_words ?l_row_words ?c_row_words ?k_row_words ?a_release_in ?l_release_in ?c_release_in ?k_release_in ?a_states_in ?l_states_in ?c_states_in ?k_states_in ?a_shelf_text ?l_shelf_text ?c_shelf_text ?k_shelf_text ?a_lock_text ?l_lock_text ?c_lock_text ?k_lock_text ?a_wish_text ?l_wish_text ?c_wish_text ?k_wish_text ?a_is_set_from ?l_is_set_from ?c_is_set_from ?k_is_set_from ?a_is_release ?l_is_release ?c_is_release ?k_is_release ?a_lock_in ?l_lock_in ?c_lock_in ?k_lock_in ?a_wish_in ?l_wish_in ?c_wish_in ?k_wish_in ?a_telling_text ?l_telling_text ?c_telling_text ?k_telling_text ?a__words_behind ?l__words_behind ?c__words_behind ?k__words_behind ?a__check_only_line ?l__check_only_line ?c__check_only_line ?k__check_only_line ?a__with_line ?l__with_line ?c__with_line ?k__with_line ?a_is_lot ?l_is_lot ?c_is_lot ?k_is_lot ?a_is_lock ?l_is_lock ?c_is_lock ?k_is_lock ?a_is_wish ?l_is_wish ?c_is_wish ?k_is_wish ?a_answer_in ?l_answer_in ?c_answer_in ?k_answer_in ?a_is_rules ?l_is_rules ?c_is_rules ?k_is_rules ?a_is_row ?l_is_row ?c_is_row ?k_is_row ?a_row_in ?l_row_in ?c_row_in ?k_row_in ?a_read_lock ?l_read_lock ?c_read_lock ?k_read_lock ?a_read_wish ?l_read_wish ?c_read_wish ?k_read_wish ?a_read_telling ?l_read_telling ?c_read_telling ?k_read_telling ?a_frozen ?l_frozen ?c_frozen ?k_frozen ?a__law_lists ?l__law_lists ?c__law_lists ?k__law_lists ?a__law_same ?l__law_same ?c__law_same ?k__law_same ?a_lot_in ?l_lot_in ?c_lot_in ?k_lot_in ?a__is_entry ?l__is_entry ?c__is_entry ?k__is_entry ?a_is_shelf ?l_is_shelf ?c_is_shelf ?k_is_shelf ?a_read_shelf ?l_read_shelf ?c_read_shelf ?k_read_shelf ?a__law_read ?l__law_read ?c__law_read ?k__law_read ?a__law_texts_right ?l__law_texts_right ?c__law_texts_right ?k__law_texts_right ?a__law_bads_right ?l__law_bads_right ?c__law_bads_right ?k__law_bads_right ?a_law ?l_law ?c_law ?k_law ?kk_FIGURES ?z_ValueError ?z_all ?z_bool ?z_enumerate ?z_int ?z_isinstance ?z_len ?z_list ?z_range ?z_set ?z_str ?z_tuple ?z_zip ?hn0 ?ht0 ?vv0 ?na_BadText ?oc_BadText ?rv_BadText ?sa_BadText ?nf_BadText ?ii_BadText ?it_BadText ?il_BadText ?ic_BadText ?ik_BadText ?kc_BadText ?sb_BadText ?ty_BadText ?hg_BadText ?hk_BadText ?hd_BadText ?ha_BadText ?hm_BadText ?ve_BadText ?s_BadText_BadText EvLaw.hlaw
    (case a_is_number => (first | k_is | k_exc | kx_is | rfl | decide +kernel))
    (case l_is_number => (first | k_is | k_exc | kx_is | rfl | decide +kernel))
    (case c_is_number => (first | k_is | k_exc | kx_is | rfl | decide +kernel))
    (case k_is_number => (first | k_is | k_exc | kx_is | rfl | decide +kernel))
    (case a_is_tuple_of => (first | k_is | k_exc | kx_is | rfl | decide +kernel))
    (case l_is_tuple_of => (first | k_is | k_exc | kx_is | rfl | decide +kernel))
    (case c_is_tuple_of => (first | k_is | k_exc | kx_is | rfl | decide +kernel))
    (case k_is_tuple_of => (first | k_is | k_exc | kx_is | rfl | decide +kernel))
    (case a_ascends => (first | k_is | k_exc | kx_is | rfl | decide +kernel))
    (case l_ascends => (first | k_is | k_exc | kx_is | rfl | decide +kernel))
    (case c_ascends => (first | k_is | k_exc | kx_is | rfl | decide +kernel))
    (case k_ascends => (first | k_is | k_exc | kx_is | rfl | decide +kernel))
    (case a_is_name => (first | k_is | k_exc | kx_is | rfl | decide +kernel))
    (case l_is_name => (first | k_is | k_exc | kx_is | rfl | decide +kernel))
    (case c_is_name => (first | k_is | k_exc | kx_is | rfl | decide +kernel))
    (case k_is_name => (first | k_is | k_exc | kx_is | rfl | decide +kernel))
    (case a_lines_of => (first | k_is | k_exc | kx_is | rfl | decide +kernel))
    (case l_lines_of => (first | k_is | k_exc | kx_is | rfl | decide +kernel))
    (case c_lines_of => (first | k_is | k_exc | kx_is | rfl | decide +kernel))
    (case k_lines_of => (first | k_is | k_exc | kx_is | rfl | decide +kernel))
    (case a_release_word => (first | k_is | k_exc | kx_is | rfl | decide +kernel))
    (case l_release_word => (first | k_is | k_exc | kx_is | rfl | decide +kernel))
    (case c_release_word => (first | k_is | k_exc | kx_is | rfl | decide +kernel))
    (case k_release_word => (first | k_is | k_exc | kx_is | rfl | decide +kernel))
    (case a_states_word => (first | k_is | k_exc | kx_is | rfl | decide +kernel))
    (case l_states_word => (first | k_is | k_exc | kx_is | rfl | decide +kernel))
    (case c_states_word => (first | k_is | k_exc | kx_is | rfl | decide +kernel))
    (case k_states_word => (first | k_is | k_exc | kx_is | rfl | decide +kernel))
    (case a_number_in => (first | k_is | k_exc | kx_is | rfl | decide +kernel))
    (case l_number_in => (first | k_is | k_exc | kx_is | rfl | decide +kernel))
    (case c_number_in => (first | k_is | k_exc | kx_is | rfl | decide +kernel))
    (case k_number_in => (first | k_is | k_exc | kx_is | rfl | decide +kernel))
    (case a__law_first_bads => (first | k_is | k_exc | kx_is | rfl | decide +kernel))
    (case l__law_first_bads => (first | k_is | k_exc | kx_is | rfl | decide +kernel))
    (case c__law_first_bads => (first | k_is | k_exc | kx_is | rfl | decide +kernel))
    (case k__law_first_bads => (first | k_is | k_exc | kx_is | rfl | decide +kernel))
    (case a__law_other_bads => (first | k_is | k_exc | kx_is | rfl | decide +kernel))
    (case l__law_other_bads => (first | k_is | k_exc | kx_is | rfl | decide +kernel))
    (case c__law_other_bads => (first | k_is | k_exc | kx_is | rfl | decide +kernel))
    (case k__law_other_bads => (first | k_is | k_exc | kx_is | rfl | decide +kernel))
    (case a_is_number_from => (first | k_is | k_exc | kx_is | rfl | decide +kernel))
    (case l_is_number_from => (first | k_is | k_exc | kx_is | rfl | decide +kernel))
    (case c_is_number_from => (first | k_is | k_exc | kx_is | rfl | decide +kernel))
    (case k_is_number_from => (first | k_is | k_exc | kx_is | rfl | decide +kernel))
    (case a_row_words => (first | k_is | k_exc | kx_is | rfl | decide +kernel))
    (case l_row_words => (first | k_is | k_exc | kx_is | rfl | decide +kernel))
    (case c_row_words => (first | k_is | k_exc | kx_is | rfl | decide +kernel))
    (case k_row_words => (first | k_is | k_exc | kx_is | rfl | decide +kernel))
    (case a_release_in => (first | k_is | k_exc | kx_is | rfl | decide +kernel))
    (case l_release_in => (first | k_is | k_exc | kx_is | rfl | decide +kernel))
    (case c_release_in => (first | k_is | k_exc | kx_is | rfl | decide +kernel))
    (case k_release_in => (first | k_is | k_exc | kx_is | rfl | decide +kernel))
    (case a_states_in => (first | k_is | k_exc | kx_is | rfl | decide +kernel))
    (case l_states_in => (first | k_is | k_exc | kx_is | rfl | decide +kernel))
    (case c_states_in => (first | k_is | k_exc | kx_is | rfl | decide +kernel))
    (case k_states_in => (first | k_is | k_exc | kx_is | rfl | decide +kernel))
    (case a_shelf_text => (first | k_is | k_exc | kx_is | rfl | decide +kernel))
    (case l_shelf_text => (first | k_is | k_exc | kx_is | rfl | decide +kernel))
    (case c_shelf_text => (first | k_is | k_exc | kx_is | rfl | decide +kernel))
    (case k_shelf_text => (first | k_is | k_exc | kx_is | rfl | decide +kernel))
    (case a_lock_text => (first | k_is | k_exc | kx_is | rfl | decide +kernel))
    (case l_lock_text => (first | k_is | k_exc | kx_is | rfl | decide +kernel))
    (case c_lock_text => (first | k_is | k_exc | kx_is | rfl | decide +kernel))
    (case k_lock_text => (first | k_is | k_exc | kx_is | rfl | decide +kernel))
    (case a_wish_text => (first | k_is | k_exc | kx_is | rfl | decide +kernel))
    (case l_wish_text => (first | k_is | k_exc | kx_is | rfl | decide +kernel))
    (case c_wish_text => (first | k_is | k_exc | kx_is | rfl | decide +kernel))
    (case k_wish_text => (first | k_is | k_exc | kx_is | rfl | decide +kernel))
    (case a_is_set_from => (first | k_is | k_exc | kx_is | rfl | decide +kernel))
    (case l_is_set_from => (first | k_is | k_exc | kx_is | rfl | decide +kernel))
    (case c_is_set_from => (first | k_is | k_exc | kx_is | rfl | decide +kernel))
    (case k_is_set_from => (first | k_is | k_exc | kx_is | rfl | decide +kernel))
    (case a_is_release => (first | k_is | k_exc | kx_is | rfl | decide +kernel))
    (case l_is_release => (first | k_is | k_exc | kx_is | rfl | decide +kernel))
    (case c_is_release => (first | k_is | k_exc | kx_is | rfl | decide +kernel))
    (case k_is_release => (first | k_is | k_exc | kx_is | rfl | decide +kernel))
    (case a_lock_in => (first | k_is | k_exc | kx_is | rfl | decide +kernel))
    (case l_lock_in => (first | k_is | k_exc | kx_is | rfl | decide +kernel))
    (case c_lock_in => (first | k_is | k_exc | kx_is | rfl | decide +kernel))
    (case k_lock_in => (first | k_is | k_exc | kx_is | rfl | decide +kernel))
    (case a_wish_in => (first | k_is | k_exc | kx_is | rfl | decide +kernel))
    (case l_wish_in => (first | k_is | k_exc | kx_is | rfl | decide +kernel))
    (case c_wish_in => (first | k_is | k_exc | kx_is | rfl | decide +kernel))
    (case k_wish_in => (first | k_is | k_exc | kx_is | rfl | decide +kernel))
    (case a_telling_text => (first | k_is | k_exc | kx_is | rfl | decide +kernel))
    (case l_telling_text => (first | k_is | k_exc | kx_is | rfl | decide +kernel))
    (case c_telling_text => (first | k_is | k_exc | kx_is | rfl | decide +kernel))
    (case k_telling_text => (first | k_is | k_exc | kx_is | rfl | decide +kernel))
    (case a__words_behind => (first | k_is | k_exc | kx_is | rfl | decide +kernel))
    (case l__words_behind => (first | k_is | k_exc | kx_is | rfl | decide +kernel))
    (case c__words_behind => (first | k_is | k_exc | kx_is | rfl | decide +kernel))
    (case k__words_behind => (first | k_is | k_exc | kx_is | rfl | decide +kernel))
    (case a__check_only_line => (first | k_is | k_exc | kx_is | rfl | decide +kernel))
    (case l__check_only_line => (first | k_is | k_exc | kx_is | rfl | decide +kernel))
    (case c__check_only_line => (first | k_is | k_exc | kx_is | rfl | decide +kernel))
    (case k__check_only_line => (first | k_is | k_exc | kx_is | rfl | decide +kernel))
    (case a__with_line => (first | k_is | k_exc | kx_is | rfl | decide +kernel))
    (case l__with_line => (first | k_is | k_exc | kx_is | rfl | decide +kernel))
    (case c__with_line => (first | k_is | k_exc | kx_is | rfl | decide +kernel))
    (case k__with_line => (first | k_is | k_exc | kx_is | rfl | decide +kernel))
    (case a_is_lot => (first | k_is | k_exc | kx_is | rfl | decide +kernel))
    (case l_is_lot => (first | k_is | k_exc | kx_is | rfl | decide +kernel))
    (case c_is_lot => (first | k_is | k_exc | kx_is | rfl | decide +kernel))
    (case k_is_lot => (first | k_is | k_exc | kx_is | rfl | decide +kernel))
    (case a_is_lock => (first | k_is | k_exc | kx_is | rfl | decide +kernel))
    (case l_is_lock => (first | k_is | k_exc | kx_is | rfl | decide +kernel))
    (case c_is_lock => (first | k_is | k_exc | kx_is | rfl | decide +kernel))
    (case k_is_lock => (first | k_is | k_exc | kx_is | rfl | decide +kernel))
    (case a_is_wish => (first | k_is | k_exc | kx_is | rfl | decide +kernel))
    (case l_is_wish => (first | k_is | k_exc | kx_is | rfl | decide +kernel))
    (case c_is_wish => (first | k_is | k_exc | kx_is | rfl | decide +kernel))
    (case k_is_wish => (first | k_is | k_exc | kx_is | rfl | decide +kernel))
    (case a_answer_in => (first | k_is | k_exc | kx_is | rfl | decide +kernel))
    (case l_answer_in => (first | k_is | k_exc | kx_is | rfl | decide +kernel))
    (case c_answer_in => (first | k_is | k_exc | kx_is | rfl | decide +kernel))
    (case k_answer_in => (first | k_is | k_exc | kx_is | rfl | decide +kernel))
    (case a_is_rules => (first | k_is | k_exc | kx_is | rfl | decide +kernel))
    (case l_is_rules => (first | k_is | k_exc | kx_is | rfl | decide +kernel))
    (case c_is_rules => (first | k_is | k_exc | kx_is | rfl | decide +kernel))
    (case k_is_rules => (first | k_is | k_exc | kx_is | rfl | decide +kernel))
    (case a_is_row => (first | k_is | k_exc | kx_is | rfl | decide +kernel))
    (case l_is_row => (first | k_is | k_exc | kx_is | rfl | decide +kernel))
    (case c_is_row => (first | k_is | k_exc | kx_is | rfl | decide +kernel))
    (case k_is_row => (first | k_is | k_exc | kx_is | rfl | decide +kernel))
    (case a_row_in => (first | k_is | k_exc | kx_is | rfl | decide +kernel))
    (case l_row_in => (first | k_is | k_exc | kx_is | rfl | decide +kernel))
    (case c_row_in => (first | k_is | k_exc | kx_is | rfl | decide +kernel))
    (case k_row_in => (first | k_is | k_exc | kx_is | rfl | decide +kernel))
    (case a_read_lock => (first | k_is | k_exc | kx_is | rfl | decide +kernel))
    (case l_read_lock => (first | k_is | k_exc | kx_is | rfl | decide +kernel))
    (case c_read_lock => (first | k_is | k_exc | kx_is | rfl | decide +kernel))
    (case k_read_lock => (first | k_is | k_exc | kx_is | rfl | decide +kernel))
    (case a_read_wish => (first | k_is | k_exc | kx_is | rfl | decide +kernel))
    (case l_read_wish => (first | k_is | k_exc | kx_is | rfl | decide +kernel))
    (case c_read_wish => (first | k_is | k_exc | kx_is | rfl | decide +kernel))
    (case k_read_wish => (first | k_is | k_exc | kx_is | rfl | decide +kernel))
    (case a_read_telling => (first | k_is | k_exc | kx_is | rfl | decide +kernel))
    (case l_read_telling => (first | k_is | k_exc | kx_is | rfl | decide +kernel))
    (case c_read_telling => (first | k_is | k_exc | kx_is | rfl | decide +kernel))
    (case k_read_telling => (first | k_is | k_exc | kx_is | rfl | decide +kernel))
    (case a_frozen => (first | k_is | k_exc | kx_is | rfl | decide +kernel))
    (case l_frozen => (first | k_is | k_exc | kx_is | rfl | decide +kernel))
    (case c_frozen => (first | k_is | k_exc | kx_is | rfl | decide +kernel))
    (case k_frozen => (first | k_is | k_exc | kx_is | rfl | decide +kernel))
    (case a__law_lists => (first | k_is | k_exc | kx_is | rfl | decide +kernel))
    (case l__law_lists => (first | k_is | k_exc | kx_is | rfl | decide +kernel))
    (case c__law_lists => (first | k_is | k_exc | kx_is | rfl | decide +kernel))
    (case k__law_lists => (first | k_is | k_exc | kx_is | rfl | decide +kernel))
    (case a__law_same => (first | k_is | k_exc | kx_is | rfl | decide +kernel))
    (case l__law_same => (first | k_is | k_exc | kx_is | rfl | decide +kernel))
    (case c__law_same => (first | k_is | k_exc | kx_is | rfl | decide +kernel))
    (case k__law_same => (first | k_is | k_exc | kx_is | rfl | decide +kernel))
    (case a_lot_in => (first | k_is | k_exc | kx_is | rfl | decide +kernel))
    (case l_lot_in => (first | k_is | k_exc | kx_is | rfl | decide +kernel))
    (case c_lot_in => (first | k_is | k_exc | kx_is | rfl | decide +kernel))
    (case k_lot_in => (first | k_is | k_exc | kx_is | rfl | decide +kernel))
    (case a__is_entry => (first | k_is | k_exc | kx_is | rfl | decide +kernel))
    (case l__is_entry => (first | k_is | k_exc | kx_is | rfl | decide +kernel))
    (case c__is_entry => (first | k_is | k_exc | kx_is | rfl | decide +kernel))
    (case k__is_entry => (first | k_is | k_exc | kx_is | rfl | decide +kernel))
    (case a_is_shelf => (first | k_is | k_exc | kx_is | rfl | decide +kernel))
    (case l_is_shelf => (first | k_is | k_exc | kx_is | rfl | decide +kernel))
    (case c_is_shelf => (first | k_is | k_exc | kx_is | rfl | decide +kernel))
    (case k_is_shelf => (first | k_is | k_exc | kx_is | rfl | decide +kernel))
    (case a_read_shelf => (first | k_is | k_exc | kx_is | rfl | decide +kernel))
    (case l_read_shelf => (first | k_is | k_exc | kx_is | rfl | decide +kernel))
    (case c_read_shelf => (first | k_is | k_exc | kx_is | rfl | decide +kernel))
    (case k_read_shelf => (first | k_is | k_exc | kx_is | rfl | decide +kernel))
    (case a__law_read => (first | k_is | k_exc | kx_is | rfl | decide +kernel))
    (case l__law_read => (first | k_is | k_exc | kx_is | rfl | decide +kernel))
    (case c__law_read => (first | k_is | k_exc | kx_is | rfl | decide +kernel))
    (case k__law_read => (first | k_is | k_exc | kx_is | rfl | decide +kernel))
    (case a__law_texts_right => (first | k_is | k_exc | kx_is | rfl | decide +kernel))
    (case l__law_texts_right => (first | k_is | k_exc | kx_is | rfl | decide +kernel))
    (case c__law_texts_right => (first | k_is | k_exc | kx_is | rfl | decide +kernel))
    (case k__law_texts_right => (first | k_is | k_exc | kx_is | rfl | decide +kernel))
    (case a__law_bads_right => (first | k_is | k_exc | kx_is | rfl | decide +kernel))
    (case l__law_bads_right => (first | k_is | k_exc | kx_is | rfl | decide +kernel))
    (case c__law_bads_right => (first | k_is | k_exc | kx_is | rfl | decide +kernel))
    (case k__law_bads_right => (first | k_is | k_exc | kx_is | rfl | decide +kernel))
    (case a_law => (first | k_is | k_exc | kx_is | rfl | decide +kernel))
    (case l_law => (first | k_is | k_exc | kx_is | rfl | decide +kernel))
    (case c_law => (first | k_is | k_exc | kx_is | rfl | decide +kernel))
    (case k_law => (first | k_is | k_exc | kx_is | rfl | decide +kernel))
    (case kk_FIGURES => (first | k_is | k_exc | kx_is | rfl | decide +kernel))
    (case z_ValueError => (first | k_is | k_exc | kx_is | rfl | decide +kernel))
    (case z_all => (first | k_is | k_exc | kx_is | rfl | decide +kernel))
    (case z_bool => (first | k_is | k_exc | kx_is | rfl | decide +kernel))
    (case z_enumerate => (first | k_is | k_exc | kx_is | rfl | decide +kernel))
    (case z_int => (first | k_is | k_exc | kx_is | rfl | decide +kernel))
    (case z_isinstance => (first | k_is | k_exc | kx_is | rfl | decide +kernel))
    (case z_len => (first | k_is | k_exc | kx_is | rfl | decide +kernel))
    (case z_list => (first | k_is | k_exc | kx_is | rfl | decide +kernel))
    (case z_range => (first | k_is | k_exc | kx_is | rfl | decide +kernel))
    (case z_set => (first | k_is | k_exc | kx_is | rfl | decide +kernel))
    (case z_str => (first | k_is | k_exc | kx_is | rfl | decide +kernel))
    (case z_tuple => (first | k_is | k_exc | kx_is | rfl | decide +kernel))
    (case z_zip => (first | k_is | k_exc | kx_is | rfl | decide +kernel))
    (case hn0 => (first | k_is | k_exc | kx_is | rfl | decide +kernel))
    (case ht0 => (first | k_is | k_exc | kx_is | rfl | decide +kernel))
    (case vv0 => (first | k_is | k_exc | kx_is | rfl | decide +kernel))
    (case na_BadText => (first | k_is | k_exc | kx_is | rfl | decide +kernel))
    (case oc_BadText => (first | k_is | k_exc | kx_is | rfl | decide +kernel))
    (case rv_BadText => (first | k_is | k_exc | kx_is | rfl | decide +kernel))
    (case sa_BadText => (first | k_is | k_exc | kx_is | rfl | decide +kernel))
    (case nf_BadText => (first | k_is | k_exc | kx_is | rfl | decide +kernel))
    (case ii_BadText => (first | k_is | k_exc | kx_is | rfl | decide +kernel))
    (case it_BadText => (first | k_is | k_exc | kx_is | rfl | decide +kernel))
    (case il_BadText => (first | k_is | k_exc | kx_is | rfl | decide +kernel))
    (case ic_BadText => (first | k_is | k_exc | kx_is | rfl | decide +kernel))
    (case ik_BadText => (first | k_is | k_exc | kx_is | rfl | decide +kernel))
    (case kc_BadText => (first | k_is | k_exc | kx_is | rfl | decide +kernel))
    (case sb_BadText => (first | k_is | k_exc | kx_is | rfl | decide +kernel))
    (case ty_BadText => (first | k_is | k_exc | kx_is | rfl | decide +kernel))
    (case hg_BadText => (first | k_is | k_exc | kx_is | rfl | decide +kernel))
    (case hk_BadText => (first | k_is | k_exc | kx_is | rfl | decide +kernel))
    (case hd_BadText => (first | k_is | k_exc | kx_is | rfl | decide +kernel))
    (case ha_BadText => (first | k_is | k_exc | kx_is | rfl | decide +kernel))
    (case hm_BadText => (first | k_is | k_exc | kx_is | rfl | decide +kernel))
    (case ve_BadText => (first | k_is | k_exc | kx_is | rfl | decide +kernel))
    (case s_BadText_BadText => (first | k_is | k_exc | kx_is | rfl | decide +kernel))
