import PyProof.Rows.All
import Wide.All
import OpenK.AllK
import Wide.FinOn
import PyProof.EqAt
import PyProof.EqKinds
import PyProof.TupleCall
import PyProof.ReprRoads
import HandS.ForMost
import HandS.IsInst
import HandS.Wide
import PyProof.InstNe
import HandS.Property
import HandS.SetBool
import HandS.Strs
import HandS.RaiseMore
import HandS.Dict
import KE.SortData
import HandS.SetFor
import KE.KTupSum
import KE.GoesEnum
import HandS.Star
import HandS.Iter
import HandS.Text
import HandS.Steps
import HandS.TryMany
import HandS.ExcInit
import HandS.ExcField
import HandS.ExcOwn
import HandS.WordsExc
import PyProof.Rows.StrIntSpec
import HandS.FStr
import HandS.NoneIn
import HandS.Conv
import HandS.More
import HandS.StrMore
import PySem.Challenge.RW_everyzone_k11_programs_refused
import KE.IntTextLaws
import KE.GoesMore
import KE.GoesEnumKw
import PyProof.Rows.CallKwBuiltin
import HandS.Style
import HandS.MakeKwOnly
import HandS.DeepEq
set_option Elab.async false
set_option linter.all false
/-! k15: bounds on differences, the mathematics: values or a ring; the tightest bound -/
namespace Bf
variable {α : Type} [DecidableEq α]
/-- x minus y at most n -/
abbrev Bd (α : Type) := α × α × Int
def up {β : Type} (f : α → β) (x : α) (v : β) : α → β := fun z => if z = x then v else f z
def ins (L : List α) (x : α) : List α := if x ∈ L then L else L ++ [x]
theorem up_same {β : Type} {f : α → β} {x : α} {v : β} : up f x v x = v := if_pos rfl
theorem up_ne {β : Type} {f : α → β} {x z : α} {v : β} (h : z ≠ x) : up f x v z = f z := if_neg h
theorem mem_ins {L : List α} {x z : α} : z ∈ ins L x ↔ z ∈ L ∨ z = x := by
  unfold ins
  split
  · rename_i h
    constructor
    · exact fun z => .inl z
    · rintro (z | rfl)
      · exact z
      · exact h
  · simp
theorem nodup_ins {L : List α} {x : α} (h : L.Nodup) : (ins L x).Nodup := by
  unfold ins
  split
  · exact h
  · rename_i n
    rw [List.nodup_append]
    refine ⟨h, by simp, fun a ha b hb => ?_⟩
    rw [List.mem_singleton] at hb
    subst hb
    exact fun e => n (e ▸ ha)
def Holds (bs : List (Bd α)) (h : α → Int) : Prop := ∀ b ∈ bs, h b.1 - h b.2.1 ≤ b.2.2
structure S (α : Type) where
  w : α → Int
  L : List α
  p : α → Nat
  last : Option α
def step (s : S α) (i : Nat) (b : Bd α) : S α := if s.w b.1 - s.w b.2.1 > b.2.2 then ⟨up s.w b.1 (s.w b.2.1 + b.2.2), ins s.L b.1, up s.p b.1 i, some b.1⟩ else s
def go : Nat → List (Bd α) → S α → S α
  | _, [], s => s
  | i, b :: t, s => go (i + 1) t (step s i b)
def pass (bs : List (Bd α)) (s : S α) : S α := go 0 bs { s with last := none }
theorem go_snoc : ∀ (i : Nat) (t : List (Bd α)) (b : Bd α) (s : S α), go i (t ++ [b]) s = step (go i t s) (i + t.length) b
  | i, [], b, s => rfl
  | i, c :: t, b, s => by
    show go (i + 1) (t ++ [b]) (step s i c) = _
    rw [go_snoc (i + 1) t b, List.length_cons]
    have e : i + 1 + t.length = i + (t.length + 1) := by omega
    rw [e]
    rfl
/-! nothing lowered -/
theorem step_some {s : S α} {i : Nat} {b : Bd α} (h : (step s i b).last = none) : step s i b = s ∧ s.w b.1 - s.w b.2.1 ≤ b.2.2 := by
  unfold step at h ⊢
  split
  · rename_i c
    rw [if_pos c] at h
    cases h
  · rename_i c
    exact ⟨rfl, by omega⟩
theorem go_none : ∀ (t : List (Bd α)) (i : Nat) (s : S α), (go i t s).last = none → go i t s = s ∧ Holds t s.w
  | [], _, s, _ => ⟨rfl, fun b hb => by cases hb⟩
  | b :: t, i, s, h => by
    obtain ⟨e1, h1⟩ := go_none t (i + 1) (step s i b) h
    have h2 : (step s i b).last = none := by rw [← e1]; exact h
    obtain ⟨e3, h3⟩ := step_some h2
    refine ⟨?_, fun c hc => ?_⟩
    · show go (i + 1) t (step s i b) = s
      rw [e1, e3]
    · rcases List.mem_cons.mp hc with e | hc
      · rw [e]; exact h3
      · have := h1 c hc
        rw [e3] at this
        exact this
theorem pass_none {bs : List (Bd α)} {s : S α} (h : (pass bs s).last = none) : Holds bs (pass bs s).w := by
  obtain ⟨e, hh⟩ := go_none bs 0 _ h
  unfold pass
  rw [e]
  exact hh
/-! values only go down -/
theorem step_le (s : S α) (i : Nat) (b : Bd α) (z : α) : (step s i b).w z ≤ s.w z := by
  unfold step
  split
  · rename_i c
    show up s.w b.1 _ z ≤ _
    by_cases e : z = b.1
    · rw [e, up_same]; omega
    · rw [up_ne e]; exact Int.le_refl _
  · exact Int.le_refl _
theorem go_le : ∀ (t : List (Bd α)) (i : Nat) (s : S α) (z : α), (go i t s).w z ≤ s.w z
  | [], _, _, _ => Int.le_refl _
  | b :: t, i, s, z => Int.le_trans (go_le t (i + 1) _ z) (step_le s i b z)
theorem step_at (s : S α) (i : Nat) (b : Bd α) : (step s i b).w b.1 ≤ s.w b.2.1 + b.2.2 := by
  unfold step
  split
  · show up s.w b.1 _ b.1 ≤ _
    rw [up_same]; exact Int.le_refl _
  · omega
theorem go_at : ∀ (t : List (Bd α)) (i : Nat) (s : S α) (b : Bd α), b ∈ t → (go i t s).w b.1 ≤ s.w b.2.1 + b.2.2
  | c :: t, i, s, b, h => by
    rcases List.mem_cons.mp h with e | h
    · rw [e]
      exact Int.le_trans (go_le t (i + 1) _ _) (step_at s i c)
    · have h1 := go_at t (i + 1) (step s i c) b h
      have h2 := step_le s i c b.2.1
      show (go (i + 1) t (step s i c)).w b.1 ≤ _
      omega
theorem go_last : ∀ (t : List (Bd α)) (i : Nat) (s : S α) (z : α), (go i t s).last = some z → s.last = some z ∨ (go i t s).w z < s.w z ∧ z ∈ (go i t s).L
  | [], _, _, _, h => .inl h
  | b :: t, i, s, z, h => by
    rcases go_last t (i + 1) (step s i b) z h with h1 | ⟨h1, h2⟩
    · by_cases c : s.w b.1 - s.w b.2.1 > b.2.2
      · have e : step s i b = ⟨up s.w b.1 (s.w b.2.1 + b.2.2), ins s.L b.1, up s.p b.1 i, some b.1⟩ := if_pos c
        rw [e] at h1
        have ez : b.1 = z := Option.some.inj h1
        refine .inr ⟨?_, ?_⟩
        · have h3 := go_le t (i + 1) (step s i b) z
          have h4 : (step s i b).w z = s.w b.2.1 + b.2.2 := by rw [e, ← ez]; exact up_same
          show (go (i + 1) t (step s i b)).w z < _
          rw [← ez] at h3 h4 ⊢
          omega
        · have hk : ∀ (t : List (Bd α)) (i : Nat) (s : S α) (z : α), z ∈ s.L → z ∈ (go i t s).L := by
            intro t
            induction t with
            | nil => intro _ _ _ h; exact h
            | cons c t ih =>
              intro i s z h
              refine ih (i + 1) _ z ?_
              unfold step
              split
              · exact mem_ins.mpr (.inl h)
              · exact h
          refine hk t (i + 1) (step s i b) z ?_
          rw [e]
          exact mem_ins.mpr (.inr ez.symm)
      · have e : step s i b = s := if_neg c
        rw [e] at h1
        exact .inl h1
    · refine .inr ⟨?_, h2⟩
      have := step_le s i b z
      show (go (i + 1) t (step s i b)).w z < _
      omega
theorem pass_last {bs : List (Bd α)} {s : S α} {z : α} (h : (pass bs s).last = some z) : (pass bs s).w z < s.w z ∧ z ∈ (pass bs s).L := by
  rcases go_last bs 0 { s with last := none } z h with h | h
  · cases h
  · exact h
/-! chains -/
inductive Ch (bs : List (Bd α)) : Nat → α → Int → Prop
  | nil (x : α) : Ch bs 0 x 0
  | cons {b : Bd α} {k : Nat} {v : Int} : b ∈ bs → Ch bs k b.2.1 v → Ch bs (k + 1) b.1 (v + b.2.2)
def Low (bs : List (Bd α)) (k : Nat) (w : α → Int) : Prop := ∀ j, j ≤ k → ∀ x v, Ch bs j x v → w x ≤ v
theorem low_pass {bs : List (Bd α)} {k : Nat} {s : S α} (h : Low bs k s.w) : Low bs (k + 1) (pass bs s).w := fun j hj x v c => by
  cases c with
  | nil => exact Int.le_trans (go_le bs 0 _ x) (h 0 (Nat.zero_le _) x 0 (.nil x))
  | @cons b k' v' hb c =>
    have h1 := go_at bs 0 { s with last := none } b hb
    have h2 := h k' (by omega) _ _ c
    show (go 0 bs { s with last := none }).w b.1 ≤ _
    have h3 : ({ s with last := none } : S α).w b.2.1 = s.w b.2.1 := rfl
    rw [h3] at h1
    omega
/-! what lowered what -/
structure Inv (bs : List (Bd α)) (N : List α) (τ : α → Nat) (T : Nat) (s : S α) : Prop where
  a1 : ∀ x ∈ s.L, ∃ b, bs[s.p x]? = some b ∧ b.1 = x ∧ s.w b.2.1 + b.2.2 ≤ s.w x ∧ (τ x ≤ τ b.2.1 → s.w b.2.1 + b.2.2 < s.w x)
  a2 : ∀ x, x ∉ s.L → s.w x = 0
  a3 : ∀ x, τ x < T
  a4 : ∀ x ∈ s.L, x ∈ N
  a5 : s.L.Nodup
theorem Inv.step {bs : List (Bd α)} {N : List α} {τ : α → Nat} {T i : Nat} {s : S α} {b : Bd α} (h : Inv bs N τ T s) (hi : bs[i]? = some b) (hN : b.1 ∈ N) : ∃ τ T, Inv bs N τ T (step s i b) := by
  unfold Bf.step
  split
  · rename_i c
    refine ⟨up τ b.1 T, T + 1, fun x hx => ?_, fun x hx => ?_, fun x => ?_, fun x hx => ?_, nodup_ins h.a5⟩
    · by_cases e : x = b.1
      · subst e
        refine ⟨b, by show bs[up s.p b.1 i b.1]? = _; rw [up_same]; exact hi, rfl, ?_, ?_⟩
        · show up s.w b.1 _ b.2.1 + b.2.2 ≤ up s.w b.1 _ b.1
          rw [up_same]
          by_cases e : b.2.1 = b.1
          · rw [e, up_same]; rw [e] at c; omega
          · rw [up_ne e]; exact Int.le_refl _
        · show up τ b.1 T b.1 ≤ up τ b.1 T b.2.1 → up s.w b.1 _ b.2.1 + b.2.2 < up s.w b.1 _ b.1
          rw [up_same, up_same]
          by_cases e : b.2.1 = b.1
          · rw [e, up_same, up_same]; rw [e] at c; omega
          · rw [up_ne e, up_ne e]
            have := h.a3 b.2.1
            omega
      · have hx' : x ∈ s.L := (mem_ins.mp hx).resolve_right e
        obtain ⟨d, hd, ed, h1, h2⟩ := h.a1 x hx'
        refine ⟨d, by show bs[up s.p b.1 i x]? = _; rw [up_ne e]; exact hd, ed, ?_, ?_⟩
        · show up s.w b.1 _ d.2.1 + d.2.2 ≤ up s.w b.1 _ x
          rw [up_ne e]
          by_cases e2 : d.2.1 = b.1
          · rw [e2, up_same]; rw [e2] at h1; omega
          · rw [up_ne e2]; exact h1
        · show up τ b.1 T x ≤ up τ b.1 T d.2.1 → up s.w b.1 _ d.2.1 + d.2.2 < up s.w b.1 _ x
          rw [up_ne e, up_ne e]
          by_cases e2 : d.2.1 = b.1
          · rw [e2, up_same, up_same]; rw [e2] at h1; omega
          · rw [up_ne e2, up_ne e2]; exact h2
    · have n : x ≠ b.1 := fun e => hx (mem_ins.mpr (.inr e))
      show up s.w b.1 _ x = 0
      rw [up_ne n]
      exact h.a2 x fun z => hx (mem_ins.mpr (.inl z))
    · by_cases e : x = b.1
      · rw [e, up_same]; exact Nat.lt_succ_self _
      · rw [up_ne e]; exact Nat.lt_succ_of_lt (h.a3 x)
    · rcases mem_ins.mp hx with z | z
      · exact h.a4 x z
      · rw [z]; exact hN
  · exact ⟨τ, T, h⟩
theorem Inv.go {bs : List (Bd α)} {N : List α} (hN : ∀ b ∈ bs, b.1 ∈ N) : ∀ (t : List (Bd α)) (i : Nat) (s : S α), (∀ j, t[j]? = bs[i + j]?) → (∃ τ T, Inv bs N τ T s) → ∃ τ T, Inv bs N τ T (go i t s)
  | [], _, _, _, h => h
  | b :: t, i, s, ht, ⟨τ, T, h⟩ => by
    have hb : bs[i]? = some b := by have := ht 0; simpa using this.symm
    refine Inv.go hN t (i + 1) (Bf.step s i b) (fun j => ?_) (h.step hb (hN b (List.mem_of_getElem? hb)))
    have := ht (j + 1)
    rw [List.getElem?_cons_succ] at this
    rw [this]
    congr 1
    omega
theorem inv_pass {bs : List (Bd α)} {N : List α} (hN : ∀ b ∈ bs, b.1 ∈ N) {s : S α} (h : ∃ τ T, Inv bs N τ T s) : ∃ τ T, Inv bs N τ T (pass bs s) := by
  obtain ⟨τ, T, h⟩ := h
  exact Inv.go hN bs 0 _ (fun j => by rw [Nat.zero_add]) ⟨τ, T, ⟨h.a1, h.a2, h.a3, h.a4, h.a5⟩⟩
/-! going to the second name -/
def it (f : α → α) : Nat → α → α
  | 0, x => x
  | k + 1, x => it f k (f x)
theorem it_add (f : α → α) : ∀ (j k : Nat) (x : α), it f (j + k) x = it f k (it f j x)
  | 0, k, x => by rw [Nat.zero_add]; rfl
  | j + 1, k, x => by
    rw [show j + 1 + k = (j + k) + 1 by omega]
    show it f (j + k) (f x) = it f k (it f j (f x))
    exact it_add f j k (f x)
theorem it_succ (f : α → α) (k : Nat) (x : α) : it f (k + 1) x = f (it f k x) := it_add f k 1 x
def bd (bs : List (Bd α)) (s : S α) (x : α) : Bd α := (bs[s.p x]?).getD (x, x, 0)
def nx (bs : List (Bd α)) (s : S α) (x : α) : α := (bd bs s x).2.1
def cost (bs : List (Bd α)) (s : S α) (x : α) : Int := (bd bs s x).2.2
theorem Inv.at {bs : List (Bd α)} {N : List α} {τ : α → Nat} {T : Nat} {s : S α} (h : Inv bs N τ T s) {x : α} (hx : x ∈ s.L) : bs[s.p x]? = some (bd bs s x) ∧ (bd bs s x).1 = x ∧ s.w (nx bs s x) + cost bs s x ≤ s.w x ∧ (τ x ≤ τ (nx bs s x) → s.w (nx bs s x) + cost bs s x < s.w x) := by
  obtain ⟨b, hb, e, h1, h2⟩ := h.a1 x hx
  have eb : bd bs s x = b := by unfold bd; rw [hb]; rfl
  unfold nx cost
  rw [eb]
  exact ⟨hb, e, h1, h2⟩
theorem nodup_len {xs ys : List α} (h : xs.Nodup) (s : ∀ x ∈ xs, x ∈ ys) : xs.length ≤ ys.length := by
  induction xs generalizing ys with
  | nil => exact Nat.zero_le _
  | cons x xs ih =>
    obtain ⟨h1, h2⟩ := List.nodup_cons.mp h
    have m := s x (List.mem_cons_self ..)
    have e := List.length_erase_of_mem m
    have p := List.length_pos_of_mem m
    have r := ih (ys := ys.erase x) h2 fun y hy => (List.mem_erase_of_ne (fun z => h1 (by rw [← z]; exact hy))).mpr (s y (List.mem_cons_of_mem _ hy))
    rw [List.length_cons]
    omega
theorem twice (f : Nat → α) (N : List α) : ∀ m : Nat, (∀ k, k ≤ m → f k ∈ N) → N.length ≤ m → ∃ i j, i < j ∧ j ≤ m ∧ f i = f j := by
  intro m hm hl
  apply Classical.byContradiction
  intro n
  have inj : ∀ i j, i ≤ m → j ≤ m → f i = f j → i = j := fun i j hi hj e => by
    rcases Nat.lt_trichotomy i j with l | l | l
    · exact absurd ⟨i, j, l, hj, e⟩ n
    · exact l
    · exact absurd ⟨j, i, l, hi, e.symm⟩ n
  have nd : ∀ k, k ≤ m + 1 → ((List.range k).map f).Nodup := by
    intro k
    induction k with
    | zero => intro _; exact List.nodup_nil
    | succ k ih =>
      intro hk
      rw [List.range_succ, List.map_append, List.nodup_append]
      refine ⟨ih (by omega), by simp, fun a ha b hb => ?_⟩
      obtain ⟨i, hi, ea⟩ := List.mem_map.mp ha
      rw [List.map_singleton, List.mem_singleton] at hb
      rw [← ea, hb]
      intro e
      have := inj i k (by have := List.mem_range.mp hi; omega) (by omega) e
      have := List.mem_range.mp hi
      omega
  have := nodup_len (nd (m + 1) (Nat.le_refl _)) (ys := N) fun x hx => by
    obtain ⟨i, hi, e⟩ := List.mem_map.mp hx
    rw [← e]
    exact hm i (by have := List.mem_range.mp hi; omega)
  rw [List.length_map, List.length_range] at this
  omega
/-- along a chain of what lowered -/
theorem along {bs : List (Bd α)} {N : List α} {τ : α → Nat} {T : Nat} {s : S α} (h : Inv bs N τ T s) : ∀ (k : Nat) (x : α), (∀ j, j < k → it (nx bs s) j x ∈ s.L) → ∃ v, Ch bs k x v ∧ s.w (it (nx bs s) k x) + v ≤ s.w x
  | 0, x, _ => ⟨0, .nil x, by show s.w x + 0 ≤ _; omega⟩
  | k + 1, x, hj => by
    have hx : x ∈ s.L := hj 0 (Nat.succ_pos _)
    obtain ⟨h1, h2, h3, _⟩ := h.at hx
    obtain ⟨v, c, hv⟩ := along h k (nx bs s x) fun j hj' => hj (j + 1) (by omega)
    refine ⟨v + cost bs s x, ?_, ?_⟩
    · have := Ch.cons (List.mem_of_getElem? h1) c
      rw [h2] at this
      exact this
    · show s.w (it (nx bs s) k (nx bs s x)) + (v + cost bs s x) ≤ _
      omega
/-- what is lowered in the last round leads on for ever -/
theorem onward {bs : List (Bd α)} {N : List α} {s0 : S α} {z : α} (hN1 : ∀ b ∈ bs, b.1 ∈ N) (hN2 : ∀ b ∈ bs, b.2.1 ∈ N) (hlow : Low bs (N.length - 1) s0.w) (h : ∃ τ T, Inv bs N τ T (pass bs s0)) (hz : (pass bs s0).last = some z) : ∀ k, it (nx bs (pass bs s0)) k z ∈ (pass bs s0).L := by
  obtain ⟨τ, T, h⟩ := h
  obtain ⟨hs, hzL⟩ := pass_last hz
  generalize hs1 : pass bs s0 = s at *
  intro k
  induction k using Nat.strongRecOn with
  | ind k ih =>
    cases k with
    | zero => exact hzL
    | succ k =>
      apply Classical.byContradiction
      intro n
      have inN : ∀ j, j ≤ k + 1 → it (nx bs s) j z ∈ N := fun j hj => by
        cases j with
        | zero => exact h.a4 _ hzL
        | succ j =>
          have hx := ih j (by omega)
          obtain ⟨h1, _⟩ := h.at hx
          rw [it_succ]
          exact hN2 _ (List.mem_of_getElem? h1)
      by_cases hl : N.length ≤ k + 1
      · obtain ⟨i, j, hij, hj, e⟩ := twice (fun j => it (nx bs s) j z) N (k + 1) inN hl
        have e' : it (nx bs s) i z = it (nx bs s) j z := e
        have e2 : it (nx bs s) (k + 1) z = it (nx bs s) (i + (k + 1 - j)) z := by
          have q : k + 1 = j + (k + 1 - j) := by omega
          rw [it_add _ i, e', ← it_add, ← q]
        exact n (by rw [e2]; exact ih _ (by omega))
      · obtain ⟨v, c, hv⟩ := along h (k + 1) z fun j hj => ih j hj
        have h0 := h.a2 _ n
        have h1 := hlow (k + 1) (by omega) _ _ c
        omega
/-- the round way -/
theorem round {f : α → α} {L : List α} {z : α} (h : ∀ k, it f k z ∈ L) : ∃ t, 1 ≤ t ∧ t ≤ L.length ∧ it f t (it f L.length z) = it f L.length z := by
  obtain ⟨i, j, hij, hj, e⟩ := twice (fun j => it f j z) L L.length (fun k _ => h k) (Nat.le_refl _)
  refine ⟨j - i, by omega, by omega, ?_⟩
  have e' : it f i z = it f j z := e
  rw [← it_add]
  have q : L.length + (j - i) = j + (L.length - i) := by omega
  rw [q, it_add, ← e', ← it_add]
  congr 1
  omega
def sumTo (g : Nat → Int) : Nat → Int
  | 0 => 0
  | t + 1 => sumTo g t + g t
theorem round_sum {bs : List (Bd α)} {N : List α} {τ : α → Nat} {T : Nat} {s : S α} (h : Inv bs N τ T s) {c : α} (hc : ∀ k, it (nx bs s) k c ∈ s.L) : ∀ t : Nat, (s.w (it (nx bs s) t c) + sumTo (fun i => cost bs s (it (nx bs s) i c)) t < s.w c) ∨ (τ (it (nx bs s) t c) + t ≤ τ c ∧ s.w (it (nx bs s) t c) + sumTo (fun i => cost bs s (it (nx bs s) i c)) t ≤ s.w c)
  | 0 => .inr ⟨Nat.le_refl _, by show s.w c + 0 ≤ _; omega⟩
  | t + 1 => by
    obtain ⟨_, _, h3, h4⟩ := h.at (hc t)
    have ih := round_sum h hc t
    rw [it_succ]
    show (s.w _ + (sumTo _ t + cost bs s _) < _) ∨ (_ ∧ s.w _ + (sumTo _ t + cost bs s _) ≤ _)
    by_cases q : τ (it (nx bs s) t c) ≤ τ (nx bs s (it (nx bs s) t c))
    · have := h4 q
      refine .inl ?_
      rcases ih with ih | ⟨_, ih⟩ <;> omega
    · rcases ih with ih | ⟨ih1, ih2⟩
      · exact .inl (by omega)
      · exact .inr ⟨by omega, by omega⟩
theorem round_neg {bs : List (Bd α)} {N : List α} {s : S α} (h : ∃ τ T, Inv bs N τ T s) {c : α} (hc : ∀ k, it (nx bs s) k c ∈ s.L) {t : Nat} (h1 : 1 ≤ t) (ht : it (nx bs s) t c = c) : sumTo (fun i => cost bs s (it (nx bs s) i c)) t < 0 := by
  obtain ⟨τ, T, h⟩ := h
  have := round_sum h hc t
  rw [ht] at this
  rcases this with q | ⟨q, _⟩ <;> omega
theorem round_holds {bs : List (Bd α)} {N : List α} {s : S α} (h : ∃ τ T, Inv bs N τ T s) {c : α} (hc : ∀ k, it (nx bs s) k c ∈ s.L) {g : α → Int} (hg : Holds bs g) : ∀ t : Nat, g c ≤ g (it (nx bs s) t c) + sumTo (fun i => cost bs s (it (nx bs s) i c)) t
  | 0 => by show g c ≤ g c + 0; omega
  | t + 1 => by
    have ih := round_holds h hc hg t
    obtain ⟨τ, T, h'⟩ := h
    obtain ⟨h1, h2, _⟩ := h'.at (hc t)
    have h5 := hg _ (List.mem_of_getElem? h1)
    rw [it_succ]
    rw [h2] at h5
    show g c ≤ g (nx bs s _) + (sumTo _ t + cost bs s _)
    unfold nx cost at *
    omega
/-! the tightest -/
structure G (α : Type) where
  ks : List α
  f : α → Int
  ch : Bool
def gstep (s : G α) (b : Bd α) : G α := if b.2.1 ∈ s.ks ∧ (b.1 ∉ s.ks ∨ s.f b.2.1 + b.2.2 < s.f b.1) then ⟨ins s.ks b.1, up s.f b.1 (s.f b.2.1 + b.2.2), true⟩ else s
def gpass (bs : List (Bd α)) (s : G α) : G α := bs.foldl gstep { s with ch := false }
structure GI (bs : List (Bd α)) (N : List α) (a : α) (s : G α) : Prop where
  b1 : s.ks.Nodup
  b2 : ∀ x ∈ s.ks, x ∈ N
  b3 : ∀ h, Holds bs h → ∀ x ∈ s.ks, h x - h a ≤ s.f x
  b4 : a ∈ s.ks
  b5 : s.f a ≤ 0
theorem GI.step {bs : List (Bd α)} {N : List α} {a : α} {s : G α} {b : Bd α} (h : GI bs N a s) (hb : b ∈ bs) (hN : b.1 ∈ N) : GI bs N a (gstep s b) := by
  unfold gstep
  split
  · rename_i c
    refine ⟨nodup_ins h.b1, fun x hx => ?_, fun g hg x hx => ?_, mem_ins.mpr (.inl h.b4), ?_⟩
    · rcases mem_ins.mp hx with z | z
      · exact h.b2 x z
      · rw [z]; exact hN
    · show _ ≤ up s.f b.1 _ x
      by_cases e : x = b.1
      · rw [e, up_same]
        have h1 := hg b hb
        have h2 := h.b3 g hg _ c.1
        omega
      · rw [up_ne e]
        exact h.b3 g hg x ((mem_ins.mp hx).resolve_right e)
    · show up s.f b.1 _ a ≤ 0
      by_cases e : a = b.1
      · rw [e, up_same]
        have := h.b5
        rcases c.2 with z | z
        · exact absurd (e ▸ h.b4) z
        · rw [← e] at z; omega
      · rw [up_ne e]; exact h.b5
  · exact h
theorem GI.fold {bs : List (Bd α)} {N : List α} {a : α} (hN : ∀ b ∈ bs, b.1 ∈ N) : ∀ (t : List (Bd α)) (s : G α), (∀ b ∈ t, b ∈ bs) → GI bs N a s → GI bs N a (t.foldl gstep s)
  | [], _, _, h => h
  | b :: t, s, ht, h => GI.fold hN t (gstep s b) (fun c hc => ht c (List.mem_cons_of_mem _ hc)) (h.step (ht b (List.mem_cons_self ..)) (hN b (ht b (List.mem_cons_self ..))))
theorem GI.pass {bs : List (Bd α)} {N : List α} {a : α} {s : G α} (hN : ∀ b ∈ bs, b.1 ∈ N) (h : GI bs N a s) : GI bs N a (gpass bs s) := GI.fold hN bs _ (fun _ hb => hb) ⟨h.b1, h.b2, h.b3, h.b4, h.b5⟩
/-- how far it is to the end: names to come, what the values can still fall -/
def room (N : List α) (s : G α) : Nat := N.length - s.ks.length
def fall (g : α → Int) (a : α) (f : α → Int) : List α → Nat
  | [] => 0
  | x :: t => (f x - (g x - g a)).toNat + fall g a f t
theorem fall_up {g : α → Int} {a x : α} {f : α → Int} {v : Int} : ∀ {l : List α}, x ∉ l → fall g a (up f x v) l = fall g a f l
  | [], _ => rfl
  | y :: t, h => by
    have n : y ≠ x := fun e => h (by rw [e]; exact List.mem_cons_self ..)
    show (up f x v y - _).toNat + fall g a (up f x v) t = (f y - _).toNat + fall g a f t
    rw [up_ne n, fall_up fun z => h (List.mem_cons_of_mem _ z)]
theorem fall_lt {g : α → Int} {a x : α} {f : α → Int} {v : Int} (h1 : v < f x) (h2 : g x - g a ≤ v) : ∀ {l : List α}, l.Nodup → x ∈ l → fall g a (up f x v) l < fall g a f l
  | y :: t, nd, hx => by
    obtain ⟨n1, n2⟩ := List.nodup_cons.mp nd
    show (up f x v y - _).toNat + fall g a (up f x v) t < (f y - _).toNat + fall g a f t
    by_cases e : y = x
    · subst e
      rw [up_same, fall_up n1]
      omega
    · rw [up_ne e]
      have := fall_lt (f := f) h1 h2 n2 ((List.mem_cons.mp hx).resolve_left (fun z => e z.symm))
      omega
/-- one step: nothing, or less room, or the same room and less to fall -/
theorem step_less {bs : List (Bd α)} {N : List α} {a : α} {s : G α} {b : Bd α} {g : α → Int} (hg : Holds bs g) (h : GI bs N a s) (hb : b ∈ bs) (hN : b.1 ∈ N) : gstep s b = s ∨ (room N (gstep s b) < room N s) ∨ (room N (gstep s b) = room N s ∧ fall g a (gstep s b).f (gstep s b).ks < fall g a s.f s.ks) := by
  have h' := h.step hb hN
  unfold gstep at h' ⊢
  split
  · rename_i c
    rw [if_pos c] at h'
    by_cases m : b.1 ∈ s.ks
    · right; right
      have e : ins s.ks b.1 = s.ks := if_pos m
      show room N ⟨ins s.ks b.1, _, _⟩ = _ ∧ fall g a (up s.f b.1 _) (ins s.ks b.1) < _
      rw [e]
      refine ⟨rfl, fall_lt (c.2.resolve_left (fun z => z m)) ?_ h.b1 m⟩
      have h1 := hg b hb
      have h2 := h.b3 g hg _ c.1
      omega
    · right; left
      have e : ins s.ks b.1 = s.ks ++ [b.1] := if_neg m
      have l := nodup_len h'.b1 h'.b2
      show N.length - (ins s.ks b.1).length < N.length - s.ks.length
      have l2 : (ins s.ks b.1).length = s.ks.length + 1 := by rw [e]; simp
      have l3 : (ins s.ks b.1).length ≤ N.length := l
      omega
  · exact .inl rfl
theorem fold_less {bs : List (Bd α)} {N : List α} {a : α} {g : α → Int} (hg : Holds bs g) (hN : ∀ b ∈ bs, b.1 ∈ N) : ∀ (t : List (Bd α)) (s : G α), (∀ b ∈ t, b ∈ bs) → GI bs N a s → t.foldl gstep s = s ∨ (room N (t.foldl gstep s) < room N s) ∨ (room N (t.foldl gstep s) = room N s ∧ fall g a (t.foldl gstep s).f (t.foldl gstep s).ks < fall g a s.f s.ks)
  | [], _, _, _ => .inl rfl
  | b :: t, s, ht, h => by
    have hb := ht b (List.mem_cons_self ..)
    have h1 := step_less hg h hb (hN b hb)
    have h2 := fold_less hg hN t (gstep s b) (fun c hc => ht c (List.mem_cons_of_mem _ hc)) (h.step hb (hN b hb))
    show t.foldl gstep (gstep s b) = s ∨ _ < _ ∨ _ = _ ∧ _ < _
    rw [List.foldl_cons]
    rcases h1 with e | h1
    · rw [e] at h2 ⊢; exact h2
    · right
      rcases h2 with e | h2
      · rw [e]; exact h1
      · rcases h1 with h1 | ⟨h1, h1'⟩ <;> rcases h2 with h2 | ⟨h2, h2'⟩
        · exact .inl (by omega)
        · exact .inl (by omega)
        · exact .inl (by omega)
        · exact .inr ⟨by omega, by omega⟩
theorem gstep_ch (s : G α) (b : Bd α) : (gstep s b).ch = false → gstep s b = s ∧ s.ch = false ∧ ¬ (b.2.1 ∈ s.ks ∧ (b.1 ∉ s.ks ∨ s.f b.2.1 + b.2.2 < s.f b.1)) := by
  unfold gstep
  split
  · intro z; cases z
  · rename_i c; intro z; exact ⟨rfl, z, c⟩
theorem fold_ch : ∀ (t : List (Bd α)) (s : G α), (t.foldl gstep s).ch = false → t.foldl gstep s = s ∧ ∀ b ∈ t, ¬ (b.2.1 ∈ s.ks ∧ (b.1 ∉ s.ks ∨ s.f b.2.1 + b.2.2 < s.f b.1))
  | [], _, _ => ⟨rfl, fun _ hb => by cases hb⟩
  | b :: t, s, h => by
    obtain ⟨e1, h1⟩ := fold_ch t (gstep s b) h
    have h2 : (gstep s b).ch = false := by rw [← e1]; exact h
    obtain ⟨e2, _, h3⟩ := gstep_ch s b h2
    refine ⟨by rw [List.foldl_cons, e1, e2], fun c hc => ?_⟩
    rcases List.mem_cons.mp hc with e | hc
    · rw [e]; exact h3
    · have := h1 c hc
      rw [e2] at this
      exact this
def gpasses (bs : List (Bd α)) : Nat → G α → G α
  | 0, s => s
  | k + 1, s => gpasses bs k (gpass bs s)
theorem gpasses_succ (bs : List (Bd α)) : ∀ (k : Nat) (s : G α), gpasses bs (k + 1) s = gpass bs (gpasses bs k s)
  | 0, _ => rfl
  | k + 1, s => gpasses_succ bs k (gpass bs s)
/-- the rounds come to an end -/
theorem ends {bs : List (Bd α)} {N : List α} {a : α} {g : α → Int} (hg : Holds bs g) (hN : ∀ b ∈ bs, b.1 ∈ N) : ∀ (m n : Nat) (s : G α), room N s ≤ m → fall g a s.f s.ks ≤ n → GI bs N a s → ∃ k, (gpasses bs (k + 1) s).ch = false := by
  intro m
  induction m using Nat.strongRecOn with
  | ind m ihm =>
    intro n
    induction n using Nat.strongRecOn with
    | ind n ihn =>
      intro s hm hn h
      cases e : (gpass bs s).ch with
      | false => exact ⟨0, e⟩
      | true =>
        have h1 := fold_less hg hN bs { s with ch := false } (fun _ hb => hb) ⟨h.b1, h.b2, h.b3, h.b4, h.b5⟩
        have h2 := h.pass hN
        have key : ∃ k, (gpasses bs (k + 1) (gpass bs s)).ch = false := by
          rcases h1 with h1 | h1 | ⟨h1, h1'⟩
          · unfold gpass at e
            rw [h1] at e
            cases e
          · exact ihm (room N (gpass bs s)) (Nat.lt_of_lt_of_le h1 hm) _ (gpass bs s) (Nat.le_refl _) (Nat.le_refl _) h2
          · by_cases c : room N (gpass bs s) < m
            · exact ihm _ c _ (gpass bs s) (Nat.le_refl _) (Nat.le_refl _) h2
            · have h3 : room N (gpass bs s) = room N s := h1
              exact ihn (fall g a (gpass bs s).f (gpass bs s).ks) (Nat.lt_of_lt_of_le h1' hn) (gpass bs s) (by omega) (Nat.le_refl _) h2
        obtain ⟨k, hk⟩ := key
        exact ⟨k + 1, hk⟩
def Closed (bs : List (Bd α)) (s : G α) : Prop := ∀ b ∈ bs, b.2.1 ∈ s.ks → b.1 ∈ s.ks ∧ s.f b.1 ≤ s.f b.2.1 + b.2.2
theorem closed {bs : List (Bd α)} {s : G α} (h : (gpass bs s).ch = false) : Closed bs (gpass bs s) := fun b hb hy => by
  obtain ⟨e, h1⟩ := fold_ch bs { s with ch := false } h
  unfold gpass at hy ⊢
  rw [e] at hy ⊢
  have h2 := h1 b hb
  by_cases m : b.1 ∈ s.ks
  · refine ⟨m, ?_⟩
    have : ¬ s.f b.2.1 + b.2.2 < s.f b.1 := fun z => h2 ⟨hy, .inr z⟩
    show s.f b.1 ≤ s.f b.2.1 + b.2.2
    omega
  · exact absurd ⟨hy, .inl m⟩ h2
theorem f_name {bs : List (Bd α)} {N : List α} {a : α} {s : G α} {g : α → Int} (hg : Holds bs g) (h : GI bs N a s) : s.f a = 0 := by
  have := h.b3 g hg a h.b4
  have := h.b5
  omega
/-- an upper bound of finitely many numbers -/
theorem above : ∀ l : List Int, ∃ C, ∀ x ∈ l, x ≤ C
  | [] => ⟨0, fun _ h => by cases h⟩
  | x :: t => by
    obtain ⟨C, h⟩ := above t
    refine ⟨if x ≤ C then C else x, fun y hy => ?_⟩
    rcases List.mem_cons.mp hy with e | hy
    · subst e; split <;> omega
    · have := h y hy
      split <;> omega
/-- values by the tightest bounds, whatever is not bound as great as one likes -/
theorem extend {bs : List (Bd α)} {N : List α} {a : α} {s : G α} {g : α → Int} (hg : Holds bs g) (h : GI bs N a s) (hc : Closed bs s) (D : Int) (x : α) : ∃ v, Holds bs v ∧ v a = 0 ∧ (∀ z ∈ s.ks, v z = s.f z) ∧ (x ∉ s.ks → D ≤ v x) := by
  obtain ⟨C, hC⟩ := above ((D - g x) :: bs.map fun b => s.f b.1 - g b.2.1 - b.2.2)
  refine ⟨fun z => if z ∈ s.ks then s.f z else g z + C, fun b hb => ?_, ?_, fun z hz => if_pos hz, fun hx => ?_⟩
  · show (if b.1 ∈ s.ks then s.f b.1 else g b.1 + C) - (if b.2.1 ∈ s.ks then s.f b.2.1 else g b.2.1 + C) ≤ b.2.2
    by_cases m2 : b.2.1 ∈ s.ks
    · obtain ⟨m1, q⟩ := hc b hb m2
      rw [if_pos m1, if_pos m2]
      omega
    · rw [if_neg m2]
      have hb' := hg b hb
      by_cases m1 : b.1 ∈ s.ks
      · rw [if_pos m1]
        have := hC _ (List.mem_cons_of_mem _ (List.mem_map.mpr ⟨b, hb, rfl⟩))
        omega
      · rw [if_neg m1]; omega
  · show (if a ∈ s.ks then s.f a else _) = 0
    rw [if_pos h.b4, f_name hg h]
  · show D ≤ (if x ∈ s.ks then s.f x else g x + C)
    rw [if_neg hx]
    have := hC _ (List.mem_cons_self ..)
    omega
theorem holds_snoc {bs : List (Bd α)} {b : Bd α} {v : α → Int} : Holds (bs ++ [b]) v ↔ Holds bs v ∧ v b.1 - v b.2.1 ≤ b.2.2 := by
  unfold Holds
  constructor
  · intro h
    exact ⟨fun c hc => h c (List.mem_append_left _ hc), h b (List.mem_append_right _ (List.mem_singleton.mpr rfl))⟩
  · rintro ⟨h1, h2⟩ c hc
    rcases List.mem_append.mp hc with hc | hc
    · exact h1 c hc
    · rw [List.mem_singleton.mp hc]; exact h2
theorem tight_some {bs : List (Bd α)} {N : List α} {a x : α} {s : G α} {g : α → Int} (hg : Holds bs g) (h : GI bs N a s) (hc : Closed bs s) (hx : x ∈ s.ks) : (∃ v, Holds (bs ++ [(a, x, 0 - s.f x)]) v) ∧ ¬ ∃ v, Holds (bs ++ [(a, x, 0 - s.f x - 1)]) v := by
  constructor
  · obtain ⟨v, h1, h2, h3, _⟩ := extend hg h hc 0 x
    refine ⟨v, holds_snoc.mpr ⟨h1, ?_⟩⟩
    show v a - v x ≤ 0 - s.f x
    rw [h2, h3 x hx]
    omega
  · rintro ⟨v, hv⟩
    obtain ⟨h1, h2⟩ := holds_snoc.mp hv
    have h3 := h.b3 v h1 x hx
    have h4 : v a - v x ≤ 0 - s.f x - 1 := h2
    omega
theorem tight_none {bs : List (Bd α)} {N : List α} {a x : α} {s : G α} {g : α → Int} (hg : Holds bs g) (h : GI bs N a s) (hc : Closed bs s) (hx : x ∉ s.ks) (D : Int) : ∃ v, Holds (bs ++ [(a, x, 0 - D)]) v := by
  obtain ⟨v, h1, h2, _, h4⟩ := extend hg h hc D x
  refine ⟨v, holds_snoc.mpr ⟨h1, ?_⟩⟩
  show v a - v x ≤ 0 - D
  have := h4 hx
  rw [h2]
  omega
end Bf

set_option Elab.async false
set_option linter.all false
set_option maxRecDepth 100000
set_option maxHeartbeats 4000000
/-! Data layer: pure expressions by the data they come to. M: addresses that may change; what is known stands outside of M. -/
namespace Dl
open PySem PySem.Spec PyProof.Rows L2

/-! ### what is known -/
def hid (M : List Addr) (H : Hp) : Hp := fun a => if a ∈ M then none else H a
def Live (M : List Addr) (H : Hp) : Prop := ∀ a ∈ M, H a ≠ none
section
variable {M : List Addr} {H H' : Hp} {a p : Addr} {o : HO}
theorem hid_of (n : a ∉ M) : hid M H a = H a := if_neg n
theorem hid_le : Same (hid M H) H := fun b o e => by
  unfold hid at e
  split at e
  · cases e
  · exact e
theorem hid_mono (s : Same H H') : Same (hid M H) (hid M H') := fun b o e => by
  unfold hid at e ⊢
  split at e
  · cases e
  · rename_i n; rw [if_neg n]; exact s b o e
theorem hid_nil : hid [] H = H := by funext b; unfold hid; rw [if_neg (by simp)]
theorem hid_upd_mem (h : p ∈ M) : hid M (upd H p o) = hid M H := by
  funext b; unfold hid
  split
  · rfl
  · rename_i n; rw [upd_ne (fun z => n (by rw [z]; exact h))]
theorem Live.mono (L : Live M H) (s : Same H H') : Live M H' := fun b hb z => by
  cases e : H b with
  | none => exact L b hb e
  | some o => rw [s b o e] at z; cases z
theorem Live.fresh (L : Live M H) (hp : H p = none) : p ∉ M := fun h => L p h hp
theorem Live.nil : Live [] H := fun _ h => by simp at h
theorem hid_new (L : Live M H) (hp : H p = none) : hid M (upd H p o) = upd (hid M H) p o := by
  funext b; unfold hid upd
  by_cases hb : b = p
  · subst hb; rw [if_neg (L.fresh hp), if_pos rfl, if_pos rfl]
  · rw [if_neg hb, if_neg hb]
theorem hid_free (hp : H p = none) : hid M H p = none := by unfold hid; split <;> first | rfl | exact hp
theorem hid_cons (hp : H p = none) : hid (p :: M) (upd H p o) = hid M H := by
  funext b; unfold hid
  by_cases hb : b = p
  · subst hb
    rw [if_pos (List.mem_cons_self ..)]
    split <;> first | rfl | exact hp.symm
  · by_cases hm : b ∈ M
    · rw [if_pos (List.mem_cons_of_mem _ hm), if_pos hm]
    · rw [if_neg (by simp [hb, hm]), if_neg hm, upd_ne hb]
theorem Live.cons (L : Live M H) (hp : H p = none) : Live (p :: M) (upd H p o) := fun b hb => by
  rcases List.mem_cons.mp hb with e | hb
  · subst e; rw [upd_same]; simp
  · rw [upd_ne (fun z => L b hb (by rw [z]; exact hp))]; exact L b hb
theorem Live.upd (L : Live M H) : Live M (upd H p o) := fun b hb => by
  by_cases e : b = p
  · subst e; rw [upd_same]; simp
  · rw [upd_ne e]; exact L b hb
theorem same_new (hp : H p = none) : Same H (upd H p o) := fun b u e => by rw [upd_ne (ne_of_none e hp)]; exact e
theorem Live.to (L : Live M H) (s : Same (hid [] H) H') : Live M H' := L.mono (by rw [hid_nil] at s; exact s)
theorem hid_hid : hid M (hid M H) = hid M H := by
  funext b; unfold hid; split <;> rfl
end
theorem same_seqT {K : PySem.W.Frag} {H H' : Hp} {a : Addr} {xs : List V} (e : Same H H') (h : SqT K H a xs) : SqT K H' a xs := by
  rcases h with (h | ⟨o, h⟩) | h
  · exact .inl (.inl (e _ _ h))
  · exact .inl (.inr ⟨o, e _ _ h⟩)
  · exact .inr h
mutual
/-- a value is the data (every list is one that is tracked) -/
inductive Dq (K : PySem.W.Frag) (H : Hp) : V → PyData → Prop
  | non : Dq K H .non .none
  | bl (b : Bool) : Dq K H (.bl b) (.bool b)
  | int (i : Int) : Dq K H (.int i) (.int i)
  | str (x : Str) : Dq K H (.str x) (.str x)
  | lst {a : Addr} {xs : List V} {ds : List PyData} : H a = some (.lst xs) → DqAll K H xs ds → Dq K H (.ref a) (.list ds)
  | tup {a : Addr} {xs : List V} {ds : List PyData} : SqT K H a xs → DqAll K H xs ds → Dq K H (.ref a) (.tuple ds)
inductive DqAll (K : PySem.W.Frag) (H : Hp) : List V → List PyData → Prop
  | nil : DqAll K H [] []
  | cons {v : V} {vs : List V} {d : PyData} {ds : List PyData} : Dq K H v d → DqAll K H vs ds → DqAll K H (v :: vs) (d :: ds)
end
mutual
theorem Dq.dp {K : PySem.W.Frag} {H : Hp} : ∀ (d : PyData) (v : V), Dq K H v d → Dp K H v d
  | .none, _, h => by cases h; exact .non
  | .bool b, _, h => by cases h; exact .bl b
  | .int i, _, h => by cases h; exact .int i
  | .str x, _, h => by cases h; exact .str x
  | .list ds, _, h => by
    cases h with
    | lst hs ha => exact .lst (SqL.of hs) (DqAll.dp ds _ ha)
  | .tuple ds, _, h => by
    cases h with
    | tup hs ha => exact .tup hs (DqAll.dp ds _ ha)
  | .dict _, _, h => by cases h
theorem DqAll.dp {K : PySem.W.Frag} {H : Hp} : ∀ (ds : List PyData) (vs : List V), DqAll K H vs ds → DpAll K H vs ds
  | [], _, h => by cases h; exact .nil
  | d :: ds, _, h => by
    cases h with
    | cons h1 h2 => exact .cons (Dq.dp d _ h1) (DqAll.dp ds _ h2)
end
mutual
theorem dp_mono {K : PySem.W.Frag} {H H' : Hp} (e : Same H H') : ∀ (d : PyData) (v : V), Dq K H v d → Dq K H' v d
  | .none, _, h => by cases h; exact .non
  | .bool b, _, h => by cases h; exact .bl b
  | .int i, _, h => by cases h; exact .int i
  | .str x, _, h => by cases h; exact .str x
  | .list ds, _, h => by
    cases h with
    | lst hs ha => exact .lst (e _ _ hs) (dpa_mono e ds _ ha)
  | .tuple ds, _, h => by
    cases h with
    | tup hs ha => exact .tup (same_seqT e hs) (dpa_mono e ds _ ha)
  | .dict _, _, h => by cases h
theorem dpa_mono {K : PySem.W.Frag} {H H' : Hp} (e : Same H H') : ∀ (ds : List PyData) (vs : List V), DqAll K H vs ds → DqAll K H' vs ds
  | [], _, h => by cases h; exact .nil
  | d :: ds, _, h => by
    cases h with
    | cons h1 h2 => exact .cons (dp_mono e d _ h1) (dpa_mono e ds _ h2)
end
section
variable {K : PySem.W.Frag} {H H' : Hp} {v : V} {vs : List V} {ds es : List PyData} {d : PyData}
theorem Dq.up (h : Dq K H v d) (e : Same H H') : Dq K H' v d := dp_mono e d v h
theorem DqAll.up (h : DqAll K H vs ds) (e : Same H H') : DqAll K H' vs ds := dpa_mono e ds vs h
theorem dpa_len : ∀ {vs : List V} {ds : List PyData}, DqAll K H vs ds → vs.length = ds.length
  | _, _, .nil => rfl
  | _, _, .cons _ h => by rw [List.length_cons, List.length_cons, dpa_len h]
theorem dpa_app : ∀ {vs ws : List V} {ds es : List PyData}, DqAll K H vs ds → DqAll K H ws es → DqAll K H (vs ++ ws) (ds ++ es)
  | _, _, _, _, .nil, h => h
  | _, _, _, _, .cons a b, h => .cons a (dpa_app b h)
theorem dpa_get : ∀ {vs : List V} {ds : List PyData} {i : Nat} {d : PyData}, DqAll K H vs ds → ds[i]? = some d → ∃ v, vs[i]? = some v ∧ Dq K H v d
  | _, _, _, _, .nil, e => by simp at e
  | _, _, 0, _, .cons a _, e => by simp at e; subst e; exact ⟨_, rfl, a⟩
  | _, _, i + 1, d, .cons _ b, e => by
    obtain ⟨v, h1, h2⟩ := dpa_get (i := i) (d := d) b (by simpa using e)
    exact ⟨v, by simpa using h1, h2⟩
theorem dpa_get' : ∀ {vs : List V} {ds : List PyData} {i : Nat} {v : V}, DqAll K H vs ds → vs[i]? = some v → ∃ d, ds[i]? = some d ∧ Dq K H v d
  | _, _, _, _, .nil, e => by simp at e
  | _, _, 0, _, .cons a _, e => by simp at e; subst e; exact ⟨_, rfl, a⟩
  | _, _, i + 1, v, .cons _ b, e => by
    obtain ⟨d, h1, h2⟩ := dpa_get' (i := i) (v := v) b (by simpa using e)
    exact ⟨d, by simpa using h1, h2⟩
theorem dpa_drop : ∀ (n : Nat) {vs : List V} {ds : List PyData}, DqAll K H vs ds → DqAll K H (vs.drop n) (ds.drop n)
  | 0, _, _, h => h
  | _ + 1, _, _, .nil => .nil
  | n + 1, _, _, .cons _ b => dpa_drop n b
theorem dpa_take : ∀ (n : Nat) {vs : List V} {ds : List PyData}, DqAll K H vs ds → DqAll K H (vs.take n) (ds.take n)
  | 0, _, _, _ => .nil
  | _ + 1, _, _, .nil => .nil
  | n + 1, _, _, .cons a b => .cons a (dpa_take n b)
theorem dp_int {i : Int} (h : Dq K H v (.int i)) : v = .int i := by cases h; rfl
theorem dp_bl {b : Bool} (h : Dq K H v (.bool b)) : v = .bl b := by cases h; rfl
theorem dp_str {x : Str} (h : Dq K H v (.str x)) : v = .str x := by cases h; rfl
theorem dp_non (h : Dq K H v .none) : v = .non := by cases h; rfl
theorem dp_lst (h : Dq K H v (.list ds)) : ∃ a xs, v = .ref a ∧ H a = some (.lst xs) ∧ DqAll K H xs ds := by
  cases h with
  | lst h1 h2 => exact ⟨_, _, rfl, h1, h2⟩
theorem dp_tup (h : Dq K H v (.tuple ds)) : ∃ a xs, v = .ref a ∧ SqT K H a xs ∧ DqAll K H xs ds := by
  cases h with
  | tup h1 h2 => exact ⟨_, _, rfl, h1, h2⟩
end
/-! ### readings by themselves -/
def RE (X : Cx) (e : Expr) : TE := fun σ H Q => ∃ t, PE X e t ∧ t σ H Q
def RT (X : Cx) (e : Expr) : TT := fun σ H Q => ∃ t, PT X e t ∧ t σ H Q
def RW (X : Cx) (e : Expr) : TT := fun σ H Q => ∃ t, PW X e t ∧ t σ H Q
def RA (X : Cx) (es : List Expr) : TA := fun σ H Q => ∃ t, PA X es t ∧ t σ H Q
def RS (X : Cx) (st : Stmt) : TS := fun D σ H => ∃ t, PS X st t ∧ t D σ H
def RB (X : Cx) (st : List Stmt) : TS := fun D σ H => ∃ t, PSs X st t ∧ t D σ H
def RI (X : Cx) (tg e : Expr) : TI := fun σ H R => ∃ t, PI X tg e t ∧ t σ H R
section
variable {X : Cx} {e tg : Expr} {es : List Expr} {st : Stmt} {sts : List Stmt}
theorem re_ : PE X e (RE X e) := ⟨fun pins s σ H Q I ⟨_, h, q⟩ => h.run pins s σ H Q I q⟩
theorem rt_ : PT X e (RT X e) := ⟨fun pins s σ H Q I ⟨_, h, q⟩ => h.run pins s σ H Q I q⟩
theorem rw_ : PW X e (RW X e) := ⟨fun wh pins s σ H Q I ⟨_, h, q⟩ => h.run wh pins s σ H Q I q⟩
theorem ra_ : PA X es (RA X es) := ⟨fun pos pins s σ H Q I ⟨_, h, q⟩ => h.run pos pins s σ H Q I q⟩
theorem rs_ : PS X st (RS X st) := ⟨fun pins s σ H D I ⟨_, h, q⟩ => h.run pins s σ H D I q⟩
theorem rb_ : PSs X sts (RB X sts) := ⟨fun pins s σ H D I ⟨_, h, q⟩ => h.run pins s σ H D I q⟩
theorem ri_ : PI X tg e (RI X tg e) := ⟨fun pins s σ H R I ⟨_, h, q⟩ => h.run pins s σ H R I q⟩
end
/-! ### what an expression comes to -/
/-- the data d; an exact value v; a new list of the data ds; arguments; a test -/
def XD (X : Cx) (M : List Addr) (σ : L2.St) (H : Hp) (e : Expr) (d : PyData) : Prop := ∀ H1, Same H H1 → ∀ Q : VK, (∀ v H2, Same H1 H2 → Dq X.K (hid M H2) v d → Q v H2) → RE X e σ H1 Q
def XV (X : Cx) (σ : L2.St) (H : Hp) (e : Expr) (v : V) : Prop := ∀ H1, Same H H1 → ∀ Q : VK, (∀ H2, Same H1 H2 → Q v H2) → RE X e σ H1 Q
def XL (X : Cx) (M : List Addr) (σ : L2.St) (H : Hp) (e : Expr) (ds : List PyData) : Prop :=
  ∀ H1, Same H H1 → ∀ Q : VK, (∀ p xs H2, Same H1 H2 → H1 p = none → H2 p = some (.lst xs) → DqAll X.K (hid M H2) xs ds → Q (.ref p) H2) → RE X e σ H1 Q
def XA (X : Cx) (M : List Addr) (σ : L2.St) (H : Hp) (es : List Expr) (ds : List PyData) : Prop := ∀ H1, Same H H1 → ∀ Q : List V → Hp → Prop, (∀ vs H2, Same H1 H2 → DqAll X.K (hid M H2) vs ds → Q vs H2) → RA X es σ H1 Q
def XT (X : Cx) (σ : L2.St) (H : Hp) (e : Expr) (b : Bool) : Prop := ∀ H1, Same H H1 → ∀ Q : Bool → Hp → Prop, (∀ H2, Same H1 H2 → Q b H2) → RT X e σ H1 Q
def XW (X : Cx) (σ : L2.St) (H : Hp) (e : Expr) (b : Bool) : Prop := ∀ H1, Same H H1 → ∀ Q : Bool → Hp → Prop, (∀ H2, Same H1 H2 → Q b H2) → RW X e σ H1 Q
section
variable {X : Cx} {M : List Addr} {σ : L2.St} {H H' : Hp} {e a b c : Expr} {es : List Expr} {d d1 d2 : PyData} {ds es' : List PyData} {i : Nat} {x : Str} {v : V} {pos : Pos}
theorem XD.up (h : XD X M σ H e d) (s : Same H H') : XD X M σ H' e d := fun H1 q => h H1 (s.trans q)
theorem XV.up (h : XV X σ H e v) (s : Same H H') : XV X σ H' e v := fun H1 q => h H1 (s.trans q)
theorem XL.up (h : XL X M σ H e ds) (s : Same H H') : XL X M σ H' e ds := fun H1 q => h H1 (s.trans q)
theorem XA.up (h : XA X M σ H es ds) (s : Same H H') : XA X M σ H' es ds := fun H1 q => h H1 (s.trans q)
theorem XT.up {b : Bool} (h : XT X σ H e b) (s : Same H H') : XT X σ H' e b := fun H1 q => h H1 (s.trans q)
theorem XD.to {d' : PyData} (h : XD X M σ H e d) (q : d = d') : XD X M σ H e d' := q ▸ h
theorem XL.to {ds' : List PyData} (h : XL X M σ H e ds) (q : ds = ds') : XL X M σ H e ds' := q ▸ h
theorem XT.to {k k' : Bool} (h : XT X σ H e k) (q : k = k') : XT X σ H e k' := q ▸ h
theorem XV.dd (h : XV X σ H e v) (hd : Dq X.K (hid M H) v d) : XD X M σ H e d := fun H1 s Q q => h H1 s Q fun H2 s2 => q v H2 s2 (dp_mono (hid_mono (s.trans s2)) d v hd)
theorem XV.int {n : Int} (h : XV X σ H e (.int n)) : XD X M σ H e (.int n) := h.dd (.int n)
theorem XD.vint {n : Int} (h : XD X M σ H e (.int n)) : XV X σ H e (.int n) := fun H1 s Q q => h H1 s Q fun v H2 s2 hv => by rw [dp_int hv]; exact q H2 s2
theorem XD.vbl {k : Bool} (h : XD X M σ H e (.bool k)) : XV X σ H e (.bl k) := fun H1 s Q q => h H1 s Q fun v H2 s2 hv => by rw [dp_bl hv]; exact q H2 s2
theorem XD.vstr {z : Str} (h : XD X M σ H e (.str z)) : XV X σ H e (.str z) := fun H1 s Q q => h H1 s Q fun v H2 s2 hv => by rw [dp_str hv]; exact q H2 s2
theorem XL.dd (h : XL X M σ H e ds) (L : Live M H) : XD X M σ H e (.list ds) := fun H1 s Q q => h H1 s Q fun p xs H2 s2 hp h2 hd =>
  q _ H2 s2 (.lst (by rw [hid_of (fun z => (L.mono s) p z hp)]; exact h2) hd)
/-! names, constants -/
theorem xv_name (i : Nat) {x : Str} {v : V} {pos : Pos} (hv : σ[i]? = some (some v)) (hN : X.N[i]? = some x := by rfl) (hs : Vis X.env.scope x := by first | exact Or.inl rfl | exact Or.inr (Or.inl rfl) | exact Or.inr (Or.inr rfl))
    (hb : (x == ("__debug__" : Str)) = false := by decide) (hc : (x == ("__classdict__" : Str)) = false := by decide) : XV X σ H (.Name x pos) v := fun H1 _ Q q => ⟨_, pe_var hN hs hb hc, v, hv, q H1 (Same.refl _)⟩
theorem xd_name (i : Nat) {x : Str} {v : V} {pos : Pos} (hv : σ[i]? = some (some v)) (hd : Dq X.K (hid M H) v d) (hN : X.N[i]? = some x := by rfl) (hs : Vis X.env.scope x := by first | exact Or.inl rfl | exact Or.inr (Or.inl rfl) | exact Or.inr (Or.inr rfl))
    (hb : (x == ("__debug__" : Str)) = false := by decide) (hc : (x == ("__classdict__" : Str)) = false := by decide) : XD X M σ H (.Name x pos) d := (xv_name i hv hN hs hb hc).dd hd
theorem xv_int {n : Int} {j} : XV X σ H (.Constant (.int n) j pos) (.int n) := fun H1 _ Q q => ⟨_, pe_int, q H1 (Same.refl _)⟩
theorem xd_int {n : Int} {j} : XD X M σ H (.Constant (.int n) j pos) (.int n) := xv_int.int
theorem xv_str {z : Str} {j} : XV X σ H (.Constant (.str z) j pos) (.str z) := fun H1 _ Q q => ⟨_, pe_str, q H1 (Same.refl _)⟩
theorem xd_str {z : Str} {j} : XD X M σ H (.Constant (.str z) j pos) (.str z) := xv_str.dd (.str z)
theorem xd_bl {k : Bool} {j} : XD X M σ H (.Constant (.bool k) j pos) (.bool k) := fun H1 _ Q q => ⟨_, pe_bl, q _ H1 (Same.refl _) (.bl k)⟩
theorem xd_non {j} : XD X M σ H (.Constant .none j pos) .none := fun H1 _ Q q => ⟨_, pe_non, q _ H1 (Same.refl _) .non⟩
theorem xv_glob {u : Value} (hm : X.mg x = some u) (r : RelV v u) (hg : Gl X x := by rfl) (hd : (x == ("__debug__" : Str)) = false := by decide) : XV X σ H (.Name x pos) v := fun H1 _ Q q => ⟨_, pe_glob hg hm r hd, q H1 (Same.refl _)⟩
theorem xv_bltn {u : Value} (hm : X.mg x = none) (hv : bootBuiltins x = some u) (r : RelV v u) (hg : Gl X x := by rfl) (hn : x ≠ "__name__" := by decide) (hd : (x == ("__debug__" : Str)) = false := by decide) : XV X σ H (.Name x pos) v :=
  fun H1 _ Q q => ⟨_, pe_bltn hg hm hv r hn hd, q H1 (Same.refl _)⟩
/-! displays -/
theorem xa_nil : XA X M σ H [] [] := fun H1 _ Q q => ⟨_, pa_nil, q [] H1 (Same.refl _) .nil⟩
theorem xa_cons (ha : XD X M σ H e d) (hr : XA X M σ H es ds) (hs : starEach (e :: es) X.env = (false, eval e X.env) :: starEach es X.env := by rfl) : XA X M σ H (e :: es) (d :: ds) := fun H1 s Q q =>
  ⟨_, pa_cons re_ ra_ hs, ha H1 s _ fun v H2 s2 hv => hr H2 (s.trans s2) _ fun vs H3 s3 hvs => q _ H3 (s2.trans s3) (.cons (hv.up (hid_mono s3)) hvs)⟩
theorem small_sz {n : Nat} (h : n ≤ 100000) : n ≤ sizeLine := Nat.le_trans h (by decide)
theorem xd_tup {x1} (L : Live M H) (h : XA X M σ H es ds) (hl : ds.length ≤ 100000 := by simp) : XD X M σ H (.Tuple es x1 pos) (.tuple ds) := fun H1 s Q q =>
  ⟨_, pe_tup ra_, h H1 s _ fun vs H2 s2 hvs => ⟨by rw [dpa_len hvs]; exact small_sz hl, fun p hp => q _ _ (s2.trans (same_new hp)) (by
    rw [hid_new (L.mono (s.trans s2)) hp]
    exact .tup (SqT.of upd_same) (hvs.up (same_new (hid_free hp))))⟩⟩
theorem xl_lst (L : Live M H) (h : XA X M σ H es ds) (hl : ds.length ≤ 100000 := by simp) : XL X M σ H (.List es pos) ds := fun H1 s Q q =>
  ⟨_, pe_lst ra_, h H1 s _ fun vs H2 s2 hvs => ⟨by rw [dpa_len hvs]; exact small_sz hl, fun p hp => q p vs _ (s2.trans (same_new hp)) (s2.free hp) upd_same (by
    rw [hid_new (L.mono (s.trans s2)) hp]
    exact hvs.up (same_new (hid_free hp)))⟩⟩
theorem xd_lst (L : Live M H) (h : XA X M σ H es ds) (hl : ds.length ≤ 100000 := by simp) : XD X M σ H (.List es pos) (.list ds) := (xl_lst L h hl).dd L
/-! operators -/
theorem xd_bin {op : Operator} {r : R2} (ho : OpR X (binaryOp op) r) (ha : XD X M σ H a d1) (hb : XD X M σ H b d2)
    (hr : ∀ H1 v w, Same H H1 → Dq X.K (hid M H1) v d1 → Dq X.K (hid M H1) w d2 → ∀ Q : VK, (∀ u H2, Same H1 H2 → Dq X.K (hid M H2) u d → Q u H2) → r v w H1 Q) : XD X M σ H (.BinOp a op b pos) d := fun H1 s Q q =>
  ⟨_, pe_op ho re_ re_, ha H1 s _ fun v H2 s2 hv => hb H2 (s.trans s2) _ fun w H3 s3 hw => hr H3 v w ((s.trans s2).trans s3) (hv.up (hid_mono s3)) hw Q fun u H4 s4 hu => q u H4 ((s2.trans s3).trans s4) hu⟩
theorem xd_binI {op : Operator} {C : Int → Int → Prop} {g : Int → Int → Int} {m n : Int} (ho : OpR X (binaryOp op) (rI C fun i j => .int (g i j))) (ha : XD X M σ H a (.int m)) (hb : XD X M σ H b (.int n)) (hc : C m n) : XD X M σ H (.BinOp a op b pos) (.int (g m n)) :=
  xd_bin ho ha hb fun H1 v w s hv hw Q q => ⟨m, n, dp_int hv, dp_int hw, hc, q _ H1 (Same.refl _) (.int _)⟩
theorem xd_binI0 {op : Operator} {g : Int → Int → Int} {m n : Int} (ho : OpR X (binaryOp op) (rI0 fun i j => .int (g i j))) (ha : XD X M σ H a (.int m)) (hb : XD X M σ H b (.int n)) : XD X M σ H (.BinOp a op b pos) (.int (g m n)) :=
  xd_bin ho ha hb fun H1 v w s hv hw Q q => ⟨m, n, dp_int hv, dp_int hw, q _ H1 (Same.refl _) (.int _)⟩
theorem xd_add {m n : Int} (ha : XD X M σ H a (.int m)) (hb : XD X M σ H b (.int n)) : XD X M σ H (.BinOp a .Add b pos) (.int (m + n)) := xd_binI0 op_add ha hb
theorem xd_sub {m n : Int} (ha : XD X M σ H a (.int m)) (hb : XD X M σ H b (.int n)) : XD X M σ H (.BinOp a .Sub b pos) (.int (m - n)) := xd_binI0 op_sub ha hb
theorem xd_mul {m n : Int} (ha : XD X M σ H a (.int m)) (hb : XD X M σ H b (.int n)) (hc : (-(2 ^ 64) < m ∧ m < 2 ^ 64) ∨ (-(2 ^ 64) < n ∧ n < 2 ^ 64)) : XD X M σ H (.BinOp a .Mult b pos) (.int (m * n)) := xd_binI op_mul ha hb hc
theorem xd_neg {m : Int} (ha : XD X M σ H a (.int m)) : XD X M σ H (.UnaryOp .USub a pos) (.int (-m)) := fun H1 s Q q =>
  ⟨_, pe_un un_neg re_, ha H1 s _ fun v H2 s2 hv => ⟨m, dp_int hv, q _ H2 s2 (.int _)⟩⟩
/-! comparisons -/
theorem xd_cmp {op : CmpOp} {r : R2} (ho : OpR X (compareOp op) r) (ha : XD X M σ H a d1) (hb : XD X M σ H b d2)
    (hr : ∀ H1 v w, Same H H1 → Dq X.K (hid M H1) v d1 → Dq X.K (hid M H1) w d2 → ∀ Q : VK, (∀ u H2, Same H1 H2 → Dq X.K (hid M H2) u d → Q u H2) → r v w H1 Q)
    (hm : behindInMarks op b = false := by first | exact nomark _ | rfl) : XD X M σ H (.Compare a [op] [b] pos) d := fun H1 s Q q =>
  ⟨_, pe_cmpR ho re_ re_ hm, ha H1 s _ fun v H2 s2 hv => hb H2 (s.trans s2) _ fun w H3 s3 hw => hr H3 v w ((s.trans s2).trans s3) (hv.up (hid_mono s3)) hw Q fun u H4 s4 hu => q u H4 ((s2.trans s3).trans s4) hu⟩
theorem xt_cmp {k : Bool} {op : CmpOp} {r : R2} (ho : OpR X (compareOp op) r) (ha : XD X M σ H a d1) (hb : XD X M σ H b d2)
    (hr : ∀ H1 v w, Same H H1 → Dq X.K (hid M H1) v d1 → Dq X.K (hid M H1) w d2 → ∀ Q : VK, (∀ H2, Same H1 H2 → Q (.bl k) H2) → r v w H1 Q)
    (hm : behindInMarks op b = false := by first | exact nomark _ | rfl) : XT X σ H (.Compare a [op] [b] pos) k := fun H1 s Q q =>
  ⟨_, pt_cmpR ho re_ re_ hm, ha H1 s _ fun v H2 s2 hv => hb H2 (s.trans s2) _ fun w H3 s3 hw => hr H3 v w ((s.trans s2).trans s3) (hv.up (hid_mono s3)) hw _ fun H4 s4 => ⟨k, rfl, q H4 ((s2.trans s3).trans s4)⟩⟩
theorem xt_cmpI {op : CmpOp} {g : Int → Int → Bool} {m n : Int} (ho : OpR X (compareOp op) (rI0 fun i j => .bl (g i j))) (ha : XD X M σ H a (.int m)) (hb : XD X M σ H b (.int n)) (hm : behindInMarks op b = false := by exact nomark _) : XT X σ H (.Compare a [op] [b] pos) (g m n) :=
  xt_cmp ho ha hb (fun H1 v w s hv hw Q q => ⟨m, n, dp_int hv, dp_int hw, q H1 (Same.refl _)⟩) hm
theorem xd_cmpI {op : CmpOp} {g : Int → Int → Bool} {m n : Int} (ho : OpR X (compareOp op) (rI0 fun i j => .bl (g i j))) (ha : XD X M σ H a (.int m)) (hb : XD X M σ H b (.int n)) (hm : behindInMarks op b = false := by exact nomark _) : XD X M σ H (.Compare a [op] [b] pos) (.bool (g m n)) :=
  xd_cmp ho ha hb (fun H1 v w s hv hw Q q => ⟨m, n, dp_int hv, dp_int hw, q _ H1 (Same.refl _) (.bl _)⟩) hm
theorem dec_int {m n : Int} : decide (V.int m = V.int n) = decide (m = n) := by
  by_cases h : m = n
  · subst h; simp
  · rw [decide_eq_false h, decide_eq_false fun z => h (V.int.inj z)]
theorem xd_eqI {m n : Int} (ha : XD X M σ H a (.int m)) (hb : XD X M σ H b (.int n)) : XD X M σ H (.Compare a [.Eq] [b] pos) (.bool (decide (m = n))) :=
  xd_cmp op_eq ha hb fun H1 v w s hv hw Q q => by
    rw [dp_int hv, dp_int hw]
    exact ⟨rfl, by rw [dec_int]; exact q _ H1 (Same.refl _) (.bl _)⟩
theorem xd_neI {m n : Int} (ha : XD X M σ H a (.int m)) (hb : XD X M σ H b (.int n)) : XD X M σ H (.Compare a [.NotEq] [b] pos) (.bool (!decide (m = n))) :=
  xd_cmp op_ne ha hb fun H1 v w s hv hw Q q => by
    rw [dp_int hv, dp_int hw]
    exact ⟨rfl, by rw [dec_int]; exact q _ H1 (Same.refl _) (.bl _)⟩
theorem xt_eqI {m n : Int} (ha : XD X M σ H a (.int m)) (hb : XD X M σ H b (.int n)) : XT X σ H (.Compare a [.Eq] [b] pos) (decide (m = n)) :=
  xt_cmp op_eq ha hb fun H1 v w s hv hw Q q => by
    rw [dp_int hv, dp_int hw]
    exact ⟨rfl, by rw [dec_int]; exact q H1 (Same.refl _)⟩
theorem xt_neI {m n : Int} (ha : XD X M σ H a (.int m)) (hb : XD X M σ H b (.int n)) : XT X σ H (.Compare a [.NotEq] [b] pos) (!decide (m = n)) :=
  xt_cmp op_ne ha hb fun H1 v w s hv hw Q q => by
    rw [dp_int hv, dp_int hw]
    exact ⟨rfl, by rw [dec_int]; exact q H1 (Same.refl _)⟩
theorem xd_eqD (hu : X.A.units + 64 < cLine) (ha : XD X M σ H a d1) (hb : XD X M σ H b d2) (s1 : SeqAt.shaped d1 = true) (s2 : SeqAt.shaped d2 = true) : XD X M σ H (.Compare a [.Eq] [b] pos) (.bool (PyData.eqv d1 d2)) :=
  xd_cmp (op_eqD hu) ha hb fun H1 v w s hv hw Q q => ⟨d1, d2, (hv.up hid_le).dp, (hw.up hid_le).dp, s1, s2, q _ H1 (Same.refl _) (.bl _)⟩
theorem xd_neD (hu : X.A.units + 64 < cLine) (ha : XD X M σ H a d1) (hb : XD X M σ H b d2) (s1 : SeqAt.shaped d1 = true) (s2 : SeqAt.shaped d2 = true) : XD X M σ H (.Compare a [.NotEq] [b] pos) (.bool (!PyData.eqv d1 d2)) :=
  xd_cmp (op_neD hu) ha hb fun H1 v w s hv hw Q q => ⟨d1, d2, (hv.up hid_le).dp, (hw.up hid_le).dp, s1, s2, q _ H1 (Same.refl _) (.bl _)⟩
theorem xt_eqD (hu : X.A.units + 64 < cLine) (ha : XD X M σ H a d1) (hb : XD X M σ H b d2) (s1 : SeqAt.shaped d1 = true) (s2 : SeqAt.shaped d2 = true) : XT X σ H (.Compare a [.Eq] [b] pos) (PyData.eqv d1 d2) :=
  xt_cmp (op_eqD hu) ha hb fun H1 v w s hv hw Q q => ⟨d1, d2, (hv.up hid_le).dp, (hw.up hid_le).dp, s1, s2, q H1 (Same.refl _)⟩
theorem xt_neD (hu : X.A.units + 64 < cLine) (ha : XD X M σ H a d1) (hb : XD X M σ H b d2) (s1 : SeqAt.shaped d1 = true) (s2 : SeqAt.shaped d2 = true) : XT X σ H (.Compare a [.NotEq] [b] pos) (!PyData.eqv d1 d2) :=
  xt_cmp (op_neD hu) ha hb fun H1 v w s hv hw Q q => ⟨d1, d2, (hv.up hid_le).dp, (hw.up hid_le).dp, s1, s2, q H1 (Same.refl _)⟩
/-! not, and, or -/
theorem xd_not {k : Bool} (ha : XD X M σ H a (.bool k)) : XD X M σ H (.UnaryOp .Not a pos) (.bool (!k)) := fun H1 s Q q =>
  ⟨_, pe_not re_, ha H1 s _ fun v H2 s2 hv => ⟨k, dp_bl hv, q _ H2 s2 (.bl _)⟩⟩
theorem xd_one {op} (ha : XD X M σ H a d) : XD X M σ H (.BoolOp op [a] pos) d := fun H1 s Q q => ⟨_, pe_one re_, ha H1 s Q q⟩
theorem xd_andT {rest : List Expr} (ha : XD X M σ H a (.bool true)) (hb : XD X M σ H (.BoolOp .And (b :: rest) pos) d) : XD X M σ H (.BoolOp .And (a :: b :: rest) pos) d := fun H1 s Q q =>
  ⟨_, pe_and re_ re_, ha H1 s _ fun v H2 s2 hv => ⟨true, dp_bl hv, iteT (hb H2 (s.trans s2) Q fun u H3 s3 hu => q u H3 (s2.trans s3) hu)⟩⟩
theorem xd_andF {rest : List Expr} (ha : XD X M σ H a (.bool false)) : XD X M σ H (.BoolOp .And (a :: b :: rest) pos) (.bool false) := fun H1 s Q q =>
  ⟨_, pe_and re_ re_, ha H1 s _ fun v H2 s2 hv => ⟨false, dp_bl hv, iteF (q _ H2 s2 (.bl _))⟩⟩
theorem xd_and2 {k1 k2 : Bool} (ha : XD X M σ H a (.bool k1)) (hb : k1 = true → XD X M σ H b (.bool k2)) : XD X M σ H (.BoolOp .And [a, b] pos) (.bool (k1 && k2)) := by
  cases k1 with
  | true => exact xd_andT ha (xd_one (hb rfl))
  | false => exact xd_andF ha
theorem xd_orF {rest : List Expr} (ha : XD X M σ H a (.bool false)) (hb : XD X M σ H (.BoolOp .Or (b :: rest) pos) d) : XD X M σ H (.BoolOp .Or (a :: b :: rest) pos) d := fun H1 s Q q =>
  ⟨_, pe_or re_ re_, ha H1 s _ fun v H2 s2 hv => ⟨false, dp_bl hv, iteF (hb H2 (s.trans s2) Q fun u H3 s3 hu => q u H3 (s2.trans s3) hu)⟩⟩
theorem xd_orT {rest : List Expr} (ha : XD X M σ H a (.bool true)) : XD X M σ H (.BoolOp .Or (a :: b :: rest) pos) (.bool true) := fun H1 s Q q =>
  ⟨_, pe_or re_ re_, ha H1 s _ fun v H2 s2 hv => ⟨true, dp_bl hv, iteT (q _ H2 s2 (.bl _))⟩⟩
theorem xt_val {k : Bool} (h : XD X M σ H e (.bool k)) (he : ∀ whole, isTrue e X.env whole = (do let v ← whole; standAt e.pos; holding [v] (truthy v)) := by intro _; rfl) : XT X σ H e k := fun H1 s Q q =>
  ⟨_, pt_val re_ he, h H1 s _ fun v H2 s2 hv => ⟨k, dp_bl hv, q H2 s2⟩⟩
theorem xt_not {k : Bool} (ha : XT X σ H a k) : XT X σ H (.UnaryOp .Not a pos) (!k) := fun H1 s Q q => ⟨_, pt_not rt_, ha H1 s _ q⟩
theorem xw_and1 {k : Bool} (ha : XT X σ H a k) : XW X σ H (.BoolOp .And [a] pos) k := fun H1 s Q q => ⟨_, pw_and1 rt_, ha H1 s _ q⟩
theorem xw_or1 {k : Bool} (ha : XT X σ H a k) : XW X σ H (.BoolOp .Or [a] pos) k := fun H1 s Q q => ⟨_, pw_or1 rt_, ha H1 s _ q⟩
theorem xw_andT {k : Bool} {rest : List Expr} (ha : XT X σ H a true) (hb : XW X σ H (.BoolOp .And (b :: rest) pos) k) : XW X σ H (.BoolOp .And (a :: b :: rest) pos) k := fun H1 s Q q =>
  ⟨_, pw_and rt_ rw_, ha H1 s _ fun H2 s2 => iteT (hb H2 (s.trans s2) Q fun H3 s3 => q H3 (s2.trans s3))⟩
theorem xw_andF {rest : List Expr} (ha : XT X σ H a false) : XW X σ H (.BoolOp .And (a :: b :: rest) pos) false := fun H1 s Q q =>
  ⟨_, pw_and rt_ rw_, ha H1 s _ fun H2 s2 => iteF (q H2 s2)⟩
theorem xw_orF {k : Bool} {rest : List Expr} (ha : XT X σ H a false) (hb : XW X σ H (.BoolOp .Or (b :: rest) pos) k) : XW X σ H (.BoolOp .Or (a :: b :: rest) pos) k := fun H1 s Q q =>
  ⟨_, pw_or rt_ rw_, ha H1 s _ fun H2 s2 => iteF (hb H2 (s.trans s2) Q fun H3 s3 => q H3 (s2.trans s3))⟩
theorem xw_orT {rest : List Expr} (ha : XT X σ H a true) : XW X σ H (.BoolOp .Or (a :: b :: rest) pos) true := fun H1 s Q q =>
  ⟨_, pw_or rt_ rw_, ha H1 s _ fun H2 s2 => iteT (q H2 s2)⟩
theorem XW.t {k : Bool} (h : XW X σ H e k) : XT X σ H e k := fun H1 s Q q => ⟨_, PW.pt rw_, h H1 s Q q⟩
theorem xt_and2 {k1 k2 : Bool} (ha : XT X σ H a k1) (hb : k1 = true → XT X σ H b k2) : XT X σ H (.BoolOp .And [a, b] pos) (k1 && k2) := by
  cases k1 with
  | true => exact (xw_andT ha (xw_and1 (hb rfl))).t
  | false => exact (xw_andF ha).t
theorem xt_or2 {k1 k2 : Bool} (ha : XT X σ H a k1) (hb : k1 = false → XT X σ H b k2) : XT X σ H (.BoolOp .Or [a, b] pos) (k1 || k2) := by
  cases k1 with
  | false => exact (xw_orF ha (xw_or1 (hb rfl))).t
  | true => exact (xw_orT ha).t
theorem xd_ifT {k : Expr} (hc : XT X σ H k true) (ha : XD X M σ H a d) : XD X M σ H (.IfExp k a b pos) d := fun H1 s Q q =>
  ⟨_, pe_ifExp rt_ re_ re_, hc H1 s _ fun H2 s2 => iteT (ha H2 (s.trans s2) Q fun u H3 s3 hu => q u H3 (s2.trans s3) hu)⟩
theorem xd_ifF {k : Expr} (hc : XT X σ H k false) (hb : XD X M σ H b d) : XD X M σ H (.IfExp k a b pos) d := fun H1 s Q q =>
  ⟨_, pe_ifExp rt_ re_ re_, hc H1 s _ fun H2 s2 => iteF (hb H2 (s.trans s2) Q fun u H3 s3 hu => q u H3 (s2.trans s3) hu)⟩
end
end Dl

set_option Elab.async false
set_option linter.all false
set_option maxRecDepth 100000
set_option maxHeartbeats 4000000
/-! Data layer, part 2: statements, subscripts, built-ins, lists, comprehensions, loops. -/
namespace Dl
open PySem PySem.Spec PyProof.Rows L2
section
variable {X : Cx} {M : List Addr} {σ : L2.St} {H H' : Hp} {e a b c o : Expr} {es : List Expr} {d d1 d2 : PyData} {ds es' : List PyData} {i : Nat} {x : Str} {v : V} {pos p1 p2 p3 : Pos} {D : Ends} {rest sts : List Stmt} {st : Stmt}
theorem XD.go {Q : VK} (h : XD X M σ H e d) (k : ∀ v H2, Same H H2 → Dq X.K (hid M H2) v d → Q v H2) : RE X e σ H Q := h H (Same.refl H) Q k
theorem XL.go {Q : VK} (h : XL X M σ H e ds) (k : ∀ p xs H2, Same H H2 → H p = none → H2 p = some (.lst xs) → DqAll X.K (hid M H2) xs ds → Q (.ref p) H2) : RE X e σ H Q := h H (Same.refl H) Q k
theorem XV.go {Q : VK} (h : XV X σ H e v) (k : ∀ H2, Same H H2 → Q v H2) : RE X e σ H Q := h H (Same.refl H) Q k
theorem XA.go {Q : List V → Hp → Prop} (h : XA X M σ H es ds) (k : ∀ vs H2, Same H H2 → DqAll X.K (hid M H2) vs ds → Q vs H2) : RA X es σ H Q := h H (Same.refl H) Q k
/-! ### statements -/
theorem rb_nil (h : D.nx σ H) : RB X [] D σ H := ⟨_, pss_nil, h⟩
theorem rb_cons (h : RS X st { D with nx := RB X rest D } σ H) : RB X (st :: rest) D σ H := ⟨_, pss_cons rs_ rb_, h⟩
/-- x = e, by the raw reading -/
theorem rb_setR (i : Nat) {x : Str} {pos' : Pos} (h : RE X e σ H fun v H1 => RB X rest D (σ.set i (some v)) H1) (hN : X.N.Nodup) (hi : X.N[i]? = some x := by rfl) (hx : Loc X.env.scope x := by first | exact Or.inl rfl | exact Or.inr rfl)
    (hs : swapsWith e (some (.Name x pos')) pos.line X.env = pure false := by rfl) (hf : X.fn x = true ∨ X.env.scope.names.lookup x = some .local := by first | exact .inl rfl | exact .inr rfl) : RB X (.Assign [.Name x pos'] e pos :: rest) D σ H :=
  ⟨_, pss_cons (ps_set hN hi hx re_ hs hf) rb_, h⟩
theorem rb_set (i : Nat) {x : Str} {pos' : Pos} (h : XD X M σ H e d) (k : ∀ v H1, Same H H1 → Dq X.K (hid M H1) v d → RB X rest D (σ.set i (some v)) H1) (hN : X.N.Nodup) (hi : X.N[i]? = some x := by rfl) (hx : Loc X.env.scope x := by first | exact Or.inl rfl | exact Or.inr rfl)
    (hs : swapsWith e (some (.Name x pos')) pos.line X.env = pure false := by rfl) (hf : X.fn x = true ∨ X.env.scope.names.lookup x = some .local := by first | exact .inl rfl | exact .inr rfl) : RB X (.Assign [.Name x pos'] e pos :: rest) D σ H :=
  rb_setR i (h H (Same.refl H) _ fun v H1 s hv => k v H1 s hv) hN hi hx hs hf
theorem rb_setL (i : Nat) {x : Str} {pos' : Pos} (h : XL X M σ H e ds) (k : ∀ p xs H1, Same H H1 → H p = none → H1 p = some (.lst xs) → DqAll X.K (hid M H1) xs ds → RB X rest D (σ.set i (some (.ref p))) H1) (hN : X.N.Nodup) (hi : X.N[i]? = some x := by rfl) (hx : Loc X.env.scope x := by first | exact Or.inl rfl | exact Or.inr rfl)
    (hs : swapsWith e (some (.Name x pos')) pos.line X.env = pure false := by rfl) (hf : X.fn x = true ∨ X.env.scope.names.lookup x = some .local := by first | exact .inl rfl | exact .inr rfl) : RB X (.Assign [.Name x pos'] e pos :: rest) D σ H :=
  rb_setR i (h H (Same.refl H) _ fun p xs H1 s hp h1 hd => k p xs H1 s hp h1 hd) hN hi hx hs hf
theorem rb_setV (i : Nat) {x : Str} {pos' : Pos} (h : XV X σ H e v) (k : ∀ H1, Same H H1 → RB X rest D (σ.set i (some v)) H1) (hN : X.N.Nodup) (hi : X.N[i]? = some x := by rfl) (hx : Loc X.env.scope x := by first | exact Or.inl rfl | exact Or.inr rfl)
    (hs : swapsWith e (some (.Name x pos')) pos.line X.env = pure false := by rfl) (hf : X.fn x = true ∨ X.env.scope.names.lookup x = some .local := by first | exact .inl rfl | exact .inr rfl) : RB X (.Assign [.Name x pos'] e pos :: rest) D σ H :=
  rb_setR i (h H (Same.refl H) _ fun H1 s => k H1 s) hN hi hx hs hf
theorem rb_retR (h : RE X e σ H D.rt) : RB X (.Return (some e) pos :: rest) D σ H := ⟨_, pss_cons (ps_ret re_) rb_, h⟩
theorem rb_ret (h : XD X M σ H e d) (k : ∀ v H1, Same H H1 → Dq X.K (hid M H1) v d → D.rt v H1) : RB X (.Return (some e) pos :: rest) D σ H := rb_retR (h H (Same.refl H) _ fun v H1 s hv => k v H1 s hv)
theorem rb_exprR (h : RE X e σ H fun _ H1 => RB X rest D σ H1) (hs : swapsWith e none pos.line X.env = pure false := by rfl) : RB X (.Expr e pos :: rest) D σ H := ⟨_, pss_cons (ps_expr re_ hs) rb_, h⟩
theorem rb_expr (h : XD X M σ H e d) (k : ∀ H1, Same H H1 → RB X rest D σ H1) (hs : swapsWith e none pos.line X.env = pure false := by rfl) : RB X (.Expr e pos :: rest) D σ H := rb_exprR (h H (Same.refl H) _ fun _ H1 s _ => k H1 s) hs
theorem rb_ifR {t f : List Stmt} (h : RT X c σ H fun k H1 => if k = true then RB X t { D with nx := RB X rest D } σ H1 else RB X f { D with nx := RB X rest D } σ H1) : RB X (.If c t f pos :: rest) D σ H := ⟨_, pss_cons (ps_if rt_ rb_ rb_) rb_, h⟩
theorem rb_if {k : Bool} {t f : List Stmt} (h : XT X σ H c k) (hT : k = true → ∀ H1, Same H H1 → RB X t { D with nx := RB X rest D } σ H1) (hF : k = false → ∀ H1, Same H H1 → RB X f { D with nx := RB X rest D } σ H1) : RB X (.If c t f pos :: rest) D σ H :=
  rb_ifR (h H (Same.refl H) _ fun H1 s => by
    cases k with
    | true => exact iteT (hT rfl H1 s)
    | false => exact iteF (hF rfl H1 s))
/-- if c: .. (no else) with c false -/
theorem rb_ifF {t : List Stmt} (h : XT X σ H c false) (k : ∀ H1, Same H H1 → RB X rest D σ H1) : RB X (.If c t [] pos :: rest) D σ H := rb_if h (fun z => Bool.noConfusion z) fun _ H1 s => rb_nil (k H1 s)
theorem rb_ifT {t f : List Stmt} (h : XT X σ H c true) (k : ∀ H1, Same H H1 → RB X t { D with nx := RB X rest D } σ H1) : RB X (.If c t f pos :: rest) D σ H := rb_if h (fun _ => k) fun z => Bool.noConfusion z
theorem rb_par (i j : Nat) {x y : Str} {px py pt : Pos} {kt k2 pt2} (ha : XA X M σ H [a, b] [d1, d2]) (k : ∀ v w H1, Same H H1 → Dq X.K (hid M H1) v d1 → Dq X.K (hid M H1) w d2 → RB X rest D ((σ.set i (some v)).set j (some w)) H1) (hN : X.N.Nodup)
    (hw : swappedStores [.Tuple [.Name x px, .Name y py] kt pt] (.Tuple [a, b] k2 pt2) X.env = pure (some [x, y]) := by rfl) (hc : X.calm = true := by rfl) (hi : X.N[i]? = some x := by rfl) (hj : X.N[j]? = some y := by rfl) (hij : i ≠ j := by decide)
    (hx : X.env.scope.names.lookup x = some .local := by rfl) (hy : X.env.scope.names.lookup y = some .local := by rfl)
    (hs : swapsWithSole [.Tuple [.Name x px, .Name y py] kt pt] (.Tuple [a, b] k2 pt2) pos.line X.env = pure false := by rfl) : RB X (.Assign [.Tuple [.Name x px, .Name y py] kt pt] (.Tuple [a, b] k2 pt2) pos :: rest) D σ H :=
  ⟨_, pss_cons (ps_par hc hN hi hj hij hx hy ra_ hw hs) rb_, ha H (Same.refl H) _ fun vs H1 s hv => by
    cases hv with
    | cons h1 h2 => cases h2 with
      | cons h2 h3 => cases h3; exact ⟨_, _, rfl, k _ _ H1 s h1 h2⟩⟩
/-- targets: a name; names of a tuple -/
def RG (X : Cx) (tg : Expr) : TG := fun v σ H Q => ∃ g, PG X tg g ∧ g v σ H Q
theorem rg_ {tg : Expr} : PG X tg (RG X tg) := ⟨fun pins s σ H v u Q I r ⟨_, h, q⟩ => h.run pins s σ H v u Q I r q⟩
def RGs (X : Cx) (tg : List Expr) : TGs := fun v σ H Q => ∃ g, PGs X tg g ∧ g v σ H Q
theorem rgs_ {tg : List Expr} : PGs X tg (RGs X tg) := ⟨fun pins s σ H v u Q I r ⟨_, h, q⟩ => h.run pins s σ H v u Q I r q⟩
theorem rg_name (i : Nat) {x : Str} {Q : L2.St → Hp → Prop} (q : Q (σ.set i (some v)) H) (hN : X.N.Nodup) (hi : X.N[i]? = some x := by rfl) (hx : Loc X.env.scope x := by first | exact Or.inl rfl | exact Or.inr rfl) (hf : X.fn x = true ∨ X.env.scope.names.lookup x = some .local := by first | exact .inl rfl | exact .inr rfl) :
    RG X (.Name x pos) v σ H Q := ⟨_, pg_name hN hi hx hf, q⟩
theorem rgs_nil {Q : L2.St → Hp → Prop} (q : Q σ H) : RGs X [] [] σ H Q := ⟨_, pgs_nil, rfl, q⟩
theorem rgs_cons {tg : Expr} {tgs : List Expr} {vs : List V} {Q : L2.St → Hp → Prop} (h : RG X tg v σ H fun σ1 H1 => RGs X tgs vs σ1 H1 Q) (hs : (assignEach (tg :: tgs) X.env).map (·.2) = assign tg X.env :: (assignEach tgs X.env).map (·.2) := by rfl) : RGs X (tg :: tgs) (v :: vs) σ H Q :=
  ⟨_, pgs_cons rg_ rgs_ hs, v, vs, rfl, h⟩
theorem rg_tup {tgs : List Expr} {k : Nat} {xs : List V} {p : Addr} {Q : L2.St → Hp → Prop} (hT : SqT X.K H p xs) (h : RGs X tgs xs σ H Q) (hc : X.calm = true := by rfl)
    (hn : (assignEach tgs X.env).length = xs.length := by rfl) (hst : (assignEach tgs X.env).findIdx? (·.1) = none := by rfl) : RG X (.Tuple tgs k pos) (.ref p) σ H Q := ⟨_, pg_tup (n := xs.length) hc rgs_ hn hst, p, xs, rfl, hT, rfl, h⟩
theorem rb_asgR {tg : Expr} (h : RE X e σ H fun v H1 => RG X tg v σ H1 (RB X rest D)) (hs : swapsWithSole [tg] e pos.line X.env = pure false := by rfl) (hw : swappedStores [tg] e X.env = pure none := by rfl)
    (h1 : (assignEach [tg] X.env).map (·.2) = [assign tg X.env] := by rfl) : RB X (.Assign [tg] e pos :: rest) D σ H := ⟨_, pss_cons (ps_asg re_ rg_ hs hw h1) rb_, h⟩
/-! ### calls of built-ins -/
theorem re_B {id : String} {r : List V → Hp → VK → Prop} {Q : VK} (hc : CallR X (.builtin id) r) (h : RA X (e :: es) σ H fun vs H1 => r vs H1 Q) (hm : X.mg x = none) (hv : bootBuiltins x = some (.builtin id)) (hg : Gl X x := by rfl) (hn : x ≠ "__name__" := by decide) (hdb : (x == ("__debug__" : Str)) = false := by decide)
    (he : starEach (e :: es) X.env = (false, eval e X.env) :: starEach es X.env := by rfl) (hpl : (backTo pos (starEach es X.env)).any (·.1) = false := by rfl) : RE X (.Call (.Name x p1) (e :: es) [] pos) σ H Q := ⟨_, pe_callB hc hg hm hv ra_ hn hdb he hpl, h⟩
theorem re_Ty {T : String} {r : List V → Hp → VK → Prop} {Q : VK} (hc : CallR X (.type T) r) (h : RA X (e :: es) σ H fun vs H1 => r vs H1 Q) (hm : X.mg x = none) (hv : bootBuiltins x = some (.type T)) (hg : Gl X x := by rfl) (hn : x ≠ "__name__" := by decide) (hdb : (x == ("__debug__" : Str)) = false := by decide)
    (he : starEach (e :: es) X.env = (false, eval e X.env) :: starEach es X.env := by rfl) (hpl : (backTo pos (starEach es X.env)).any (·.1) = false := by rfl) : RE X (.Call (.Name x p1) (e :: es) [] pos) σ H Q := ⟨_, pe_callTy hc hg hm hv ra_ hn hdb he hpl, h⟩
theorem ra_nil {Q : List V → Hp → Prop} (q : Q [] H) : RA X [] σ H Q := ⟨_, pa_nil, q⟩
theorem ra_cons {Q : List V → Hp → Prop} (h : RE X e σ H fun v H1 => RA X es σ H1 fun vs H2 => Q (v :: vs) H2) (hs : starEach (e :: es) X.env = (false, eval e X.env) :: starEach es X.env := by rfl) : RA X (e :: es) σ H Q := ⟨_, pa_cons re_ ra_ hs, h⟩
end
end Dl

set_option Elab.async false
set_option linter.all false
set_option maxRecDepth 100000
set_option maxHeartbeats 4000000
/-! Data layer, part 3: built-ins, subscripts, lists, loops, comprehensions. -/
namespace Dl
open PySem PySem.Spec PyProof.Rows L2
section
variable {X : Cx} {M : List Addr} {σ : L2.St} {H H' : Hp} {e a b c o : Expr} {es : List Expr} {d d1 d2 : PyData} {ds ds2 es' : List PyData} {x : Str} {v : V} {pos p1 p2 p3 : Pos} {D : Ends} {rest sts : List Stmt} {st : Stmt}
theorem re_mono {Q Q' : VK} (h : RE X e σ H Q) (k : ∀ v H1, Q v H1 → Q' v H1) : RE X e σ H Q' := by
  obtain ⟨t, ht, q⟩ := h
  exact ⟨fun σ H Q' => ∃ Q, t σ H Q ∧ ∀ v H1, Q v H1 → Q' v H1, ⟨fun pins s σ H Q' I ⟨Q, q, k⟩ => thn (ht.run pins s σ H Q I q) fun u s' ⟨v, H1, I1, r1, q1⟩ => ⟨v, H1, I1, r1, k v H1 q1⟩⟩, Q, q, k⟩
theorem ra_mono {Q Q' : List V → Hp → Prop} (h : RA X es σ H Q) (k : ∀ v H1, Q v H1 → Q' v H1) : RA X es σ H Q' := by
  obtain ⟨t, ht, q⟩ := h
  exact ⟨fun σ H Q' => ∃ Q, t σ H Q ∧ ∀ v H1, Q v H1 → Q' v H1, ⟨fun pos pins s σ H Q' I ⟨Q, q, k⟩ => thn (ht.run pos pins s σ H Q I q) fun u s' ⟨v, H1, I1, r1, q1⟩ => ⟨v, H1, I1, r1, k v H1 q1⟩⟩, Q, q, k⟩
theorem rb_mono {D D' : Ends} (h : RB X sts D σ H) (h1 : ∀ σ H, D.nx σ H → D'.nx σ H) (h2 : ∀ v H, D.rt v H → D'.rt v H) (h3 : ∀ σ H, D.bk σ H → D'.bk σ H) (h4 : ∀ σ H, D.ct σ H → D'.ct σ H) : RB X sts D' σ H := by
  obtain ⟨t, ht, q⟩ := h
  refine ⟨fun D' σ H => ∃ D, t D σ H ∧ (∀ σ H, D.nx σ H → D'.nx σ H) ∧ (∀ v H, D.rt v H → D'.rt v H) ∧ (∀ σ H, D.bk σ H → D'.bk σ H) ∧ (∀ σ H, D.ct σ H → D'.ct σ H), ⟨fun pins s σ H D' I ⟨D, q, h1, h2, h3, h4⟩ => thn (ht.run pins s σ H D I q) fun f s' hs => ?_⟩, D, q, h1, h2, h3, h4⟩
  cases f with
  | next => obtain ⟨σ', H', I', q⟩ := hs; exact ⟨σ', H', I', h1 _ _ q⟩
  | brk => obtain ⟨σ', H', I', q⟩ := hs; exact ⟨σ', H', I', h3 _ _ q⟩
  | cont => obtain ⟨σ', H', I', q⟩ := hs; exact ⟨σ', H', I', h4 _ _ q⟩
  | ret u => obtain ⟨v, σ', H', I', r, q⟩ := hs; exact ⟨v, σ', H', I', r, h2 _ _ q⟩
theorem ra_1 {Q : List V → Hp → Prop} (h : RE X e σ H fun v H1 => Q [v] H1) (hs : starEach [e] X.env = (false, eval e X.env) :: starEach [] X.env := by rfl) : RA X [e] σ H Q := ra_cons (re_mono h fun v H1 q => ra_nil q) hs
/-- a call of a built-in whose reading asks nothing but data -/
theorem xd_B {id : String} {r : List V → Hp → VK → Prop} (hc : CallR X (.builtin id) r) (ha : XA X M σ H (e :: es) ds)
    (hr : ∀ H1 vs, Same H H1 → DqAll X.K (hid M H1) vs ds → ∀ Q : VK, (∀ u H2, Same H1 H2 → Dq X.K (hid M H2) u d → Q u H2) → r vs H1 Q) (hm : X.mg x = none) (hv : bootBuiltins x = some (.builtin id)) (hg : Gl X x := by rfl) (hn : x ≠ "__name__" := by decide) (hdb : (x == ("__debug__" : Str)) = false := by decide)
    (he : starEach (e :: es) X.env = (false, eval e X.env) :: starEach es X.env := by rfl) (hpl : (backTo pos (starEach es X.env)).any (·.1) = false := by rfl) : XD X M σ H (.Call (.Name x p1) (e :: es) [] pos) d := fun H1 s Q q =>
  re_B hc (ha H1 s _ fun vs H2 s2 hvs => hr H2 vs (s.trans s2) hvs Q fun u H3 s3 hu => q u H3 (s2.trans s3) hu) hm hv hg hn hdb he hpl
theorem xd_len (hm : X.mg "len" = none) (ha : XD X M σ H e (.list ds)) (hg : Gl X "len" := by rfl) (he : starEach [e] X.env = (false, eval e X.env) :: starEach [] X.env := by rfl) (hpl : (backTo pos (starEach [] X.env)).any (·.1) = false := by rfl) :
    XD X M σ H (.Call (.Name "len" p1) [e] [] pos) (.int ds.length) :=
  xd_B call_len_seq (xa_cons ha xa_nil he) (fun H1 vs s h Q q => by
    cases h with
    | cons h1 h2 =>
      cases h2
      obtain ⟨p, xs, rfl, hp, hx⟩ := dp_lst h1
      exact ⟨p, xs, rfl, .inl (SqL.of (hid_le _ _ hp)), by rw [dpa_len hx]; exact q _ _ (Same.refl _) (.int _)⟩) hm PySem.boot_len hg (by decide) (by decide) he hpl
theorem xd_lenT (hm : X.mg "len" = none) (ha : XD X M σ H e (.tuple ds)) (hg : Gl X "len" := by rfl) (he : starEach [e] X.env = (false, eval e X.env) :: starEach [] X.env := by rfl) (hpl : (backTo pos (starEach [] X.env)).any (·.1) = false := by rfl) :
    XD X M σ H (.Call (.Name "len" p1) [e] [] pos) (.int ds.length) :=
  xd_B call_len_seq (xa_cons ha xa_nil he) (fun H1 vs s h Q q => by
    cases h with
    | cons h1 h2 =>
      cases h2
      obtain ⟨p, xs, rfl, hp, hx⟩ := dp_tup h1
      exact ⟨p, xs, rfl, .inr (same_seqT hid_le hp), by rw [dpa_len hx]; exact q _ _ (Same.refl _) (.int _)⟩) hm PySem.boot_len hg (by decide) (by decide) he hpl
theorem xd_abs {n : Int} (hm : X.mg "abs" = none) (ha : XD X M σ H e (.int n)) (hg : Gl X "abs" := by rfl) (he : starEach [e] X.env = (false, eval e X.env) :: starEach [] X.env := by rfl) (hpl : (backTo pos (starEach [] X.env)).any (·.1) = false := by rfl) :
    XD X M σ H (.Call (.Name "abs" p1) [e] [] pos) (.int (if n < 0 then -n else n)) :=
  xd_B call_abs (xa_cons ha xa_nil he) (fun H1 vs s h Q q => by
    cases h with
    | cons h1 h2 => cases h2; exact ⟨n, by rw [dp_int h1], q _ _ (Same.refl _) (.int _)⟩) hm (by decide +kernel) hg (by decide) (by decide) he hpl
theorem xd_max {m n : Int} (hm : X.mg "max" = none) (ha : XA X M σ H [a, b] [.int m, .int n]) (hc : X.calm = true := by rfl) (hg : Gl X "max" := by rfl) (he : starEach [a, b] X.env = (false, eval a X.env) :: starEach [b] X.env := by rfl) (hpl : (backTo pos (starEach [b] X.env)).any (·.1) = false := by rfl) :
    XD X M σ H (.Call (.Name "max" p1) [a, b] [] pos) (.int (if n > m then n else m)) :=
  xd_B (call_max2 hc) ha (fun H1 vs s h Q q => by
    cases h with
    | cons h1 h2 => cases h2 with
      | cons h2 h3 => cases h3; exact ⟨m, n, by rw [dp_int h1, dp_int h2], q _ _ (Same.refl _) (.int _)⟩) hm (by decide +kernel) hg (by decide) (by decide) he hpl
theorem xd_min {m n : Int} (hm : X.mg "min" = none) (ha : XA X M σ H [a, b] [.int m, .int n]) (hc : X.calm = true := by rfl) (hg : Gl X "min" := by rfl) (he : starEach [a, b] X.env = (false, eval a X.env) :: starEach [b] X.env := by rfl) (hpl : (backTo pos (starEach [b] X.env)).any (·.1) = false := by rfl) :
    XD X M σ H (.Call (.Name "min" p1) [a, b] [] pos) (.int (if n < m then n else m)) :=
  xd_B (call_min2 hc) ha (fun H1 vs s h Q q => by
    cases h with
    | cons h1 h2 => cases h2 with
      | cons h2 h3 => cases h3; exact ⟨m, n, by rw [dp_int h1, dp_int h2], q _ _ (Same.refl _) (.int _)⟩) hm (by decide +kernel) hg (by decide) (by decide) he hpl
/-- list(x) of a list, of a tuple -/
theorem xl_listT (hm : X.mg "list" = none) (L : Live M H) (ha : XD X M σ H e (.tuple ds)) (hg : Gl X "list" := by rfl) (he : starEach [e] X.env = (false, eval e X.env) :: starEach [] X.env := by rfl) (hpl : (backTo pos (starEach [] X.env)).any (·.1) = false := by rfl) :
    XL X M σ H (.Call (.Name "list" p1) [e] [] pos) ds := fun H1 s Q q =>
  re_Ty call_list_of (ra_1 (ha H1 s _ fun v H2 s2 hv => by
    obtain ⟨p, xs, rfl, hp, hx⟩ := dp_tup hv
    refine ⟨p, xs, rfl, .inr (same_seqT hid_le hp), fun l hl => q l xs _ (s2.trans (same_new hl)) (s2.free hl) upd_same ?_⟩
    rw [hid_new (L.mono (s.trans s2)) hl]
    exact hx.up (same_new (hid_free hl))) he) hm (by decide +kernel) hg (by decide) (by decide) he hpl
theorem xl_listL (hm : X.mg "list" = none) (L : Live M H) (ha : XD X M σ H e (.list ds)) (hg : Gl X "list" := by rfl) (he : starEach [e] X.env = (false, eval e X.env) :: starEach [] X.env := by rfl) (hpl : (backTo pos (starEach [] X.env)).any (·.1) = false := by rfl) :
    XL X M σ H (.Call (.Name "list" p1) [e] [] pos) ds := fun H1 s Q q =>
  re_Ty call_list_of (ra_1 (ha H1 s _ fun v H2 s2 hv => by
    obtain ⟨p, xs, rfl, hp, hx⟩ := dp_lst hv
    refine ⟨p, xs, rfl, .inl (SqL.of (hid_le _ _ hp)), fun l hl => q l xs _ (s2.trans (same_new hl)) (s2.free hl) upd_same ?_⟩
    rw [hid_new (L.mono (s.trans s2)) hl]
    exact hx.up (same_new (hid_free hl))) he) hm (by decide +kernel) hg (by decide) (by decide) he hpl
/-- tuple(x) of a list -/
theorem xd_tupleL (hm : X.mg "tuple" = none) (L : Live M H) (ha : XD X M σ H e (.list ds)) (hg : Gl X "tuple" := by rfl) (he : starEach [e] X.env = (false, eval e X.env) :: starEach [] X.env := by rfl) (hpl : (backTo pos (starEach [] X.env)).any (·.1) = false := by rfl) :
    XD X M σ H (.Call (.Name "tuple" p1) [e] [] pos) (.tuple ds) := fun H1 s Q q =>
  re_Ty call_tuple_of (ra_1 (ha H1 s _ fun v H2 s2 hv => by
    obtain ⟨p, xs, rfl, hp, hx⟩ := dp_lst hv
    refine ⟨p, xs, rfl, .inl ⟨SqL.of (hid_le _ _ hp), fun l hl => q _ _ (s2.trans (same_new hl)) ?_⟩⟩
    rw [hid_new (L.mono (s.trans s2)) hl]
    exact .tup (SqT.of upd_same) (hx.up (same_new (hid_free hl)))) he) hm (by decide +kernel) hg (by decide) (by decide) he hpl
theorem xd_intB {k : Bool} (hm : X.mg "int" = none) (ha : XD X M σ H e (.bool k)) (hg : Gl X "int" := by rfl) (he : starEach [e] X.env = (false, eval e X.env) :: starEach [] X.env := by rfl) (hpl : (backTo pos (starEach [] X.env)).any (·.1) = false := by rfl) :
    XD X M σ H (.Call (.Name "int" p1) [e] [] pos) (.int (if k then 1 else 0)) := fun H1 s Q q =>
  re_Ty call_int1 (ra_1 (ha H1 s _ fun v H2 s2 hv => .inr ⟨k, by rw [dp_bl hv], q _ _ s2 (.int _)⟩) he) hm (by decide +kernel) hg (by decide) (by decide) he hpl
/-! ### subscripts -/
theorem atI_map {α β : Type} {xs : List α} {ys : List β} {P : α → β → Prop} (hl : xs.length = ys.length) (hg : ∀ (i : Nat) (y : β), ys[i]? = some y → ∃ x, xs[i]? = some x ∧ P x y) {n : Int} {y : β} (h : atI ys n = some y) : ∃ x, atI xs n = some x ∧ P x y := by
  unfold atI at h ⊢
  rw [hl]
  cases e : ixN ys.length n with
  | none => rw [e] at h; cases h
  | some j =>
    rw [e] at h
    exact hg j y h
theorem xd_ixL {n : Int} (hs : PlainIx b) (ha : XD X M σ H a (.list ds)) (hb : XD X M σ H b (.int n)) (h : atI ds n = some d) : XD X M σ H (.Subscript a b pos) d := fun H1 s Q q =>
  ⟨_, pe_ix ix_list re_ re_ hs, ha H1 s _ fun v H2 s2 hv => hb H2 (s.trans s2) _ fun w H3 s3 hw => by
    obtain ⟨p, xs, rfl, hp, hx⟩ := dp_lst (hv.up (hid_mono s3))
    obtain ⟨u, hu, hd⟩ := atI_map (dpa_len hx) (fun i y h => dpa_get hx h) h
    exact ⟨p, xs, n, u, rfl, dp_int hw, SqL.of (hid_le _ _ hp), hu, q u H3 (s2.trans s3) hd⟩⟩
theorem xd_ixT {n : Int} (hs : PlainIx b) (ha : XD X M σ H a (.tuple ds)) (hb : XD X M σ H b (.int n)) (h : atI ds n = some d) : XD X M σ H (.Subscript a b pos) d := fun H1 s Q q =>
  ⟨_, pe_ix ix_tup re_ re_ hs, ha H1 s _ fun v H2 s2 hv => hb H2 (s.trans s2) _ fun w H3 s3 hw => by
    obtain ⟨p, xs, rfl, hp, hx⟩ := dp_tup (hv.up (hid_mono s3))
    obtain ⟨u, hu, hd⟩ := atI_map (dpa_len hx) (fun i y h => dpa_get hx h) h
    exact ⟨p, xs, n, u, rfl, dp_int hw, same_seqT hid_le hp, hu, q u H3 (s2.trans s3) hd⟩⟩
/-- xs[lo:hi] of a list -/
def XO (X : Cx) (σ : L2.St) (H : Hp) (e : Option Expr) (n : Option Int) : Prop := ∀ H1, Same H H1 → ∀ Q : Option Int → Hp → Prop, (∀ H2, Same H1 H2 → Q n H2) → ∃ t, PO X e t ∧ t σ H1 Q
theorem xo_none : XO X σ H none none := fun H1 s Q q => ⟨_, po_none, q H1 (Same.refl _)⟩
theorem xo_some {n : Int} (h : XD X M σ H e (.int n)) : XO X σ H (some e) (some n) := fun H1 s Q q => ⟨_, po_some re_, h H1 s _ fun v H2 s2 hv => ⟨n, dp_int hv, q H2 s2⟩⟩
def cutD (xs : List PyData) (lo hi : Option Int) : List PyData := (xs.drop (HT.sIx xs.length 0 lo)).take (HT.sIx xs.length xs.length hi - HT.sIx xs.length 0 lo)
def RO (X : Cx) (e : Option Expr) : L2.St → Hp → (Option Int → Hp → Prop) → Prop := fun σ H Q => ∃ t, PO X e t ∧ t σ H Q
theorem ro_ {e : Option Expr} : PO X e (RO X e) := ⟨fun pins s σ H Q I ⟨_, h, q⟩ => h.run pins s σ H Q I q⟩
theorem xl_cut {lo hi : Option Expr} {m n : Option Int} (L : Live M H) (ha : XD X M σ H a (.list ds)) (hl : XO X σ H lo m) (hu : XO X σ H hi n) : XL X M σ H (.Subscript a (.Slice lo hi none p2) pos) (cutD ds m n) := fun H1 s Q q =>
  ⟨_, pe_slice sl_list re_ ro_ ro_, ha H1 s _ fun v H2 s2 hv => hl H2 (s.trans s2) _ fun H3 s3 => hu H3 ((s.trans s2).trans s3) _ fun H4 s4 => by
    obtain ⟨p, xs, rfl, hp, hx⟩ := dp_lst (hv.up (hid_mono (s3.trans s4)))
    refine ⟨p, xs, rfl, SqL.of (hid_le _ _ hp), fun l hl => q l _ _ ((s2.trans (s3.trans s4)).trans (same_new hl)) ((s2.trans (s3.trans s4)).free hl) upd_same ?_⟩
    rw [hid_new (L.mono (s.trans (s2.trans (s3.trans s4)))) hl]
    have hz := dpa_len hx
    unfold cutV cutD
    rw [hz]
    exact (dpa_take _ (dpa_drop _ hx)).up (same_new (hid_free hl))⟩
/-! ### lists -/
theorem xl_cat (L : Live M H) (ha : XD X M σ H a (.list ds)) (hb : XD X M σ H b (.list ds2)) (hz : ds.length + ds2.length ≤ 100000) : XL X M σ H (.BinOp a .Add b pos) (ds ++ ds2) := fun H1 s Q q =>
  ⟨_, pe_op op_cat re_ re_, ha H1 s _ fun v H2 s2 hv => hb H2 (s.trans s2) _ fun w H3 s3 hw => by
    obtain ⟨p, xs, rfl, hp, hx⟩ := dp_lst (hv.up (hid_mono s3))
    obtain ⟨p', ys, rfl, hp', hy⟩ := dp_lst hw
    refine ⟨p, p', xs, ys, rfl, rfl, hid_le _ _ hp, hid_le _ _ hp', by rw [dpa_len hx, dpa_len hy]; exact small_sz hz, fun l hl => q l _ _ ((s2.trans s3).trans (same_new hl)) ((s2.trans s3).free hl) upd_same ?_⟩
    rw [hid_new (L.mono ((s.trans s2).trans s3)) hl]
    exact (dpa_app hx hy).up (same_new (hid_free hl))⟩
/-- l.append(e), l one of M's lists -/
theorem rb_append {l : Addr} {xs : List V} (hl : l ∈ M) (ho : XV X σ H o (.ref l)) (h1 : H l = some (.lst xs)) (he : XD X M σ H e d) (hz : xs.length < 100000) (k : ∀ v H1, Same H H1 → Dq X.K (hid M H1) v d → RB X rest D σ (upd H1 l (.lst (xs ++ [v]))))
    (hbase : attributeBase o "append" X.env (eval o X.env) = eval o X.env := by rfl)
    (hfew : ((backTo p2 (starEach [e] X.env)).all (fun x => !x.1) && (backToKw p2 (keywordEach [] X.env)).all (fun x => x.1.isSome) && decide ([e].length + ([] : List Keyword).length + (if ([] : List Keyword).isEmpty then 0 else 1) < 30)) = true := by rfl)
    (hline : (p1.endLine == p2.line) = true := by rfl) (hs : starEach [e] X.env = (false, eval e X.env) :: starEach [] X.env := by rfl) (hplain : (backTo p2 (starEach [] X.env)).any (·.1) = false := by rfl)
    (hsw : swapsWith (.Call (.Attribute o "append" p1) [e] [] p2) none pos.line X.env = pure false := by rfl) : RB X (.Expr (.Call (.Attribute o "append" p1) [e] [] p2) pos :: rest) D σ H :=
  rb_exprR ⟨_, pe_bm PySem.F.plainAttrs_list PySem.F.slot_list_append PySem.F.type_list_append mt_append re_ ra_ hbase hfew hline hs hplain,
    ho H (Same.refl H) _ fun H1 s1 => ⟨.inl ⟨rfl, xs, SqL.of (s1 _ _ h1)⟩, ra_1 (he H1 s1 _ fun v H2 s2 hv => ⟨l, xs, v, rfl, rfl, (s1.trans s2) _ _ h1, Nat.lt_of_lt_of_le hz (by decide), k v H2 (s1.trans s2) hv⟩) hs⟩⟩ hsw
/-- l.extend(e) -/
theorem rb_extend {l : Addr} {xs : List V} (hl : l ∈ M) (ho : XV X σ H o (.ref l)) (h1 : H l = some (.lst xs)) (he : XD X M σ H e (.list ds)) (hz : xs.length + ds.length ≤ 100000) (k : ∀ vs H1, Same H H1 → DqAll X.K (hid M H1) vs ds → RB X rest D σ (upd H1 l (.lst (xs ++ vs))))
    (hbase : attributeBase o "extend" X.env (eval o X.env) = eval o X.env := by rfl)
    (hfew : ((backTo p2 (starEach [e] X.env)).all (fun x => !x.1) && (backToKw p2 (keywordEach [] X.env)).all (fun x => x.1.isSome) && decide ([e].length + ([] : List Keyword).length + (if ([] : List Keyword).isEmpty then 0 else 1) < 30)) = true := by rfl)
    (hline : (p1.endLine == p2.line) = true := by rfl) (hs : starEach [e] X.env = (false, eval e X.env) :: starEach [] X.env := by rfl) (hplain : (backTo p2 (starEach [] X.env)).any (·.1) = false := by rfl)
    (hsw : swapsWith (.Call (.Attribute o "extend" p1) [e] [] p2) none pos.line X.env = pure false := by rfl) : RB X (.Expr (.Call (.Attribute o "extend" p1) [e] [] p2) pos :: rest) D σ H :=
  rb_exprR ⟨_, pe_bm PySem.F.plainAttrs_list PySem.F.slot_list_extend PySem.F.type_list_extend mt_extend re_ ra_ hbase hfew hline hs hplain,
    ho H (Same.refl H) _ fun H1 s1 => ⟨.inl ⟨rfl, xs, SqL.of (s1 _ _ h1)⟩, ra_1 (he H1 s1 _ fun v H2 s2 hv => by
      obtain ⟨b, ys, rfl, hb, hy⟩ := dp_lst hv
      exact ⟨l, b, xs, ys, rfl, rfl, (s1.trans s2) _ _ h1, hid_le _ _ hb, by rw [dpa_len hy]; exact small_sz hz, k ys H2 (s1.trans s2) hy⟩) hs⟩⟩ hsw
/-! ### loops -/
/-- for tg in e: .., e a list; Pv: by the turn; the known part must stand -/
theorem rb_for {tg : Expr} {body : List Stmt} (hit : XD X M σ H e (.list ds))
    (h : ∀ H1, Same H H1 → ∃ Pv : Nat → L2.St → Hp → Prop, Pv 0 σ H1 ∧ (∀ k σ' H', Pv k σ' H' → Same (hid M H1) (hid M H')) ∧
      (∀ k d, ds[k]? = some d → ∀ σ' H' v, Pv k σ' H' → Dq X.K (hid M H') v d → RG X tg v σ' H' fun σ2 H2 => RB X body { D with nx := Pv (k + 1), ct := Pv (k + 1), bk := RB X rest D } σ2 H2) ∧ ∀ σ' H', Pv ds.length σ' H' → RB X rest D σ' H')
    (hp : PassesOwn (model X.prog X.w) X.A X.env X.xe := by exact PassesOwn.never) (hc : X.calm = true := by rfl) (hs : ∀ x, foldedSetIterable e X.env x = pure x := by intro _; rfl) : RB X (.For tg e body [] pos :: rest) D σ H :=
  ⟨_, pss_cons (ps_for hp hc (pi_list re_) rg_ rb_ hs) rb_, hit H (Same.refl H) _ fun v H1 s1 hv => by
    obtain ⟨a, xs, rfl, ha, hx⟩ := dp_lst hv
    obtain ⟨Pv, h0, hk, hst, hd⟩ := h H1 s1
    refine ⟨a, rfl, ⟨xs, SqL.of (hid_le _ _ ha)⟩, for_list (xs := xs) Pv h0 (fun i σ' H' _ p => SqL.of (hid_le _ _ (hk i σ' H' p _ _ ha))) (fun i x σ' H' hi p => ?_) (by rw [dpa_len hx]; exact hd)⟩
    obtain ⟨d, h1, h2⟩ := dpa_get' hx hi
    exact hst i d h1 σ' H' x p (h2.up (hk i σ' H' p))⟩
theorem rb_forT {tg : Expr} {body : List Stmt} (hit : XD X M σ H e (.tuple ds))
    (h : ∀ H1, Same H H1 → ∃ Pv : Nat → L2.St → Hp → Prop, Pv 0 σ H1 ∧ (∀ k σ' H', Pv k σ' H' → Same (hid M H1) (hid M H')) ∧
      (∀ k d, ds[k]? = some d → ∀ σ' H' v, Pv k σ' H' → Dq X.K (hid M H') v d → RG X tg v σ' H' fun σ2 H2 => RB X body { D with nx := Pv (k + 1), ct := Pv (k + 1), bk := RB X rest D } σ2 H2) ∧ ∀ σ' H', Pv ds.length σ' H' → RB X rest D σ' H')
    (hp : PassesOwn (model X.prog X.w) X.A X.env X.xe := by exact PassesOwn.never) (hc : X.calm = true := by rfl) (hs : ∀ x, foldedSetIterable e X.env x = pure x := by intro _; rfl) : RB X (.For tg e body [] pos :: rest) D σ H :=
  ⟨_, pss_cons (ps_for hp hc (pi_tup re_) rg_ rb_ hs) rb_, hit H (Same.refl H) _ fun v H1 s1 hv => by
    obtain ⟨a, xs, rfl, ha, hx⟩ := dp_tup hv
    obtain ⟨Pv, h0, hk, hst, hd⟩ := h H1 s1
    refine ⟨a, rfl, ⟨xs, same_seqT hid_le ha⟩, for_tup (xs := xs) Pv h0 (fun i σ' H' _ p => same_seqT hid_le (same_seqT (hk i σ' H' p) ha)) (fun i x σ' H' hi p => ?_) (by rw [dpa_len hx]; exact hd)⟩
    obtain ⟨d, h1, h2⟩ := dpa_get' hx hi
    exact hst i d h1 σ' H' x p (h2.up (hk i σ' H' p))⟩
/-- for tg in range(e): .. -/
theorem rb_range {tg : Expr} {body : List Stmt} (hm : X.mg "range" = none) (hit : RE X e σ H fun v H1 => ∃ n : Nat, v = .int (n : Int) ∧ n < 2 ^ 61 ∧ ∃ Pv : Nat → L2.St → Hp → Prop, Pv 0 σ H1 ∧
      (∀ k σ' H', k < n → Pv k σ' H' → RG X tg (.int (k : Int)) σ' H' fun σ2 H2 => RB X body { D with nx := Pv (k + 1), ct := Pv (k + 1), bk := RB X rest D } σ2 H2) ∧ ∀ σ' H', Pv n σ' H' → RB X rest D σ' H')
    (hg : Gl X "range" := by rfl) (he : starEach [e] X.env = [(false, eval e X.env)] := by rfl) (hp : PassesOwn (model X.prog X.w) X.A X.env X.xe := by exact PassesOwn.never) (hc : X.calm = true := by rfl)
    (hs : ∀ x, foldedSetIterable (.Call (.Name "range" p1) [e] [] p2) X.env x = pure x := by intro _; rfl) : RB X (.For tg (.Call (.Name "range" p1) [e] [] p2) body [] pos :: rest) D σ H :=
  ⟨_, pss_cons (ps_for hp hc (pi_range1 hg hm ra_ he) rg_ rb_ hs) rb_, ra_1 (re_mono hit fun v H1 ⟨n, ev, hn, Pv, h0, hst, hd⟩ => by
    refine ⟨(n : Int), by rw [ev], by omega, by omega, ?_⟩
    rw [Int.toNat_natCast]
    refine for_range Pv h0 (fun i σ' H' hi p => ?_) hd
    rw [Int.zero_add]
    exact hst i σ' H' hi p) he⟩
end
/-! ### comprehensions -/
/-- what is read within a comprehension -/
def BE (X : Cx) (scope : Scope) (e : Expr) : TE := fun σ H Q => ∀ (s : Shared) (H0 : Hp) (C : Addr) (cl : List (Str × Addr)) (fp : List Addr), RE (X.blk s H0 scope (compEnvC scope cl C X.env) fp) e σ H Q
def BG (X : Cx) (scope : Scope) (e : Expr) : TG := fun v σ H Q => ∀ (s : Shared) (H0 : Hp) (C : Addr) (cl : List (Str × Addr)) (fp : List Addr), RG (X.blk s H0 scope (compEnvC scope cl C X.env) fp) e v σ H Q
def BT (X : Cx) (scope : Scope) (es : List Expr) : TT := fun σ H Q => ∀ (s : Shared) (H0 : Hp) (C : Addr) (cl : List (Str × Addr)) (fp : List Addr), ∃ t, PTs (X.blk s H0 scope (compEnvC scope cl C X.env) fp) es t ∧ t σ H Q
section
variable {X : Cx} {M : List Addr} {σ : L2.St} {H H' : Hp} {e a b c o elt tg iter : Expr} {ifs : List Expr} {scope : Scope} {own : List (Str × Nat)} {es : List Expr} {d d1 d2 : PyData} {ds ds2 es' : List PyData} {x : Str} {v : V} {pos p1 p2 p3 : Pos}
theorem be_ {s : Shared} {H0 : Hp} {C : Addr} {cl : List (Str × Addr)} {fp : List Addr} : PE (X.blk s H0 scope (compEnvC scope cl C X.env) fp) e (BE X scope e) := ⟨fun pins s' σ H Q I h => by
  obtain ⟨_, ht, q⟩ := h s H0 C cl fp
  exact ht.run pins s' σ H Q I q⟩
theorem bg_ {s : Shared} {H0 : Hp} {C : Addr} {cl : List (Str × Addr)} {fp : List Addr} : PG (X.blk s H0 scope (compEnvC scope cl C X.env) fp) e (BG X scope e) := ⟨fun pins s' σ H v u Q I r h => by
  obtain ⟨_, ht, q⟩ := h s H0 C cl fp
  exact ht.run pins s' σ H v u Q I r q⟩
theorem bt_ {s : Shared} {H0 : Hp} {C : Addr} {cl : List (Str × Addr)} {fp : List Addr} : PTs (X.blk s H0 scope (compEnvC scope cl C X.env) fp) es (BT X scope es) := ⟨fun pins s' σ H Q I h => by
  obtain ⟨_, ht, q⟩ := h s H0 C cl fp
  exact ht.run pins s' σ H Q I q⟩
theorem bt_nil {Q : Bool → Hp → Prop} (q : Q true H) : BT X scope [] σ H Q := fun _ _ _ _ _ => ⟨_, pts_nil, q⟩
theorem bt_one {k : Bool} {Q : Bool → Hp → Prop} (h : ∀ (s : Shared) (H0 : Hp) (C : Addr) (cl : List (Str × Addr)) (fp : List Addr), XT (X.blk s H0 scope (compEnvC scope cl C X.env) fp) σ H c k) (q : ∀ H2, Same H H2 → Q k H2) : BT X scope [c] σ H Q := fun s H0 C cl fp =>
  ⟨_, pts_one rt_, h s H0 C cl fp H (Same.refl H) _ q⟩
theorem rg_mono {Q Q' : L2.St → Hp → Prop} (h : RG X tg v σ H Q) (k : ∀ σ1 H1, Q σ1 H1 → Q' σ1 H1) : RG X tg v σ H Q' := by
  obtain ⟨g, hg, q⟩ := h
  exact ⟨fun v σ H Q' => ∃ Q, g v σ H Q ∧ ∀ σ1 H1, Q σ1 H1 → Q' σ1 H1, ⟨fun pins s σ H v u Q' I r ⟨Q, q, k⟩ => thn (hg.run pins s σ H v u Q I r q) fun _ s' ⟨σ', H', I', q'⟩ => ⟨σ', H', I', k _ _ q'⟩⟩, Q, q, k⟩
theorem bg_mono {Q Q' : L2.St → Hp → Prop} (h : BG X scope tg v σ H Q) (k : ∀ σ1 H1, Q σ1 H1 → Q' σ1 H1) : BG X scope tg v σ H Q' := fun s H0 C cl fp => rg_mono (h s H0 C cl fp) k
theorem be_mono {Q Q' : VK} (h : BE X scope e σ H Q) (k : ∀ v H1, Q v H1 → Q' v H1) : BE X scope e σ H Q' := fun s H0 C cl fp => re_mono (h s H0 C cl fp) k
theorem bt_mono {Q Q' : Bool → Hp → Prop} (h : BT X scope es σ H Q) (k : ∀ v H1, Q v H1 → Q' v H1) : BT X scope es σ H Q' := fun s H0 C cl fp => by
  obtain ⟨t, ht, q⟩ := h s H0 C cl fp
  exact ⟨fun σ H Q' => ∃ Q, t σ H Q ∧ ∀ v H1, Q v H1 → Q' v H1, ⟨fun pins s σ H Q' I ⟨Q, q, k⟩ => thn (ht.run pins s σ H Q I q) fun u s' ⟨H1, I1, q1⟩ => ⟨H1, I1, k u H1 q1⟩⟩, Q, q, k⟩
theorem hid_step {p : Addr} {H1 : Hp} (hp : H p = none) (s : Same H H1) : Same (hid M H) (hid (p :: M) H1) := fun b o e => by
  have nM : b ∉ M := fun z => by unfold hid at e; rw [if_pos z] at e; cases e
  have e' := hid_le _ _ e
  have np : b ≠ p := ne_of_none e' hp
  rw [hid_of (by simp [np, nM])]
  exact s _ _ e'
theorem hid_upd_ne {p : Addr} {o : HO} {H1 : Hp} : hid (p :: M) (upd H1 p o) = hid (p :: M) H1 := hid_upd_mem (List.mem_cons_self ..)
/-- [elt for tg in iter if ..]: f gives what an item comes to, none where it is left out -/
theorem xl_comp (f : PyData → Option PyData) (L : Live M H) (hN : X.N.Nodup) (hit : XD X M σ H iter (.list ds)) (ok : BlkOk X.N X.env.scope scope own) (hz : ds.length ≤ 100000)
    (hst : ∀ p d v H1, d ∈ ds → H p = none → Same H H1 → Live (p :: M) H1 → Dq X.K (hid (p :: M) H1) v d → BG X scope tg v (wipe σ (own.map (·.2))) H1 fun σ2 H2 => wipe σ2 (own.map (·.2)) = wipe σ (own.map (·.2)) ∧ BT X scope ifs σ2 H2 fun k H3 =>
      Same H1 H3 ∧ ((k = true ∧ ∃ d', f d = some d' ∧ BE X scope elt σ2 H3 fun y H4 => Same H3 H4 ∧ Dq X.K (hid (p :: M) H4) y d') ∨ (k = false ∧ f d = none)))
    (hc : X.calm = true := by rfl) (hs : ∀ x, foldedSetIterable iter X.env x = pure x := by intro _; rfl) : XL X M σ H (.ListComp elt [⟨tg, iter, ifs, 0⟩] scope pos) (ds.filterMap f) := fun H1 s1 Q q =>
  ⟨_, pe_lc (own := own) hc hN (pi_list re_) ok (fun _ _ _ _ _ => bg_) (fun _ _ _ _ _ => bt_) (fun _ _ _ _ _ => be_) hs, hit H1 s1 _ fun v H2 s2 hv => by
    obtain ⟨a, xs, rfl, ha, hx⟩ := dp_lst hv
    have L2' : Live M H2 := L.mono (s1.trans s2)
    refine ⟨a, rfl, ⟨xs, SqL.of (hid_le _ _ ha)⟩, fun p hp => ?_⟩
    have hpM : p ∉ M := L2'.fresh hp
    have hp0 : H p = none := (s1.trans s2).free hp
    refine lc_list (xs := xs) (a := a) (fun i H' => Same H2 H' ∧ ∃ acc, H' p = some (.lst acc) ∧ DqAll X.K (hid (p :: M) H') acc ((ds.take i).filterMap f)) ⟨same_new hp, [], upd_same, by simpa using DqAll.nil⟩ (fun i H' _ w => SqL.of (w.1 _ _ (hid_le _ _ ha))) (fun i x H' hi w => ?_) (fun H' w => ?_)
    · obtain ⟨sH, acc, hacc, hda⟩ := w
      obtain ⟨d, hd1, hd2⟩ := dpa_get' hx hi
      have hdm : d ∈ ds := List.mem_of_getElem? hd1
      have etake : ds.take (i + 1) = ds.take i ++ [d] := by
        rw [List.take_add_one, hd1]; rfl
      have hlen : acc.length < sizeLine := by
        rw [dpa_len hda]
        have h1 : ((ds.take i).filterMap f).length ≤ (ds.take i).length := List.length_filterMap_le ..
        have h2 : (ds.take i).length ≤ i := by rw [List.length_take]; omega
        have h3 : i < ds.length := (List.getElem?_eq_some_iff.mp hd1).1
        have h4 : 100000 < sizeLine := by decide
        omega
      have Lp : Live (p :: M) H' := fun b hb => by
        rcases List.mem_cons.mp hb with z | hb
        · subst z; rw [hacc]; simp
        · exact L2'.mono sH b hb
      have kx : Dq X.K (hid (p :: M) H') x d := hd2.up (hid_step hp sH)
      refine bg_mono (hst p d x H' hdm hp0 ((s1.trans s2).trans sH) Lp kx) fun σ2 Ha ⟨hw, hbt⟩ => ⟨hw, bt_mono hbt fun k Hb ⟨sb, hk⟩ => ?_⟩
      have sH' : Same H' Hb := sb
      rcases hk with ⟨hk, d', hf, hbe⟩ | ⟨hk, hf⟩
      · subst hk
        refine iteT (be_mono hbe fun y Hc ⟨sc, hy⟩ => ?_)
        have sd := sH'.trans sc
        refine ⟨acc, sd _ _ hacc, hlen, fun b o e => ?_, acc ++ [y], upd_same, ?_⟩
        · have nb : b ≠ p := ne_of_none e hp
          rw [upd_ne nb]
          exact sd _ _ (sH _ _ e)
        · rw [hid_upd_ne, etake, List.filterMap_append]
          have e2 : [d].filterMap f = [d'] := by simp [hf]
          rw [e2]
          exact dpa_app (hda.up (hid_mono sd)) (.cons hy .nil)
      · subst hk
        refine iteF ⟨sH.trans sH', acc, sH' _ _ hacc, ?_⟩
        rw [etake, List.filterMap_append]
        have e2 : [d].filterMap f = [] := by simp [hf]
        rw [e2, List.append_nil]
        exact hda.up (hid_mono sH')
    · obtain ⟨sH, acc, hacc, hda⟩ := w
      have e1 : ds.take xs.length = ds := by rw [dpa_len hx]; exact List.take_length
      rw [e1] at hda
      refine q p acc H' (s2.trans sH) (s2.free hp) hacc (hda.up fun b o e => ?_)
      have n1 : b ∉ p :: M := fun z => by unfold hid at e; rw [if_pos z] at e; cases e
      rw [hid_of (fun z => n1 (List.mem_cons_of_mem _ z))]
      exact hid_le _ _ e⟩
end
end Dl

set_option Elab.async false
set_option linter.all false
set_option maxRecDepth 100000
set_option maxHeartbeats 4000000
/-! Data layer, part 4: own defs by data, calls where no repr is under way, repr, isinstance, instances. -/
namespace Dl
open PySem PySem.Spec PyProof.Rows L2
/-! ### a def by data -/
/-- arguments ds with R ds d: the data d comes back, all stands -/
def spR (K : PySem.W.Frag) (R : List PyData → PyData → Prop) : Sp := fun vs H Q _ => ∃ (M : List Addr) (ds : List PyData) (d : PyData), Live M H ∧ DqAll K (hid M H) vs ds ∧ R ds d ∧ ∀ v H1, Same H H1 → Dq K (hid M H1) v d → Q v H1
/-- .. a new list of the data es -/
def spL (K : PySem.W.Frag) (R : List PyData → List PyData → Prop) : Sp := fun vs H Q _ => ∃ (M : List Addr) (ds es : List PyData), Live M H ∧ DqAll K (hid M H) vs ds ∧ R ds es ∧ ∀ p xs H1, Same H H1 → H p = none → H1 p = some (.lst xs) → DqAll K (hid M H1) xs es → Q (.ref p) H1
section
variable {X : Cx} {M : List Addr} {σ : L2.St} {H H' : Hp} {e a b c o : Expr} {es : List Expr} {d d1 d2 : PyData} {ds ds2 es' : List PyData} {x : Str} {v : V} {pos p1 p2 p3 : Pos} {D : Ends} {rest sts : List Stmt} {st : Stmt} {k : Nat} {f C : Addr} {fd : FuncData} {ps : List Str}
theorem re_call {sp : Sp} {Q : VK} (F : FnOk X.prog X.w X.K X.mg X.base CX0 k f fd ps sp) (hr : Room k X.A) (hm : X.mg x = some (.ref f)) (hk : PySem.W.keepIn X.K (.ref f) = true) (hb : Binds X.K fd ps []) (ha : RA X (e :: es) σ H fun vs H1 => sp vs H1 Q E0) (hg : Gl X x := by rfl)
    (hdb : (x == ("__debug__" : Str)) = false := by decide) (he : starEach (e :: es) X.env = (false, eval e X.env) :: starEach es X.env := by rfl) (hpl : (backTo pos (starEach es X.env)).any (·.1) = false := by rfl) : RE X (.Call (.Name x p1) (e :: es) [] pos) σ H Q :=
  ⟨_, pe_call F hr hg hm hk hb .nil pass0 ra_ hdb he hpl, ra_mono ha fun vs H1 q => by rw [List.append_nil]; exact q⟩
theorem re_callD {sp : Sp} {Q : VK} {dvs : List V} {dl : List Value} (F : FnOk X.prog X.w X.K X.mg X.base CX0 k f fd ps sp) (hr : Room k X.A) (hm : X.mg x = some (.ref f)) (hk : PySem.W.keepIn X.K (.ref f) = true) (hb : Binds X.K fd ps dl) (hd : Vals dvs dl) (ha : RA X (e :: es) σ H fun vs H1 => sp (vs ++ dvs) H1 Q E0) (hg : Gl X x := by rfl)
    (hdb : (x == ("__debug__" : Str)) = false := by decide) (he : starEach (e :: es) X.env = (false, eval e X.env) :: starEach es X.env := by rfl) (hpl : (backTo pos (starEach es X.env)).any (·.1) = false := by rfl) : RE X (.Call (.Name x p1) (e :: es) [] pos) σ H Q :=
  ⟨_, pe_call F hr hg hm hk hb hd pass0 ra_ hdb he hpl, ha⟩
theorem xd_call {R : List PyData → PyData → Prop} (L : Live M H) (F : FnOk X.prog X.w X.K X.mg X.base CX0 k f fd ps (spR X.K R)) (hr : Room k X.A) (hm : X.mg x = some (.ref f)) (hk : PySem.W.keepIn X.K (.ref f) = true) (hb : Binds X.K fd ps []) (ha : XA X M σ H (e :: es) ds) (hR : R ds d) (hg : Gl X x := by rfl)
    (hdb : (x == ("__debug__" : Str)) = false := by decide) (he : starEach (e :: es) X.env = (false, eval e X.env) :: starEach es X.env := by rfl) (hpl : (backTo pos (starEach es X.env)).any (·.1) = false := by rfl) : XD X M σ H (.Call (.Name x p1) (e :: es) [] pos) d := fun H1 s Q q =>
  re_call F hr hm hk hb (ha H1 s _ fun vs H2 s2 hv => ⟨M, ds, d, L.mono (s.trans s2), hv, hR, fun v H3 s3 hd => q v H3 (s2.trans s3) hd⟩) hg hdb he hpl
theorem xl_call {R : List PyData → List PyData → Prop} (L : Live M H) (F : FnOk X.prog X.w X.K X.mg X.base CX0 k f fd ps (spL X.K R)) (hr : Room k X.A) (hm : X.mg x = some (.ref f)) (hk : PySem.W.keepIn X.K (.ref f) = true) (hb : Binds X.K fd ps []) (ha : XA X M σ H (e :: es) ds) (hR : R ds ds2) (hg : Gl X x := by rfl)
    (hdb : (x == ("__debug__" : Str)) = false := by decide) (he : starEach (e :: es) X.env = (false, eval e X.env) :: starEach es X.env := by rfl) (hpl : (backTo pos (starEach es X.env)).any (·.1) = false := by rfl) : XL X M σ H (.Call (.Name x p1) (e :: es) [] pos) ds2 := fun H1 s Q q =>
  re_call F hr hm hk hb (ha H1 s _ fun vs H2 s2 hv => ⟨M, ds, ds2, L.mono (s.trans s2), hv, hR, fun p xs H3 s3 hp h3 hd => q p xs H3 (s2.trans s3) (s2.free hp) h3 hd⟩) hg hdb he hpl
/-! ### a def, called where no repr is under way -/
structure FnG (P : Program) (w : World) (K : PySem.W.Frag) (mg : Str → Option Value) (base : Heap) (k : Nat) (f : Addr) (fd : FuncData) (ps : List Str) (sp : Sp) : Prop where
  len : ∀ vs H Q E, sp vs H Q E → vs.length = ps.length
  run : ∀ (A : Around), A.guards = some [] → Room k A → ∀ (outer : List Env) (s : Shared) (H : Hp) (args : Args) (us : List Value) (vs : List V) (Q : VK) (E : XK), Env0 P w K mg base A outer s H → BindsTo s fd args (ps.zip us) → Vals vs us → sp vs H Q E →
    codeAny (model P w) A (.call (.ref f) args) (CR CX0 outer P w H s Q E) s
theorem fn_g {P : Program} {w : World} {K : PySem.W.Frag} {mg : Str → Option Value} {base : Heap} {sp : Sp} {qual x : Str} {st : Stmt} {N : List Str} (F : Fun K x qual st f fd) (S : FnScope N ps (defScope st)) (len : ∀ vs H Q E, sp vs H Q E → vs.length = ps.length)
    (hbody : ∀ (cdv : Value) (A : Around) (outer : List Env) (s : Shared) (H : Hp) (vs : List V) (Q : VK) (E : XK), A.guards = some [] → Room k (A.deeper (envOfC qual (defScope st) s.heap.objs.size f cdv)) → sp vs H Q E →
      RB (cxOf CX0 P w K mg base N qual (defScope st) f cdv A outer s H E).nox (defBody st) { nx := fun _ H1 => Q .non H1, rt := Q } (start N vs) H) : FnG P w K mg base (k + 1) f fd ps sp where
  len := len
  run := fun A hA hr outer s H args us vs Q E e0 hb r hsp => by
    obtain ⟨oc, od, kV, doc, pm, an, cdv, ct, osl, hfd, lk, hcd⟩ := F.ex
    subst hfd
    have hz := len _ _ _ _ hsp
    have KX : K.In s.heap := e0.mod.kin.keeps (fun b o e => (e0.bs b o e).1)
    have nl : s.heap.NoLimit := e0.mod.nolimit.keeps (fun b o e => (e0.bs b o e).1)
    have kinds : ∀ y ∈ ps.zip us, (defScope st).names.lookup y.1 = some .local ∨ ((defScope st).names.lookup y.1 = some .cell ∧ ((cellsFrom (s.heap.objs.size + 1) (defScope st).names []).lookup y.1).isSome = true) := by
      intro y hy
      rcases S.par y.1 (List.of_mem_zip (show (y.1, y.2) ∈ ps.zip us from hy)).1 with z | z
      · exact .inl z
      · exact .inr ⟨z, PySem.W.cellsFrom_some _ _ _ (.inl z)⟩
    refine codeAny_call_function (Room.depth hr) (KX _ _ lk) rfl S.co S.gen rfl (PySem.W.codeRec_of KX hcd) (hb _ _ _ _ ?_)
    refine wpAny_newFunctionEnv_cells S.kind kinds (fun env henv s1 inc => ?_)
    subst henv
    refine ⟨nl.keeps inc.toInCall.keep, codeAny_func ?_⟩
    obtain ⟨t, ht, q⟩ := hbody cdv A outer s H vs Q E hA (hr.deeper _) hsp
    have I0 := inv_start (CX := CX0) (E := E) S hr.hd e0 hz r inc
    refine wpAny_mono (ht.nox.run [] s1 (start N vs) H _ I0 q) (fun fl s2 hs => ?_) (fun _ _ z => z)
    cases fl with
    | ret u =>
      obtain ⟨v, _, H2, J, rv, q2⟩ := hs
      exact ⟨v, H2, J.os, J.bare, J.base, J.hok, rv, q2⟩
    | next =>
      obtain ⟨_, H2, J, q2⟩ := hs
      exact ⟨.non, H2, J.os, J.bare, J.base, J.hok, rfl, q2⟩
    | brk => obtain ⟨_, _, _, q2⟩ := hs; exact q2.elim
    | cont => obtain ⟨_, _, _, q2⟩ := hs; exact q2.elim
/-- f(..), f such a def -/
theorem re_callG {sp : Sp} {Q : VK} (F : FnG X.prog X.w X.K X.mg X.base k f fd ps sp) (hA : X.A.guards = some []) (hr : Room k X.A) (hm : X.mg x = some (.ref f)) (hk : PySem.W.keepIn X.K (.ref f) = true) (hb : Binds X.K fd ps []) (ha : RA X (e :: es) σ H fun vs H1 => sp vs H1 Q E0) (hg : Gl X x := by rfl)
    (hdb : (x == ("__debug__" : Str)) = false := by decide) (he : starEach (e :: es) X.env = (false, eval e X.env) :: starEach es X.env := by rfl) (hpl : (backTo pos (starEach es X.env)).any (·.1) = false := by rfl) : RE X (.Call (.Name x p1) (e :: es) [] pos) σ H Q := by
  refine ⟨fun σ H Q => RA X (e :: es) σ H fun vs H1 => sp vs H1 Q E0, ⟨fun pins s σ H Q I h => ?_⟩, ha⟩
  refine wpAny_Call_Name_kw (ld_glob I hg hm ?_ hdb)
  refine PySem.W.callWith_K (h₀ := X.base) I.ok.mod.kin hk (thn (ra_.run pos pins s σ H _ I h) fun us s1 ⟨vs, H1, I1, r, q⟩ => ⟨I1.kIn, ?_⟩) he hpl
  have hz : us.length = ps.length := by rw [← r.length]; exact F.len _ _ _ _ q
  have hb' := hb s1 us I1.kIn (by rw [List.append_nil]; exact hz)
  rw [List.append_nil] at hb'
  refine wpAny_call (codeAny_mono (F.run X.A hA hr X.stack s1 H1 ⟨us, []⟩ us vs Q E0 I1.env0 hb' r q) fun r' s' hq => ?_)
  cases r' with
  | error e => exact hq.elim
  | ok fl =>
    cases fl with
    | ret u => exact I1.after hq
    | next => exact hq.elim
    | brk => exact hq.elim
    | cont => exact hq.elim
/-! ### repr of data -/
theorem call_reprD (hA : X.A.guards = some []) (hu : X.A.units + 64 < cLine) : CallR X (.builtin "repr") (fun xs H Q => ∃ (p : Addr) (d : PyData), xs = [.ref p] ∧ Dp X.K H (.ref p) d ∧ d.showable = true ∧ d.hasDict = false ∧ d.depth ≤ 60 ∧ d.shown.length ≤ sizeLine ∧ Q (.str d.shown) H) := by
  intro pins s σ H xs us Q I r h
  obtain ⟨p, d, rfl, hd, h1, h2, h3, h4, q⟩ := h
  obtain ⟨u, rfl, rx⟩ := vals1 r
  obtain ⟨as, rd⟩ := Dp.reads I d _ u hd rx
  cases rx
  exact repr_of_reads' rd h1 (fun z => by rw [h2] at z; cases z) hA (by omega) (fun _ _ z => z) (fun h' u tk hk => ⟨.str d.shown, H, I.kept (t' := tk) hk, ⟨u, rfl⟩, q⟩) h4
/-- repr(a) != repr(b) of the same data: False -/
theorem xt_reprNe {pa pb : Pos} (hA : X.A.guards = some []) (hu : X.A.units + 64 < cLine) (hm : X.mg "repr" = none) (ha : XD X M σ H a (.list ds)) (hb : XD X M σ H b (.list ds)) (h1 : (PyData.list ds).showable = true) (h2 : (PyData.list ds).hasDict = false) (h3 : (PyData.list ds).depth ≤ 60) (h4 : (PyData.list ds).shown.length ≤ sizeLine) (hg : Gl X "repr" := by rfl)
    (he : starEach [a] X.env = (false, eval a X.env) :: starEach [] X.env := by rfl) (hpl : (backTo pa (starEach [] X.env)).any (·.1) = false := by rfl) (he2 : starEach [b] X.env = (false, eval b X.env) :: starEach [] X.env := by rfl) (hpl2 : (backTo pb (starEach [] X.env)).any (·.1) = false := by rfl) :
    XT X σ H (.Compare (.Call (.Name "repr" p1) [a] [] pa) [.NotEq] [.Call (.Name "repr" p2) [b] [] pb] pos) false := by
  have key : ∀ {e : Expr} {pp qq : Pos}, XD X M σ H e (.list ds) → starEach [e] X.env = (false, eval e X.env) :: starEach [] X.env → (backTo qq (starEach [] X.env)).any (·.1) = false → XD X M σ H (.Call (.Name "repr" pp) [e] [] qq) (.str (PyData.list ds).shown) := fun {e pp qq} h z1 z2 H1 s Q q =>
    re_B (call_reprD hA hu) (ra_1 (h H1 s _ fun v H2 s2 hv => by
      obtain ⟨p, xs, rfl, hp, hx⟩ := dp_lst hv
      exact ⟨p, _, rfl, (hv.up hid_le).dp, h1, h2, h3, h4, q _ H2 s2 (.str _)⟩) z1) hm (by decide +kernel) hg (by decide) (by decide) z1 z2
  refine xt_cmp op_ne (key ha he hpl) (key hb he2 hpl2) fun H1 v w s hv hw Q q => ?_
  rw [dp_str hv, dp_str hw]
  exact ⟨rfl, by rw [decide_eq_true rfl]; exact q H1 (Same.refl _)⟩
theorem xd_reprEq {pa pb : Pos} (hA : X.A.guards = some []) (hu : X.A.units + 64 < cLine) (hm : X.mg "repr" = none) (ha : XD X M σ H a (.list ds)) (hb : XD X M σ H b (.list ds)) (h1 : (PyData.list ds).showable = true) (h2 : (PyData.list ds).hasDict = false) (h3 : (PyData.list ds).depth ≤ 60) (h4 : (PyData.list ds).shown.length ≤ sizeLine) (hg : Gl X "repr" := by rfl)
    (he : starEach [a] X.env = (false, eval a X.env) :: starEach [] X.env := by rfl) (hpl : (backTo pa (starEach [] X.env)).any (·.1) = false := by rfl) (he2 : starEach [b] X.env = (false, eval b X.env) :: starEach [] X.env := by rfl) (hpl2 : (backTo pb (starEach [] X.env)).any (·.1) = false := by rfl) :
    XD X M σ H (.Compare (.Call (.Name "repr" p1) [a] [] pa) [.Eq] [.Call (.Name "repr" p2) [b] [] pb] pos) (.bool true) := by
  have key : ∀ {e : Expr} {pp qq : Pos}, XD X M σ H e (.list ds) → starEach [e] X.env = (false, eval e X.env) :: starEach [] X.env → (backTo qq (starEach [] X.env)).any (·.1) = false → XD X M σ H (.Call (.Name "repr" pp) [e] [] qq) (.str (PyData.list ds).shown) := fun {e pp qq} h z1 z2 H1 s Q q =>
    re_B (call_reprD hA hu) (ra_1 (h H1 s _ fun v H2 s2 hv => by
      obtain ⟨p, xs, rfl, hp, hx⟩ := dp_lst hv
      exact ⟨p, _, rfl, (hv.up hid_le).dp, h1, h2, h3, h4, q _ H2 s2 (.str _)⟩) z1) hm (by decide +kernel) hg (by decide) (by decide) z1 z2
  refine xd_cmp op_eq (key ha he hpl) (key hb he2 hpl2) fun H1 v w s hv hw Q q => ?_
  rw [dp_str hv, dp_str hw]
  exact ⟨rfl, by rw [decide_eq_true rfl]; exact q _ H1 (Same.refl _) (.bl _)⟩
/-! ### isinstance -/
def tyN : PyData → String
  | .none => "NoneType"
  | .bool _ => "bool"
  | .int _ => "int"
  | .str _ => "str"
  | .list _ => "list"
  | .tuple _ => "tuple"
  | .dict _ => "dict"
theorem ty_dq {K : PySem.W.Frag} (h : Dq K H v d) : TyX K H v (.type (tyN d)) := by
  cases h with
  | non => exact .base .non
  | bl b => exact .base (.bl b)
  | int i => exact .base (.int i)
  | str z => exact .base (.str z)
  | lst h1 _ => exact .base (.lst h1)
  | tup h1 _ =>
    rcases h1 with (h1 | ⟨o, h1⟩) | ⟨o, its, n, h1, h2, _⟩
    · exact .base (.tup h1)
    · exact .fTuple h1
    · exact .kTuple h1 h2
/-- isinstance(a, T), T a built-in type by its name -/
theorem xd_is1 {T : String} {r : Bool} {nm : Str} (hk : kitB (tyN d) T = some r) (hm : X.mg "isinstance" = none) (hmT : X.mg nm = none) (hvT : bootBuiltins nm = some (.type T)) (ha : XD X M σ H a d) (hg : Gl X "isinstance" := by rfl) (hgT : Gl X nm := by rfl) (hnT : nm ≠ "__name__" := by decide) (hdT : (nm == ("__debug__" : Str)) = false := by decide)
    (he : starEach [a, .Name nm p2] X.env = (false, eval a X.env) :: starEach [.Name nm p2] X.env := by rfl) (he2 : starEach [.Name nm p2] X.env = (false, eval (.Name nm p2) X.env) :: starEach [] X.env := by rfl) (hpl : (backTo pos (starEach [.Name nm p2] X.env)).any (·.1) = false := by rfl) :
    XD X M σ H (.Call (.Name "isinstance" p1) [a, .Name nm p2] [] pos) (.bool r) := fun H1 s Q q =>
  re_B call_isi (ra_cons (ha H1 s _ fun v H2 s2 hv => ra_1 (xv_bltn (v := .ty T) hmT hvT rfl hgT hnT hdT H2 (Same.refl _) _ fun H3 s3 =>
    ⟨v, .ty T, _, _, r, rfl, .ty T, ty_dq ((hv.up hid_le).up s3), kit_ty hk, q _ H3 (s2.trans s3) (.bl _)⟩) he2) he) hm (by decide +kernel) hg (by decide) (by decide) he hpl
/-- isinstance(a, (T1, T2)) -/
theorem xd_is2 {T1 T2 : String} {r1 r2 : Bool} {n1 n2 : Str} {k3} (h1 : kitB (tyN d) T1 = some r1) (h2 : kitB (tyN d) T2 = some r2) (hm : X.mg "isinstance" = none) (hm1 : X.mg n1 = none) (hv1 : bootBuiltins n1 = some (.type T1)) (hm2 : X.mg n2 = none) (hv2 : bootBuiltins n2 = some (.type T2)) (ha : XD X M σ H a d)
    (hg : Gl X "isinstance" := by rfl) (hg1 : Gl X n1 := by rfl) (hg2 : Gl X n2 := by rfl) (hn1 : n1 ≠ "__name__" := by decide) (hn2 : n2 ≠ "__name__" := by decide) (hd1 : (n1 == ("__debug__" : Str)) = false := by decide) (hd2 : (n2 == ("__debug__" : Str)) = false := by decide) {q1 q2 q3 : Pos}
    (he : starEach [a, .Tuple [.Name n1 q1, .Name n2 q2] k3 q3] X.env = (false, eval a X.env) :: starEach [.Tuple [.Name n1 q1, .Name n2 q2] k3 q3] X.env := by rfl) (he2 : starEach [.Tuple [.Name n1 q1, .Name n2 q2] k3 q3] X.env = (false, eval (.Tuple [.Name n1 q1, .Name n2 q2] k3 q3) X.env) :: starEach [] X.env := by rfl)
    (hs1 : starEach [.Name n1 q1, .Name n2 q2] X.env = (false, eval (.Name n1 q1) X.env) :: starEach [.Name n2 q2] X.env := by rfl) (hs2 : starEach [.Name n2 q2] X.env = (false, eval (.Name n2 q2) X.env) :: starEach [] X.env := by rfl)
    (hpl : (backTo pos (starEach [.Tuple [.Name n1 q1, .Name n2 q2] k3 q3] X.env)).any (·.1) = false := by rfl) :
    XD X M σ H (.Call (.Name "isinstance" p1) [a, .Tuple [.Name n1 q1, .Name n2 q2] k3 q3] [] pos) (.bool (r1 || r2)) := fun H1 s Q q =>
  re_B call_isiT (ra_cons (ha H1 s _ fun v H2 s2 hv => ra_1 ⟨_, pe_tup ra_, ra_cons (xv_bltn (v := .ty T1) hm1 hv1 rfl hg1 hn1 hd1 H2 (Same.refl _) _ fun H3 s3 => ra_1 (xv_bltn (v := .ty T2) hm2 hv2 rfl hg2 hn2 hd2 H3 (Same.refl _) _ fun H4 s4 => by
    refine ⟨by show 2 ≤ sizeLine; decide, fun p hp => ?_⟩
    have s5 : Same H2 (upd H4 p (.tup [V.ty T1, V.ty T2])) := (s3.trans s4).trans (same_new hp)
    refine ⟨v, p, [.ty T1, .ty T2], _, _, r1 || r2, rfl, upd_same, .cons (.ty T1) (.cons (.ty T2) .nil), ty_dq ((hv.up hid_le).up s5), ?_, q _ _ (s2.trans s5) (.bl _)⟩
    refine kitAny_cons (kit_ty h1) (fun z => ?_) (fun z => by rw [z]; rfl)
    rw [z, Bool.false_or]
    exact kitAny_cons (kit_ty h2) (fun z2 => by rw [z2]; exact kitAny_nil) (fun z2 => z2)) hs2) hs1⟩ he2) he) hm (by decide +kernel) hg (by decide) (by decide) he hpl
/-! ### instances -/
theorem xv_fld {dx pa : Addr} {fs : List (Str × V)} {f : Str} (ho : XV X σ H o (.ref pa)) (h1 : H pa = some (.ins C dx fs)) (hc : Cls X.K C) (hn : NoAttr X.K C f) (hl : fs.lookup f = some v) (hb : attributeBase o f X.env (eval o X.env) = eval o X.env := by rfl) : XV X σ H (.Attribute o f pos) v := fun H1 s Q q =>
  ⟨_, pe_fld re_ hb, ho H1 s _ fun H2 s2 => ⟨pa, C, dx, fs, v, rfl, (s.trans s2) _ _ h1, hc, hn, hl, q H2 s2⟩⟩
theorem re_meth {dx pa : Addr} {fs : List (Str × V)} {m : Str} {sp : Sp} {Q : VK} {pl : Sem Bool} {apos : Pos} (ho : XV X σ H o (.ref pa)) (h1 : H pa = some (.ins C dx fs)) (hc : Cls X.K C) (hM : Meth X.K C m f) (hl : fs.lookup m = none) (F : FnOk X.prog X.w X.K X.mg X.base CX0 k f fd ps sp) (hr : Room k X.A) (hb : Binds X.K fd ps [])
    (ha : ∀ H1, Same H H1 → RA X (e :: es) σ H1 fun vs H2 => sp (.ref pa :: vs) H2 Q E0) (hst : starEach (e :: es) X.env = (false, eval e X.env) :: starEach es X.env := by rfl) (hpl : (backTo pos (starEach es X.env)).any (·.1) = false := by rfl)
    (ht : eval (.Call (.Attribute o m apos) (e :: es) [] pos) X.env = (do
      let ov ← eval o X.env
      standAt apos.atName
      let (f, first) ← holding [ov] (getMethod ov m pl)
      callWith pos f first (backTo pos (starEach (e :: es) X.env)) (backToKw pos (keywordEach [] X.env))) := by rfl) : RE X (.Call (.Attribute o m apos) (e :: es) [] pos) σ H Q :=
  ⟨_, pe_meth re_ hc hM F hr hb .nil pass0 ra_ hst hpl ht, ho H (Same.refl H) _ fun H1 s1 => ⟨pa, dx, fs, rfl, s1 _ _ h1, hl, ra_mono (ha H1 s1) fun vs H2 q => by rw [List.append_nil]; exact q⟩⟩
theorem re_meth0 {dx pa : Addr} {fs : List (Str × V)} {m : Str} {sp : Sp} {Q : VK} {pl : Sem Bool} {apos : Pos} (ho : XV X σ H o (.ref pa)) (h1 : H pa = some (.ins C dx fs)) (hc : Cls X.K C) (hM : Meth X.K C m f) (hl : fs.lookup m = none) (F : FnOk X.prog X.w X.K X.mg X.base CX0 k f fd ps sp) (hr : Room k X.A) (hb : Binds X.K fd ps [])
    (ha : ∀ H1, Same H H1 → sp [.ref pa] H1 Q E0)
    (ht : eval (.Call (.Attribute o m apos) [] [] pos) X.env = (do
      let ov ← eval o X.env
      standAt apos.atName
      let (f, first) ← holding [ov] (getMethod ov m pl)
      callWith pos f first (backTo pos (starEach [] X.env)) (backToKw pos (keywordEach [] X.env))) := by rfl) : RE X (.Call (.Attribute o m apos) [] [] pos) σ H Q :=
  ⟨_, pe_meth0 re_ hc hM F hr hb .nil pass0 ht, ho H (Same.refl H) _ fun H1 s1 => ⟨pa, dx, fs, rfl, s1 _ _ h1, hl, ha H1 s1⟩⟩
end
end Dl

set_option Elab.async false
set_option linter.all false
set_option maxRecDepth 100000
set_option maxHeartbeats 4000000
/-! Data layer, part 5: operators of an own class; the end. -/
namespace Dl
open PySem PySem.Spec PyProof.Rows L2
/-- a namespace of the written part -/
theorem ns_at {K : PySem.W.Frag} {h : Heap} {N : Addr} {mN : Str → Option Value} {n : Str} {v : Value} (X : K.In h) (G : h.Ns N mN) (e : PySem.W.nsIn K N n = some (some v)) : mN n = some v := by
  obtain ⟨o, es, ep, ho, hd, _, hf⟩ := G
  unfold PySem.W.nsIn at e
  split at e
  · rename_i cc dd es2 nn sl q
    have z := X _ _ q
    rw [ho] at z
    cases z
    cases hd
    split at e
    · rename_i en he
      cases e
      rw [← hf]
      unfold nsFind findBy
      rw [← Array.find?_toList, he]
      rfl
    · split at e <;> cases e
  · cases e
/-- what the written part says of a class with an own == and no != -/
structure ClsEq (K : PySem.W.Frag) (C f : Addr) : Prop where
  cls : ∃ nm q N bs hdct sn sub ab col dd k0 k1 k2 k3 k5 newId, K.lookup C = some (excClassObj nm q C N bs [.type "object"] hdct sn sub ab col dd k0 k1 k2 k3 k5 newId) ∧ PySem.W.nsOkIn K N = true ∧ PySem.W.nsIn K N "__eq__" = some (some (.ref f)) ∧ PySem.W.nsIn K N "__ne__" = some none
  at_ : PySem.W.findIn K (.ref C) "__eq__" = some (some (.ref f))
  fn : PySem.W.isFn K (.ref f) = true
  obj : ∃ o, K.lookup f = some o ∧ o.cls = .type "function"
section
variable {X : Cx} {M : List Addr} {σ : L2.St} {H H' : Hp} {e a b c o : Expr} {es : List Expr} {d d1 d2 : PyData} {ds ds2 es' : List PyData} {x : Str} {v : V} {pos p1 p2 p3 : Pos} {D : Ends} {rest sts : List Stmt} {st : Stmt} {k : Nat} {f C : Addr} {fd : FuncData} {ps : List Str} {sp : Sp}
/-- a bool comes back -/
def bk (Q : Bool → Hp → Prop) : VK := fun v H => ∃ b, v = .bl b ∧ Q b H
theorem run_bool {A : Around} {E : Value → Shared → Prop} {pins : List (Addr × Obj)} {s : Shared} {us : List Value} {vs : List V} {Q : Bool → Hp → Prop} {R : Value → Shared → Prop} (I : Inv X pins σ H s) (fr : A.frames = X.A.frames) (F : FnOk X.prog X.w X.K X.mg X.base CX0 k f fd ps sp) (hr : Room k A) (hb : Binds X.K fd ps []) (r : Vals vs us) (h : sp vs H (bk Q) E0)
    (q : ∀ b s' H', Inv X pins σ H' s' → Q b H' → R (.bool b) s') : wpAny (model X.prog X.w) A (call (.ref f) us) R E s := by
  have hz : us.length = ps.length := by rw [← r.length]; exact F.len _ _ _ _ h
  have hb' := hb s us I.kIn (by rw [List.append_nil]; exact hz)
  rw [List.append_nil] at hb'
  have e := I.env0
  have e0 : Env0 X.prog X.w X.K X.mg X.base A X.stack s H := ⟨by rw [fr]; exact e.frames, e.mod, e.bs, e.bsz, e.funs, e.frf, e.hok, e.bare⟩
  refine wpAny_call (codeAny_mono (F.run A X.stack s H ⟨us, []⟩ us vs (bk Q) E0 hr e0 hb' r h) fun r' s' hq => ?_)
  cases r' with
  | error e => exact hq.elim
  | ok fl =>
    cases fl with
    | ret u =>
      obtain ⟨z, H1, I1, rz, b, ez, q1⟩ := I.after hq
      subst ez
      cases rz
      exact q b s' H1 I1 q1
    | next => exact hq.elim
    | brk => exact hq.elim
    | cont => exact hq.elim
/-- a == b, a of an own class; the other one of that class, or of a type that is not below it -/
theorem op_eqO {tb : Value → Prop} (E : ClsEq X.K C f) (F : FnOk X.prog X.w X.K X.mg X.base CX0 k f fd ps sp) (hr : Room k X.A) (hb : Binds X.K fd ps []) :
    OpR X (compareOp .Eq) (fun x y H Q => ∃ pa dx fs, x = .ref pa ∧ H pa = some (.ins C dx fs) ∧ ((∃ pb dy gs, y = .ref pb ∧ H pb = some (.ins C dy gs)) ∨ (PySem.W.subIn X.K (.type "list") (.ref C) = some false ∧ ∃ pb xs, y = .ref pb ∧ H pb = some (.lst xs))) ∧ sp [x, y] H (bk fun b H1 => Q (.bl b) H1) E0) := by
  intro pins s σ H x y u v Q I rx ry h
  obtain ⟨pa, dx, fs, rfl, ha, hy, hsp⟩ := h
  cases rx
  obtain ⟨mA, J, _⟩ := ins_get I.hok ha
  obtain ⟨od, J, _⟩ := J.look
  obtain ⟨m, hF⟩ := I.fr
  show wpAny (model X.prog X.w) X.A (richCompare .Eq (.ref pa) v) (EP X pins σ Q) X.xe s
  have fin : wpAny (model X.prog X.w) X.A (call (.ref f) [.ref pa, v]) (PySem.W.CmpBack (EP X pins σ Q)) X.xe s :=
    run_bool (Q := fun b H1 => Q (.bl b) H1) I rfl F hr hb (.cons (show RelV (.ref pa) (.ref pa) from rfl) (.cons ry .nil)) hsp fun b s' H' I' q => ⟨.bl b, H', I', rfl, q⟩
  rcases hy with ⟨pb, dy, gs, rfl, hb2⟩ | ⟨hsub, pb, xs, rfl, hb2⟩
  · cases ry
    obtain ⟨mB, J2, _⟩ := ins_get I.hok hb2
    obtain ⟨od2, J2, _⟩ := J2.look
    exact PySem.W.cmp_K (op := .Eq) (tb := .ref C) hr.units0 hF I.ok.mod.kin J J2.type (by simp [PySem.W.notFirst]) E.at_ E.fn fin
  · cases ry
    obtain ⟨_, its, n, r, e⟩ := (show ObjOk X.prog X.w H s.heap pb (.lst xs) from I.hok pb _ hb2)
    have z : PySem.W.Looks (model X.prog X.w) s.heap (typeOf (.ref pb)) (.type "list") := (PySem.W.Looks.ld e).andThen .now
    exact PySem.W.cmp_K (op := .Eq) (tb := .type "list") hr.units0 hF I.ok.mod.kin J z (by unfold PySem.W.notFirst; rw [hsub]; simp) E.at_ E.fn fin
/-- a != b of one own class -/
theorem op_neO (E : ClsEq X.K C f) (F : FnOk X.prog X.w X.K X.mg X.base CX0 k f fd ps sp) (hr : Room (k + 1) X.A) (hb : Binds X.K fd ps []) :
    OpR X (compareOp .NotEq) (fun x y H Q => ∃ pa dx fs pb dy gs, x = .ref pa ∧ H pa = some (.ins C dx fs) ∧ y = .ref pb ∧ H pb = some (.ins C dy gs) ∧ sp [x, y] H (bk fun b H1 => Q (.bl (!b)) H1) E0) := by
  intro pins s σ H x y u v Q I rx ry h
  obtain ⟨pa, dx, fs, pb, dy, gs, rfl, ha, rfl, hb2, hsp⟩ := h
  cases rx
  cases ry
  obtain ⟨mA, J, _⟩ := ins_get I.hok ha
  obtain ⟨od, J, _⟩ := J.look
  obtain ⟨mB, J2, _⟩ := ins_get I.hok hb2
  obtain ⟨od2, J2, _⟩ := J2.look
  obtain ⟨hox, hoc, _⟩ := J
  obtain ⟨hoy, hoyc, _⟩ := J2
  obtain ⟨nm, q, N, bs, hdct, sn, sub, ab, col, dd, k0, k1, k2, k3, k5, newId, hC, hN, he, hne⟩ := E.cls
  obtain ⟨of, hfo, hfc⟩ := E.obj
  have KX := I.kIn
  have hns := Heap.Ns.of_isNs (PySem.W.isNs_of_in KX hN)
  have Y : s.heap.OwnEqNoNe pa C f "object" [.type "object"] :=
    ⟨_, of, nm, q, N, bs, hdct, sn, sub, ab, col, dd, k0, k1, k2, k3, k5, newId, _, _, hox, hoc, KX _ _ hC, hns, ns_at KX hns he, KX _ _ hfo, hfc, PySem.F.mro_object, PySem.F.cmp_object.eq.lookup, PySem.W.ns_none_of KX hns hne⟩
  have hu := hr.units0
  obtain ⟨hh, g, dr, tk, os⟩ := s
  refine compareOp_ne_ownEq PySem.F.cmp_object Y hoy hoyc (by have := hr.un; omega) ?_
  exact run_bool (A := X.A.in1) (Q := fun b H1 => Q (.bl (!b)) H1) I rfl F hr.in1 hb (.cons (show RelV (.ref pa) (.ref pa) from rfl) (.cons (show RelV (.ref pb) (.ref pb) from rfl) .nil)) hsp fun b s' H' I' q => ⟨b, rfl, ⟨.bl (!b), H', I', rfl, q⟩⟩
/-- x in o, o of an own class -/
theorem op_inO (hs : PySem.W.findIn X.K (.ref C) "__contains__" = some (some (.ref f))) (hf : PySem.W.isFn X.K (.ref f) = true) (F : FnOk X.prog X.w X.K X.mg X.base CX0 k f fd ps sp) (hr : Room k X.A) (hb : Binds X.K fd ps []) :
    OpR X (compareOp .In) (fun x y H Q => ∃ pa dx fs, y = .ref pa ∧ H pa = some (.ins C dx fs) ∧ sp [y, x] H (bk fun b H1 => Q (.bl b) H1) E0) := by
  intro pins s σ H x y u v Q I rx ry h
  obtain ⟨pa, dx, fs, rfl, ha, hsp⟩ := h
  cases ry
  obtain ⟨mA, J, _⟩ := ins_get I.hok ha
  obtain ⟨od, J, _⟩ := J.look
  obtain ⟨m, hF⟩ := I.fr
  exact PySem.W.in_K hF I.ok.mod.kin J hs hf (run_bool (Q := fun b H1 => Q (.bl b) H1) I rfl F hr hb (.cons (show RelV (.ref pa) (.ref pa) from rfl) (.cons rx .nil)) hsp fun b s' H' I' q => wpAny_truthy_bool ⟨.bl b, H', I', rfl, q⟩)
/-- len(o) -/
theorem call_lenO (hs : PySem.W.findIn X.K (.ref C) "__len__" = some (some (.ref f))) (hf : PySem.W.isFn X.K (.ref f) = true) (F : FnOk X.prog X.w X.K X.mg X.base CX0 k f fd ps sp) (hr : Room (k + 1) X.A) (hb : Binds X.K fd ps []) :
    CallR X (.builtin "len") (fun xs H Q => ∃ pa dx fs, xs = [.ref pa] ∧ H pa = some (.ins C dx fs) ∧ sp xs H (fun v H1 => ∃ n : Nat, v = .int n ∧ n < 2 ^ 62 ∧ Q (.int n) H1) E0) := by
  intro pins s σ H xs us Q I r h
  obtain ⟨pa, dx, fs, rfl, ha, hsp⟩ := h
  obtain ⟨u, rfl, rx⟩ := vals1 r
  cases rx
  obtain ⟨mA, J, _⟩ := ins_get I.hok ha
  obtain ⟨od, J, _⟩ := J.look
  obtain ⟨m, hF⟩ := I.fr
  refine PySem.W.len_K hF I.ok.mod.kin J hs hf ?_
  have hz : [Value.ref pa].length = ps.length := F.len _ _ _ _ hsp
  have hb' := hb s [.ref pa] I.kIn (by rw [List.append_nil]; exact hz)
  rw [List.append_nil] at hb'
  have e := I.env0.in1
  refine wpAny_call (codeAny_mono (F.run X.A.in1 X.stack s H ⟨[.ref pa], []⟩ [.ref pa] [.ref pa] _ E0 hr.in1 e hb' (.cons rfl .nil) hsp) fun r' s' hq => ?_)
  cases r' with
  | error e => exact hq.elim
  | ok fl =>
    cases fl with
    | ret u =>
      obtain ⟨z, H1, I1, rz, n, ez, hn, q1⟩ := I.after hq
      subst ez
      obtain ⟨t, rfl⟩ := rz
      exact ⟨⟨by omega, by omega⟩, ⟨.int n, H1, I1.tok _, ⟨_, rfl⟩, q1⟩⟩
    | next => exact hq.elim
    | brk => exact hq.elim
    | cont => exact hq.elim
/-- o.p, a property -/
theorem re_prop {dx pa pp : Addr} {fs : List (Str × V)} {m : Str} {Q : VK} (ho : XV X σ H o (.ref pa)) (h1 : H pa = some (.ins C dx fs)) (hc : Cls X.K C) (hp : PropOf X.K C m pp f) (F : FnOk X.prog X.w X.K X.mg X.base CX0 k f fd ps sp) (hr : Room (k + 1) X.A) (hb : Binds X.K fd ps []) (ha : ∀ H1, Same H H1 → sp [.ref pa] H1 Q E0)
    (hab : attributeBase o m X.env (eval o X.env) = eval o X.env := by rfl) : RE X (.Attribute o m pos) σ H Q :=
  ⟨_, pe_prop re_ hc hp F hr hb .nil pass0 hab, ho H (Same.refl H) _ fun H1 s1 => ⟨pa, dx, fs, rfl, s1 _ _ h1, ha H1 s1⟩⟩
/-- C(e, ..) -/
theorem re_make {Q : VK} {dvs : List V} {dl : List Value} (Mm : Mk X.K C f) (F : FnOk X.prog X.w X.K X.mg X.base CX0 k f fd ps sp) (hr : Room (k + 1) X.A) (hm : X.mg x = some (.ref C)) (hb : Binds X.K fd ps dl) (hd : Vals dvs dl)
    (ha : RA X (e :: es) σ H fun vs H1 => ∀ y dx, H1 y = none → H1 dx = none → dx ≠ y → sp (.ref y :: (vs ++ dvs)) (upd (upd H1 dx (.own y)) y (.ins C dx [])) (fun v H2 => v = .non ∧ Q (.ref y) H2) E0) (hg : Gl X x := by rfl)
    (hdb : (x == ("__debug__" : Str)) = false := by decide) (he : starEach (e :: es) X.env = (false, eval e X.env) :: starEach es X.env := by rfl) (hpl : (backTo pos (starEach es X.env)).any (·.1) = false := by rfl) : RE X (.Call (.Name x p1) (e :: es) [] pos) σ H Q :=
  ⟨_, pe_make Mm F hr hg hm hb hd pass0 ra_ hdb he hpl, ha⟩
/-- o.f = e -/
theorem rb_fld {m : Str} {dx pa : Addr} {fs : List (Str × V)} {ap : Pos} (he : RE X e σ H fun v H1 => H1 pa = some (.ins C dx fs) ∧ fs.length < 1000 ∧ XV X σ H1 o (.ref pa) ∧ ∀ H2, Same H1 H2 → RB X rest D σ (upd H2 pa (.ins C dx (putF m v fs)))) (hc : Cls X.K C) (hn : NoAttr X.K C m) (hs : swapsWith e (some (.Attribute o m ap)) pos.line X.env = pure false := by rfl) :
    RB X (.Assign [.Attribute o m ap] e pos :: rest) D σ H :=
  ⟨_, pss_cons (ps_fld re_ re_ hs) rb_, re_mono he fun v H1 ⟨h1, hl, ho, q⟩ => ho H1 (Same.refl _) _ fun H2 s2 => ⟨pa, C, dx, fs, rfl, s2 _ _ h1, hc, hn, hl, q H2 s2⟩⟩
end
end Dl

set_option Elab.async false
set_option linter.all false
set_option maxRecDepth 100000
set_option maxHeartbeats 4000000
/-! Data layer, part 6: sets of whole numbers by a comprehension, sorted; repr of one value; sums; dicts by texts. -/
namespace Dl
open PySem PySem.Spec PyProof.Rows L2
section
variable {X : Cx}
/-- {e for t in it if ..}, e a whole number; p: the set -/
def tSetI (w : World) (wi : TI) (g : TG) (tt : TT) (te : TE) (vs : List Nat) : TE := fun σ H Q => wi σ H fun J Ha => ∀ p, Ha p = none → ∃ Z : Nat → Nat → Hp → Prop,
  (∃ k, Z 0 k (upd Ha p (SetO w p (fun _ => false) 0))) ∧ ∀ i k Hb, Z i k Hb → (J.stop i Hb ∧ Q (.ref p) Hb) ∨ (J.go i Hb ∧ ∃ Nx : Hp → Prop, (∀ Hc, Nx Hc → ∃ j, j < k ∧ Z (i + 1) j Hc) ∧
    ∀ x Hc, J.yld i Hb x Hc → g x (wipe σ vs) Hc fun τ Hd => wipe τ vs = wipe σ vs ∧ tt τ Hd fun b He =>
      if b = true then te τ He fun y Hf => ∃ (n : Int) (S : Int → Bool) (c : Nat), y = .int n ∧ Hf p = some (SetO w p S c) ∧ c + 1 < scanBound ∧ Nx (upd Hf p (SetO w p (fun j => S j || decide (j = n)) (if S n = true then c else c + 1))) else Nx He)
theorem setI_run {ps : List (Addr × Obj)} {z : Shared} {σ : L2.St} {H : Hp} {Q : VK} {elt tg iter : Expr} {ifs : List Expr} {scope : Scope} {own : List (PySem.Str × Nat)} {pos pf : Pos} {wi : TI} {g : TG} {tt : TT} {te : TE} {Qf : Value → Shared → Prop}
    (hc : X.calm = true) (hN : X.N.Nodup) (inv : Inv X ps σ H z) (hi : PI X tg iter wi) (ok : BlkOk X.N X.env.scope scope own)
    (Pg : ∀ (y : Shared) (Hy : Hp) (c : Addr) (l : List (PySem.Str × Addr)) (q : List Addr), PG (X.blk y Hy scope (compEnvC scope l c X.env) q) tg g)
    (Pt : ∀ (y : Shared) (Hy : Hp) (c : Addr) (l : List (PySem.Str × Addr)) (q : List Addr), PTs (X.blk y Hy scope (compEnvC scope l c X.env) q) ifs tt)
    (Pe : ∀ (y : Shared) (Hy : Hp) (c : Addr) (l : List (PySem.Str × Addr)) (q : List Addr), PE (X.blk y Hy scope (compEnvC scope l c X.env) q) elt te)
    (hs : ∀ x, foldedSetIterable iter X.env x = pure x) (owed : tSetI X.w wi g tt te (own.map (·.2)) σ H Q)
    (back : ∀ p c y m Hy, Inv X ps σ Hy y → Q (.ref p) Hy → y.heap.Ns c m → FpOk X ps Hy c → compPost (model X.prog X.w) X.A X.xe none Qf (.ref p) c (.ok .next) y) :
    wpAny (model X.prog X.w) X.A (comprehension (.SetComp elt [⟨tg, iter, ifs, 0⟩] scope pos) scope X.env pf (newSet (.type "set")) false (eval iter X.env) none) Qf X.xe z := by
  have cells : ∀ y ∈ scope.names, y.2 = .free → ∃ c, X.env.cells.lookup y.1 = some c := fun y hy e => (ok.free y hy e).elim (fun k => inv.ok.has _ (.inl k)) (fun k => inv.ok.has _ (.inr k))
  have names : ∀ y ∈ scope.names, y.2 = .local → scope.names.lookup y.1 = some .local := fun y hy e => by
    have u := ok.uniq y hy
    rw [e] at u
    exact u
  refine wpAny_comprehension_free (use := none) rfl hs (closure_ok cells) ok.kind names (thn (hi.run ps z σ H _ inv owed) fun _ za ha => thn ha fun _ zb hb => ?_)
  obtain ⟨it, fp, tn, J, Hb, rfl, invB, T, t0, fB, body⟩ := hb
  refine PpSet.newSet_ok (newEnv_comp ?_)
  generalize hp : zb.heap.objs.size = p
  have free : Hb p = none := invB.hok.fresh (Nat.le_of_eq hp)
  obtain ⟨Z, ⟨k0, start⟩, turn⟩ := body p free
  generalize hcz : ({ zb with heap := zb.heap.push { cls := .type "set", dict := none, data := .set #[] 0 (.fresh 0 0 (!X.w.params.followText "set-order")) } } : Shared) = zc
  have eqz : zc.heap = zb.heap.push { cls := .type "set", dict := none, data := .set #[] 0 (.fresh 0 0 (!X.w.params.followText "set-order")) } := by rw [← hcz]
  generalize hHc : upd Hb p (SetO X.w p (fun _ => false) 0) = Hc at start
  have invC : Inv X ps σ Hc zc := by
    subst hHc
    subst hcz
    refine invB.laid (t' := zb.toks) (fun _ _ e => Heap.get?_push_of_some _ e) (Nat.le_of_eq hp) ?_
    subst hp
    exact setO_new (setR_fresh X.w)
  have inB : ∀ b ∈ fp, b < zb.heap.objs.size := fun b hb => let ⟨_, e, _⟩ := T.obj _ _ t0 b hb; Heap.lt_size e
  have fC : ∀ b ∈ fp, FpOk X ps Hc b ∧ b < zc.heap.objs.size := fun b hb => by
    have lt := inB b hb
    have ne : b ≠ p := by rw [← hp]; exact Nat.ne_of_lt lt
    have e : Hc b = none := by rw [← hHc, upd_ne ne]; exact (fB b hb).1
    exact ⟨⟨e, (fB b hb).2⟩, by rw [eqz, Heap.size_push]; exact Nat.lt_succ_of_lt lt⟩
  have t1 : tn 0 zc.heap := T.keep _ _ _ t0 fun _ _ _ e => by rw [eqz]; exact Heap.get?_push_of_some _ e
  have invD := block_start invC ok hN fC
  have rg := Pg zc Hc zc.heap.objs.size (cellsFrom (zc.heap.objs.size + 1) scope.names (cloFrom X.env.cells scope.names [])) fp
  have rt := Pt zc Hc zc.heap.objs.size (cellsFrom (zc.heap.objs.size + 1) scope.names (cloFrom X.env.cells scope.names [])) fp
  have re := Pe zc Hc zc.heap.objs.size (cellsFrom (zc.heap.objs.size + 1) scope.names (cloFrom X.env.cells scope.names [])) fp
  show codeAny _ _ (.compStart (.SetComp elt [⟨tg, iter, ifs, 0⟩] scope pos) 0 (.ref it) (.ref p) (compEnvC scope (cellsFrom (zc.heap.objs.size + 1) scope.names (cloFrom X.env.cells scope.names [])) zc.heap.objs.size X.env))
    (compPost (model X.prog X.w) X.A X.xe none Qf (.ref p) zc.heap.objs.size) { zc with heap := pushCells (zc.heap.push { cls := .type "dict", data := .dict #[] }) scope.names }
  have none0 : ∀ b ∈ fp, Hc b = none := fun b hb => (fC b hb).1.1
  generalize hen : compEnvC scope (cellsFrom (zc.heap.objs.size + 1) scope.names (cloFrom X.env.cells scope.names [])) zc.heap.objs.size X.env = en at invD rg rt re ⊢
  have enl : en.locals = zc.heap.objs.size := by subst hen; rfl
  generalize hzd : ({ zc with heap := pushCells (zc.heap.push { cls := .type "dict", data := .dict #[] }) scope.names } : Shared) = zd at invD ⊢
  have t2 : tn 0 zd.heap := T.keep _ _ _ t1 fun _ _ _ e => by rw [← hzd]; exact pushCells_keeps _ _ _ _ (Heap.get?_push_of_some _ e)
  have still : ∀ {τ : L2.St} {Hx : Hp} {zx : Shared}, Inv (X.blk zc Hc scope en fp) [] τ Hx zx → (∀ b ∈ fp, Hx b = none) → ∀ b ∈ fp, FpOk (X.blk zc Hc scope en fp) [] Hx b := fun i n b hb =>
    ⟨n b hb, (i.ok.exf b hb).1, i.ok.exfs b hb, .inl hb, fun x c e => (i.ok.exf b hb).2 x c e, fun q hq => by
      have hq : q ∈ ([] : List (Addr × Obj)) ++ [] := hq
      simp at hq⟩
  have laps : codeAny (model X.prog X.w) X.A (.compLoop (.SetComp elt [⟨tg, iter, ifs, 0⟩] scope pos) 0 (.ref it) (.ref p) en) (compPost (model X.prog X.w) X.A X.xe none Qf (.ref p) zc.heap.objs.size) zd := by
    refine PpSet.compLoopS_any (fun k zx => ∃ i Hx, Inv (X.blk zc Hc scope en fp) [] (wipe σ (own.map (·.2))) Hx zx ∧ tn i zx.heap ∧ (∀ b ∈ fp, Hx b = none) ∧ Z i k Hx) (fun k zx hx => ?_) k0 ⟨0, Hc, invD, t2, none0, start⟩
    obtain ⟨i, Hx, ix, tx, nx, zk⟩ := hx
    rcases turn i k Hx zk with ⟨st, done⟩ | ⟨go, Nx, toN, step⟩
    · refine thnF (T.done (X.blk zc Hc scope en fp) rfl rfl rfl hc i [] zx _ Hx (fun _ _ => False) ix (still ix nx) tx st) fun r zy hy => ?_
      obtain ⟨rfl, iy⟩ := hy
      have iz : Inv X ps σ Hx zy := invC.call' (ch := fp) iy.os iy.base iy.hok iy.bare fun b hb => ⟨(fC b hb).1.2.2.2.1, (fC b hb).1.2.1, (fC b hb).1.2.2.2.2.1, (fC b hb).1.2.2.2.2.2⟩
      have nC : Hx zc.heap.objs.size = none := by
        have q : Hx en.locals = none := iy.free
        rwa [enl] at q
      obtain ⟨m, hm, _⟩ := iy.loc
      have hm : zy.heap.Ns en.locals m := hm
      rw [enl] at hm
      exact back p _ zy m Hx iz done hm (invC.fpOk (Nat.le_refl _) nC)
    · refine thnF (T.item (X.blk zc Hc scope en fp) rfl rfl rfl hc i [] zx _ Hx (fun _ _ => False) ix (still ix nx) tx go) fun r zy hy => ?_
      obtain ⟨u, rfl, hy⟩ := hy
      refine thnF hy fun _ zz hz => ?_
      obtain ⟨x, Hz, iz, rz, yz, tz, nz⟩ := hz
      refine thnF (rg.run _ zz _ Hz x u _ (iz.pinned (still iz nz) (T.obj _ _ tz)) rz (step x Hz yz)) fun _ z1 h1 => ?_
      obtain ⟨τ, H1, i1, w1, q1⟩ := h1
      refine thnF (rt.run _ z1 τ H1 _ i1 q1) fun b z2 h2 => ?_
      obtain ⟨H2, i2, q2⟩ := h2
      have fin : ∀ {zf : Shared} {Hf : Hp}, Inv (X.blk zc Hc scope en fp) ([] ++ pinsAt fp zz.heap) τ Hf zf → Nx Hf → ∃ j, j < k ∧ ∃ i Hx, Inv (X.blk zc Hc scope en fp) [] (wipe σ (own.map (·.2))) Hx zf ∧ tn i zf.heap ∧ (∀ b ∈ fp, Hx b = none) ∧ Z i j Hx := fun {zf Hf} i' n' => by
        obtain ⟨j, hj, zj⟩ := toN Hf n'
        have kept : ∀ b ∈ fp, ∀ o, zz.heap.get? b = some o → zf.heap.get? b = some o ∧ Hf b = none := fun b hb o e => by
          have q := i'.pin (b, o) (List.mem_append_right _ (List.mem_append_right _ (mem_pinsAt hb e)))
          exact ⟨q.1, q.2.1⟩
        have len : (wipe σ (own.map (·.2))).length = τ.length := by rw [← w1, wipe_length]
        refine ⟨j, hj, i + 1, Hf, (i'.unpinned (pins := [])).weak len (fun a v e => by rw [← w1] at e; exact (wipe_some e).1), T.keep _ _ _ tz fun b hb o e => (kept b hb o e).1, fun b hb => ?_, zj⟩
        obtain ⟨o, e, _⟩ := T.obj _ _ tz b hb
        exact (kept b hb o e).2
      cases b with
      | false =>
        rw [if_neg Bool.false_ne_true] at q2 ⊢
        exact fin i2 q2
      | true =>
        rw [if_pos rfl] at q2 ⊢
        refine thnF (re.run _ z2 τ H2 _ i2 q2) fun v z3 h3 => ?_
        obtain ⟨yv, H3, i3, r3, n, S, c, rfl, hD, room, nx3⟩ := h3
        have hv : ∃ t, v = Value.int n t := r3
        obtain ⟨t, rfl⟩ := hv
        exact setR_add (setO_get (X := X.blk zc Hc scope en fp) i3 hD) room fun h' sb new => by
          have ex : ∃ o, h'.get? p = some o := let ⟨o, _, _, _, ho, _⟩ := new; ⟨o, ho⟩
          exact fin (i3.write (e := p) (t' := z3.toks + 1) (by rw [hD]; trivial) (.inl rfl) (fun b o hb ho => (sb.2 b hb).trans ho) ex (setO_new new)) nx3
  exact PpSet.codeAny_compStart_set laps (T.self X.A 0 _ _ _ t2 laps)
theorem pe_setI {elt tg iter : Expr} {ifs : List Expr} {scope : Scope} {own : List (PySem.Str × Nat)} {pos : Pos} {wi : TI} {g : TG} {tt : TT} {te : TE} (hc : X.calm = true) (hN : X.N.Nodup) (hi : PI X tg iter wi) (ok : BlkOk X.N X.env.scope scope own)
    (Pg : ∀ (y : Shared) (Hy : Hp) (c : Addr) (l : List (PySem.Str × Addr)) (q : List Addr), PG (X.blk y Hy scope (compEnvC scope l c X.env) q) tg g)
    (Pt : ∀ (y : Shared) (Hy : Hp) (c : Addr) (l : List (PySem.Str × Addr)) (q : List Addr), PTs (X.blk y Hy scope (compEnvC scope l c X.env) q) ifs tt)
    (Pe : ∀ (y : Shared) (Hy : Hp) (c : Addr) (l : List (PySem.Str × Addr)) (q : List Addr), PE (X.blk y Hy scope (compEnvC scope l c X.env) q) elt te)
    (hs : ∀ x, foldedSetIterable iter X.env x = pure x) : PE X (.SetComp elt [⟨tg, iter, ifs, 0⟩] scope pos) (tSetI X.w wi g tt te (own.map (·.2))) := by
  refine ⟨fun ps z σ H Q inv h => ?_⟩
  rw [PpSet.eval_SetComp]
  refine setI_run hc hN inv hi ok Pg Pt Pe hs h fun p c y m Hy iy q hm fp => ?_
  obtain ⟨a0, a1, a2, a3, a4, a5⟩ := fp
  exact ⟨m, hm, fun _ sb => ⟨.ref p, Hy, iy.turned (t' := y.toks) (fun b o hb e => (sb.2 b hb).trans e) a0 a1 a3 a4 a5, rfl, q⟩⟩
end
end Dl

set_option Elab.async false
set_option linter.all false
set_option maxRecDepth 100000
set_option maxHeartbeats 4000000
/-! Data layer, part 7: sorted({..}), sorted, sum, repr of one value, a chain of comparisons, {..}.get(..), comprehensions over range. -/
namespace Dl
open PySem PySem.Spec PyProof.Rows L2
/-- two strictly ascending lists with the same members -/
theorem asc_eq : ∀ {xs ys : List Int}, xs.Pairwise (· < ·) → ys.Pairwise (· < ·) → (∀ k, k ∈ xs ↔ k ∈ ys) → xs = ys
  | [], [], _, _, _ => rfl
  | [], y :: ys, _, _, h => by have := (h y).mpr (List.mem_cons_self ..); simp at this
  | x :: xs, [], _, _, h => by have := (h x).mp (List.mem_cons_self ..); simp at this
  | x :: xs, y :: ys, hx, hy, h => by
    obtain ⟨hx1, hx2⟩ := List.pairwise_cons.mp hx
    obtain ⟨hy1, hy2⟩ := List.pairwise_cons.mp hy
    have e : x = y := by
      have a := (h x).mp (List.mem_cons_self ..)
      have b := (h y).mpr (List.mem_cons_self ..)
      rcases List.mem_cons.mp a with a | a
      · exact a
      · rcases List.mem_cons.mp b with b | b
        · exact b.symm
        · have := hx1 y b; have := hy1 x a; omega
    subst e
    rw [asc_eq hx2 hy2 fun k => ?_]
    constructor
    · intro q
      rcases List.mem_cons.mp ((h k).mp (List.mem_cons_of_mem _ q)) with z | z
      · have := hx1 k q; omega
      · exact z
    · intro q
      rcases List.mem_cons.mp ((h k).mpr (List.mem_cons_of_mem _ q)) with z | z
      · have := hy1 k q; omega
      · exact z
theorem asc_of_le : ∀ {xs : List Int}, xs.Pairwise (· ≤ ·) → xs.Nodup → xs.Pairwise (· < ·)
  | [], _, _ => .nil
  | x :: xs, h, n => by
    obtain ⟨h1, h2⟩ := List.pairwise_cons.mp h
    obtain ⟨n1, n2⟩ := List.nodup_cons.mp n
    refine List.pairwise_cons.mpr ⟨fun y hy => ?_, asc_of_le h2 n2⟩
    have := h1 y hy
    have : x ≠ y := fun z => n1 (z ▸ hy)
    omega
theorem ints_dq {K : PySem.W.Frag} {H : Hp} : ∀ ns : List Int, DqAll K H (ns.map V.int) (ns.map PyData.int)
  | [] => .nil
  | n :: ns => .cons (.int n) (ints_dq ns)
theorem ints_v {K : PySem.W.Frag} {H : Hp} : ∀ {ns : List Int} {xs : List V}, DqAll K H xs (ns.map PyData.int) → xs = ns.map V.int
  | [], _, h => by cases h; rfl
  | n :: ns, _, h => by
    cases h with
    | cons a b => rw [dp_int a, ints_v b]; rfl
section
variable {X : Cx} {M : List Addr} {σ : L2.St} {H H' : Hp} {e a b c o elt tg iter : Expr} {ifs : List Expr} {scope : Scope} {own : List (Str × Nat)} {es : List Expr} {d d1 d2 : PyData} {ds ds2 : List PyData} {x : Str} {v : V} {pos p1 p2 p3 : Pos}
theorem set_list {w : World} {K : PySem.W.Frag} {a : Addr} {xs : List V} {g : TG} {tt : TT} {te : TE} {vs : List Nat} {Ha : Hp} {p : Addr} {Qd : Hp → Prop} (Pv : Nat → Hp → Prop) (h0 : Pv 0 (upd Ha p (SetO w p (fun _ => false) 0)))
    (hl : ∀ i Hb, i ≤ xs.length → Pv i Hb → SqL K Hb a xs)
    (hs : ∀ i x Hc, xs[i]? = some x → Pv i Hc → g x (wipe σ vs) Hc fun τ Hd => wipe τ vs = wipe σ vs ∧ tt τ Hd fun b He =>
      if b = true then te τ He fun y Hf => ∃ (n : Int) (S : Int → Bool) (c : Nat), y = .int n ∧ Hf p = some (SetO w p S c) ∧ c + 1 < scanBound ∧ Pv (i + 1) (upd Hf p (SetO w p (fun j => S j || decide (j = n)) (if S n = true then c else c + 1))) else Pv (i + 1) He)
    (hd : ∀ Hb, Pv xs.length Hb → Qd Hb) :
    ∃ Z : Nat → Nat → Hp → Prop, (∃ k, Z 0 k (upd Ha p (SetO w p (fun _ => false) 0))) ∧ ∀ i k Hb, Z i k Hb → ((Itl K a).stop i Hb ∧ Qd Hb) ∨ ((Itl K a).go i Hb ∧ ∃ Nx : Hp → Prop, (∀ Hc, Nx Hc → ∃ j, j < k ∧ Z (i + 1) j Hc) ∧
      ∀ x Hc, (Itl K a).yld i Hb x Hc → g x (wipe σ vs) Hc fun τ Hd => wipe τ vs = wipe σ vs ∧ tt τ Hd fun b He =>
        if b = true then te τ He fun y Hf => ∃ (n : Int) (S : Int → Bool) (c : Nat), y = .int n ∧ Hf p = some (SetO w p S c) ∧ c + 1 < scanBound ∧ Nx (upd Hf p (SetO w p (fun j => S j || decide (j = n)) (if S n = true then c else c + 1))) else Nx He) := by
  refine ⟨fun i k Hb => k + i = xs.length ∧ Pv i Hb, ⟨xs.length, rfl, h0⟩, fun i k Hb hz => ?_⟩
  obtain ⟨hk, hp⟩ := hz
  have here := hl i Hb (by omega) hp
  cases e : xs[i]? with
  | none =>
    have hge : xs.length ≤ i := List.getElem?_eq_none_iff.mp e
    have ei : i = xs.length := by omega
    subst ei
    exact .inl ⟨⟨xs, here, hge⟩, hd Hb hp⟩
  | some x0 =>
    have hlt := (List.getElem?_eq_some_iff.mp e).1
    refine .inr ⟨⟨xs, x0, here, e⟩, Pv (i + 1), fun Hc hc => ⟨k - 1, by omega, by omega, hc⟩, fun x Hc hy => ?_⟩
    obtain ⟨rfl, hy⟩ := hy
    exact hs i x _ (hy xs here) hp
/-- sorted({elt for tg in iter if ..}) -/
theorem xl_sortedSet (f : PyData → Option Int) (ns : List Int) (hm : X.mg "sorted" = none) (L : Live M H) (hN : X.N.Nodup) (hit : XD X M σ H iter (.list ds)) (ok : BlkOk X.N X.env.scope scope own) (hz : ds.length ≤ 60)
    (hst : ∀ p d v H1, d ∈ ds → H p = none → Same H H1 → Live (p :: M) H1 → Dq X.K (hid (p :: M) H1) v d → BG X scope tg v (wipe σ (own.map (·.2))) H1 fun τ H2 => wipe τ (own.map (·.2)) = wipe σ (own.map (·.2)) ∧ BT X scope ifs τ H2 fun k H3 =>
      Same H1 H3 ∧ ((k = true ∧ ∃ n, f d = some n ∧ BE X scope elt τ H3 fun y H4 => Same H3 H4 ∧ y = .int n) ∨ (k = false ∧ f d = none)))
    (hasc : ns.Pairwise (· < ·)) (hmem : ∀ k, k ∈ ns ↔ ∃ d ∈ ds, f d = some k) (hc : X.calm = true := by rfl) (hs : ∀ x, foldedSetIterable iter X.env x = pure x := by intro _; rfl) (hg : Gl X "sorted" := by rfl)
    (he : starEach [.SetComp elt [⟨tg, iter, ifs, 0⟩] scope pos] X.env = (false, eval (.SetComp elt [⟨tg, iter, ifs, 0⟩] scope pos) X.env) :: starEach [] X.env := by rfl) (hpl : (backTo p2 (starEach [] X.env)).any (·.1) = false := by rfl) :
    XL X M σ H (.Call (.Name "sorted" p1) [.SetComp elt [⟨tg, iter, ifs, 0⟩] scope pos] [] p2) (ns.map PyData.int) := fun H1 s1 Q q => by
  refine re_B (cr_sortedSet hc) (ra_1 ⟨_, pe_setI (own := own) hc hN (pi_list re_) ok (fun _ _ _ _ _ => bg_) (fun _ _ _ _ _ => bt_) (fun _ _ _ _ _ => be_) hs, hit H1 s1 _ fun v H2 s2 hv => ?_⟩ he) hm (by decide +kernel) hg (by decide) (by decide) he hpl
  obtain ⟨a, xs, rfl, ha, hx⟩ := dp_lst hv
  have L2' : Live M H2 := L.mono (s1.trans s2)
  refine ⟨a, rfl, ⟨xs, SqL.of (hid_le _ _ ha)⟩, fun p hp => ?_⟩
  have hp0 : H p = none := (s1.trans s2).free hp
  refine set_list (xs := xs) (a := a) (fun i H' => Same H2 H' ∧ ∃ S c, H' p = some (SetO X.w p S c) ∧ c ≤ i ∧ ∀ k, S k = true ↔ ∃ d ∈ ds.take i, f d = some k)
    ⟨same_new hp, fun _ => false, 0, upd_same, Nat.le_refl _, fun k => by simp⟩ (fun i H' _ z => SqL.of (z.1 _ _ (hid_le _ _ ha))) (fun i x H' hi z => ?_) (fun H' z => ?_)
  · obtain ⟨sH, S, n, hS, hn, hk⟩ := z
    obtain ⟨d, hd1, hd2⟩ := dpa_get' hx hi
    have hdm : d ∈ ds := List.mem_of_getElem? hd1
    have hi60 : i < 60 := by have := (List.getElem?_eq_some_iff.mp hd1).1; omega
    have etake : ds.take (i + 1) = ds.take i ++ [d] := by rw [List.take_add_one, hd1]; rfl
    have Lp : Live (p :: M) H' := fun b hb => by
      rcases List.mem_cons.mp hb with z | hb
      · subst z; rw [hS]; simp
      · exact L2'.mono sH b hb
    refine bg_mono (hst p d x H' hdm hp0 ((s1.trans s2).trans sH) Lp (hd2.up (hid_step hp sH))) fun τ Ha ⟨hw, hbt⟩ => ⟨hw, bt_mono hbt fun k Hb ⟨sb, hk'⟩ => ?_⟩
    rcases hk' with ⟨hk1, m, hf, hbe⟩ | ⟨hk1, hf⟩
    · subst hk1
      refine iteT (be_mono hbe fun y Hc ⟨sc, hy⟩ => ?_)
      have sd := sb.trans sc
      refine ⟨m, S, n, hy, sd _ _ hS, Nat.lt_of_lt_of_le (by omega : n + 1 < 4096) (Nat.le_refl _), fun b o e => ?_, fun j => S j || decide (j = m), (if S m = true then n else n + 1), upd_same, by split <;> omega, fun j => ?_⟩
      · rw [upd_ne (ne_of_none e hp)]
        exact sd _ _ (sH _ _ e)
      · rw [Bool.or_eq_true, decide_eq_true_eq, hk j, etake]
        constructor
        · rintro (⟨d', h1, h2⟩ | h)
          · exact ⟨d', List.mem_append_left _ h1, h2⟩
          · exact ⟨d, List.mem_append_right _ (List.mem_singleton.mpr rfl), by rw [hf, h]⟩
        · rintro ⟨d', h1, h2⟩
          rcases List.mem_append.mp h1 with h1 | h1
          · exact .inl ⟨d', h1, h2⟩
          · rw [List.mem_singleton.mp h1, hf] at h2
            exact .inr (Option.some.inj h2).symm
    · subst hk1
      refine iteF ⟨sH.trans sb, S, n, sb _ _ hS, by omega, fun j => ?_⟩
      rw [hk j, etake]
      constructor
      · rintro ⟨d', h1, h2⟩
        exact ⟨d', List.mem_append_left _ h1, h2⟩
      · rintro ⟨d', h1, h2⟩
        rcases List.mem_append.mp h1 with h1 | h1
        · exact ⟨d', h1, h2⟩
        · rw [List.mem_singleton.mp h1, hf] at h2
          cases h2
  · obtain ⟨sH, S, n, hS, hn, hk⟩ := z
    have hlen := dpa_len hx
    rw [hlen, List.take_length] at hk
    refine ⟨p, S, n, rfl, hS, by omega, fun ks l h1 h2 _ hl => ?_⟩
    have e : ks = ns := asc_eq h1 hasc fun k => (h2 k).trans ((hk k).trans (hmem k).symm)
    subst e
    refine q l _ _ ((s2.trans sH).trans (same_new hl)) ((s2.trans sH).free hl) upd_same ?_
    rw [hid_new (L2'.mono sH) hl]
    exact ints_dq ks
/-- sorted(l), l a list of different whole numbers -/
theorem xl_sortedI {ms : List Int} (ns : List Int) (hm : X.mg "sorted" = none) (L : Live M H) (ha : XD X M σ H e (.list (ms.map PyData.int))) (hz : ms.length < 64) (hnd : ms.Nodup) (hasc : ns.Pairwise (· < ·)) (hmem : ∀ k, k ∈ ns ↔ k ∈ ms) (hg : Gl X "sorted" := by rfl)
    (he : starEach [e] X.env = (false, eval e X.env) :: starEach [] X.env := by rfl) (hpl : (backTo p2 (starEach [] X.env)).any (·.1) = false := by rfl) : XL X M σ H (.Call (.Name "sorted" p1) [e] [] p2) (ns.map PyData.int) := fun H1 s1 Q q =>
  re_B cr_sorted (ra_1 (ha H1 s1 _ fun v H2 s2 hv => by
    obtain ⟨a, xs, rfl, ha, hx⟩ := dp_lst hv
    have ex := ints_v hx
    subst ex
    refine ⟨a, ms, rfl, SqL.of (hid_le _ _ ha), hz, fun ks l h1 h2 hl => ?_⟩
    have e : ks = ns := asc_eq (asc_of_le h2 (h1.nodup_iff.mpr hnd)) hasc fun k => h1.mem_iff.trans (hmem k).symm
    subst e
    refine q l _ _ (s2.trans (same_new hl)) (s2.free hl) upd_same ?_
    rw [hid_new (L.mono (s1.trans s2)) hl]
    exact ints_dq ks) he) hm (by decide +kernel) hg (by decide) (by decide) he hpl
/-- sum(l) -/
theorem xd_sum {ns : List Int} (hm : X.mg "sum" = none) (ha : XD X M σ H e (.list (ns.map PyData.int))) (hc : X.calm = true := by rfl) (hg : Gl X "sum" := by rfl)
    (he : starEach [e] X.env = (false, eval e X.env) :: starEach [] X.env := by rfl) (hpl : (backTo p2 (starEach [] X.env)).any (·.1) = false := by rfl) : XD X M σ H (.Call (.Name "sum" p1) [e] [] p2) (.int ns.sum) := fun H1 s1 Q q =>
  re_B (cr_sum hc) (ra_1 (ha H1 s1 _ fun v H2 s2 hv => by
    obtain ⟨a, xs, rfl, ha, hx⟩ := dp_lst hv
    have ex := ints_v hx
    subst ex
    exact ⟨a, ns, rfl, SqL.of (hid_le _ _ ha), q _ H2 s2 (.int _)⟩) he) hm (by decide +kernel) hg (by decide) (by decide) he hpl
/-! ### repr of one value -/
/-- a whole number of few digits, or None -/
def Plain (d : PyData) : Prop := d = .none ∨ ∃ i : Int, d = .int i ∧ i.natAbs.log2 < 1920
def txt : PyData → Str
  | .int i => Str.ofString (toString i)
  | _ => "None"
theorem call_reprN : CallR X (.builtin "repr") (fun xs H Q => xs = [.non] ∧ Q (.str "None") H) := by
  intro pins s σ H xs us Q I r h
  obtain ⟨rfl, q⟩ := h
  obtain ⟨u, rfl, rx⟩ := vals1 r
  cases rx
  exact PySem.P.repr_of_none ⟨.str _, H, I.tok _, ⟨_, rfl⟩, q⟩
theorem xd_reprP (hm : X.mg "repr" = none) (h : Plain d) (ha : XD X M σ H e d) (hg : Gl X "repr" := by rfl)
    (he : starEach [e] X.env = (false, eval e X.env) :: starEach [] X.env := by rfl) (hpl : (backTo p2 (starEach [] X.env)).any (·.1) = false := by rfl) : XD X M σ H (.Call (.Name "repr" p1) [e] [] p2) (.str (txt d)) := fun H1 s1 Q q => by
  rcases h with rfl | ⟨i, rfl, hi⟩
  · exact re_B call_reprN (ra_1 (ha H1 s1 _ fun v H2 s2 hv => ⟨by rw [dp_non hv], q _ H2 s2 (.str _)⟩) he) hm (by decide +kernel) hg (by decide) (by decide) he hpl
  · exact re_B SkE.call_repr_int (ra_1 (ha H1 s1 _ fun v H2 s2 hv => ⟨i, by rw [dp_int hv], hi, q _ H2 s2 (.str _)⟩) he) hm (by decide +kernel) hg (by decide) (by decide) he hpl
theorem xt_reprNeP {pa pb : Pos} (hm : X.mg "repr" = none) (h : Plain d) (ha : XD X M σ H a d) (hb : XD X M σ H b d) (hg : Gl X "repr" := by rfl)
    (he : starEach [a] X.env = (false, eval a X.env) :: starEach [] X.env := by rfl) (hpl : (backTo pa (starEach [] X.env)).any (·.1) = false := by rfl) (he2 : starEach [b] X.env = (false, eval b X.env) :: starEach [] X.env := by rfl) (hpl2 : (backTo pb (starEach [] X.env)).any (·.1) = false := by rfl) :
    XT X σ H (.Compare (.Call (.Name "repr" p1) [a] [] pa) [.NotEq] [.Call (.Name "repr" p2) [b] [] pb] pos) false :=
  xt_cmp op_ne (xd_reprP hm h ha hg he hpl) (xd_reprP hm h hb hg he2 hpl2) fun H1 v w s hv hw Q q => by
    rw [dp_str hv, dp_str hw]
    exact ⟨rfl, by rw [decide_eq_true rfl]; exact q H1 (Same.refl _)⟩
/-! ### l <= x < h -/
theorem xt_chainI {op op' : CmpOp} {g g' : Int → Int → Bool} {l m n : Int} (ho : OpR X (compareOp op) (rI0 fun i j => .bl (g i j))) (ho' : OpR X (compareOp op') (rI0 fun i j => .bl (g' i j))) (ha : XD X M σ H a (.int l)) (hb : XD X M σ H b (.int m)) (hc : XD X M σ H c (.int n))
    (hm : lastMarks [op, op'] [b, c] = false := by with_unfolding_all rfl) : XT X σ H (.Compare a [op, op'] [b, c] pos) (g l m && g' m n) := fun H1 s Q q =>
  ⟨_, pt_chain ho ho' re_ re_ re_ hm, ha H1 s _ fun v H2 s2 hv => hb H2 (s.trans s2) _ fun u H3 s3 hu => ⟨l, m, dp_int hv, dp_int hu, g l m, rfl, by
    cases e : g l m with
    | false =>
      rw [e] at q
      exact iteF ⟨false, rfl, q H3 (s2.trans s3)⟩
    | true =>
      rw [e] at q
      exact iteT (hc H3 ((s.trans s2).trans s3) _ fun y H4 s4 hy => ⟨m, n, dp_int hu, dp_int hy, g' m n, rfl, q H4 ((s2.trans s3).trans s4)⟩)⟩⟩
/-! ### {k1: a, k2: b}.get(c) -/
theorem xd_get2 {k1 k2 k : Str} {i1 i2 : Int} {j1 j2 : _} {q1 q2 : Pos} (hu : X.A.units + 1 < cLine) (ha : XD X M σ H a (.int i1)) (hb : XD X M σ H b (.int i2)) (hk : XD X M σ H c (.str k)) (hne : k1 ≠ k2)
    (mm : M1 X (.Dict [some (.Constant (.str k1) j1 q1), some (.Constant (.str k2) j2 q2)] [a, b] pos) "get" p1 c p2) :
    XD X M σ H (.Call (.Attribute (.Dict [some (.Constant (.str k1) j1 q1), some (.Constant (.str k2) j2 q2)] [a, b] pos) "get" p1) [c] [] p2) (if k = k1 then .int i1 else if k = k2 then .int i2 else .none) := fun H1 s1 Q q =>
  ⟨_, pe_dget1 hu (pe_disp (pps_cons pe_str re_ (pps_cons pe_str re_ pps_nil)) rfl rfl (by simp) (by simp)) re_ mm, fun p hp => ha _ (s1.trans (same_new hp)) _ fun v H2 s2 hv => hb H2 ((s1.trans (same_new hp)).trans s2) _ fun u H3 s3 hu => by
    have s13 : Same H1 H3 := ((same_new hp).trans s2).trans s3
    have h3p : H3 p = some (.dK []) := s3 _ _ (s2 _ _ upd_same)
    refine ⟨h3p, [(.inr k1, .int i1), (.inr k2, .int i2)], by rw [dp_int hv, dp_int hu]; rfl, by simp, p, rfl, .inl ⟨_, .inl upd_same⟩, ?_⟩
    have sx : Same H1 (upd H3 p (.dK (mergeK [] [(.inr k1, .int i1), (.inr k2, .int i2)]))) := fun b o e => by
      rw [upd_ne (ne_of_none e hp)]
      exact s13 b o e
    refine hk _ (s1.trans sx) _ fun y H4 s4 hy => ?_
    rw [dp_str hy]
    have e : mergeK [] [((Sum.inr k1 : L2.Key), V.int i1), (.inr k2, .int i2)] = [(.inr k1, .int i1), (.inr k2, .int i2)] := by
      have n : (Sum.inr k1 : L2.Key) ≠ .inr k2 := fun z => hne (Sum.inr.inj z)
      show putK (putK [] (Sum.inr k1 : L2.Key) (V.int i1)) (.inr k2) (.int i2) = _
      have e1 : putK [] (Sum.inr k1 : L2.Key) (V.int i1) = [(.inr k1, .int i1)] := rfl
      rw [e1]
      unfold putK
      rw [if_neg (by simp [hne])]
      rfl
    rw [e] at s4
    refine ⟨_, DGet.k (k := .inr k) (s4 _ _ upd_same), q _ H4 ?_ ?_⟩
    · rw [e] at sx; exact sx.trans s4
    · by_cases h1 : k = k1
      · subst h1
        rw [valV_pos rfl, if_pos rfl]
        exact .int _
      · rw [valV_neg (fun z => h1 (Sum.inr.inj z).symm), if_neg h1]
        by_cases h2 : k = k2
        · subst h2
          rw [valV_pos rfl, if_pos rfl]
          exact .int _
        · rw [valV_neg (fun z => h2 (Sum.inr.inj z).symm), if_neg h2, valV_nil]
          exact .non⟩
/-! ### [.. for x in range(a, b)], whole numbers -/
theorem xl_range2 {lo hi : Int} (g : Int → Int) (hm : X.mg "range" = none) (L : Live M H) (hN : X.N.Nodup) (ha : XD X M σ H a (.int lo)) (hb : XD X M σ H b (.int hi)) (ok : BlkOk X.N X.env.scope scope own) (hz : (-(1000 : Int) ≤ lo ∧ lo ≤ 1000) ∧ (-(1000 : Int) ≤ hi ∧ hi ≤ 1000))
    (hst : ∀ i H1, Same H H1 → BG X scope tg (.int i) (wipe σ (own.map (·.2))) H1 fun τ H2 => wipe τ (own.map (·.2)) = wipe σ (own.map (·.2)) ∧ Same H1 H2 ∧ BE X scope elt τ H2 fun y H3 => Same H2 H3 ∧ y = .int (g i))
    (hc : X.calm = true := by rfl) (hs : ∀ x, foldedSetIterable (.Call (.Name "range" p1) [a, b] [] p2) X.env x = pure x := by intro _; rfl) (hg : Gl X "range" := by rfl)
    (he : starEach [a, b] X.env = (false, eval a X.env) :: starEach [b] X.env := by rfl) (he2 : starEach [b] X.env = (false, eval b X.env) :: starEach [] X.env := by rfl)
    (he3 : starEach [b] X.env = [(false, eval b X.env)] := by rfl) : XL X M σ H (.ListComp elt [⟨tg, .Call (.Name "range" p1) [a, b] [] p2, [], 0⟩] scope pos) ((List.range (hi - lo).toNat).map fun i : Nat => PyData.int (g (lo + i))) := fun H1 s1 Q q =>
  ⟨_, pe_lc (own := own) hc hN (pi_range2 hg hm ra_ (by rw [he, he3]) he3) ok (fun _ _ _ _ _ => bg_) (fun _ _ _ _ _ => bt_) (fun _ _ _ _ _ => be_) hs, ra_cons (ha H1 s1 _ fun v H2 s2 hv => ra_1 (hb H2 (s1.trans s2) _ fun u H3 s3 hu => by
    have b1 : (1000 : Int) < 2 ^ 62 := by decide
    refine ⟨lo, hi, by rw [dp_int hv, dp_int hu], ⟨by omega, by omega, by omega, by omega⟩, fun p hp => ?_⟩
    have s13 := s2.trans s3
    have L3 := L.mono (s1.trans s13)
    refine lc_range (fun i H' => Same H3 H' ∧ ∃ acc, H' p = some (.lst acc) ∧ acc = ((List.range i).map fun i : Nat => V.int (g (lo + i)))) ⟨same_new hp, [], upd_same, rfl⟩ (fun i H' hi' z => ?_) (fun H' z => ?_)
    · obtain ⟨sH, acc, hacc, ea⟩ := z
      refine bg_mono (hst (lo + i) H' ((s1.trans s13).trans sH)) fun τ Ha ⟨hw, sa, hbe⟩ => ⟨hw, bt_nil (iteT (be_mono hbe fun y Hb ⟨sb, ey⟩ => ?_))⟩
      have sd := sa.trans sb
      refine ⟨acc, sd _ _ hacc, ?_, fun b o e => ?_, _, upd_same, ?_⟩
      · have h4 : 100000 < sizeLine := by decide
        rw [ea, List.length_map, List.length_range]
        omega
      · rw [upd_ne (ne_of_none e hp)]
        exact sd _ _ (sH _ _ e)
      · rw [ea, ey, List.range_succ, List.map_append]
        rfl
    · obtain ⟨sH, acc, hacc, ea⟩ := z
      refine q p acc H' (s13.trans sH) (s13.free hp) hacc ?_
      rw [ea]
      have e := ints_dq (K := X.K) (H := hid M H') ((List.range (hi - lo).toNat).map fun i : Nat => g (lo + i))
      rw [List.map_map, List.map_map] at e
      exact e) he2) he⟩
end
end Dl

set_option Elab.async false
set_option linter.all false
set_option maxRecDepth 100000
set_option maxHeartbeats 4000000
/-! Data layer, part 8: x = [..] on one line. -/
namespace Dl
open PySem PySem.Spec PyProof.Rows L2
section
variable {X : Cx} {M : List Addr} {σ : L2.St} {H H' : Hp} {e a b c o elt tg iter : Expr} {ifs : List Expr} {scope : Scope} {own : List (Str × Nat)} {es : List Expr} {d : PyData} {ds : List PyData} {x : Str} {v : V} {pos p0 p1 p2 p3 p4 : Pos} {D : Ends} {rest : List Stmt}
/-- a comprehension; Pv: what more is known of each item -/
theorem lc_P (f : PyData → Option PyData) (Pv : Addr → V → Hp → Prop) (mono : ∀ p v H1 H2, (∀ b o, b ≠ p → H1 b = some o → H2 b = some o) → Pv p v H1 → Pv p v H2) (L : Live M H) (hN : X.N.Nodup) (hit : XD X M σ H iter (.list ds)) (ok : BlkOk X.N X.env.scope scope own) (hz : ds.length ≤ 100000)
    (hst : ∀ p d v H1, d ∈ ds → H p = none → Same H H1 → Live (p :: M) H1 → Dq X.K (hid (p :: M) H1) v d → BG X scope tg v (wipe σ (own.map (·.2))) H1 fun σ2 H2 => wipe σ2 (own.map (·.2)) = wipe σ (own.map (·.2)) ∧ BT X scope ifs σ2 H2 fun k H3 =>
      Same H1 H3 ∧ ((k = true ∧ ∃ d', f d = some d' ∧ BE X scope elt σ2 H3 fun y H4 => Same H3 H4 ∧ Dq X.K (hid (p :: M) H4) y d' ∧ Pv p y H4) ∨ (k = false ∧ f d = none)))
    {Q : VK} (q : ∀ p xs H2, Same H H2 → H p = none → H2 p = some (.lst xs) → DqAll X.K (hid (p :: M) H2) xs (ds.filterMap f) → (∀ v ∈ xs, Pv p v H2) → Q (.ref p) H2)
    : ∃ wi, PI X tg iter wi ∧ tLc wi (BG X scope tg) (BT X scope ifs) (BE X scope elt) (own.map (·.2)) σ H Q :=
  ⟨_, pi_list re_, hit H (Same.refl H) _ fun v H2 s2 hv => by
    obtain ⟨a, xs, rfl, ha, hx⟩ := dp_lst hv
    have L2' : Live M H2 := L.mono s2
    refine ⟨a, rfl, ⟨xs, SqL.of (hid_le _ _ ha)⟩, fun p hp => ?_⟩
    have hpM : p ∉ M := L2'.fresh hp
    have hp0 : H p = none := s2.free hp
    refine lc_list (xs := xs) (a := a) (fun i H' => Same H2 H' ∧ ∃ acc, H' p = some (.lst acc) ∧ DqAll X.K (hid (p :: M) H') acc ((ds.take i).filterMap f) ∧ ∀ v ∈ acc, Pv p v H') ⟨same_new hp, [], upd_same, by simpa using DqAll.nil, fun v hv => by simp at hv⟩ (fun i H' _ w => SqL.of (w.1 _ _ (hid_le _ _ ha))) (fun i x H' hi w => ?_) (fun H' w => ?_)
    · obtain ⟨sH, acc, hacc, hda, hpv⟩ := w
      obtain ⟨d, hd1, hd2⟩ := dpa_get' hx hi
      have hdm : d ∈ ds := List.mem_of_getElem? hd1
      have etake : ds.take (i + 1) = ds.take i ++ [d] := by
        rw [List.take_add_one, hd1]; rfl
      have hlen : acc.length < sizeLine := by
        rw [dpa_len hda]
        have h1 : ((ds.take i).filterMap f).length ≤ (ds.take i).length := List.length_filterMap_le ..
        have h2 : (ds.take i).length ≤ i := by rw [List.length_take]; omega
        have h3 : i < ds.length := (List.getElem?_eq_some_iff.mp hd1).1
        have h4 : 100000 < sizeLine := by decide
        omega
      have Lp : Live (p :: M) H' := fun b hb => by
        rcases List.mem_cons.mp hb with z | hb
        · subst z; rw [hacc]; simp
        · exact L2'.mono sH b hb
      have kx : Dq X.K (hid (p :: M) H') x d := hd2.up (hid_step hp sH)
      refine bg_mono (hst p d x H' hdm hp0 (s2.trans sH) Lp kx) fun σ2 Ha ⟨hw, hbt⟩ => ⟨hw, bt_mono hbt fun k Hb ⟨sb, hk⟩ => ?_⟩
      have sH' : Same H' Hb := sb
      rcases hk with ⟨hk, d', hf, hbe⟩ | ⟨hk, hf⟩
      · subst hk
        refine iteT (be_mono hbe fun y Hc ⟨sc, hy, hpy⟩ => ?_)
        have sd := sH'.trans sc
        refine ⟨acc, sd _ _ hacc, hlen, fun b o e => ?_, acc ++ [y], upd_same, ?_, fun v hv => ?_⟩
        · have nb : b ≠ p := ne_of_none e hp
          rw [upd_ne nb]
          exact sd _ _ (sH _ _ e)
        · rw [hid_upd_ne, etake, List.filterMap_append]
          have e2 : [d].filterMap f = [d'] := by simp [hf]
          rw [e2]
          exact dpa_app (hda.up (hid_mono sd)) (.cons hy .nil)
        · rcases List.mem_append.mp hv with z | z
          · exact mono p v H' _ (fun b o nb e => by rw [upd_ne nb]; exact sd _ _ e) (hpv v z)
          · rw [List.mem_singleton.mp z]
            exact mono p y Hc _ (fun b o nb e => by rw [upd_ne nb]; exact e) hpy
      · subst hk
        refine iteF ⟨sH.trans sH', acc, sH' _ _ hacc, ?_, fun v hv => mono p v H' _ (fun b o _ e => sH' _ _ e) (hpv v hv)⟩
        rw [etake, List.filterMap_append]
        have e2 : [d].filterMap f = [] := by simp [hf]
        rw [e2, List.append_nil]
        exact hda.up (hid_mono sH')
    · obtain ⟨sH, acc, hacc, hda, hpv⟩ := w
      have e1 : ds.take xs.length = ds := by rw [dpa_len hx]; exact List.take_length
      rw [e1] at hda
      exact q p acc H' (s2.trans sH) hp0 hacc hda hpv⟩
theorem re_compP (f : PyData → Option PyData) (Pv : Addr → V → Hp → Prop) (mono : ∀ p v H1 H2, (∀ b o, b ≠ p → H1 b = some o → H2 b = some o) → Pv p v H1 → Pv p v H2) (L : Live M H) (hN : X.N.Nodup) (hit : XD X M σ H iter (.list ds)) (ok : BlkOk X.N X.env.scope scope own) (hz : ds.length ≤ 100000)
    (hst : ∀ p d v H1, d ∈ ds → H p = none → Same H H1 → Live (p :: M) H1 → Dq X.K (hid (p :: M) H1) v d → BG X scope tg v (wipe σ (own.map (·.2))) H1 fun σ2 H2 => wipe σ2 (own.map (·.2)) = wipe σ (own.map (·.2)) ∧ BT X scope ifs σ2 H2 fun k H3 =>
      Same H1 H3 ∧ ((k = true ∧ ∃ d', f d = some d' ∧ BE X scope elt σ2 H3 fun y H4 => Same H3 H4 ∧ Dq X.K (hid (p :: M) H4) y d' ∧ Pv p y H4) ∨ (k = false ∧ f d = none)))
    {Q : VK} (q : ∀ p xs H2, Same H H2 → H p = none → H2 p = some (.lst xs) → DqAll X.K (hid (p :: M) H2) xs (ds.filterMap f) → (∀ v ∈ xs, Pv p v H2) → Q (.ref p) H2)
    (hc : X.calm = true := by rfl) (hs : ∀ x, foldedSetIterable iter X.env x = pure x := by intro _; rfl) : RE X (.ListComp elt [⟨tg, iter, ifs, 0⟩] scope pos) σ H Q := by
  obtain ⟨wi, h1, h2⟩ := lc_P f Pv mono L hN hit ok hz hst q
  exact ⟨_, pe_lc (own := own) hc hN h1 ok (fun _ _ _ _ _ => bg_) (fun _ _ _ _ _ => bt_) (fun _ _ _ _ _ => be_) hs, h2⟩
/-- x = [..], on one line -/
theorem rb_setC (i : Nat) {py : Pos} {spos : Pos} (f : PyData → Option PyData) (Pv : Addr → V → Hp → Prop) (mono : ∀ p v H1 H2, (∀ b o, b ≠ p → H1 b = some o → H2 b = some o) → Pv p v H1 → Pv p v H2) (L : Live M H) (hN : X.N.Nodup) (hit : XD X M σ H iter (.list ds)) (ok : BlkOk X.N X.env.scope scope own) (hz : ds.length ≤ 100000)
    (hst : ∀ p d v H1, d ∈ ds → H p = none → Same H H1 → Live (p :: M) H1 → Dq X.K (hid (p :: M) H1) v d → BG X scope tg v (wipe σ (own.map (·.2))) H1 fun σ2 H2 => wipe σ2 (own.map (·.2)) = wipe σ (own.map (·.2)) ∧ BT X scope ifs σ2 H2 fun k H3 =>
      Same H1 H3 ∧ ((k = true ∧ ∃ d', f d = some d' ∧ BE X scope elt σ2 H3 fun y H4 => Same H3 H4 ∧ Dq X.K (hid (p :: M) H4) y d' ∧ Pv p y H4) ∨ (k = false ∧ f d = none)))
    (q : ∀ p xs H2, Same H H2 → H p = none → H2 p = some (.lst xs) → DqAll X.K (hid (p :: M) H2) xs (ds.filterMap f) → (∀ v ∈ xs, Pv p v H2) → RB X rest D (σ.set i (some (.ref p))) H2)
    (hi : X.N[i]? = some x := by rfl) (hx : X.env.scope.names.lookup x = some .local := by rfl) (hsw : swapsWith (.ListComp elt [⟨tg, iter, ifs, 0⟩] scope pos) (some (.Name x py)) spos.line X.env = pure true := by exact sw_true rfl rfl rfl rfl)
    (hc : X.calm = true := by rfl) (hs : ∀ x, foldedSetIterable iter X.env x = pure x := by intro _; rfl) : RB X (.Assign [.Name x py] (.ListComp elt [⟨tg, iter, ifs, 0⟩] scope pos) spos :: rest) D σ H := by
  obtain ⟨wi, h1, h2⟩ := lc_P (Q := fun v H1 => RB X rest D (σ.set i (some v)) H1) f Pv mono L hN hit ok hz hst q
  exact ⟨_, pss_cons (ps_setLc (own := own) hc hN hi hx hsw h1 ok (fun _ _ _ _ _ => bg_) (fun _ _ _ _ _ => bt_) (fun _ _ _ _ _ => be_) hs) rb_, h2⟩
/-- x = [..], on one line; nothing more of the items -/
theorem rb_setC0 (i : Nat) {py : Pos} {spos : Pos} (f : PyData → Option PyData) (L : Live M H) (hN : X.N.Nodup) (hit : XD X M σ H iter (.list ds)) (ok : BlkOk X.N X.env.scope scope own) (hz : ds.length ≤ 100000)
    (hst : ∀ p d v H1, d ∈ ds → H p = none → Same H H1 → Live (p :: M) H1 → Dq X.K (hid (p :: M) H1) v d → BG X scope tg v (wipe σ (own.map (·.2))) H1 fun σ2 H2 => wipe σ2 (own.map (·.2)) = wipe σ (own.map (·.2)) ∧ BT X scope ifs σ2 H2 fun k H3 =>
      Same H1 H3 ∧ ((k = true ∧ ∃ d', f d = some d' ∧ BE X scope elt σ2 H3 fun y H4 => Same H3 H4 ∧ Dq X.K (hid (p :: M) H4) y d') ∨ (k = false ∧ f d = none)))
    (q : ∀ p xs H2, Same H H2 → H p = none → H2 p = some (.lst xs) → DqAll X.K (hid M H2) xs (ds.filterMap f) → RB X rest D (σ.set i (some (.ref p))) H2)
    (hi : X.N[i]? = some x := by rfl) (hx : X.env.scope.names.lookup x = some .local := by rfl) (hsw : swapsWith (.ListComp elt [⟨tg, iter, ifs, 0⟩] scope pos) (some (.Name x py)) spos.line X.env = pure true := by exact sw_true rfl rfl rfl rfl)
    (hc : X.calm = true := by rfl) (hs : ∀ x, foldedSetIterable iter X.env x = pure x := by intro _; rfl) : RB X (.Assign [.Name x py] (.ListComp elt [⟨tg, iter, ifs, 0⟩] scope pos) spos :: rest) D σ H :=
  rb_setC i f (fun _ _ _ => True) (fun _ _ _ _ _ _ => trivial) L hN hit ok hz (fun p d v H1 hd hp s Lp hv => bg_mono (hst p d v H1 hd hp s Lp hv) fun σ2 H2 ⟨hw, hbt⟩ => ⟨hw, bt_mono hbt fun k H3 ⟨sk, hk⟩ => ⟨sk, hk.elim (fun ⟨a, d', b, c⟩ => .inl ⟨a, d', b, be_mono c fun y H4 ⟨s4, h4⟩ => ⟨s4, h4, trivial⟩⟩) .inr⟩⟩)
    (fun p xs H2 s hp h2 hx _ => q p xs H2 s hp h2 (hx.up fun b o e => by
      have n1 : b ∉ p :: M := fun z => by unfold hid at e; rw [if_pos z] at e; cases e
      rw [hid_of (fun z => n1 (List.mem_cons_of_mem _ z))]
      exact hid_le _ _ e)) hi hx hsw hc hs
end
end Dl

set_option Elab.async false
set_option linter.all false
set_option maxRecDepth 100000
set_option maxHeartbeats 8000000
/-! sorted of a list of tuples of a whole number and a text; comprehensions over range(e), any data -/
namespace Dl
open PySem PySem.Spec PyProof.Rows L2
def encIS (b : Int × Str) : PyData := .tuple [.int b.1, .str b.2]
theorem each_of {K : PySem.W.Frag} {H : Hp} : ∀ {xs : List V} {us : List Value} (bs : List (Int × Str)), Vals xs us → DqAll K H xs (bs.map encIS) → PySem.W.EachIs (fun (u : Value) b => ∃ x, RelV x u ∧ Dq K H x (encIS b)) us bs
  | _, _, [], r, h => by
    cases h
    cases r
    exact .nil
  | _, _, b :: bs, r, h => by
    cases h with
    | cons h1 h2 =>
      cases r with
      | cons r1 r2 => exact .cons ⟨_, r1, h1⟩ (each_of bs r2 h2)
theorem each_back {K : PySem.W.Frag} {H : Hp} : ∀ {us : List Value} {bs : List (Int × Str)}, PySem.W.EachIs (fun (u : Value) b => ∃ x, RelV x u ∧ Dq K H x (encIS b)) us bs → ∃ ys, Vals ys us ∧ DqAll K H ys (bs.map encIS)
  | _, _, .nil => ⟨[], .nil, .nil⟩
  | _, _, .cons ⟨x, r, d⟩ t => by
    obtain ⟨ys, h1, h2⟩ := each_back t
    exact ⟨x :: ys, .cons r h1, .cons d h2⟩
theorem perm_asc : ∀ {xs ys : List (Int × Str)}, ys.Perm xs → xs.Pairwise (fun a b => a.1 < b.1) → ys.Pairwise (fun a b => a.1 ≤ b.1) → ys = xs
  | [], ys, p, _, _ => List.Perm.eq_nil p
  | x :: xs, [], p, _, _ => absurd p.length_eq (by simp)
  | x :: xs, y :: ys, p, hx, hy => by
    obtain ⟨hx1, hx2⟩ := List.pairwise_cons.mp hx
    obtain ⟨hy1, hy2⟩ := List.pairwise_cons.mp hy
    have e : y = x := by
      rcases List.mem_cons.mp (p.mem_iff.mp (List.mem_cons_self (a := y) (l := ys))) with e | m
      · exact e
      · rcases List.mem_cons.mp (p.mem_iff.mpr (List.mem_cons_self (a := x) (l := xs))) with e | m2
        · exact e.symm
        · have a := hx1 y m
          have b := hy1 x m2
          omega
    subst e
    rw [perm_asc p.cons_inv hx2 hy2]
theorem le_first {a b : Int × Str} (h : PySem.W.dataLe false encIS a b = true) : a.1 ≤ b.1 := by
  have h' : (!PySem.W.dataLt (encIS b) (encIS a)) = true := h
  refine Classical.byContradiction fun n => ?_
  have e : PySem.W.dataLt (encIS b) (encIS a) = true := by
    show PySem.W.dataLt (.tuple [.int b.1, .str b.2]) (.tuple [.int a.1, .str a.2]) = true
    rw [PySem.W.dataLt_pair (by simp [PySem.W.alike]) (by simp [PySem.W.alike]), PySem.W.dataLt_int]
    have z : PyData.eqv (.int b.1) (.int a.1) = false := by
      simp only [PyData.eqv, beq_eq_false_iff_ne]
      omega
    rw [z, if_neg Bool.false_ne_true]
    exact decide_eq_true (by omega)
  rw [e] at h'
  cases h'
/-- sorted in this order: the ascending list of the same -/
theorem sort_is {xs ys : List (Int × Str)} (p : ys.Perm xs) (h : xs.Pairwise fun a b => a.1 < b.1) : ys.mergeSort (PySem.W.dataLe false encIS) = xs := by
  refine perm_asc ((List.mergeSort_perm _ _).trans p) h ?_
  exact (PySem.W.sort_pairwise (PySem.W.sortLe_total _ false _) ys).imp fun h => le_first h
section
variable {X : Cx} {M : List Addr} {σ : L2.St} {H : Hp} {e a elt tg : Expr} {p1 p2 pos : Pos} {scope : Scope} {own : List (Str × Nat)} {D : Ends} {rest : List Stmt} {x : Str}
theorem alike_is (b b' : Int × Str) : PySem.W.alike (encIS b) (encIS b') = true := by simp [encIS, PySem.W.alike, PySem.W.alikeAll]
theorem cr_sortedIS (hu : X.A.units + 64 < cLine) : CallR X (.builtin "sorted") (fun vs H Q => ∃ (a : Addr) (xs : List V) (bs : List (Int × Str)) (M : List Addr), vs = [V.ref a] ∧ SqL X.K H a xs ∧ DqAll X.K (hid M H) xs (bs.map encIS) ∧ bs.length ≤ 1000 ∧
    ∀ ys p, DqAll X.K (hid M H) ys ((bs.mergeSort (PySem.W.dataLe false encIS)).map encIS) → H p = none → Q (.ref p) (upd H p (.lst ys))) := by
  intro pins s σ H vs us Q I r h
  obtain ⟨a, xs, bs, M, rfl, hs, hx, hlen, q⟩ := h
  obtain ⟨its, rv, hl, hz⟩ := I.list hs
  obtain ⟨u, rfl, ru⟩ := vals1 r
  obtain rfl : u = Value.ref a := ru
  have e1 := each_of bs rv hx
  refine PySem.W.sorted_data hl.isList e1 (e1.mono fun v b ⟨x, rx, hd⟩ => Dp.reads I (encIS b) x v ((hd.up hid_le).dp) rx) (.of alike_is) (.tuples fun b => ⟨_, _, rfl⟩) (Nat.le_trans hlen (by decide)) (fun b _ => ?_) fun out ho h2 => ?_
  · have z : (encIS b).depth = 1 := by simp [encIS, PyData.depth, PyData.depthAll]
    rw [z]
    omega
  · obtain ⟨ys, y1, y2⟩ := each_back h2
    obtain ⟨n, hn⟩ := sortedAll_at s.heap its out.toArray
    have hyl : ys.length ≤ sizeLine := by
      rw [y1.length, ho]
      exact Nat.le_trans hlen (by decide)
    exact ⟨.ref (s.heap.objs.size + 1), upd H (s.heap.objs.size + 1) (.lst ys), I.laid (t' := s.toks) (fun b o k => sortedAll_old k) (Nat.le_succ _) ⟨hyl, out, n, y1, hn⟩, rfl, q ys _ y2 (I.hok.fresh (Nat.le_succ _))⟩
/-- sorted(l) -/
theorem xl_sortedIS {bs cs : List (Int × Str)} (hu : X.A.units + 64 < cLine) (hm : X.mg "sorted" = none) (L : Live M H) (ha : XD X M σ H e (.list (bs.map encIS))) (hlen : bs.length ≤ 1000) (hp : bs.Perm cs) (hc : cs.Pairwise fun a b => a.1 < b.1) (hg : Gl X "sorted" := by rfl)
    (he : starEach [e] X.env = (false, eval e X.env) :: starEach [] X.env := by rfl) (hpl : (backTo p2 (starEach [] X.env)).any (·.1) = false := by rfl) : XL X M σ H (.Call (.Name "sorted" p1) [e] [] p2) (cs.map encIS) := fun H1 s1 Q q =>
  re_B (cr_sortedIS hu) (ra_1 (ha H1 s1 _ fun v H2 s2 hv => by
    obtain ⟨a, xs, rfl, ha, hx⟩ := dp_lst hv
    refine ⟨a, xs, bs, M, rfl, SqL.of (hid_le _ _ ha), hx, hlen, fun ys l h1 hl => ?_⟩
    rw [sort_is hp hc] at h1
    refine q l ys _ (s2.trans (same_new hl)) (s2.free hl) upd_same ?_
    rw [hid_new (L.mono (s1.trans s2)) hl]
    exact h1.up (same_new (hid_free hl))) he) hm (by decide +kernel) hg (by decide) (by decide) he hpl
/-! comprehensions over range(e) -/
theorem lc_rngD (n : Nat) (hn : n ≤ 1000) (g : Nat → PyData) (L : Live M H) (ha : XD X M σ H a (.int (n : Int)))
    (hst : ∀ p (i : Nat) H1, i < n → H p = none → Same H H1 → Live (p :: M) H1 → BG X scope tg (.int (i : Int)) (wipe σ (own.map (·.2))) H1 fun τ H2 => wipe τ (own.map (·.2)) = wipe σ (own.map (·.2)) ∧ Same H1 H2 ∧ BE X scope elt τ H2 fun y H3 => Same H2 H3 ∧ Dq X.K (hid (p :: M) H3) y (g i))
    {Q : VK} (q : ∀ p xs H2, Same H H2 → H p = none → H2 p = some (.lst xs) → DqAll X.K (hid M H2) xs ((List.range n).map g) → Q (.ref p) H2) (he : starEach [a] X.env = (false, eval a X.env) :: starEach [] X.env := by rfl) :
    tLc (iRng1 (RA X [a])) (BG X scope tg) (BT X scope []) (BE X scope elt) (own.map (·.2)) σ H Q :=
  ra_1 (ha H (Same.refl H) _ fun v H2 s2 hv => by
    refine ⟨(n : Int), by rw [dp_int hv], by omega, by omega, fun p hp => ?_⟩
    have hp0 : H p = none := s2.free hp
    have L2' : Live M H2 := L.mono s2
    refine lc_range (lo := 0) (n := (n : Int).toNat) (fun i H' => Same H2 H' ∧ ∃ acc, H' p = some (.lst acc) ∧ DqAll X.K (hid (p :: M) H') acc ((List.range i).map g)) ⟨same_new hp, [], upd_same, .nil⟩ (fun i H' hi z => ?_) (fun H' z => ?_)
    · obtain ⟨sH, acc, hacc, ea⟩ := z
      have hi' : i < n := by omega
      have Lp : Live (p :: M) H' := fun b hb => by
        rcases List.mem_cons.mp hb with z | hb
        · subst z; rw [hacc]; simp
        · exact L2'.mono sH b hb
      have e0 : (0 : Int) + (i : Int) = (i : Int) := Int.zero_add _
      rw [e0]
      refine bg_mono (hst p i H' hi' hp0 (s2.trans sH) Lp) fun τ Ha ⟨hw, sa, hbe⟩ => ⟨hw, bt_nil (iteT (be_mono hbe fun y Hb ⟨sb, ey⟩ => ?_))⟩
      have sd := sa.trans sb
      refine ⟨acc, sd _ _ hacc, ?_, fun b o e => ?_, acc ++ [y], upd_same, ?_⟩
      · have h4 : 100000 < sizeLine := by decide
        rw [dpa_len ea, List.length_map, List.length_range]
        omega
      · rw [upd_ne (ne_of_none e hp)]
        exact sd _ _ (sH _ _ e)
      · rw [hid_upd_ne, List.range_succ, List.map_append]
        exact dpa_app (ea.up (hid_mono sd)) (.cons ey .nil)
    · obtain ⟨sH, acc, hacc, ea⟩ := z
      rw [Int.toNat_natCast] at ea
      refine q p acc H' (s2.trans sH) hp0 hacc (ea.up fun b o e => ?_)
      have n1 : b ∉ p :: M := fun z => by unfold hid at e; rw [if_pos z] at e; cases e
      rw [hid_of (fun z => n1 (List.mem_cons_of_mem _ z))]
      exact hid_le _ _ e) he
/-- [.. for tg in range(a)] -/
theorem xl_rngD (n : Nat) (hn : n ≤ 1000) (g : Nat → PyData) (hm : X.mg "range" = none) (L : Live M H) (hN : X.N.Nodup) (ha : XD X M σ H a (.int (n : Int))) (ok : BlkOk X.N X.env.scope scope own)
    (hst : ∀ p (i : Nat) H1, i < n → H p = none → Same H H1 → Live (p :: M) H1 → BG X scope tg (.int (i : Int)) (wipe σ (own.map (·.2))) H1 fun τ H2 => wipe τ (own.map (·.2)) = wipe σ (own.map (·.2)) ∧ Same H1 H2 ∧ BE X scope elt τ H2 fun y H3 => Same H2 H3 ∧ Dq X.K (hid (p :: M) H3) y (g i))
    (hc : X.calm = true := by rfl) (hg : Gl X "range" := by rfl) (he : starEach [a] X.env = (false, eval a X.env) :: starEach [] X.env := by rfl) (he1 : starEach [a] X.env = [(false, eval a X.env)] := by rfl) (hs : ∀ x, foldedSetIterable (.Call (.Name "range" p1) [a] [] p2) X.env x = pure x := by intro _; rfl) :
    XL X M σ H (.ListComp elt [⟨tg, .Call (.Name "range" p1) [a] [] p2, [], 0⟩] scope pos) ((List.range n).map g) := fun H1 s1 Q q =>
  ⟨_, pe_lc (own := own) hc hN (pi_range1 hg hm ra_ he1) ok (fun _ _ _ _ _ => bg_) (fun _ _ _ _ _ => bt_) (fun _ _ _ _ _ => be_) hs,
    lc_rngD (own := own) n hn g (L.mono s1) (ha.up s1) (fun p i H2 hi hp s2 Lp => hst p i H2 hi (s1.free hp) (s1.trans s2) Lp) (fun p xs H2 s2 hp h2 hx => q p xs H2 s2 hp h2 hx) he⟩
/-- x = [.. for tg in range(a)], on one line -/
theorem rb_setRD (i : Nat) {py spos : Pos} (n : Nat) (hn : n ≤ 1000) (g : Nat → PyData) (hm : X.mg "range" = none) (L : Live M H) (hN : X.N.Nodup) (ha : XD X M σ H a (.int (n : Int))) (ok : BlkOk X.N X.env.scope scope own)
    (hst : ∀ p (i : Nat) H1, i < n → H p = none → Same H H1 → Live (p :: M) H1 → BG X scope tg (.int (i : Int)) (wipe σ (own.map (·.2))) H1 fun τ H2 => wipe τ (own.map (·.2)) = wipe σ (own.map (·.2)) ∧ Same H1 H2 ∧ BE X scope elt τ H2 fun y H3 => Same H2 H3 ∧ Dq X.K (hid (p :: M) H3) y (g i))
    (q : ∀ p xs H2, Same H H2 → H p = none → H2 p = some (.lst xs) → DqAll X.K (hid M H2) xs ((List.range n).map g) → RB X rest D (σ.set i (some (.ref p))) H2)
    (hi : X.N[i]? = some x := by rfl) (hx : X.env.scope.names.lookup x = some .local := by rfl) (hsw : swapsWith (.ListComp elt [⟨tg, .Call (.Name "range" p1) [a] [] p2, [], 0⟩] scope pos) (some (.Name x py)) spos.line X.env = pure true := by exact sw_true rfl rfl rfl rfl)
    (hc : X.calm = true := by rfl) (hg : Gl X "range" := by rfl) (he : starEach [a] X.env = (false, eval a X.env) :: starEach [] X.env := by rfl) (he1 : starEach [a] X.env = [(false, eval a X.env)] := by rfl) (hs : ∀ x, foldedSetIterable (.Call (.Name "range" p1) [a] [] p2) X.env x = pure x := by intro _; rfl) :
    RB X (.Assign [.Name x py] (.ListComp elt [⟨tg, .Call (.Name "range" p1) [a] [] p2, [], 0⟩] scope pos) spos :: rest) D σ H :=
  ⟨_, pss_cons (ps_setLc (own := own) hc hN hi hx hsw (pi_range1 hg hm ra_ he1) ok (fun _ _ _ _ _ => bg_) (fun _ _ _ _ _ => bt_) (fun _ _ _ _ _ => be_) hs) rb_,
    lc_rngD (own := own) (Q := fun v H1 => RB X rest D (σ.set i (some v)) H1) n hn g L ha hst q he⟩
/-- for tg in range(a, b): .. -/
theorem rb_rangeAB {tg b : Expr} {body : List Stmt} {lo : Int} {n : Nat} (hm : X.mg "range" = none) (hlo : -(2 ^ 61) < lo ∧ lo < 2 ^ 61) (hn : n < 2 ^ 60) (ha : XD X M σ H a (.int lo)) (hb : XD X M σ H b (.int (lo + n)))
    (h : ∀ H1, Same H H1 → ∃ Pv : Nat → L2.St → Hp → Prop, Pv 0 σ H1 ∧
      (∀ k σ' H', k < n → Pv k σ' H' → RG X tg (.int (lo + (k : Int))) σ' H' fun σ2 H2 => RB X body { D with nx := Pv (k + 1), ct := Pv (k + 1), bk := RB X rest D } σ2 H2) ∧ ∀ σ' H', Pv n σ' H' → RB X rest D σ' H')
    (hg : Gl X "range" := by rfl) (he : starEach [a, b] X.env = (false, eval a X.env) :: starEach [b] X.env := by rfl) (he2 : starEach [b] X.env = (false, eval b X.env) :: starEach [] X.env := by rfl) (he3 : starEach [b] X.env = [(false, eval b X.env)] := by rfl)
    (hp : PassesOwn (model X.prog X.w) X.A X.env X.xe := by exact PassesOwn.never) (hc : X.calm = true := by rfl)
    (hs : ∀ x, foldedSetIterable (.Call (.Name "range" p1) [a, b] [] p2) X.env x = pure x := by intro _; rfl) : RB X (.For tg (.Call (.Name "range" p1) [a, b] [] p2) body [] pos :: rest) D σ H :=
  ⟨_, pss_cons (ps_for hp hc (pi_range2 hg hm ra_ (by rw [he, he3]) he3) rg_ rb_ hs) rb_, ra_cons (ha H (Same.refl H) _ fun v H1 s1 hv => ra_1 (hb H1 s1 _ fun u H2 s2 hu => by
    obtain ⟨Pv, h0, hst, hd⟩ := h H2 (s1.trans s2)
    refine ⟨lo, lo + n, by rw [dp_int hv, dp_int hu], ⟨by omega, by omega, by omega, by omega⟩, ?_⟩
    have e : (lo + (n : Int) - lo).toNat = n := by omega
    rw [e]
    exact for_range Pv h0 hst hd) he2) he⟩
end
end Dl

set_option Elab.async false
set_option linter.all false
set_option maxRecDepth 100000
set_option maxHeartbeats 8000000
/-! set(list of whole numbers), sorted of a set by a bound of its own, sums of tuples, stars, two fors, enumerate and zip in comprehensions -/
namespace Dl
open PySem PySem.Spec PyProof.Rows L2
abbrev bareSet (W : World) : Obj := { cls := .type "set", dict := none, data := .set #[] 0 (.fresh 0 0 (!W.params.followText "set-order")) }
section
variable {P : Program} {W : World} {A : Around} {Er : Value → Shared → Prop} {z : Shared}
theorem set_of_ints {l : Addr} {xs : Array Value} (ks : List Int) {Q : Value → Shared → Prop} (calm : A.handled = none) (isL : z.heap.IsList l xs) (areI : IntsAre xs.toList ks) (room : ks.length + 1 < scanBound)
    (fin : ∀ (h' : Heap) (tk c : Nat), SetR W h' z.heap.objs.size (fun j => decide (j ∈ ks)) c → (∀ b o, z.heap.get? b = some o → h'.get? b = some o) → Q (.ref z.heap.objs.size) { z with heap := h', toks := tk }) :
    wpAny (model P W) A (call (.type "set") [.ref l]) Q Er z := by
  have size_xs : xs.size = ks.length := (Array.length_toList (xs := xs)).symm.trans (IntsAre.length areI)
  obtain ⟨c0, tl0, mro0⟩ := F.called_set.mro
  have made0 := F.called_set.made
  have sub0 := F.called_set.sub
  refine wpAny_call (codeAny_of_tree ?_)
  show wpAny _ _ (callAny (.type "set") _) _ _ _
  refine wpAny_pure ⟨Code.quiet_builtin _ (by decide +kernel), codeAny_builtin F.entry_type_call ?_⟩
  rw [Around.under_plain (weight_type_call_type "set" [.ref l] []) rfl]
  have not_ty := F.called_set.notType
  have can := F.called_set.canCreate
  have tc := F.typeCall_set_1 (.ref l)
  repeat (any_goals (first | assumption | wp_step))
  refine codeAny_mono (code_set_led1 (.ref l) (E := Er) (Q₁ := fun y z1 => y = .ref z.heap.objs.size ∧ z1 = { z with heap := z.heap.push (bareSet W) }) ⟨rfl, rfl⟩) fun r z1 hr => ?_
  match r, hr with
  | .error e, hr => exact hr
  | .ok .next, hr => exact hr.elim
  | .ok .brk, hr => exact hr.elim
  | .ok .cont, hr => exact hr.elim
  | .ok (.ret y), hr =>
    obtain ⟨rfl, rfl⟩ := hr
    have at_new : (z.heap.push (bareSet W)).get? z.heap.objs.size = some (bareSet W) := Heap.get?_push_size _ rfl
    have ty_new : Shared.TypeIs { z with heap := z.heap.push (bareSet W) } (.ref z.heap.objs.size) "set" := ⟨_, at_new, rfl⟩
    have look := F.called_set.init.lookup
    have bindS := F.called_set.init.bind (.ref z.heap.objs.size)
    repeat (any_goals (first | assumption | wp_step))
    refine codeAny_mono (codeAny_call_builtin (R := wants (fun r2 z2 => r2 = .none ∧ ∃ h' tk c, z2 = { z with heap := h', toks := tk } ∧ SetR W h' z.heap.objs.size (fun j => decide (j ∈ ks)) c ∧ (∀ b o, z.heap.get? b = some o → h'.get? b = some o)) Er)
      F.called_set.init.plain F.entry_set_init (check_set_init_1 ty_new ?_)) fun r2 z2 hr2 => ?_
    · obtain ⟨⟨oc, od, odt, osl⟩, get_l, cls_l, nl, dat_l⟩ := isL
      simp only at cls_l dat_l
      subst cls_l
      subst dat_l
      have get_l2 : (z.heap.push (bareSet W)).get? l = some { cls := .type "list", dict := od, data := .seq xs nl, slots := osl } := Heap.get?_push_of_some _ get_l
      have no1 := F.sub_list_set
      have no2 := F.sub_list_frozenset
      have no3 : (Value.type "list" == Value.type "dict") = false := by decide
      have list_l : (z.heap.push (bareSet W)).IsList l xs := ⟨_, get_l2, rfl, nl, rfl⟩
      unfold Builtin.«set.__init__» noKeywords Builtin.Frozenset.updateFrom
      generalize walker : pyIter = walk
      wp_walk
      subst walker
      refine wpAny_pyIter_list list_l ?_
      refine wpAny_bind (wpAny_runValue ?_)
      have l_lt : l < z.heap.objs.size := Heap.lt_size get_l
      have size1 : (z.heap.push (bareSet W)).objs.size = z.heap.objs.size + 1 := Heap.size_push ..
      have calm3 : A.in1.in1.in1.handled = none := by simp [calm]
      have lt1 : l < z.heap.objs.size + 1 := Nat.lt_succ_of_lt l_lt
      have ne_new : l ≠ (z.heap.push (bareSet W)).objs.size := fun q => by
        rw [size1] at q
        exact Nat.ne_of_lt lt1 q
      have out_new : z.heap.objs.size ∉ [(z.heap.push (bareSet W)).objs.size, l] := fun q => by
        rw [size1] at q
        rcases List.mem_cons.mp q with q | q
        · exact Nat.ne_of_lt (Nat.lt_succ_self _) q
        · exact Nat.ne_of_lt l_lt (List.mem_singleton.mp q).symm
      refine set_update_ints ((Walks.list calm3 _ l ne_new xs).toS) z.heap.objs.size out_new ks size_xs room (fun i v hv => ?_) (xs.size - 0) 0 _ (by omega) (Nat.zero_le _)
        ⟨⟨_, Heap.get?_push_size _ rfl, rfl, rfl⟩, (list_l.push _)⟩ ⟨0, Nat.le_refl 0, setR_new_at (Heap.get?_push_of_some _ at_new)⟩ fun z3 c3 moved _ new3 => ?_
      · have hi : i < ks.length := by rw [← size_xs]; exact (Array.getElem?_eq_some_iff.mp hv).1
        obtain ⟨tk, e⟩ := PyProof.Rows.IntsAre.int_at areI i v (by rw [Array.getElem?_toList]; exact hv)
        exact ⟨ks[i], tk, List.getElem?_eq_getElem hi, by rw [e, List.getD_eq_getElem?_getD, List.getElem?_eq_getElem hi] <;> rfl⟩
      · obtain ⟨hz, gz, dz, tz, oz⟩ := z3
        have g1 : gz = z.gens := moved.gens
        have g2 : dz = z.drawn := moved.drawn
        have g3 : oz = z.os := moved.os
        subst g1
        subst g2
        subst g3
        show wpAny _ _ _ _ _ _
        refine wpAny_pure ?_
        show wpAny _ _ (ret Value.none) _ _ _
        refine wpAny_pure ⟨rfl, hz, tz, c3, rfl, new3, fun b o e => ?_⟩
        have b_lt : b < z.heap.objs.size := Heap.lt_size e
        have free_b : b ∉ [z.heap.objs.size, (z.heap.push (bareSet W)).objs.size] := fun q => by
          rw [size1] at q
          rcases List.mem_cons.mp q with q | q
          · exact Nat.ne_of_lt b_lt q
          · exact Nat.ne_of_lt (Nat.lt_succ_of_lt b_lt) (List.mem_singleton.mp q)
        exact moved.heap b o free_b (Heap.get?_push_of_some _ (Heap.get?_push_of_some _ e))
    · match r2, hr2 with
      | .error e, hr2 => exact hr2
      | .ok .next, hr2 => exact hr2.elim
      | .ok .brk, hr2 => exact hr2.elim
      | .ok .cont, hr2 => exact hr2.elim
      | .ok (.ret y2), hr2 =>
        obtain ⟨rfl, h', tk, c', rfl, isSet, kept⟩ := hr2
        repeat (any_goals (first | assumption | wp_step))
        exact fin _ _ _ isSet kept
end
theorem nodup_le {α : Type} [DecidableEq α] : ∀ {xs ys : List α}, xs.Nodup → (∀ x ∈ xs, x ∈ ys) → xs.length ≤ ys.length
  | [], _, _, _ => Nat.zero_le _
  | x :: xs, ys, h, s => by
    obtain ⟨h1, h2⟩ := List.nodup_cons.mp h
    have m := s x (List.mem_cons_self ..)
    have e := List.length_erase_of_mem m
    have p := List.length_pos_of_mem m
    have r := nodup_le (xs := xs) (ys := ys.erase x) h2 fun y hy => (List.mem_erase_of_ne (fun z => h1 (by rw [← z]; exact hy))).mpr (s y (List.mem_cons_of_mem _ hy))
    rw [List.length_cons]
    omega
theorem setR_le {w : World} {h : Heap} {a : Addr} {S : Int → Bool} {n : Nat} (R : SetR w h a S n) {T : List Int} (hT : ∀ k, S k = true → k ∈ T) : n ≤ T.length := by
  obtain ⟨o, es, ep, t, _, _, _, _, nd, mem, _, _, e, _⟩ := R
  have r := nodup_le nd fun k hk => hT k ((mem k).mpr hk)
  rw [List.length_map, Array.length_toList] at r
  omega
section
variable {X : Cx} {M : List Addr} {σ : L2.St} {H H' : Hp} {e a b c o elt tg iter iter1 tg1 : Expr} {ifs ifs1 : List Expr} {scope : Scope} {own : List (Str × Nat)} {es : List Expr} {d d1 d2 : PyData} {ds ds2 : List PyData} {x : Str} {v : V} {pos p1 p2 p3 tpos : Pos}
/-- sorted(set), the set's members among fewer than 64 -/
theorem cr_sortedB (hc : X.calm = true) : CallR X (.builtin "sorted") (fun vs H Q => ∃ (a : Addr) (S : Int → Bool) (n : Nat) (T : List Int), vs = [V.ref a] ∧ H a = some (SetO X.w a S n) ∧ T.length < 64 ∧ (∀ k, S k = true → k ∈ T) ∧
    ∀ (ns : List Int) (p : Addr), ns.Pairwise (· < ·) → (∀ k : Int, k ∈ ns ↔ S k = true) → H p = none → Q (.ref p) (upd H p (.lst (ns.map V.int)))) := by
  intro pins s σ H vs us Q I r h
  obtain ⟨a, S, n, T, rfl, ha, hT, sub, q⟩ := h
  exact cr_sortedSet hc pins s σ H _ us Q I r ⟨a, S, n, rfl, ha, Nat.lt_of_le_of_lt (setR_le (setO_get I ha) sub) hT, fun ns p h1 h2 _ hp => q ns p h1 h2 hp⟩
/-- set(l) -/
theorem cr_setOf (hc : X.calm = true) : CallR X (.type "set") (fun vs H Q => ∃ (l : Addr) (ks : List Int), vs = [V.ref l] ∧ SqL X.K H l (ks.map V.int) ∧ ks.length ≤ 4000 ∧ ∀ p c, H p = none → Q (.ref p) (upd H p (SetO X.w p (fun j => decide (j ∈ ks)) c))) := by
  intro pins s σ H vs us Q I r h
  obtain ⟨l, ks, rfl, hl, hz, q⟩ := h
  obtain ⟨its, rv, isl, _⟩ := I.list hl
  obtain ⟨u, rfl, ru⟩ := vals1 r
  obtain rfl : u = Value.ref l := ru
  refine set_of_ints ks (I.ok.hd hc) isl.isList (by simpa using rv.ints) (Nat.lt_of_le_of_lt (Nat.succ_le_succ hz) (by decide)) fun h' tk c new kept => ?_
  exact ⟨.ref s.heap.objs.size, upd H s.heap.objs.size (SetO X.w s.heap.objs.size (fun j => decide (j ∈ ks)) c), I.laid (t' := tk) kept (Nat.le_refl _) (setO_new new), rfl, q _ c (I.hok.fresh (Nat.le_refl _))⟩
/-- sorted(set(e)) -/
theorem xl_sortedOf {ks ns : List Int} {pa pb : Pos} (T : List Int) (hm : X.mg "sorted" = none) (hm2 : X.mg "set" = none) (L : Live M H) (ha : XD X M σ H e (.list (ks.map PyData.int))) (hz : ks.length ≤ 4000) (hT : T.length < 64) (hsub : ∀ k ∈ ks, k ∈ T) (hasc : ns.Pairwise (· < ·)) (hmem : ∀ k, k ∈ ns ↔ k ∈ ks) (hc : X.calm = true := by rfl) (hg : Gl X "sorted" := by rfl) (hg2 : Gl X "set" := by rfl)
    (he : starEach [.Call (.Name "set" pa) [e] [] pb] X.env = (false, eval (.Call (.Name "set" pa) [e] [] pb) X.env) :: starEach [] X.env := by rfl) (he2 : starEach [e] X.env = (false, eval e X.env) :: starEach [] X.env := by rfl) (hpl : (backTo p2 (starEach [] X.env)).any (·.1) = false := by rfl) (hpl2 : (backTo pb (starEach [] X.env)).any (·.1) = false := by rfl) :
    XL X M σ H (.Call (.Name "sorted" p1) [.Call (.Name "set" pa) [e] [] pb] [] p2) (ns.map PyData.int) := fun H1 s1 Q q => by
  refine re_B (cr_sortedB hc) (ra_1 ⟨_, pe_callTy (cr_setOf hc) hg2 hm2 (by decide +kernel) ra_ (by decide) (by decide) he2 hpl2, ra_1 (ha H1 s1 _ fun v H2 s2 hv => ?_) he2⟩ he) hm (by decide +kernel) hg (by decide) (by decide) he hpl
  obtain ⟨a, xs, rfl, ha, hx⟩ := dp_lst hv
  have ex := ints_v hx
  subst ex
  refine ⟨a, ks, rfl, SqL.of (hid_le _ _ ha), hz, fun p c hp => ⟨p, _, c, T, rfl, upd_same, hT, fun k hk => hsub k (of_decide_eq_true hk), fun ms l h1 h2 hl => ?_⟩⟩
  have e : ms = ns := asc_eq h1 hasc fun k => (h2 k).trans ((decide_eq_true_iff).trans (hmem k).symm)
  subst e
  have hl2 : H2 l = none := by
    by_cases z : l = p
    · subst z; exact hp
    · rw [upd_ne z] at hl; exact hl
  refine q l _ _ ((s2.trans (same_new hp)).trans (same_new hl)) (s2.free hl2) upd_same ?_
  exact ints_dq ms
/-- sorted({elt for tg in iter if ..}), the members among fewer than 64 -/
theorem xl_sortedSetB (f : PyData → Option Int) (ns T : List Int) (hm : X.mg "sorted" = none) (L : Live M H) (hN : X.N.Nodup) (hit : XD X M σ H iter (.list ds)) (ok : BlkOk X.N X.env.scope scope own) (hz : ds.length ≤ 4000)
    (hst : ∀ p d v H1, d ∈ ds → H p = none → Same H H1 → Live (p :: M) H1 → Dq X.K (hid (p :: M) H1) v d → BG X scope tg v (wipe σ (own.map (·.2))) H1 fun τ H2 => wipe τ (own.map (·.2)) = wipe σ (own.map (·.2)) ∧ BT X scope ifs τ H2 fun k H3 =>
      Same H1 H3 ∧ ((k = true ∧ ∃ n, f d = some n ∧ BE X scope elt τ H3 fun y H4 => Same H3 H4 ∧ y = .int n) ∨ (k = false ∧ f d = none)))
    (hasc : ns.Pairwise (· < ·)) (hmem : ∀ k, k ∈ ns ↔ ∃ d ∈ ds, f d = some k) (hT : T.length < 64) (hsub : ∀ k ∈ ns, k ∈ T) (hc : X.calm = true := by rfl) (hs : ∀ x, foldedSetIterable iter X.env x = pure x := by intro _; rfl) (hg : Gl X "sorted" := by rfl)
    (he : starEach [.SetComp elt [⟨tg, iter, ifs, 0⟩] scope pos] X.env = (false, eval (.SetComp elt [⟨tg, iter, ifs, 0⟩] scope pos) X.env) :: starEach [] X.env := by rfl) (hpl : (backTo p2 (starEach [] X.env)).any (·.1) = false := by rfl) :
    XL X M σ H (.Call (.Name "sorted" p1) [.SetComp elt [⟨tg, iter, ifs, 0⟩] scope pos] [] p2) (ns.map PyData.int) := fun H1 s1 Q q => by
  refine re_B (cr_sortedB hc) (ra_1 ⟨_, pe_setI (own := own) hc hN (pi_list re_) ok (fun _ _ _ _ _ => bg_) (fun _ _ _ _ _ => bt_) (fun _ _ _ _ _ => be_) hs, hit H1 s1 _ fun v H2 s2 hv => ?_⟩ he) hm (by decide +kernel) hg (by decide) (by decide) he hpl
  obtain ⟨a, xs, rfl, ha, hx⟩ := dp_lst hv
  have L2' : Live M H2 := L.mono (s1.trans s2)
  refine ⟨a, rfl, ⟨xs, SqL.of (hid_le _ _ ha)⟩, fun p hp => ?_⟩
  have hp0 : H p = none := (s1.trans s2).free hp
  refine set_list (xs := xs) (a := a) (fun i H' => Same H2 H' ∧ ∃ S c, H' p = some (SetO X.w p S c) ∧ c ≤ i ∧ ∀ k, S k = true ↔ ∃ d ∈ ds.take i, f d = some k)
    ⟨same_new hp, fun _ => false, 0, upd_same, Nat.le_refl _, fun k => by simp⟩ (fun i H' _ z => SqL.of (z.1 _ _ (hid_le _ _ ha))) (fun i x H' hi z => ?_) (fun H' z => ?_)
  · obtain ⟨sH, S, n, hS, hn, hk⟩ := z
    obtain ⟨d, hd1, hd2⟩ := dpa_get' hx hi
    have hdm : d ∈ ds := List.mem_of_getElem? hd1
    have hi60 : i < 4000 := by have := (List.getElem?_eq_some_iff.mp hd1).1; omega
    have etake : ds.take (i + 1) = ds.take i ++ [d] := by rw [List.take_add_one, hd1]; rfl
    have Lp : Live (p :: M) H' := fun b hb => by
      rcases List.mem_cons.mp hb with z | hb
      · subst z; rw [hS]; simp
      · exact L2'.mono sH b hb
    refine bg_mono (hst p d x H' hdm hp0 ((s1.trans s2).trans sH) Lp (hd2.up (hid_step hp sH))) fun τ Ha ⟨hw, hbt⟩ => ⟨hw, bt_mono hbt fun k Hb ⟨sb, hk'⟩ => ?_⟩
    rcases hk' with ⟨hk1, m, hf, hbe⟩ | ⟨hk1, hf⟩
    · subst hk1
      refine iteT (be_mono hbe fun y Hc ⟨sc, hy⟩ => ?_)
      have sd := sb.trans sc
      refine ⟨m, S, n, hy, sd _ _ hS, Nat.lt_of_lt_of_le (by omega : n + 1 < 4096) (Nat.le_refl _), fun b o e => ?_, fun j => S j || decide (j = m), (if S m = true then n else n + 1), upd_same, by split <;> omega, fun j => ?_⟩
      · rw [upd_ne (ne_of_none e hp)]
        exact sd _ _ (sH _ _ e)
      · rw [Bool.or_eq_true, decide_eq_true_eq, hk j, etake]
        constructor
        · rintro (⟨d', h1, h2⟩ | h)
          · exact ⟨d', List.mem_append_left _ h1, h2⟩
          · exact ⟨d, List.mem_append_right _ (List.mem_singleton.mpr rfl), by rw [hf, h]⟩
        · rintro ⟨d', h1, h2⟩
          rcases List.mem_append.mp h1 with h1 | h1
          · exact .inl ⟨d', h1, h2⟩
          · rw [List.mem_singleton.mp h1, hf] at h2
            exact .inr (Option.some.inj h2).symm
    · subst hk1
      refine iteF ⟨sH.trans sb, S, n, sb _ _ hS, by omega, fun j => ?_⟩
      rw [hk j, etake]
      constructor
      · rintro ⟨d', h1, h2⟩
        exact ⟨d', List.mem_append_left _ h1, h2⟩
      · rintro ⟨d', h1, h2⟩
        rcases List.mem_append.mp h1 with h1 | h1
        · exact ⟨d', h1, h2⟩
        · rw [List.mem_singleton.mp h1, hf] at h2
          cases h2
  · obtain ⟨sH, S, n, hS, hn, hk⟩ := z
    have hlen := dpa_len hx
    rw [hlen, List.take_length] at hk
    refine ⟨p, S, n, T, rfl, hS, hT, fun k hk1 => hsub k ((hmem k).mpr ((hk k).mp hk1)), fun ks l h1 h2 hl => ?_⟩
    have e : ks = ns := asc_eq h1 hasc fun k => (h2 k).trans ((hk k).trans (hmem k).symm)
    subst e
    refine q l _ _ ((s2.trans sH).trans (same_new hl)) ((s2.trans sH).free hl) upd_same ?_
    rw [hid_new (L2'.mono sH) hl]
    exact ints_dq ks
/-- sum(t) -/
theorem cr_sumT (hc : X.calm = true) : CallR X (.builtin "sum") (fun vs H Q => ∃ (a : Addr) (ns : List Int), vs = [V.ref a] ∧ SqT X.K H a (ns.map V.int) ∧ Q (.int ns.sum) H) := by
  intro pins s σ H vs us Q I r h
  obtain ⟨a, ns, rfl, hs, q⟩ := h
  obtain ⟨its, rv, ⟨o, ho, hcl, n, hd⟩, _⟩ := I.tuple hs
  obtain ⟨u, rfl, ru⟩ := vals1 r
  obtain rfl : u = Value.ref a := ru
  obtain ⟨xs, e⟩ := rv.ints.allInts.items
  have hn : numsOf (intItems xs).toList = ns := by rw [← e]; exact rv.ints.numsOf
  rw [nums_intItems] at hn
  rw [e] at hd
  refine PySem.W.ktm_sumG (I.ok.hd hc) ⟨o, ho, hcl, n, hd⟩ fun h' tk t' hk => ?_
  rw [preSum_eq, List.take_of_length_le (by simp), hn]
  exact ⟨.int _, H, I.kept hk, ⟨_, rfl⟩, q⟩
theorem xd_sumT {ns : List Int} (hm : X.mg "sum" = none) (ha : XD X M σ H e (.tuple (ns.map PyData.int))) (hc : X.calm = true := by rfl) (hg : Gl X "sum" := by rfl)
    (he : starEach [e] X.env = (false, eval e X.env) :: starEach [] X.env := by rfl) (hpl : (backTo p2 (starEach [] X.env)).any (·.1) = false := by rfl) : XD X M σ H (.Call (.Name "sum" p1) [e] [] p2) (.int ns.sum) := fun H1 s1 Q q =>
  re_B (cr_sumT hc) (ra_1 (ha H1 s1 _ fun v H2 s2 hv => by
    obtain ⟨a, xs, rfl, ha, hx⟩ := dp_tup hv
    have ex := ints_v hx
    subst ex
    exact ⟨a, ns, rfl, same_seqT hid_le ha, q _ H2 s2 (.int _)⟩) he) hm (by decide +kernel) hg (by decide) (by decide) he hpl
end
end Dl

set_option Elab.async false
set_option linter.all false
set_option maxRecDepth 100000
set_option maxHeartbeats 8000000
/-! enumerate of a tuple; comprehensions over enumerate, of two clauses, over zip; a tuple's star -/
namespace Dl
open PySem PySem.Spec PyProof.Rows L2
section
theorem meets_enum1 {v : Value} {ob : Obj} {Pre : Heap → Prop} (G : Begins v ob Pre) : Meets (Builtin.«enumerate.__new__» ⟨[.type "enumerate", v], []⟩) fun _ Post z => Pre z.heap ∧
    Post (.ok (.ret (.ref (z.heap.push ob).objs.size))) { z with heap := (z.heap.push ob).push { cls := .type "enumerate", data := .fields #[.none, .bool false, .ref z.heap.objs.size, rawInt 0, .none, .none] } } :=
  .of_wp fun pr wd Ar Post z pre => by
    obtain ⟨hz, gz, dz, tz, oz⟩ := z
    obtain ⟨k1, k2⟩ := pre
    have sub1 := sub_enumerate
    have it1 : ∀ {B : Around} {Er : Value → Shared → Prop} {Qz : Value → Shared → Prop}, Qz (.ref hz.objs.size) ⟨hz.push ob, gz, dz, tz, oz⟩ → wpAny (model pr wd) B (pyIter v) Qz Er ⟨hz, gz, dz, tz, oz⟩ := fun k => G.iter pr wd _ _ ⟨hz, gz, dz, tz, oz⟩ _ k1 k
    wp_walk using it1
    refine wpAny_stack_any fun stk => wpAny_pure ?_
    split
    · rename_i cl _ _ _ _ _
      cases (cl == Value.type "enumerate") <;> (wp_walk using it1; exact ⟨_, rfl, k2⟩)
    · wp_walk using it1
      exact ⟨_, rfl, k2⟩
theorem enum1_begins {pr : Program} {wd : World} {Ar : Around} {Er : Value → Shared → Prop} {z : Shared} {v : Value} {ob : Obj} {Pre : Heap → Prop} {Post : Value → Shared → Prop} (G : Begins v ob Pre) (pre : Pre z.heap)
    (fin : ∀ h', IsEnum h' (z.heap.objs.size + 1) z.heap.objs.size 0 .none → h'.get? z.heap.objs.size = some ob → (∀ b u, z.heap.get? b = some u → h'.get? b = some u) → Post (.ref (z.heap.objs.size + 1)) { z with heap := h' }) :
    wpAny (model pr wd) Ar (call (.type "enumerate") [v]) Post Er z := by
  refine callType_new F.called_enumerate (by decide) (F.typeCall_enumerate_1 _) (F.newCall_enumerate_1 _) (fun ob2 => F.args_object_init_2 ob2 _) F.entry_enumerate_new (meets_enum1 G) ⟨pre, ?_⟩
  have sz : (z.heap.push ob).objs.size = z.heap.objs.size + 1 := Heap.size_push ..
  show _ ∧ _
  rw [sz]
  have en : IsEnum ((z.heap.push ob).push { cls := .type "enumerate", data := .fields #[.none, .bool false, .ref z.heap.objs.size, rawInt 0, .none, .none] }) (z.heap.objs.size + 1) z.heap.objs.size 0 .none := by
    have q := Heap.get?_push_size (z.heap.push ob) (o := { cls := .type "enumerate", data := .fields #[.none, .bool false, .ref z.heap.objs.size, rawInt 0, .none, .none] }) rfl
    rw [sz] at q
    exact q
  exact ⟨⟨_, en, rfl⟩, fin _ en (Heap.get?_push_of_some _ (Heap.get?_push_size _ G.free)) fun b u x => Heap.get?_push_of_some _ (Heap.get?_push_of_some _ x)⟩
/-- the tuple at a, each item in a new pair -/
def IteT (K : PySem.W.Frag) (a : Addr) : It :=
  ⟨fun i H => ∃ (ys : List V) (y : V), SqT K H a ys ∧ ys[i]? = some y, fun i H v H' => ∃ T y, v = .ref T ∧ H T = none ∧ H' = upd H T (.tup [.int (i : Nat), y]) ∧ ∀ ys, SqT K H a ys → ys[i]? = some y, fun i H => ∃ ys : List V, SqT K H a ys ∧ ys.length ≤ i⟩
theorem tup_apart {h : Heap} {a it : Addr} {i : Nat} {its : Array Value} (h1 : h.IsTuple a its) (h2 : h.IsTupleIter it a i) : a ≠ it := fun z => by
  subst z
  obtain ⟨o, ho, hc, n, hd⟩ := h1
  obtain ⟨o2, ho2, hc2, hd2⟩ := h2
  rw [ho] at ho2
  cases ho2
  rw [hd] at hd2
  cases hd2
theorem turn_enumT {P : Program} {w : World} {K : PySem.W.Frag} {elts : List Expr} {kk : Nat} {tpos : Pos} (a e it : Addr) :
    Turn P w K (.Tuple elts kk tpos) (IteT K a) [e, it] e (fun i h => (∃ old, IsEnum h e it ((i : Nat) : Int) old) ∧ h.IsTupleIter it a i ∧ e ≠ it) where
  mem := List.mem_cons_self ..
  obj := fun i h st b hb => by
    obtain ⟨⟨old, he⟩, ⟨o, ho, hc, hd⟩, _⟩ := st
    rcases (show b = e ∨ b = it by simpa using hb) with z | z
    · subst z; exact ⟨_, he, fun v q => nomatch q⟩
    · subst z; exact ⟨o, ho, fun v q => by rw [hd] at q; cases q⟩
  keep := fun i h h' st k => by
    obtain ⟨⟨old, he⟩, hi, hne⟩ := st
    exact ⟨⟨old, k e (List.mem_cons_self ..) _ he⟩, hi.at fun o q => k it (List.mem_cons_of_mem _ (List.mem_cons_self ..)) o q, hne⟩
  item := by
    intro X hP hw hK hc i pins s σ H E I hf st hg
    subst hP hw hK
    obtain ⟨⟨old, he⟩, hit, hne⟩ := st
    obtain ⟨ys, y, hq, hy⟩ := hg
    obtain ⟨its, rv, p, hz⟩ := I.tuple hq
    obtain ⟨u, hu, ru⟩ := rv.get hy
    have le : e < s.heap.objs.size := Heap.lt_size he
    have li : it < s.heap.objs.size := by obtain ⟨_, q, _⟩ := hit; exact Heap.lt_size q
    have p' : s.heap.IsTuple a its.toArray := p
    have hea : e ≠ a := fun z => by
      subst z
      obtain ⟨o, ho, hcl, n, hd⟩ := p'
      have he2 : s.heap.get? e = some _ := he
      rw [ho] at he2
      cases he2
      cases hd
    have D := Draws.tuple (prog := X.prog) (w := X.w) (A := X.A.in1) (by have := I.ok.hd hc; simpa using this) it a (tup_apart p' hit) its.toArray
    refine wpAny_pyNext_enum_itemD D he ⟨hit, p'⟩ (by have := (List.getElem?_eq_some_iff.mp hu).1; simpa using this) hne (by simp [hne, hea]) fun x h' tk hx ho stt hT hsz hk => ?_
    have ex : x = u := by
      have q : its.toArray[i]? = some x := hx
      rw [List.getElem?_toArray, hu] at q
      exact (Option.some.inj q).symm
    subst ex
    refine ⟨_, rfl, wpAny_letOwnedTupleGo_enum (s := { s with heap := h', toks := tk + 1 }) ho fun h2 he2 sb => ?_⟩
    have hT2 : h2.get? s.heap.objs.size = some { cls := .type "tuple", data := .seq #[.int i tk, x] } := (sb.2 _ (Nat.ne_of_gt le)).trans hT
    have nw : ObjOk X.prog X.w (upd H s.heap.objs.size (.tup [.int (i : Nat), y])) h2 s.heap.objs.size (.tup [.int (i : Nat), y]) :=
      ⟨by show 2 ≤ sizeLine; decide, [.int i tk, x], .cons ⟨_, rfl⟩ (.cons ru .nil), ⟨_, hT2, rfl, _, rfl⟩⟩
    have J1 : Inv X pins σ (upd H s.heap.objs.size (.tup [.int (i : Nat), y])) { s with heap := h2, toks := tk + 1 } :=
      I.turnedNew (ch := [e, it]) (fun b ob hb q => (sb.2 b (fun z => hb (by simp [z]))).trans (hk b ob (fun z => hb (by simp [z])) (fun z => hb (by simp [z])) q)) hf (Nat.le_refl _) nw
    refine ⟨.ref s.heap.objs.size, _, J1, rfl, ⟨_, y, rfl, I.hok.fresh (Nat.le_refl _), rfl, fun zs hzs => by rw [I.tuple_inj hzs hq]; exact hy⟩, ⟨⟨x, ?_⟩, stt.1.at fun o q => (sb.2 it (Ne.symm hne)).trans q, hne⟩, fun b hb => ?_⟩
    · have e1 : (((i + 1 : Nat) : Nat) : Int) = (i : Int) + 1 := Int.natCast_add i 1
      rw [e1]
      exact he2
    · have lb : b < s.heap.objs.size := by
        rcases (show b = e ∨ b = it by simpa using hb) with z | z
        · rw [z]; exact le
        · rw [z]; exact li
      rw [upd_ne (Nat.ne_of_lt lb)]
      exact (hf b hb).1
  done := by
    intro X hP hw hK hc i pins s σ H E I hf st hg
    subst hP hw hK
    obtain ⟨⟨old, he⟩, hit, hne⟩ := st
    obtain ⟨ys, hq, hy⟩ := hg
    obtain ⟨its, rv, p, hz⟩ := I.tuple hq
    have p' : s.heap.IsTuple a its.toArray := p
    obtain ⟨f0, f1, f2, f3, f4, f5⟩ := hf it (List.mem_cons_of_mem _ (List.mem_cons_self ..))
    have hl := rv.length
    -- at the end the place is the length; beyond it the iterator has not come
    by_cases hi : i = its.toArray.size
    · have D := Draws.tuple (prog := X.prog) (w := X.w) (A := X.A.in1) (by have := I.ok.hd hc; simpa using this) it a (tup_apart p' hit) its.toArray
      subst hi
      exact wpAny_pyNext_enum_endD D he ⟨hit, p'⟩ fun h' eb => ⟨rfl, I.turned (t' := s.toks) (fun b o hb q => eb b o hb q) f0 f1 f3 f4 f5⟩
    · have hT : s.TypeIs (.ref e) "enumerate" := ⟨_, he, rfl⟩
      unfold pyNext
      refine wpAny_bind (wpAny_attempt (wpAny_callSpecial?_slot (name := Str.ofString "__next__") hT F.slot_enumerate_next (wpAny_call_entry F.slot_enumerate_next hT F.entry_enumerate_next ?_ (F.args_enumerate_next_1 _))))
      show wpAny _ _ (field (.ref e) 2 >>= _) _ _ _
      refine wpAny_bind (wpAny_field he rfl (x := .ref it) rfl ?_)
      refine wpAny_bind (wpAny_nextOf_tuple_end (by have := I.ok.hd hc; simpa using this) hit p' (by simp; omega) fun h' xx eb hxx => ?_)
      obtain ⟨o, ho, hcc⟩ := hxx
      refine wpAny_bind (wpAny_isInstance (T := "StopIteration") (b := true) ⟨o, ho, hcc⟩ isSubtype_stop (wpAny_pure ⟨rfl, I.turned (t' := s.toks) (fun b o hb q => eb b o hb q) f0 f1 f3 f4 f5⟩))
  self := fun A i s Q E st h => let ⟨⟨_, he⟩, _⟩ := st; wpAny_pyIter_enum he h
def iEnumT (K : PySem.W.Frag) (ta : TA) : TI := fun σ H R => ta σ H fun vs H1 => ∃ a ys, vs = [.ref a] ∧ SqT K H1 a ys ∧ R (IteT K a) H1
theorem pi_enumT {X : Cx} {e : Expr} {ta : TA} {p pos tpos : Pos} {elts : List Expr} {kk : Nat} (hg : Gl X "enumerate") (hm : X.mg "enumerate" = none) (ha : PA X [e] ta) (hs : starEach [e] X.env = [(false, eval e X.env)]) :
    PI X (.Tuple elts kk tpos) (.Call (.Name "enumerate" p) [e] [] pos) (iEnumT X.K ta) := by
  refine ⟨fun pins s σ H R I h => ?_⟩
  refine Call_ (ld_blt I hg hm boot_enumerate (PyProof.Rows.callWith_type1 (thn (ha.run pos pins s σ H _ I h) fun us z ⟨vs, H1, I1, r1, a, ys, ex, hq, q⟩ => ?_) hs rfl))
  subst ex
  obtain ⟨u, rfl, ru⟩ := vals1 r1
  obtain rfl : u = Value.ref a := ru
  obtain ⟨its, rv, p', hz⟩ := I1.tuple hq
  refine enum1_begins (begins_tuple a its.toArray) p' fun h' he hit hk => wpAny_pyIter_enum he ?_
  have J2 : Inv X pins σ H1 { z with heap := h' } := I1.kept (t' := z.toks) hk
  refine ⟨z.heap.objs.size + 1, [z.heap.objs.size + 1, z.heap.objs.size], _, _, H1, rfl, J2, turn_enumT a (z.heap.objs.size + 1) z.heap.objs.size, ⟨⟨.none, he⟩, ⟨_, hit, rfl, rfl⟩, Nat.succ_ne_self _⟩, fun b hb => ?_, q⟩
  have lb : z.heap.objs.size ≤ b := by
    rcases (show b = z.heap.objs.size + 1 ∨ b = z.heap.objs.size by simpa using hb) with y | y
    · rw [y]; exact Nat.le_add_right _ _
    · rw [y]; exact Nat.le_refl _
  exact I1.fpOk lb (I1.hok.fresh lb)
end
end Dl

set_option Elab.async false
set_option linter.all false
set_option maxRecDepth 100000
set_option maxHeartbeats 8000000
namespace Dl
open PySem PySem.Spec PyProof.Rows L2
/-- each item with its place -/
def enumM (g : Nat → PyData → PyData) : Nat → List PyData → List PyData
  | _, [] => []
  | i, d :: ds => g i d :: enumM g (i + 1) ds
theorem enumM_snoc (g : Nat → PyData → PyData) : ∀ (k : Nat) (ds : List PyData) (d : PyData), enumM g k (ds ++ [d]) = enumM g k ds ++ [g (k + ds.length) d]
  | k, [], d => rfl
  | k, e :: ds, d => by
    show g k e :: enumM g (k + 1) (ds ++ [d]) = g k e :: (enumM g (k + 1) ds ++ [_])
    rw [enumM_snoc g (k + 1) ds d, List.length_cons]
    have e1 : k + 1 + ds.length = k + (ds.length + 1) := by omega
    rw [e1]
theorem enumM_len (g : Nat → PyData → PyData) : ∀ (k : Nat) (ds : List PyData), (enumM g k ds).length = ds.length
  | _, [] => rfl
  | k, d :: ds => by show _ + 1 = _ + 1; rw [enumM_len g _ ds]
theorem zip_snoc {α β γ : Type} (g : α → β → γ) {xs : List α} {ys : List β} {i : Nat} {x : α} {y : β} (h1 : xs[i]? = some x) (h2 : ys[i]? = some y) : (List.zipWith g xs ys).take (i + 1) = (List.zipWith g xs ys).take i ++ [g x y] := by
  rw [List.take_add_one, List.getElem?_zipWith, h1, h2]
  rfl
section
variable {X : Cx} {M : List Addr} {σ : L2.St} {H H' : Hp} {e a b c o elt tg iter iter1 tg1 : Expr} {ifs : List Expr} {scope : Scope} {own : List (Str × Nat)} {es : List Expr} {d d1 d2 : PyData} {ds ds2 eds : List PyData} {x : Str} {v : V} {pos p1 p2 p3 tpos py spos : Pos} {D : Ends} {rest : List Stmt} {Q : VK}
theorem re_up (h : ∀ H1, Same H H1 → RE X e σ H1 Q) : RE X e σ H Q := h H (Same.refl H)
theorem out_of {p : Addr} {M : List Addr} {H : Hp} {vs : List V} {ds : List PyData} {K : PySem.W.Frag} (h : DqAll K (hid (p :: M) H) vs ds) : DqAll K (hid M H) vs ds := h.up fun b o e => by
  have n1 : b ∉ p :: M := fun z => by unfold hid at e; rw [if_pos z] at e; cases e
  rw [hid_of (fun z => n1 (List.mem_cons_of_mem _ z))]
  exact hid_le _ _ e
/-- [elt for (i, x) in enumerate(e)], e a tuple -/
theorem xl_enumT {elts : List Expr} {kk : Nat} (g : Nat → PyData → PyData) (hm : X.mg "enumerate" = none) (L : Live M H) (hN : X.N.Nodup) (ha : XD X M σ H a (.tuple ds)) (ok : BlkOk X.N X.env.scope scope own) (hz : ds.length ≤ 100000)
    (hst : ∀ p (i : Nat) d T y H1, ds[i]? = some d → H p = none → Same H H1 → Live (p :: M) H1 → Dq X.K (hid (p :: M) H1) y d → H1 T = some (.tup [.int (i : Nat), y]) → BG X scope (.Tuple elts kk tpos) (.ref T) (wipe σ (own.map (·.2))) H1 fun τ H2 => wipe τ (own.map (·.2)) = wipe σ (own.map (·.2)) ∧ Same H1 H2 ∧
      BE X scope elt τ H2 fun u H3 => Same H2 H3 ∧ Dq X.K (hid (p :: M) H3) u (g i d))
    (hc : X.calm = true := by rfl) (hs : ∀ x, foldedSetIterable (.Call (.Name "enumerate" p1) [a] [] p2) X.env x = pure x := by intro _; rfl) (hg : Gl X "enumerate" := by rfl) (he : starEach [a] X.env = [(false, eval a X.env)] := by rfl) :
    XL X M σ H (.ListComp elt [⟨.Tuple elts kk tpos, .Call (.Name "enumerate" p1) [a] [] p2, [], 0⟩] scope pos) (enumM g 0 ds) := fun H1 s1 Q q =>
  ⟨_, pe_lc (own := own) hc hN (pi_enumT hg hm ra_ he) ok (fun _ _ _ _ _ => bg_) (fun _ _ _ _ _ => bt_) (fun _ _ _ _ _ => be_) hs, ra_1 (ha H1 s1 _ fun v H2 s2 hv => by
    obtain ⟨t, xs, rfl, ht, hx⟩ := dp_tup hv
    have ht0 := same_seqT hid_le ht
    have L2' : Live M H2 := L.mono (s1.trans s2)
    refine ⟨t, xs, rfl, ht0, fun p hp => ?_⟩
    have hp0 : H p = none := (s1.trans s2).free hp
    refine ⟨fun i m Hx => m + i = xs.length ∧ Same H2 Hx ∧ ∃ acc, Hx p = some (.lst acc) ∧ DqAll X.K (hid (p :: M) Hx) acc (enumM g 0 (ds.take i)), ⟨xs.length, rfl, same_new hp, [], upd_same, .nil⟩, fun i m Hx w => ?_⟩
    obtain ⟨hmi, sx, acc, hacc, hda⟩ := w
    have gt : SqT X.K Hx t xs := same_seqT sx ht0
    cases ex : xs[i]? with
    | none =>
      have hge : xs.length ≤ i := List.getElem?_eq_none_iff.mp ex
      have ei : ds.take i = ds := List.take_of_length_le (by rw [← dpa_len hx]; exact hge)
      rw [ei] at hda
      exact .inl ⟨⟨xs, gt, hge⟩, q p acc Hx (s2.trans sx) (s2.free hp) hacc (out_of hda)⟩
    | some x0 =>
      have hlt := (List.getElem?_eq_some_iff.mp ex).1
      refine .inr ⟨⟨xs, x0, gt, ex⟩, fun Hy => Same H2 Hy ∧ ∃ acc, Hy p = some (.lst acc) ∧ DqAll X.K (hid (p :: M) Hy) acc (enumM g 0 (ds.take (i + 1))), fun Hy hy => ⟨m - 1, by omega, by omega, hy⟩, fun v Hy hyl => ?_⟩
      obtain ⟨T, y, rfl, hT, rfl, h1⟩ := hyl
      obtain ⟨d, hd1, hd2⟩ := dpa_get' hx (h1 xs gt)
      have sy : Same Hx (upd Hx T (.tup [.int (i : Nat), y])) := same_new hT
      have hpy := sy _ _ hacc
      have Lp : Live (p :: M) (upd Hx T (.tup [.int (i : Nat), y])) := fun b hb => by
        rcases List.mem_cons.mp hb with z | hb
        · subst z; rw [hpy]; simp
        · exact (L2'.mono sx).mono sy b hb
      have hids : Same (hid M H2) (hid (p :: M) (upd Hx T (.tup [.int (i : Nat), y]))) := hid_step hp (sx.trans sy)
      refine bg_mono (hst p i d T y _ hd1 hp0 (((s1.trans s2).trans sx).trans sy) Lp (hd2.up hids) upd_same) fun τ Ha ⟨hw, sa, hbe⟩ => ⟨hw, bt_nil (iteT (be_mono hbe fun u Hb ⟨sb, hu⟩ => ?_))⟩
      have sd := (sy.trans sa).trans sb
      refine ⟨acc, sd _ _ hacc, ?_, fun b o e => ?_, acc ++ [u], upd_same, ?_⟩
      · have h4 : 100000 < sizeLine := by decide
        have h5 : (enumM g 0 (ds.take i)).length ≤ i := by rw [enumM_len, List.length_take]; omega
        have h6 := dpa_len hx
        rw [dpa_len hda]
        omega
      · rw [upd_ne (ne_of_none e hp)]
        exact sd _ _ (sx _ _ e)
      · rw [hid_upd_ne, List.take_add_one, hd1]
        show DqAll X.K (hid (p :: M) Hb) (acc ++ [u]) (enumM g 0 (ds.take i ++ [d]))
        have hl : (ds.take i).length = i := by rw [List.length_take]; have := (List.getElem?_eq_some_iff.mp hd1).1; omega
        rw [enumM_snoc, hl, Nat.zero_add]
        exact dpa_app (hda.up (hid_mono sd)) (.cons hu .nil)) he⟩
/-- .. over a list, as a statement of its own line -/
theorem lc_enumL {elts : List Expr} {kk : Nat} (g : Nat → PyData → PyData) (L : Live M H) (ha : XD X M σ H a (.list ds)) (hz : ds.length ≤ 100000)
    (hst : ∀ p (i : Nat) d T y H1, ds[i]? = some d → H p = none → Same H H1 → Live (p :: M) H1 → Dq X.K (hid (p :: M) H1) y d → H1 T = some (.tup [.int (i : Nat), y]) → BG X scope (.Tuple elts kk tpos) (.ref T) (wipe σ (own.map (·.2))) H1 fun τ H2 => wipe τ (own.map (·.2)) = wipe σ (own.map (·.2)) ∧ Same H1 H2 ∧
      BE X scope elt τ H2 fun u H3 => Same H2 H3 ∧ Dq X.K (hid (p :: M) H3) u (g i d))
    (q : ∀ p xs H2, Same H H2 → H p = none → H2 p = some (.lst xs) → DqAll X.K (hid M H2) xs (enumM g 0 ds) → Q (.ref p) H2) (he1 : starEach [a] X.env = (false, eval a X.env) :: starEach [] X.env := by rfl) :
    tLc (iEnum X.K (RA X [a])) (BG X scope (.Tuple elts kk tpos)) (BT X scope []) (BE X scope elt) (own.map (·.2)) σ H Q :=
  ra_1 (ha H (Same.refl H) _ fun v H2 s2 hv => by
    obtain ⟨t, xs, rfl, ht, hx⟩ := dp_lst hv
    have ht0 := hid_le _ _ ht
    have L2' : Live M H2 := L.mono s2
    refine ⟨t, xs, rfl, SqL.of ht0, fun p hp => ?_⟩
    have hp0 : H p = none := s2.free hp
    refine ⟨fun i m Hx => m + i = xs.length ∧ Same H2 Hx ∧ ∃ acc, Hx p = some (.lst acc) ∧ DqAll X.K (hid (p :: M) Hx) acc (enumM g 0 (ds.take i)), ⟨xs.length, rfl, same_new hp, [], upd_same, .nil⟩, fun i m Hx w => ?_⟩
    obtain ⟨hmi, sx, acc, hacc, hda⟩ := w
    have gt : SqL X.K Hx t xs := SqL.of (sx _ _ ht0)
    cases ex : xs[i]? with
    | none =>
      have hge : xs.length ≤ i := List.getElem?_eq_none_iff.mp ex
      have ei : ds.take i = ds := List.take_of_length_le (by rw [← dpa_len hx]; exact hge)
      rw [ei] at hda
      exact .inl ⟨⟨xs, gt, hge⟩, q p acc Hx (s2.trans sx) (s2.free hp) hacc (out_of hda)⟩
    | some x0 =>
      have hlt := (List.getElem?_eq_some_iff.mp ex).1
      refine .inr ⟨⟨xs, x0, gt, ex⟩, fun Hy => Same H2 Hy ∧ ∃ acc, Hy p = some (.lst acc) ∧ DqAll X.K (hid (p :: M) Hy) acc (enumM g 0 (ds.take (i + 1))), fun Hy hy => ⟨m - 1, by omega, by omega, hy⟩, fun v Hy hyl => ?_⟩
      obtain ⟨T, y, rfl, hT, rfl, h1⟩ := hyl
      obtain ⟨d, hd1, hd2⟩ := dpa_get' hx (h1 xs gt)
      have sy : Same Hx (upd Hx T (.tup [.int (i : Nat), y])) := same_new hT
      have hpy := sy _ _ hacc
      have Lp : Live (p :: M) (upd Hx T (.tup [.int (i : Nat), y])) := fun b hb => by
        rcases List.mem_cons.mp hb with z | hb
        · subst z; rw [hpy]; simp
        · exact (L2'.mono sx).mono sy b hb
      have hids : Same (hid M H2) (hid (p :: M) (upd Hx T (.tup [.int (i : Nat), y]))) := hid_step hp (sx.trans sy)
      refine bg_mono (hst p i d T y _ hd1 hp0 ((s2.trans sx).trans sy) Lp (hd2.up hids) upd_same) fun τ Ha ⟨hw, sa, hbe⟩ => ⟨hw, bt_nil (iteT (be_mono hbe fun u Hb ⟨sb, hu⟩ => ?_))⟩
      have sd := (sy.trans sa).trans sb
      refine ⟨acc, sd _ _ hacc, ?_, fun b o e => ?_, acc ++ [u], upd_same, ?_⟩
      · have h4 : 100000 < sizeLine := by decide
        have h5 : (enumM g 0 (ds.take i)).length ≤ i := by rw [enumM_len, List.length_take]; omega
        have h6 := dpa_len hx
        rw [dpa_len hda]
        omega
      · rw [upd_ne (ne_of_none e hp)]
        exact sd _ _ (sx _ _ e)
      · rw [hid_upd_ne, List.take_add_one, hd1]
        show DqAll X.K (hid (p :: M) Hb) (acc ++ [u]) (enumM g 0 (ds.take i ++ [d]))
        have hl : (ds.take i).length = i := by rw [List.length_take]; have := (List.getElem?_eq_some_iff.mp hd1).1; omega
        rw [enumM_snoc, hl, Nat.zero_add]
        exact dpa_app (hda.up (hid_mono sd)) (.cons hu .nil)) he1
/-- [elt for (x, y) in zip(a, b)] -/
theorem lc_zip {elts : List Expr} {kk : Nat} (g : PyData → PyData → PyData) (L : Live M H) (ha : XD X M σ H a (.list ds)) (hb : XD X M σ H b (.list ds2)) (hz : ds.length ≤ 100000)
    (hst : ∀ p (i : Nat) d d2 T y z H1, ds[i]? = some d → ds2[i]? = some d2 → H p = none → Same H H1 → Live (p :: M) H1 → Dq X.K (hid (p :: M) H1) y d → Dq X.K (hid (p :: M) H1) z d2 → H1 T = some (.tup [y, z]) → BG X scope (.Tuple elts kk tpos) (.ref T) (wipe σ (own.map (·.2))) H1 fun τ H2 => wipe τ (own.map (·.2)) = wipe σ (own.map (·.2)) ∧ Same H1 H2 ∧
      BE X scope elt τ H2 fun u H3 => Same H2 H3 ∧ Dq X.K (hid (p :: M) H3) u (g d d2))
    (q : ∀ p xs H2, Same H H2 → H p = none → H2 p = some (.lst xs) → DqAll X.K (hid M H2) xs (List.zipWith g ds ds2) → Q (.ref p) H2)
    (he : starEach [a, b] X.env = (false, eval a X.env) :: starEach [b] X.env := by rfl) (he2 : starEach [b] X.env = (false, eval b X.env) :: starEach [] X.env := by rfl) :
    tLc (iZip X.K (RA X [a, b])) (BG X scope (.Tuple elts kk tpos)) (BT X scope []) (BE X scope elt) (own.map (·.2)) σ H Q :=
  ra_cons (ha H (Same.refl H) _ fun v H2 s2 hv => ra_1 (hb H2 s2 _ fun u H3 s3 hu => by
    obtain ⟨pa, xs, rfl, hpa, hx⟩ := dp_lst (hv.up (hid_mono s3))
    obtain ⟨pb, ys, rfl, hpb, hy⟩ := dp_lst hu
    have s03 := s2.trans s3
    have L3 : Live M H3 := L.mono s03
    refine ⟨pa, pb, xs, ys, rfl, SqL.of (hid_le _ _ hpa), SqL.of (hid_le _ _ hpb), fun p hp => ?_⟩
    have hp0 : H p = none := s03.free hp
    have hlx := dpa_len hx
    have hly := dpa_len hy
    refine ⟨fun i m Hx => m + i = min xs.length ys.length ∧ Same H3 Hx ∧ ∃ acc, Hx p = some (.lst acc) ∧ DqAll X.K (hid (p :: M) Hx) acc ((List.zipWith g ds ds2).take i), ⟨min xs.length ys.length, rfl, same_new hp, [], upd_same, .nil⟩, fun i m Hx w => ?_⟩
    obtain ⟨hmi, sx, acc, hacc, hda⟩ := w
    have ga : SqL X.K Hx pa xs := SqL.of (sx _ _ (hid_le _ _ hpa))
    have gb : SqL X.K Hx pb ys := SqL.of (sx _ _ (hid_le _ _ hpb))
    by_cases hlt : i < min xs.length ys.length
    · have l1 : i < xs.length := by omega
      have l2 : i < ys.length := by omega
      refine .inr ⟨⟨xs, ys, xs[i], ys[i], ga, gb, List.getElem?_eq_getElem l1, List.getElem?_eq_getElem l2⟩, fun Hy => Same H3 Hy ∧ ∃ acc, Hy p = some (.lst acc) ∧ DqAll X.K (hid (p :: M) Hy) acc ((List.zipWith g ds ds2).take (i + 1)), fun Hy hy => ⟨m - 1, by omega, by omega, hy⟩, fun v Hy hyl => ?_⟩
      obtain ⟨T, y, z, rfl, hT, rfl, h1, h2⟩ := hyl
      obtain ⟨d, hd1, hd2⟩ := dpa_get' hx (h1 xs ga)
      obtain ⟨d2, hd3, hd4⟩ := dpa_get' hy (h2 ys gb)
      have sy : Same Hx (upd Hx T (.tup [y, z])) := same_new hT
      have hpy := sy _ _ hacc
      have Lp : Live (p :: M) (upd Hx T (.tup [y, z])) := fun b hb => by
        rcases List.mem_cons.mp hb with z | hb
        · subst z; rw [hpy]; simp
        · exact (L3.mono sx).mono sy b hb
      have hids : Same (hid M H3) (hid (p :: M) (upd Hx T (.tup [y, z]))) := hid_step hp (sx.trans sy)
      refine bg_mono (hst p i d d2 T y z _ hd1 hd3 hp0 ((s03.trans sx).trans sy) Lp (hd2.up hids) (hd4.up hids) upd_same) fun τ Ha ⟨hw, sa, hbe⟩ => ⟨hw, bt_nil (iteT (be_mono hbe fun u Hb ⟨sb, hu⟩ => ?_))⟩
      have sd := (sy.trans sa).trans sb
      refine ⟨acc, sd _ _ hacc, ?_, fun b o e => ?_, acc ++ [u], upd_same, ?_⟩
      · have h4 : 100000 < sizeLine := by decide
        have h5 : ((List.zipWith g ds ds2).take i).length ≤ i := by rw [List.length_take]; omega
        rw [dpa_len hda]
        omega
      · rw [upd_ne (ne_of_none e hp)]
        exact sd _ _ (sx _ _ e)
      · rw [hid_upd_ne, zip_snoc g hd1 hd3]
        exact dpa_app (hda.up (hid_mono sd)) (.cons hu .nil)
    · have ei : (List.zipWith g ds ds2).take i = List.zipWith g ds ds2 := List.take_of_length_le (by rw [List.length_zipWith]; omega)
      rw [ei] at hda
      exact .inl ⟨⟨xs, ys, ga, gb, by omega⟩, q p acc Hx (s03.trans sx) hp0 hacc (out_of hda)⟩) he2) he
/-- [elt for tg in iter for tg1 in iter1], iter a list, iter1 always the tuple eds -/
theorem lc_comp2 {vs1 : List Nat} (g : PyData → PyData → PyData) (L : Live M H) (hit : XD X M σ H iter (.list ds)) (hz : ds.length * eds.length ≤ 100000)
    (hst : ∀ p d v H1, d ∈ ds → H p = none → Same H H1 → Live (p :: M) H1 → Dq X.K (hid (p :: M) H1) v d → BG X scope tg v (wipe σ (own.map (·.2))) H1 fun τ H2 => wipe τ (own.map (·.2)) = wipe σ (own.map (·.2)) ∧ Same H1 H2 ∧
      (∀ (s : Shared) (H0 : Hp) (C : Addr) (cl : List (Str × Addr)) (fp : List Addr), XD (X.blk s H0 scope (compEnvC scope cl C X.env) fp) (p :: M) τ H2 iter1 (.tuple eds)) ∧
      ∀ ed w H3, ed ∈ eds → (∀ b o, b ≠ p → H2 b = some o → H3 b = some o) → Live (p :: M) H3 → Dq X.K (hid (p :: M) H3) w ed → BG X scope tg1 w (wipe τ vs1) H3 fun τ2 H4 => wipe τ2 vs1 = wipe τ vs1 ∧ Same H3 H4 ∧ BE X scope elt τ2 H4 fun u H5 => Same H4 H5 ∧ Dq X.K (hid (p :: M) H5) u (g d ed))
    (q : ∀ p xs H2, Same H H2 → H p = none → H2 p = some (.lst xs) → DqAll X.K (hid M H2) xs (ds.flatMap fun d => eds.map (g d)) → Q (.ref p) H2) :
    tLc2 (iList X.K (RE X iter)) (BG X scope tg) (BT X scope []) (iTup X.K (BE X scope iter1)) (BG X scope tg1) (BT X scope []) (BE X scope elt) (own.map (·.2)) vs1 σ H Q :=
  hit H (Same.refl H) _ fun v H2 s2 hv => by
    obtain ⟨a, xs, rfl, ha, hx⟩ := dp_lst hv
    have L2' : Live M H2 := L.mono s2
    have hlx := dpa_len hx
    refine ⟨a, rfl, ⟨xs, SqL.of (hid_le _ _ ha)⟩, fun p hp => ?_⟩
    have hp0 : H p = none := s2.free hp
    have flen : ∀ l : List PyData, (l.flatMap fun d => eds.map (g d)).length = l.length * eds.length := fun l => by
      induction l with
      | nil => simp
      | cons x l ih => rw [List.flatMap_cons, List.length_append, ih, List.length_map, List.length_cons, Nat.succ_mul]; omega
    refine ⟨fun i m Hx => m + i = xs.length ∧ Same H2 Hx ∧ ∃ acc, Hx p = some (.lst acc) ∧ DqAll X.K (hid (p :: M) Hx) acc ((ds.take i).flatMap fun d => eds.map (g d)), ⟨xs.length, rfl, same_new hp, [], upd_same, .nil⟩, fun i m Hx w => ?_⟩
    obtain ⟨hmi, sx, acc, hacc, hda⟩ := w
    have gt : SqL X.K Hx a xs := SqL.of (sx _ _ (hid_le _ _ ha))
    cases ex : xs[i]? with
    | none =>
      have hge : xs.length ≤ i := List.getElem?_eq_none_iff.mp ex
      have ei : ds.take i = ds := List.take_of_length_le (by omega)
      rw [ei] at hda
      exact .inl ⟨⟨xs, gt, hge⟩, q p acc Hx (s2.trans sx) (s2.free hp) hacc (out_of hda)⟩
    | some x0 =>
      have hlt := (List.getElem?_eq_some_iff.mp ex).1
      refine .inr ⟨⟨xs, x0, gt, ex⟩, fun Hy => Same H2 Hy ∧ ∃ acc, Hy p = some (.lst acc) ∧ DqAll X.K (hid (p :: M) Hy) acc ((ds.take (i + 1)).flatMap fun d => eds.map (g d)), fun Hy hy => ⟨m - 1, by omega, by omega, hy⟩, fun v Hy hyl => ?_⟩
      obtain ⟨rfl, h1⟩ := hyl
      obtain ⟨d, hd1, hd2⟩ := dpa_get' hx (h1 xs gt)
      have hdi := (List.getElem?_eq_some_iff.mp hd1).1
      have Lp : Live (p :: M) Hy := fun b hb => by
        rcases List.mem_cons.mp hb with z | hb
        · subst z; rw [hacc]; simp
        · exact L2'.mono sx b hb
      refine bg_mono (hst p d v Hy (List.mem_of_getElem? hd1) hp0 (s2.trans sx) Lp (hd2.up (hid_step hp sx))) fun τ Ha ⟨hw, sa, hin, hel⟩ => ⟨hw, bt_nil (iteT fun s0 H0 C0 cl fp => ?_)⟩
      refine hin s0 H0 C0 cl fp Ha (Same.refl _) _ fun w Hb sb hwv => ?_
      obtain ⟨a1, ys, rfl, ha1, hy⟩ := dp_tup hwv
      have ha10 := same_seqT hid_le ha1
      have hly := dpa_len hy
      refine ⟨a1, rfl, ⟨ys, ha10⟩, ?_⟩
      have sab := sa.trans sb
      have pMem : p ∈ p :: M := List.mem_cons_self ..
      have hbp : Hb p = some (.lst acc) := sab _ _ hacc
      have upM : ∀ {Hz : Hp}, (∀ b o, b ≠ p → Hb b = some o → Hz b = some o) → Same (hid (p :: M) Hb) (hid (p :: M) Hz) := fun {Hz} z b o e => by
        have n1 : b ∉ p :: M := fun y => by unfold hid at e; rw [if_pos y] at e; cases e
        rw [hid_of n1]
        rw [hid_of n1] at e
        exact z b o (fun y => n1 (by rw [y]; exact pMem)) e
      refine ⟨fun j k Hz => k + j = ys.length ∧ (∀ b o, b ≠ p → Hb b = some o → Hz b = some o) ∧ ∃ acc', Hz p = some (.lst acc') ∧ DqAll X.K (hid (p :: M) Hz) acc' (((ds.take i).flatMap fun d => eds.map (g d)) ++ (eds.take j).map (g d)), ⟨ys.length, rfl, fun b o _ e => e, acc, hbp, ?_⟩, fun j k Hz hz => ?_⟩
      · simpa using hda.up (hid_mono sab)
      · obtain ⟨hkj, sz, acc', hacc', hda'⟩ := hz
        have gz : SqT X.K Hz a1 ys := by
          rcases ha1 with (h | ⟨o, h⟩) | h
          · exact .inl (.inl (hid_le _ _ (upM sz _ _ h)))
          · exact .inl (.inr ⟨o, hid_le _ _ (upM sz _ _ h)⟩)
          · exact .inr h
        have s2z : Same H2 Hz := fun b o e => sz b o (ne_of_none e hp) (sab b o (sx b o e))
        cases ey : ys[j]? with
        | none =>
          have hge : ys.length ≤ j := List.getElem?_eq_none_iff.mp ey
          have ej : eds.take j = eds := List.take_of_length_le (by omega)
          rw [ej] at hda'
          refine .inl ⟨⟨ys, gz, hge⟩, s2z, acc', hacc', ?_⟩
          rw [List.take_add_one, hd1]
          show DqAll X.K (hid (p :: M) Hz) acc' ((ds.take i ++ [d]).flatMap fun d => eds.map (g d))
          rw [List.flatMap_append]
          simpa using hda'
        | some y0 =>
          have hltj := (List.getElem?_eq_some_iff.mp ey).1
          refine .inr ⟨⟨ys, y0, gz, ey⟩, fun Hu => (∀ b o, b ≠ p → Hb b = some o → Hu b = some o) ∧ ∃ acc', Hu p = some (.lst acc') ∧ DqAll X.K (hid (p :: M) Hu) acc' (((ds.take i).flatMap fun d => eds.map (g d)) ++ (eds.take (j + 1)).map (g d)), fun Hu hu => ⟨k - 1, by omega, by omega, hu⟩, fun v Hu hyl => ?_⟩
          obtain ⟨rfl, h2⟩ := hyl
          obtain ⟨ed, he1, he2⟩ := dpa_get' hy (h2 ys gz)
          have Lz : Live (p :: M) Hu := fun b hb => by
            by_cases z : b = p
            · subst z; rw [hacc']; simp
            · intro q0
              rcases List.mem_cons.mp hb with y | hb
              · exact z y
              · cases q1 : Hb b with
                | none => exact ((L2'.mono sx).mono sab) b hb q1
                | some o => rw [sz b o z q1] at q0; cases q0
          refine bg_mono (hel ed v Hu (List.mem_of_getElem? he1) (fun b o nb e => sz b o nb (sb b o e)) Lz (he2.up (upM sz))) fun τ2 Hc ⟨hw2, sc, hbe⟩ => ⟨hw2, bt_nil (iteT (be_mono hbe fun u Hd ⟨sd, hu⟩ => ?_))⟩
          have scd := sc.trans sd
          refine ⟨acc', scd _ _ hacc', ?_, fun b o nb e => ?_, acc' ++ [u], upd_same, ?_⟩
          · have h4 : 100000 < sizeLine := by decide
            have h7 : i * eds.length + eds.length ≤ ds.length * eds.length := by
              have : (i + 1) * eds.length ≤ ds.length * eds.length := Nat.mul_le_mul_right _ hdi
              rw [Nat.succ_mul] at this; exact this
            have h8 : (ds.take i).length ≤ i := by rw [List.length_take]; omega
            have h9 := Nat.mul_le_mul_right eds.length h8
            have h10 : (eds.take j).length ≤ j := by rw [List.length_take]; omega
            rw [dpa_len hda', List.length_append, flen, List.length_map]
            omega
          · rw [upd_ne nb]
            exact scd _ _ (sz b o nb e)
          · rw [hid_upd_ne, List.take_add_one, he1]
            show DqAll X.K (hid (p :: M) Hd) (acc' ++ [u]) (((ds.take i).flatMap fun d => eds.map (g d)) ++ (eds.take j ++ [ed]).map (g d))
            rw [List.map_append, ← List.append_assoc]
            exact dpa_app (hda'.up (hid_mono scd)) (.cons hu .nil)
/-- x = .., such a comprehension, on one line -/
theorem rb_setC2 (i : Nat) {vs1 : List Nat} (g : PyData → PyData → PyData) (L : Live M H) (hN : X.N.Nodup) (hit : XD X M σ H iter (.list ds)) (ok : BlkOk X.N X.env.scope scope own) (hv : ∀ i ∈ vs1, i ∈ own.map (·.2)) (hz : ds.length * eds.length ≤ 100000)
    (hst : ∀ p d v H1, d ∈ ds → H p = none → Same H H1 → Live (p :: M) H1 → Dq X.K (hid (p :: M) H1) v d → BG X scope tg v (wipe σ (own.map (·.2))) H1 fun τ H2 => wipe τ (own.map (·.2)) = wipe σ (own.map (·.2)) ∧ Same H1 H2 ∧
      (∀ (s : Shared) (H0 : Hp) (C : Addr) (cl : List (Str × Addr)) (fp : List Addr), XD (X.blk s H0 scope (compEnvC scope cl C X.env) fp) (p :: M) τ H2 iter1 (.tuple eds)) ∧
      ∀ ed w H3, ed ∈ eds → (∀ b o, b ≠ p → H2 b = some o → H3 b = some o) → Live (p :: M) H3 → Dq X.K (hid (p :: M) H3) w ed → BG X scope tg1 w (wipe τ vs1) H3 fun τ2 H4 => wipe τ2 vs1 = wipe τ vs1 ∧ Same H3 H4 ∧ BE X scope elt τ2 H4 fun u H5 => Same H4 H5 ∧ Dq X.K (hid (p :: M) H5) u (g d ed))
    (q : ∀ p xs H2, Same H H2 → H p = none → H2 p = some (.lst xs) → DqAll X.K (hid M H2) xs (ds.flatMap fun d => eds.map (g d)) → RB X rest D (σ.set i (some (.ref p))) H2)
    (hi : X.N[i]? = some x := by rfl) (hx : X.env.scope.names.lookup x = some .local := by rfl) (hsw : swapsWith (.ListComp elt [⟨tg, iter, [], 0⟩, ⟨tg1, iter1, [], 0⟩] scope pos) (some (.Name x py)) spos.line X.env = pure true := by exact sw_true rfl rfl rfl rfl)
    (hc : X.calm = true := by rfl) (hs : ∀ x, foldedSetIterable iter X.env x = pure x := by intro _; rfl) (hs1 : ∀ env x, foldedSetIterable iter1 env x = pure x := by intro _ _; rfl) : RB X (.Assign [.Name x py] (.ListComp elt [⟨tg, iter, [], 0⟩, ⟨tg1, iter1, [], 0⟩] scope pos) spos :: rest) D σ H :=
  ⟨_, pss_cons (ps_setLc2 (own := own) (vs1 := vs1) hc hN hi hx hsw (pi_list re_) ok hv (fun _ _ _ _ _ => bg_) (fun _ _ _ _ _ => bt_) (fun _ _ _ _ _ => pi_tup be_) (fun _ _ _ _ _ => bg_) (fun _ _ _ _ _ => bt_) (fun _ _ _ _ _ => be_) hs hs1) rb_,
    lc_comp2 (own := own) (vs1 := vs1) (Q := fun v H1 => RB X rest D (σ.set i (some v)) H1) g L hit hz hst q⟩
/-- *e, e a tuple, in a display -/
theorem xa_starT {sp : Pos} (ha : XD X M σ H e (.tuple ds)) (hr : XA X M σ H es ds2) (hs : starEach (.Starred e sp :: es) X.env = (true, eval e X.env) :: starEach es X.env := by rfl) : XA X M σ H (.Starred e sp :: es) (ds ++ ds2) := fun H1 s Q q =>
  ⟨_, StX.pa_star re_ ra_ hs, ha H1 s _ fun v H2 s2 hv => by
    obtain ⟨p, xs, rfl, hp, hx⟩ := dp_tup hv
    exact ⟨p, xs, rfl, .inl (same_seqT hid_le hp), hr H2 (s.trans s2) _ fun vs H3 s3 hvs => q _ H3 (s2.trans s3) (dpa_app (hx.up (hid_mono s3)) hvs)⟩⟩
end
end Dl

set_option Elab.async false
set_option linter.all false
set_option maxRecDepth 100000
set_option maxHeartbeats 4000000
/-! Data layer: texts -/
namespace Dl
open PySem PySem.Spec PyProof.Rows L2
/-- the texts of one sign -/
def sg (c : Nat) : Str := ⟨#[c]⟩
section
variable {X : Cx} {M : List Addr} {σ : L2.St} {H H' : Hp} {e a b c o elt tg iter : Expr} {ifs : List Expr} {scope : Scope} {own : List (Str × Nat)} {es : List Expr} {d d1 d2 : PyData} {ds ds2 : List PyData} {x y z : Str} {v : V} {pos p1 p2 p3 : Pos}
theorem xd_addS (ha : XD X M σ H a (.str x)) (hb : XD X M σ H b (.str y)) (hl : x.length + y.length ≤ 100000) : XD X M σ H (.BinOp a .Add b pos) (.str (x ++ y)) :=
  xd_bin op_add_str ha hb fun H1 v w s hv hw Q q => ⟨x, y, dp_str hv, dp_str hw, small_sz hl, q _ H1 (Same.refl _) (.str _)⟩
theorem xd_lenStr (hm : X.mg "len" = none) (ha : XD X M σ H e (.str x)) (hl : x.length ≤ 100000) (hg : Gl X "len" := by rfl) (he : starEach [e] X.env = (false, eval e X.env) :: starEach [] X.env := by rfl) (hpl : (backTo pos (starEach [] X.env)).any (·.1) = false := by rfl) : XD X M σ H (.Call (.Name "len" p1) [e] [] pos) (.int x.length) :=
  xd_B call_len_str (xa_cons ha xa_nil he) (fun H1 vs s h Q q => by
    cases h with
    | cons h1 h2 =>
      cases h2
      exact ⟨x, by rw [dp_str h1], small_sz hl, q _ _ (Same.refl _) (.int _)⟩) hm PySem.boot_len hg (by decide) (by decide) he hpl
theorem xd_ixS {n : Int} {c : Nat} (hs : PlainIx b) (ha : XD X M σ H a (.str x)) (hb : XD X M σ H b (.int n)) (hl : x.length ≤ 100000) (h : atI x.cps.toList n = some c) : XD X M σ H (.Subscript a b pos) (.str (sg c)) := fun H1 s Q q =>
  ⟨_, pe_ix ix_str re_ re_ hs, ha H1 s _ fun v H2 s2 hv => hb H2 (s.trans s2) _ fun w H3 s3 hw => ⟨x, n, c, dp_str hv, dp_int hw, small_sz hl, h, q _ H3 (s2.trans s3) (.str _)⟩⟩
theorem xd_cutS {lo hi : Option Expr} {m n : Option Int} (ha : XD X M σ H a (.str x)) (hl : XO X σ H lo m) (hu : XO X σ H hi n) (hz : x.length ≤ 100000) : XD X M σ H (.Subscript a (.Slice lo hi none p2) pos) (.str (cutS x m n)) := fun H1 s Q q =>
  ⟨_, pe_slice sl_str re_ ro_ ro_, ha H1 s _ fun v H2 s2 hv => hl H2 (s.trans s2) _ fun H3 s3 => hu H3 ((s.trans s2).trans s3) _ fun H4 s4 => ⟨x, dp_str hv, small_sz hz, q _ H4 (s2.trans (s3.trans s4)) (.str _)⟩⟩
theorem xt_inSg {c : Nat} (ha : XD X M σ H a (.str (sg c))) (hb : XD X M σ H b (.str x)) (hm : behindInMarks .In b = false := by rfl) : XT X σ H (.Compare a [.In] [b] pos) (decide (c ∈ x.cps.toList)) :=
  xt_cmp op_inS ha hb (fun H1 v w s hv hw Q q => ⟨c, x, dp_str hv, dp_str hw, q H1 (Same.refl _)⟩) hm
theorem xd_inSg {c : Nat} (ha : XD X M σ H a (.str (sg c))) (hb : XD X M σ H b (.str x)) (hm : behindInMarks .In b = false := by rfl) : XD X M σ H (.Compare a [.In] [b] pos) (.bool (decide (c ∈ x.cps.toList))) :=
  xd_cmp op_inS ha hb (fun H1 v w s hv hw Q q => ⟨c, x, dp_str hv, dp_str hw, q _ H1 (Same.refl _) (.bl _)⟩) hm
theorem xt_notInSg {c : Nat} (ha : XD X M σ H a (.str (sg c))) (hb : XD X M σ H b (.str x)) (hm : behindInMarks .NotIn b = false := by rfl) : XT X σ H (.Compare a [.NotIn] [b] pos) (!decide (c ∈ x.cps.toList)) :=
  xt_cmp op_notInS ha hb (fun H1 v w s hv hw Q q => ⟨c, x, dp_str hv, dp_str hw, q H1 (Same.refl _)⟩) hm
theorem dec_str {m n : Str} : decide (V.str m = V.str n) = decide (m = n) := by
  by_cases h : m = n
  · subst h; simp
  · rw [decide_eq_false h, decide_eq_false fun z => h (V.str.inj z)]
theorem xt_neS (ha : XD X M σ H a (.str x)) (hb : XD X M σ H b (.str y)) : XT X σ H (.Compare a [.NotEq] [b] pos) (!decide (x = y)) :=
  xt_cmp op_ne ha hb fun H1 v w s hv hw Q q => by
    rw [dp_str hv, dp_str hw]
    exact ⟨rfl, by rw [dec_str]; exact q H1 (Same.refl _)⟩
/-- int(text) -/
theorem xd_intS {n : Int} (hm : X.mg "int" = none) (ha : XD X M σ H e (.str x)) (hn : PySem.intText? x = some n) (hl : x.length ≤ 640) (hg : Gl X "int" := by rfl) (he : starEach [e] X.env = (false, eval e X.env) :: starEach [] X.env := by rfl) (hpl : (backTo pos (starEach [] X.env)).any (·.1) = false := by rfl) :
    XD X M σ H (.Call (.Name "int" p1) [e] [] pos) (.int n) := fun H1 s Q q =>
  re_Ty call_int_str (ra_1 (ha H1 s _ fun v H2 s2 hv => ⟨x, n, by rw [dp_str hv], hn, hl, q _ H2 s2 (.int _)⟩) he) hm (by decide +kernel) hg (by decide) (by decide) he hpl
/-- str(int) -/
theorem xd_strI {n : Int} (hm : X.mg "str" = none) (ha : XD X M σ H e (.int n)) (hl : n.natAbs.log2 < 1920) (hg : Gl X "str" := by rfl) (he : starEach [e] X.env = (false, eval e X.env) :: starEach [] X.env := by rfl) (hpl : (backTo pos (starEach [] X.env)).any (·.1) = false := by rfl) :
    XD X M σ H (.Call (.Name "str" p1) [e] [] pos) (.str (Str.ofString (toString n))) := fun H1 s Q q =>
  re_Ty call_str_int (ra_1 (ha H1 s _ fun v H2 s2 hv => ⟨n, by rw [dp_int hv], hl, q _ H2 s2 (.str _)⟩) he) hm (by decide +kernel) hg (by decide) (by decide) he hpl
/-- [elt for tg in text if ..] -/
theorem xl_compS (f : Nat → Option PyData) (L : Live M H) (hN : X.N.Nodup) (hit : XD X M σ H iter (.str x)) (ok : BlkOk X.N X.env.scope scope own) (hz : x.length ≤ 100000)
    (hst : ∀ p c H1, c ∈ x.cps.toList → H p = none → Same H H1 → Live (p :: M) H1 → BG X scope tg (.str (sg c)) (wipe σ (own.map (·.2))) H1 fun σ2 H2 => wipe σ2 (own.map (·.2)) = wipe σ (own.map (·.2)) ∧ BT X scope ifs σ2 H2 fun k H3 =>
      Same H1 H3 ∧ ((k = true ∧ ∃ d', f c = some d' ∧ BE X scope elt σ2 H3 fun y H4 => Same H3 H4 ∧ Dq X.K (hid (p :: M) H4) y d') ∨ (k = false ∧ f c = none)))
    (hc : X.calm = true := by rfl) (hs : ∀ x, foldedSetIterable iter X.env x = pure x := by intro _; rfl) : XL X M σ H (.ListComp elt [⟨tg, iter, ifs, 0⟩] scope pos) (x.cps.toList.filterMap f) := fun H1 s1 Q q =>
  ⟨_, pe_lc (own := own) hc hN (pi_str re_) ok (fun _ _ _ _ _ => bg_) (fun _ _ _ _ _ => bt_) (fun _ _ _ _ _ => be_) hs, hit H1 s1 _ fun v H2 s2 hv => by
    have L2' : Live M H2 := L.mono (s1.trans s2)
    have ev := dp_str hv
    subst ev
    refine ⟨x, rfl, fun p hp => ?_⟩
    have hp0 : H p = none := (s1.trans s2).free hp
    have hsz : x.cps.toList.length = x.cps.size := by simp
    have hzz : x.cps.size ≤ 100000 := hz
    refine ⟨fun i m Hx => m + i = x.cps.size ∧ Same H2 Hx ∧ ∃ acc, Hx p = some (.lst acc) ∧ DqAll X.K (hid (p :: M) Hx) acc ((x.cps.toList.take i).filterMap f), ⟨x.cps.size, rfl, same_new hp, [], upd_same, by simpa using DqAll.nil⟩, fun i m Hx w => ?_⟩
    obtain ⟨hmi, sx, acc, hacc, hda⟩ := w
    by_cases hlt : i < x.cps.size
    · refine .inr ⟨hlt, fun Hy => Same H2 Hy ∧ ∃ acc, Hy p = some (.lst acc) ∧ DqAll X.K (hid (p :: M) Hy) acc ((x.cps.toList.take (i + 1)).filterMap f), fun Hy hy => ⟨m - 1, by omega, by omega, hy⟩, fun v Hy hyl => ?_⟩
      obtain ⟨rfl, c, hc1, rfl⟩ := hyl
      have hc2 : x.cps.toList[i]? = some c := by rw [Array.getElem?_toList]; exact hc1
      have etake : x.cps.toList.take (i + 1) = x.cps.toList.take i ++ [c] := by rw [List.take_add_one, hc2]; rfl
      have Lp : Live (p :: M) Hy := fun b hb => by
        rcases List.mem_cons.mp hb with z | hb
        · subst z; rw [hacc]; simp
        · exact L2'.mono sx b hb
      refine bg_mono (hst p c Hy (List.mem_of_getElem? hc2) hp0 ((s1.trans s2).trans sx) Lp) fun σ2 Ha ⟨hw, hbt⟩ => ⟨hw, bt_mono hbt fun k Hb ⟨sb, hk⟩ => ?_⟩
      rcases hk with ⟨hk, d', hf, hbe⟩ | ⟨hk, hf⟩
      · subst hk
        refine iteT (be_mono hbe fun y Hc ⟨sc, hy⟩ => ?_)
        have sd := sb.trans sc
        refine ⟨acc, sd _ _ hacc, ?_, fun b o e => ?_, acc ++ [y], upd_same, ?_⟩
        · have h1 : ((x.cps.toList.take i).filterMap f).length ≤ (x.cps.toList.take i).length := List.length_filterMap_le ..
          have h2 : (x.cps.toList.take i).length ≤ i := by rw [List.length_take]; omega
          have h4 : 100000 < sizeLine := by decide
          rw [dpa_len hda]
          omega
        · rw [upd_ne (ne_of_none e hp)]
          exact sd _ _ (sx _ _ e)
        · rw [hid_upd_ne, etake, List.filterMap_append]
          have e2 : [c].filterMap f = [d'] := by simp [hf]
          rw [e2]
          exact dpa_app (hda.up (hid_mono sd)) (.cons hy .nil)
      · subst hk
        refine iteF ⟨sx.trans sb, acc, sb _ _ hacc, ?_⟩
        rw [etake, List.filterMap_append]
        have e2 : [c].filterMap f = [] := by simp [hf]
        rw [e2, List.append_nil]
        exact hda.up (hid_mono sb)
    · have ei : x.cps.toList.take i = x.cps.toList := List.take_of_length_le (by omega)
      rw [ei] at hda
      refine .inl ⟨by show x.cps.size ≤ i; omega, q p acc Hx (s2.trans sx) (s2.free hp) hacc (hda.up fun b o e => ?_)⟩
      have n1 : b ∉ p :: M := fun z => by unfold hid at e; rw [if_pos z] at e; cases e
      rw [hid_of (fun z => n1 (List.mem_cons_of_mem _ z))]
      exact hid_le _ _ e⟩
/-- all([..]) -/
theorem bools_v {K : PySem.W.Frag} {H : Hp} : ∀ {bs : List Bool} {xs : List V}, DqAll K H xs (bs.map PyData.bool) → xs = bs.map V.bl
  | [], _, h => by cases h; rfl
  | n :: ns, _, h => by
    cases h with
    | cons a b => rw [dp_bl a, bools_v b]; rfl
end
/-- the number of two digits -/
theorem two_digits : ∀ i : Fin 10, ∀ j : Fin 10, PySem.intText? ⟨#[48 + i.val, 48 + j.val]⟩ = some ((10 * i.val + j.val : Nat) : Int) := by decide +kernel
end Dl

set_option Elab.async false
set_option linter.all false
set_option maxRecDepth 100000
set_option maxHeartbeats 4000000
/-! several clauses `except X as e`, all with one name -/
namespace Dl
open PySem PySem.Spec PyProof.Rows L2
/-- what the clauses wish, one after the other -/
def wManyAs (K : PySem.W.Frag) (i : Nat) (Wout : WX) (D : Ends) : List (Value × (Addr → Value → Option Addr → TS)) → WX
  | [] => Wout
  | (c, ts) :: r => wAs K c i ts (wManyAs K i Wout D r) D
inductive HdsAs (X : Cx) (n : Str) : List ExceptHandler → List (Value × (Addr → Value → Option Addr → TS)) → Prop
  | nil : HdsAs X n [] []
  | cons {y : Str} {c : Value} {ts : Addr → Value → Option Addr → TS} {st0 : Stmt} {sts : List Stmt} {np hp : Pos} {hs : List ExceptHandler} {l : List (Value × (Addr → Value → Option Addr → TS))} (nm : Names X y c)
      (run : ∀ (a : Addr) (ob : Obj) (cls : Value) (d : Option Addr) (pn : List (Addr × Obj)), Zc cls d ob → (∃ fs, ob.data = .fields fs) → PSs (X.suite a ((a, ob) :: pn)) (st0 :: sts) (ts a cls d)) (more : HdsAs X n hs l) :
      HdsAs X n (.ExceptHandler (some (.Name y np)) (some n) (st0 :: sts) hp :: hs) ((c, ts) :: l)
section
variable {X : Cx} {n : Str} {i : Nat} {body : List Stmt} {h0 : ExceptHandler} {hds : List ExceptHandler} {l : List (Value × (Addr → Value → Option Addr → TS))} {pos : Pos} {tb : WX → TS} {Wout : WX}
theorem ps_try_manyAs (stk : X.stack = X.env :: X.outer) (frm : X.env.frame = some X.env.locals) (nd : X.N.Nodup) (at_ : X.N[i]? = some n) (loc : X.env.kindOf n = some .local) (out : Takes X Wout)
    (bd : ∀ (W : WX) (pn : List (Addr × Obj)) (xe : Value → Shared → Prop), Takes (X.tr pn xe) W → PassesOwn (model X.prog X.w) X.A X.env xe → PSs (X.tr pn xe) body (tb W)) (hh : HdsAs X n (h0 :: hds) l) :
    PS X (.Try body (h0 :: hds) [] [] pos) fun D σ H => tb (wManyAs X.K i Wout D l) D σ H := by
  refine ⟨fun pins s σ H D I wish => ?_⟩
  have okX := I.ok
  have frs0 : X.A.frames = some (X.env :: X.outer) := okX.frames.trans (by rw [stk])
  have locN : Loc X.env.scope n := Or.inl loc
  refine wpAny_Try_except ?_
  refine wpAny_mono ((bd (wManyAs X.K i Wout D l) (X.pn ++ pins) (fun exc t1 => wpAny (model X.prog X.w) X.A (noteFrame exc X.env) (fun _ t2 => wpAny (model X.prog X.w) X.A (setFlight exc none) (fun _ t3 =>
      wpAny (model X.prog X.w) X.A (handleBy exc X.env (h0 :: hds)) (SP X pins D) X.xe t3) X.xe t2) X.xe t1) (fun u s2 flying => ?_) PassesOwn.looking).run [] s σ H D (I.toTry _) wish) (fun fl t1 done => ?_) fun exc t1 raised => raised
  · obtain ⟨a, B, sI, pins1, τ, G, cls, d, rfl, I1, stay, ups, sky, free, oss, bare, owe⟩ := flying
    have J : Inv X pins τ G sI := I1.ofTry okX
    have sky1 : Sky B (X.env :: X.outer) a (Zc cls d) X.env.locals s2.heap := by rw [← stk]; exact sky
    show wpAny (model X.prog X.w) X.A (noteFrame (.ref a) X.env) _ _ _
    refine Sky.land Zc.steady frs0 frm sky1 fun h3 fl3 up3 => ?_
    have J3 : Inv X pins τ G { s2 with heap := h3 } := J.landed stay fl3.1 (ups.trans up3) oss bare
    obtain ⟨o3, fs3, g3, z3, dt3⟩ := fl3.there
    have notIn : a ∉ frs (X.env :: X.outer) := fun m => by
      obtain ⟨_, o4, g4, no⟩ := fl3.2.2.1.mem m
      rw [g3] at g4
      cases g4
      exact no _ dt3
    have notLoc : a ≠ X.env.locals := fun z => notIn (List.mem_filterMap.mpr ⟨X.env, List.mem_cons_self, by rw [frm, z]⟩)
    have notFs : a ∉ X.fs := fun m => by
      obtain ⟨en, hen, q⟩ := List.mem_filterMap.mp m
      exact notIn (List.mem_filterMap.mpr ⟨en, List.mem_cons_of_mem _ hen, q⟩)
    have S3 := J3.suite g3 dt3 free notLoc notFs
    have walk : ∀ {hs1 : List ExceptHandler} {l1 : List (Value × (Addr → Value → Option Addr → TS))}, HdsAs X n hs1 l1 → wManyAs X.K i Wout D l1 cls d τ G →
        wpAny (model X.prog X.w) X.A (handleBy (.ref a) X.env hs1) (SP X pins D) X.xe { s2 with heap := h3 } := by
      intro hs1 l1 k
      induction k with
      | nil =>
        intro owe1
        refine wpAny_handleBy_nil ?_
        obtain ⟨q1, q2, q3, o5, fs5, tb5, ot5, ts5, g5, z5, dt5, one5, r5⟩ := id fl3
        unfold PySem.passOn
        refine wpAny_bind (wpAny_field g5 dt5 one5 ?_)
        rw [if_neg (show ¬ ((Value.ref tb5 == Value.none) = true) from by simp)]
        have up : wpAny (model X.prog X.w) X.A (setFlight (.ref a) X.env.frame) (fun _ t4 => wpAny (model X.prog X.w) X.A (throw (.ref a) : Sem Flow) (SP X pins D) X.xe t4) X.xe { s2 with heap := h3 } := by
          rw [frm]
          refine HandSPX.setFlight_upZ fl3 fun h4 fl4 up4 => wpAny_throw (out _ _ ?_)
          exact ⟨a, B, sI, pins, τ, G, cls, d, rfl, J, stay, (ups.trans up3).trans up4, .inr (.inr (by rw [stk]; exact fl4)), free, oss, bare, owe1⟩
        first | exact wpAny_bind (wpAny_pure (wpAny_bind up)) | exact wpAny_bind up
      | @cons y c ts st0 sts np hp hs2 l2 nm run more ih =>
        intro owe1
        obtain ⟨b, is1, yes1, no1⟩ := owe1
        refine wpAny_handleBy_cons (codeAny_handlers_test ?_) (by intro q; cases q)
        have looks : PySem.W.Looks (model X.prog X.w) h3 (typeOf (.ref a)) cls := fun A1 Q1 E1 t1 keep q => wpAny_typeOf_ref (keep _ _ g3) (by rw [z3.1]; exact q)
        have isIt := PySem.W.exm_one (M := model X.prog X.w) (J3.kIn) looks is1
        have named : ∀ {Q1 : Value → Shared → Prop} {E1 : Value → Shared → Prop}, Q1 c { s2 with heap := h3 } → wpAny (model X.prog X.w) (X.A.mark (some (.ref a))) (eval (.Name y np) X.env) Q1 E1 { s2 with heap := h3 } := fun {Q1 E1} q => by
          obtain ⟨gl, db, mm | ⟨mm, bv, nn⟩⟩ := nm
          · exact ld_glob (X := X.suite a ((a, o3) :: (X.pn ++ pins))) S3 gl mm q db
          · exact ld_blt (X := X.suite a ((a, o3) :: (X.pn ++ pins))) S3 gl mm bv q nn db
        refine named (isIt.here ?_)
        cases b with
        | false =>
          show wpAny _ X.A (handleBy (.ref a) X.env hs2) _ _ _
          exact ih (no1 rfl)
        | true =>
          refine codeAny_handlers_suite_as ?_
          refine HandSPX.lands_againZ fl3 fun h4 fl4 up4 => ?_
          have J4 : Inv X pins τ G { s2 with heap := h4 } := J.landed stay fl4.1 ((ups.trans up3).trans up4) oss bare
          obtain ⟨o4, fs4, g4, z4, dt4⟩ := fl4.there
          refine store_ok (X := X.suite a ((a, o4) :: (X.pn ++ pins))) (v := .ref a) (J4.suite g4 dt4 free notLoc notFs) nd at_ locN rfl (fun t5 S5 => ?_) (Or.inr loc)
          refine wpAny_mono ((run a o4 cls d (X.pn ++ pins) z4 ⟨_, dt4⟩).run [] t5 _ G _ S5 (yes1 rfl a free)) (fun fl t6 done => ?_) fun _ _ z => z.elim
          have forget : ∀ {σ6 : L2.St} {G6 : Hp} {Q1 : Shared → Prop}, Inv (X.suite a ((a, o4) :: (X.pn ++ pins))) [] σ6 G6 t6 → (∀ t7, Inv X pins (σ6.set i none) G6 t7 → Q1 t7) →
              wpAny (model X.prog X.w) X.A (do bindName X.env n .none; unbindBehindTheSuite X.env n hp) (fun _ t7 => Q1 t7) X.xe t6 := fun {σ6 G6 Q1} S6 q => gone_ok (S6.unsuite okX) nd at_ loc q
          cases fl with
          | next => obtain ⟨τ6, G6, S6, q6⟩ := done; exact forget S6 fun t7 J7 => ⟨_, _, J7, q6⟩
          | brk => obtain ⟨τ6, G6, S6, q6⟩ := done; exact forget S6 fun t7 J7 => ⟨_, _, J7, q6⟩
          | cont => obtain ⟨τ6, G6, S6, q6⟩ := done; exact forget S6 fun t7 J7 => ⟨_, _, J7, q6⟩
          | ret u => obtain ⟨v6, τ6, G6, S6, r6, q6⟩ := done; exact forget S6 fun t7 J7 => ⟨_, _, _, J7, r6, q6⟩
    exact walk hh owe
  · cases fl with
    | next => obtain ⟨τ, G, J, q⟩ := done; exact wpAny_execs_nil ⟨τ, G, J.ofTry okX, q⟩
    | brk => obtain ⟨τ, G, J, q⟩ := done; exact ⟨τ, G, J.ofTry okX, q⟩
    | cont => obtain ⟨τ, G, J, q⟩ := done; exact ⟨τ, G, J.ofTry okX, q⟩
    | ret u => obtain ⟨v, τ, G, J, rv, q⟩ := done; exact ⟨v, τ, G, J.ofTry okX, rv, q⟩
end
end Dl

set_option Elab.async false
set_option linter.all false
set_option maxRecDepth 100000
set_option maxHeartbeats 4000000
/-! Data layer: defs that may raise, raise, try with several clauses, the field of a caught exception -/
namespace Dl
open PySem PySem.Spec PyProof.Rows L2
section
variable {X : Cx} {M : List Addr} {σ : L2.St} {H H' : Hp} {e o : Expr} {es : List Expr} {x n : Str} {v : V} {pos p1 p2 p3 hp : Pos} {D : Ends} {rest body : List Stmt} {k i : Nat} {f C fI : Addr} {fd : FuncData} {ps : List Str} {W : WX} {Q : VK} {sp : Sp}
/-- x(e, ..), a def that may raise -/
theorem re_callX (F : FnOk X.prog X.w X.K X.mg X.base (L2.CX X.prog X.w) k f fd ps sp) (hr : Room k X.A) (tk : Takes X W) (hm : X.mg x = some (.ref f)) (hk : PySem.W.keepIn X.K (.ref f) = true) (hb : Binds X.K fd ps []) (ha : RA X (e :: es) σ H fun vs H1 => sp vs H1 Q fun cls d H2 => W cls d σ H2) (hg : Gl X x := by rfl)
    (hdb : (x == ("__debug__" : Str)) = false := by decide) (he : starEach (e :: es) X.env = (false, eval e X.env) :: starEach es X.env := by rfl) (hpl : (backTo pos (starEach es X.env)).any (·.1) = false := by rfl) : RE X (.Call (.Name x p1) (e :: es) [] pos) σ H Q :=
  ⟨_, pe_callS F hr hg hm hk hb (fun σ => passAt tk σ) ra_ hdb he hpl, ha⟩
/-- __init__(self, value) of an exception's class -/
def spXI (C : Addr) (fl : Str) : Sp := fun vs H Q _ => ∃ (a : Addr) (v : V), vs = [.ref a, v] ∧ H a = some (exo a C none) ∧ ∀ H2, Same H H2 → ∀ dx, H2 dx = none → dx ≠ a → Q .non (upd (upd H2 dx (exd dx [(fl, v)])) a (exo a C (some dx)))
/-- self.f = e, self a new exception -/
theorem rb_ost {m : Str} {a : Addr} {ap : Pos} (T : OexC X.K C) (no : PySem.W.findIn X.K (.ref C) m = some none) (he : XV X σ H e v) (ho : XV X σ H o (.ref a)) (ha : H a = some (exo a C none)) (q : ∀ H2, Same H H2 → ∀ dx, H2 dx = none → dx ≠ a → RB X rest D σ (upd (upd H2 dx (exd dx [(m, v)])) a (exo a C (some dx))))
    (hs : swapsWith e (some (.Attribute o m ap)) pos.line X.env = pure false := by rfl) : RB X (.Assign [.Attribute o m ap] e pos :: rest) D σ H :=
  ⟨_, pss_cons (ps_ost re_ re_ hs) rb_, he H (Same.refl H) _ fun H1 s1 => ho H1 s1 _ fun H2 s2 => ⟨a, C, rfl, T, no, .inl ⟨(s1.trans s2) _ _ ha, fun dx h1 h2 => q H2 (s1.trans s2) dx h1 h2⟩⟩⟩
/-- a class of exceptions with one field -/
structure XCls (P : Program) (w : World) (K : PySem.W.Frag) (mg : Str → Option Value) (base : Heap) (x fl : Str) (C fI : Addr) (fd : FuncData) : Prop where
  mgC : mg x = some (.ref C)
  T : OexC K C
  iC : PySem.W.findIn K (.ref C) "__init__" = some (some (.ref fI))
  tI : PySem.W.typeIn K (.ref fI) = some (.type "function")
  G : FnOk P w K mg base CX0 1 fI fd ["self", fl] (spXI C fl)
  b : Binds K fd ["self", fl] []
  xf : XfC K C
  no : PySem.W.findIn K (.ref C) fl = some none
  te : PySem.W.exmOne K (.ref C) (.ref C) = some true
theorem del_upd {H H2 : Hp} {a d : Addr} {fs : List (Str × V)} (ha : H a = none) (s : Same (upd H a (exo a C none)) H2) (hd : H2 d = none) (ne : d ≠ a) : Same H (upd (del (upd (upd H2 d (exd d fs)) a (exo a C (some d))) a) d (.xd fs)) := fun b o e => by
  have na : b ≠ a := fun z => by rw [z, ha] at e; cases e
  have e2 : H2 b = some o := s b o (by rw [upd_ne na]; exact e)
  have nd : b ≠ d := fun z => by rw [z, hd] at e2; cases e2
  rw [upd_ne nd, del_ne na, upd_ne na, upd_ne nd]
  exact e2
/-- raise C(e) -/
theorem rb_raise {fl : Str} (Y : XCls X.prog X.w X.K X.mg X.base x fl C fI fd) (hr : Room 2 X.A) (tk : Takes X W) (h : RE X e σ H fun v H1 => ∀ d H2, Same H1 H2 → H2 d = some (.xd [(fl, v)]) → W (.ref C) (some d) σ H2) (hc : X.calm = true := by rfl) (hg : Gl X x := by rfl)
    (hdb : (x == ("__debug__" : Str)) = false := by decide) (he : starEach [e] X.env = (false, eval e X.env) :: starEach [] X.env := by rfl) (hpl : (backTo pos (starEach [] X.env)).any (·.1) = false := by rfl) : RB X (.Raise (some (.Call (.Name x p1) [e] [] pos)) none p2 :: rest) D σ H :=
  ⟨_, pss_cons (ps_raise hc tk (pmk_oex Y.T Y.iC Y.tI Y.G hr Y.b .nil pass0 hg Y.mgC ra_ hdb he hpl)) rb_, ra_1 (re_mono h fun v H1 q => by
    refine ⟨by show 1 ≤ 1000; decide, fun a ha => ⟨a, v, rfl, upd_same, fun H2 s2 d h1 h2 => ⟨rfl, d, _, upd_same, by rw [upd_ne h2, upd_same], ?_, q d _ (del_upd ha s2 h1 h2) upd_same⟩⟩⟩
    cases e3 : H1 d with
    | none => rfl
    | some o =>
      have e4 := s2 d o (by rw [upd_ne h2]; exact e3)
      rw [h1] at e4
      cases e4) he⟩
/-! ### try -/
/-- the body of a try, what leaves it goes by W -/
def TB (X : Cx) (body : List Stmt) : WX → TS := fun W D σ H => ∀ (pn : List (Addr × Obj)) (xe : Value → Shared → Prop), Takes (X.tr pn xe) W → PassesOwn (model X.prog X.w) X.A X.env xe → RB (X.tr pn xe) body D σ H
/-- a clause's suite, the exception at a -/
def SB (X : Cx) (suite : List Stmt) : Addr → Value → Option Addr → TS := fun a cls d D σ H => ∀ (ob : Obj) (pn : List (Addr × Obj)), Zc cls d ob → (∃ fs, ob.data = .fields fs) → RB (X.suite a ((a, ob) :: pn)) suite D σ H
theorem tb_ {pn : List (Addr × Obj)} {xe : Value → Shared → Prop} (tk : Takes (X.tr pn xe) W) (po : PassesOwn (model X.prog X.w) X.A X.env xe) : PSs (X.tr pn xe) body (TB X body W) := ⟨fun pins s σ H D I h => by
  obtain ⟨t, ht, q⟩ := h pn xe tk po
  exact ht.run pins s σ H D I q⟩
theorem sb_ {suite : List Stmt} {a : Addr} {ob : Obj} {cls : Value} {d : Option Addr} {pn : List (Addr × Obj)} (z : Zc cls d ob) (hf : ∃ fs, ob.data = .fields fs) : PSs (X.suite a ((a, ob) :: pn)) suite (SB X suite a cls d) := ⟨fun pins s σ H D I h => by
  obtain ⟨t, ht, q⟩ := h ob pn z hf
  exact ht.run pins s σ H D I q⟩
/-- the clauses by their classes -/
inductive Cls (X : Cx) (n : Str) : List ExceptHandler → List (Value × (Addr → Value → Option Addr → TS)) → Prop
  | nil : Cls X n [] []
  | cons {y : Str} {c : Value} {st0 : Stmt} {sts : List Stmt} {np hp : Pos} {hs : List ExceptHandler} {l : List (Value × (Addr → Value → Option Addr → TS))} (nm : Names X y c) (more : Cls X n hs l) :
      Cls X n (.ExceptHandler (some (.Name y np)) (some n) (st0 :: sts) hp :: hs) ((c, SB X (st0 :: sts)) :: l)
theorem Cls.ok {hs : List ExceptHandler} {l : List (Value × (Addr → Value → Option Addr → TS))} (h : Cls X n hs l) : HdsAs X n hs l := by
  induction h with
  | nil => exact .nil
  | cons nm more ih => exact .cons nm (fun a ob cls d pn z hf => sb_ z hf) ih
theorem rb_tryAs {h0 : ExceptHandler} {hds : List ExceptHandler} {l : List (Value × (Addr → Value → Option Addr → TS))} {Wout : WX} (i : Nat) (hN : X.N.Nodup) (out : Takes X Wout) (hh : Cls X n (h0 :: hds) l) (h : TB X body (wManyAs X.K i Wout { D with nx := RB X rest D } l) { D with nx := RB X rest D } σ H)
    (hi : X.N[i]? = some n := by rfl) (loc : X.env.kindOf n = some .local := by rfl) (stk : X.stack = X.env :: X.outer := by rfl) (frm : X.env.frame = some X.env.locals := by rfl) : RB X (.Try body (h0 :: hds) [] [] pos :: rest) D σ H :=
  ⟨_, pss_cons (ps_try_manyAs (tb := TB X body) stk frm hN hi loc out (fun W pn xe tk po => tb_ tk po) hh.ok) rb_, h⟩
/-- e.f, e the caught exception -/
theorem xv_xf {a : Addr} {ob : Obj} {cls : Value} {d : Addr} {pn : List (Addr × Obj)} {fl : Str} {fs : List (Str × V)} (T : XfC X.K C) (no : PySem.W.findIn X.K (.ref C) fl = some none) (z : Zc cls (some d) ob) (hf : ∃ vs, ob.data = .fields vs) (hcl : cls = .ref C) (ho : XV (X.suite a ((a, ob) :: pn)) σ H e (.ref a)) (hd : H d = some (.xd fs)) (hl : fs.lookup fl = some v)
    (hb : attributeBase e fl X.env (eval e X.env) = eval e X.env := by rfl) : XV (X.suite a ((a, ob) :: pn)) σ H (.Attribute e fl pos) v := fun H1 s Q q =>
  ⟨_, pe_xf T no z hf re_ hb, ho H1 s _ fun H2 s2 => ⟨rfl, hcl, d, fs, v, rfl, (s.trans s2) _ _ hd, hl, q H2 s2⟩⟩
end
end Dl

set_option Elab.async false
set_option linter.all false
set_option maxRecDepth 100000
set_option maxHeartbeats 8000000
/-! Data layer: {i:02d}, whole numbers below sixty -/
namespace Dl
open PySem PySem.Spec PyProof.Rows L2 PySem.Builtin PySem.Builtin.Str PySem.Builtin.Int
def two (i : Int) : PySem.Str := if i < 10 then (⟨#[48]⟩ : PySem.Str) ++ PySem.Str.ofString (toString i) else PySem.Str.ofString (toString i)
def s02 : PySem.Str := "02d"
section
variable {prog : Program} {w : World} {A : Around} {E : Value → Shared → Prop} {s : Shared}
theorem field_02 {i : Int} {t : Tok} {Q : Value → Shared → Prop} (h0 : 0 ≤ i) (h1 : i < 60) (q : Q (.str (two i) (s.toks + 1)) { s with toks := s.toks + 1 + 1 }) : wpAny (model prog w) A (formatField (.int i t) s02) Q E s := by
  show wpAny _ _ (holding [.int i t] (pyFormat (.int i t) s02)) Q E s
  refine wpAny_holding ?_
  unfold pyFormat
  refine wpAny_bind (wpAny_mkStr ?_ (by decide))
  refine wpAny_bind (m := callSpecial? (.int i t) (PySem.Str.ofString "__format__") [.str s02 s.toks]) (wpAny_callSpecial?_slot (name := PySem.Str.ofString "__format__") (typeIs_int _ _ t) PyProof.Rows.slot_int_format ?_)
  refine wpAny_call (codeAny_call_builtin PyProof.Rows.slot_int_format.plain PyProof.Rows.entry_int_format (PyProof.Rows.slot_int_format.check _ _ _ _ _ _ _ _ (typeIs_int _ _ t) (PyProof.Rows.args_int_format _ _) ?_))
  unfold Builtin.«int.__format__»
  simp only [selfAndOne, noKeywords, Int.intOfSelf, asInt?, asStr?, List.isEmpty_nil, if_true, pure_bind, bind_pure, bind_assoc, Bool.false_eq_true, if_false, show (Value.str s02 s.toks == Value.none) = false from rfl]
  refine wpAny_bind (wpAny_typeNameOf (T := "str") (typeIs_str _ _ _) (by decide) fun _ => ?_)
  rw [if_neg (by decide), if_neg (by decide)]
  refine wpAny_bind (wpAny_typeNameOfCut_int ?_)
  have all : i = 0 ∨ i = 1 ∨ i = 2 ∨ i = 3 ∨ i = 4 ∨ i = 5 ∨ i = 6 ∨ i = 7 ∨ i = 8 ∨ i = 9 ∨ i = 10 ∨ i = 11 ∨ i = 12 ∨ i = 13 ∨ i = 14 ∨ i = 15 ∨ i = 16 ∨ i = 17 ∨ i = 18 ∨ i = 19 ∨ i = 20 ∨ i = 21 ∨ i = 22 ∨ i = 23 ∨ i = 24 ∨ i = 25 ∨ i = 26 ∨ i = 27 ∨ i = 28 ∨ i = 29 ∨ i = 30 ∨ i = 31 ∨ i = 32 ∨ i = 33 ∨ i = 34 ∨ i = 35 ∨ i = 36 ∨ i = 37 ∨ i = 38 ∨ i = 39 ∨ i = 40 ∨ i = 41 ∨ i = 42 ∨ i = 43 ∨ i = 44 ∨ i = 45 ∨ i = 46 ∨ i = 47 ∨ i = 48 ∨ i = 49 ∨ i = 50 ∨ i = 51 ∨ i = 52 ∨ i = 53 ∨ i = 54 ∨ i = 55 ∨ i = 56 ∨ i = 57 ∨ i = 58 ∨ i = 59 := by omega
  rcases all with rfl | rfl | rfl | rfl | rfl | rfl | rfl | rfl | rfl | rfl | rfl | rfl | rfl | rfl | rfl | rfl | rfl | rfl | rfl | rfl | rfl | rfl | rfl | rfl | rfl | rfl | rfl | rfl | rfl | rfl | rfl | rfl | rfl | rfl | rfl | rfl | rfl | rfl | rfl | rfl | rfl | rfl | rfl | rfl | rfl | rfl | rfl | rfl | rfl | rfl | rfl | rfl | rfl | rfl | rfl | rfl | rfl | rfl | rfl | rfl
  · refine wpAny_bind (m := retStr (two 0)) (wpAny_bind (wpAny_mkStr (wpAny_pure (wpAny_pure ?_)) (by decide +kernel)))
    dsimp only
    exact wpAny_bind (wpAny_isInstance (typeIs_str _ _ _) isSubtype_str_str (wpAny_pure q))
  · refine wpAny_bind (m := retStr (two 1)) (wpAny_bind (wpAny_mkStr (wpAny_pure (wpAny_pure ?_)) (by decide +kernel)))
    dsimp only
    exact wpAny_bind (wpAny_isInstance (typeIs_str _ _ _) isSubtype_str_str (wpAny_pure q))
  · refine wpAny_bind (m := retStr (two 2)) (wpAny_bind (wpAny_mkStr (wpAny_pure (wpAny_pure ?_)) (by decide +kernel)))
    dsimp only
    exact wpAny_bind (wpAny_isInstance (typeIs_str _ _ _) isSubtype_str_str (wpAny_pure q))
  · refine wpAny_bind (m := retStr (two 3)) (wpAny_bind (wpAny_mkStr (wpAny_pure (wpAny_pure ?_)) (by decide +kernel)))
    dsimp only
    exact wpAny_bind (wpAny_isInstance (typeIs_str _ _ _) isSubtype_str_str (wpAny_pure q))
  · refine wpAny_bind (m := retStr (two 4)) (wpAny_bind (wpAny_mkStr (wpAny_pure (wpAny_pure ?_)) (by decide +kernel)))
    dsimp only
    exact wpAny_bind (wpAny_isInstance (typeIs_str _ _ _) isSubtype_str_str (wpAny_pure q))
  · refine wpAny_bind (m := retStr (two 5)) (wpAny_bind (wpAny_mkStr (wpAny_pure (wpAny_pure ?_)) (by decide +kernel)))
    dsimp only
    exact wpAny_bind (wpAny_isInstance (typeIs_str _ _ _) isSubtype_str_str (wpAny_pure q))
  · refine wpAny_bind (m := retStr (two 6)) (wpAny_bind (wpAny_mkStr (wpAny_pure (wpAny_pure ?_)) (by decide +kernel)))
    dsimp only
    exact wpAny_bind (wpAny_isInstance (typeIs_str _ _ _) isSubtype_str_str (wpAny_pure q))
  · refine wpAny_bind (m := retStr (two 7)) (wpAny_bind (wpAny_mkStr (wpAny_pure (wpAny_pure ?_)) (by decide +kernel)))
    dsimp only
    exact wpAny_bind (wpAny_isInstance (typeIs_str _ _ _) isSubtype_str_str (wpAny_pure q))
  · refine wpAny_bind (m := retStr (two 8)) (wpAny_bind (wpAny_mkStr (wpAny_pure (wpAny_pure ?_)) (by decide +kernel)))
    dsimp only
    exact wpAny_bind (wpAny_isInstance (typeIs_str _ _ _) isSubtype_str_str (wpAny_pure q))
  · refine wpAny_bind (m := retStr (two 9)) (wpAny_bind (wpAny_mkStr (wpAny_pure (wpAny_pure ?_)) (by decide +kernel)))
    dsimp only
    exact wpAny_bind (wpAny_isInstance (typeIs_str _ _ _) isSubtype_str_str (wpAny_pure q))
  · refine wpAny_bind (m := retStr (two 10)) (wpAny_bind (wpAny_mkStr (wpAny_pure (wpAny_pure ?_)) (by decide +kernel)))
    dsimp only
    exact wpAny_bind (wpAny_isInstance (typeIs_str _ _ _) isSubtype_str_str (wpAny_pure q))
  · refine wpAny_bind (m := retStr (two 11)) (wpAny_bind (wpAny_mkStr (wpAny_pure (wpAny_pure ?_)) (by decide +kernel)))
    dsimp only
    exact wpAny_bind (wpAny_isInstance (typeIs_str _ _ _) isSubtype_str_str (wpAny_pure q))
  · refine wpAny_bind (m := retStr (two 12)) (wpAny_bind (wpAny_mkStr (wpAny_pure (wpAny_pure ?_)) (by decide +kernel)))
    dsimp only
    exact wpAny_bind (wpAny_isInstance (typeIs_str _ _ _) isSubtype_str_str (wpAny_pure q))
  · refine wpAny_bind (m := retStr (two 13)) (wpAny_bind (wpAny_mkStr (wpAny_pure (wpAny_pure ?_)) (by decide +kernel)))
    dsimp only
    exact wpAny_bind (wpAny_isInstance (typeIs_str _ _ _) isSubtype_str_str (wpAny_pure q))
  · refine wpAny_bind (m := retStr (two 14)) (wpAny_bind (wpAny_mkStr (wpAny_pure (wpAny_pure ?_)) (by decide +kernel)))
    dsimp only
    exact wpAny_bind (wpAny_isInstance (typeIs_str _ _ _) isSubtype_str_str (wpAny_pure q))
  · refine wpAny_bind (m := retStr (two 15)) (wpAny_bind (wpAny_mkStr (wpAny_pure (wpAny_pure ?_)) (by decide +kernel)))
    dsimp only
    exact wpAny_bind (wpAny_isInstance (typeIs_str _ _ _) isSubtype_str_str (wpAny_pure q))
  · refine wpAny_bind (m := retStr (two 16)) (wpAny_bind (wpAny_mkStr (wpAny_pure (wpAny_pure ?_)) (by decide +kernel)))
    dsimp only
    exact wpAny_bind (wpAny_isInstance (typeIs_str _ _ _) isSubtype_str_str (wpAny_pure q))
  · refine wpAny_bind (m := retStr (two 17)) (wpAny_bind (wpAny_mkStr (wpAny_pure (wpAny_pure ?_)) (by decide +kernel)))
    dsimp only
    exact wpAny_bind (wpAny_isInstance (typeIs_str _ _ _) isSubtype_str_str (wpAny_pure q))
  · refine wpAny_bind (m := retStr (two 18)) (wpAny_bind (wpAny_mkStr (wpAny_pure (wpAny_pure ?_)) (by decide +kernel)))
    dsimp only
    exact wpAny_bind (wpAny_isInstance (typeIs_str _ _ _) isSubtype_str_str (wpAny_pure q))
  · refine wpAny_bind (m := retStr (two 19)) (wpAny_bind (wpAny_mkStr (wpAny_pure (wpAny_pure ?_)) (by decide +kernel)))
    dsimp only
    exact wpAny_bind (wpAny_isInstance (typeIs_str _ _ _) isSubtype_str_str (wpAny_pure q))
  · refine wpAny_bind (m := retStr (two 20)) (wpAny_bind (wpAny_mkStr (wpAny_pure (wpAny_pure ?_)) (by decide +kernel)))
    dsimp only
    exact wpAny_bind (wpAny_isInstance (typeIs_str _ _ _) isSubtype_str_str (wpAny_pure q))
  · refine wpAny_bind (m := retStr (two 21)) (wpAny_bind (wpAny_mkStr (wpAny_pure (wpAny_pure ?_)) (by decide +kernel)))
    dsimp only
    exact wpAny_bind (wpAny_isInstance (typeIs_str _ _ _) isSubtype_str_str (wpAny_pure q))
  · refine wpAny_bind (m := retStr (two 22)) (wpAny_bind (wpAny_mkStr (wpAny_pure (wpAny_pure ?_)) (by decide +kernel)))
    dsimp only
    exact wpAny_bind (wpAny_isInstance (typeIs_str _ _ _) isSubtype_str_str (wpAny_pure q))
  · refine wpAny_bind (m := retStr (two 23)) (wpAny_bind (wpAny_mkStr (wpAny_pure (wpAny_pure ?_)) (by decide +kernel)))
    dsimp only
    exact wpAny_bind (wpAny_isInstance (typeIs_str _ _ _) isSubtype_str_str (wpAny_pure q))
  · refine wpAny_bind (m := retStr (two 24)) (wpAny_bind (wpAny_mkStr (wpAny_pure (wpAny_pure ?_)) (by decide +kernel)))
    dsimp only
    exact wpAny_bind (wpAny_isInstance (typeIs_str _ _ _) isSubtype_str_str (wpAny_pure q))
  · refine wpAny_bind (m := retStr (two 25)) (wpAny_bind (wpAny_mkStr (wpAny_pure (wpAny_pure ?_)) (by decide +kernel)))
    dsimp only
    exact wpAny_bind (wpAny_isInstance (typeIs_str _ _ _) isSubtype_str_str (wpAny_pure q))
  · refine wpAny_bind (m := retStr (two 26)) (wpAny_bind (wpAny_mkStr (wpAny_pure (wpAny_pure ?_)) (by decide +kernel)))
    dsimp only
    exact wpAny_bind (wpAny_isInstance (typeIs_str _ _ _) isSubtype_str_str (wpAny_pure q))
  · refine wpAny_bind (m := retStr (two 27)) (wpAny_bind (wpAny_mkStr (wpAny_pure (wpAny_pure ?_)) (by decide +kernel)))
    dsimp only
    exact wpAny_bind (wpAny_isInstance (typeIs_str _ _ _) isSubtype_str_str (wpAny_pure q))
  · refine wpAny_bind (m := retStr (two 28)) (wpAny_bind (wpAny_mkStr (wpAny_pure (wpAny_pure ?_)) (by decide +kernel)))
    dsimp only
    exact wpAny_bind (wpAny_isInstance (typeIs_str _ _ _) isSubtype_str_str (wpAny_pure q))
  · refine wpAny_bind (m := retStr (two 29)) (wpAny_bind (wpAny_mkStr (wpAny_pure (wpAny_pure ?_)) (by decide +kernel)))
    dsimp only
    exact wpAny_bind (wpAny_isInstance (typeIs_str _ _ _) isSubtype_str_str (wpAny_pure q))
  · refine wpAny_bind (m := retStr (two 30)) (wpAny_bind (wpAny_mkStr (wpAny_pure (wpAny_pure ?_)) (by decide +kernel)))
    dsimp only
    exact wpAny_bind (wpAny_isInstance (typeIs_str _ _ _) isSubtype_str_str (wpAny_pure q))
  · refine wpAny_bind (m := retStr (two 31)) (wpAny_bind (wpAny_mkStr (wpAny_pure (wpAny_pure ?_)) (by decide +kernel)))
    dsimp only
    exact wpAny_bind (wpAny_isInstance (typeIs_str _ _ _) isSubtype_str_str (wpAny_pure q))
  · refine wpAny_bind (m := retStr (two 32)) (wpAny_bind (wpAny_mkStr (wpAny_pure (wpAny_pure ?_)) (by decide +kernel)))
    dsimp only
    exact wpAny_bind (wpAny_isInstance (typeIs_str _ _ _) isSubtype_str_str (wpAny_pure q))
  · refine wpAny_bind (m := retStr (two 33)) (wpAny_bind (wpAny_mkStr (wpAny_pure (wpAny_pure ?_)) (by decide +kernel)))
    dsimp only
    exact wpAny_bind (wpAny_isInstance (typeIs_str _ _ _) isSubtype_str_str (wpAny_pure q))
  · refine wpAny_bind (m := retStr (two 34)) (wpAny_bind (wpAny_mkStr (wpAny_pure (wpAny_pure ?_)) (by decide +kernel)))
    dsimp only
    exact wpAny_bind (wpAny_isInstance (typeIs_str _ _ _) isSubtype_str_str (wpAny_pure q))
  · refine wpAny_bind (m := retStr (two 35)) (wpAny_bind (wpAny_mkStr (wpAny_pure (wpAny_pure ?_)) (by decide +kernel)))
    dsimp only
    exact wpAny_bind (wpAny_isInstance (typeIs_str _ _ _) isSubtype_str_str (wpAny_pure q))
  · refine wpAny_bind (m := retStr (two 36)) (wpAny_bind (wpAny_mkStr (wpAny_pure (wpAny_pure ?_)) (by decide +kernel)))
    dsimp only
    exact wpAny_bind (wpAny_isInstance (typeIs_str _ _ _) isSubtype_str_str (wpAny_pure q))
  · refine wpAny_bind (m := retStr (two 37)) (wpAny_bind (wpAny_mkStr (wpAny_pure (wpAny_pure ?_)) (by decide +kernel)))
    dsimp only
    exact wpAny_bind (wpAny_isInstance (typeIs_str _ _ _) isSubtype_str_str (wpAny_pure q))
  · refine wpAny_bind (m := retStr (two 38)) (wpAny_bind (wpAny_mkStr (wpAny_pure (wpAny_pure ?_)) (by decide +kernel)))
    dsimp only
    exact wpAny_bind (wpAny_isInstance (typeIs_str _ _ _) isSubtype_str_str (wpAny_pure q))
  · refine wpAny_bind (m := retStr (two 39)) (wpAny_bind (wpAny_mkStr (wpAny_pure (wpAny_pure ?_)) (by decide +kernel)))
    dsimp only
    exact wpAny_bind (wpAny_isInstance (typeIs_str _ _ _) isSubtype_str_str (wpAny_pure q))
  · refine wpAny_bind (m := retStr (two 40)) (wpAny_bind (wpAny_mkStr (wpAny_pure (wpAny_pure ?_)) (by decide +kernel)))
    dsimp only
    exact wpAny_bind (wpAny_isInstance (typeIs_str _ _ _) isSubtype_str_str (wpAny_pure q))
  · refine wpAny_bind (m := retStr (two 41)) (wpAny_bind (wpAny_mkStr (wpAny_pure (wpAny_pure ?_)) (by decide +kernel)))
    dsimp only
    exact wpAny_bind (wpAny_isInstance (typeIs_str _ _ _) isSubtype_str_str (wpAny_pure q))
  · refine wpAny_bind (m := retStr (two 42)) (wpAny_bind (wpAny_mkStr (wpAny_pure (wpAny_pure ?_)) (by decide +kernel)))
    dsimp only
    exact wpAny_bind (wpAny_isInstance (typeIs_str _ _ _) isSubtype_str_str (wpAny_pure q))
  · refine wpAny_bind (m := retStr (two 43)) (wpAny_bind (wpAny_mkStr (wpAny_pure (wpAny_pure ?_)) (by decide +kernel)))
    dsimp only
    exact wpAny_bind (wpAny_isInstance (typeIs_str _ _ _) isSubtype_str_str (wpAny_pure q))
  · refine wpAny_bind (m := retStr (two 44)) (wpAny_bind (wpAny_mkStr (wpAny_pure (wpAny_pure ?_)) (by decide +kernel)))
    dsimp only
    exact wpAny_bind (wpAny_isInstance (typeIs_str _ _ _) isSubtype_str_str (wpAny_pure q))
  · refine wpAny_bind (m := retStr (two 45)) (wpAny_bind (wpAny_mkStr (wpAny_pure (wpAny_pure ?_)) (by decide +kernel)))
    dsimp only
    exact wpAny_bind (wpAny_isInstance (typeIs_str _ _ _) isSubtype_str_str (wpAny_pure q))
  · refine wpAny_bind (m := retStr (two 46)) (wpAny_bind (wpAny_mkStr (wpAny_pure (wpAny_pure ?_)) (by decide +kernel)))
    dsimp only
    exact wpAny_bind (wpAny_isInstance (typeIs_str _ _ _) isSubtype_str_str (wpAny_pure q))
  · refine wpAny_bind (m := retStr (two 47)) (wpAny_bind (wpAny_mkStr (wpAny_pure (wpAny_pure ?_)) (by decide +kernel)))
    dsimp only
    exact wpAny_bind (wpAny_isInstance (typeIs_str _ _ _) isSubtype_str_str (wpAny_pure q))
  · refine wpAny_bind (m := retStr (two 48)) (wpAny_bind (wpAny_mkStr (wpAny_pure (wpAny_pure ?_)) (by decide +kernel)))
    dsimp only
    exact wpAny_bind (wpAny_isInstance (typeIs_str _ _ _) isSubtype_str_str (wpAny_pure q))
  · refine wpAny_bind (m := retStr (two 49)) (wpAny_bind (wpAny_mkStr (wpAny_pure (wpAny_pure ?_)) (by decide +kernel)))
    dsimp only
    exact wpAny_bind (wpAny_isInstance (typeIs_str _ _ _) isSubtype_str_str (wpAny_pure q))
  · refine wpAny_bind (m := retStr (two 50)) (wpAny_bind (wpAny_mkStr (wpAny_pure (wpAny_pure ?_)) (by decide +kernel)))
    dsimp only
    exact wpAny_bind (wpAny_isInstance (typeIs_str _ _ _) isSubtype_str_str (wpAny_pure q))
  · refine wpAny_bind (m := retStr (two 51)) (wpAny_bind (wpAny_mkStr (wpAny_pure (wpAny_pure ?_)) (by decide +kernel)))
    dsimp only
    exact wpAny_bind (wpAny_isInstance (typeIs_str _ _ _) isSubtype_str_str (wpAny_pure q))
  · refine wpAny_bind (m := retStr (two 52)) (wpAny_bind (wpAny_mkStr (wpAny_pure (wpAny_pure ?_)) (by decide +kernel)))
    dsimp only
    exact wpAny_bind (wpAny_isInstance (typeIs_str _ _ _) isSubtype_str_str (wpAny_pure q))
  · refine wpAny_bind (m := retStr (two 53)) (wpAny_bind (wpAny_mkStr (wpAny_pure (wpAny_pure ?_)) (by decide +kernel)))
    dsimp only
    exact wpAny_bind (wpAny_isInstance (typeIs_str _ _ _) isSubtype_str_str (wpAny_pure q))
  · refine wpAny_bind (m := retStr (two 54)) (wpAny_bind (wpAny_mkStr (wpAny_pure (wpAny_pure ?_)) (by decide +kernel)))
    dsimp only
    exact wpAny_bind (wpAny_isInstance (typeIs_str _ _ _) isSubtype_str_str (wpAny_pure q))
  · refine wpAny_bind (m := retStr (two 55)) (wpAny_bind (wpAny_mkStr (wpAny_pure (wpAny_pure ?_)) (by decide +kernel)))
    dsimp only
    exact wpAny_bind (wpAny_isInstance (typeIs_str _ _ _) isSubtype_str_str (wpAny_pure q))
  · refine wpAny_bind (m := retStr (two 56)) (wpAny_bind (wpAny_mkStr (wpAny_pure (wpAny_pure ?_)) (by decide +kernel)))
    dsimp only
    exact wpAny_bind (wpAny_isInstance (typeIs_str _ _ _) isSubtype_str_str (wpAny_pure q))
  · refine wpAny_bind (m := retStr (two 57)) (wpAny_bind (wpAny_mkStr (wpAny_pure (wpAny_pure ?_)) (by decide +kernel)))
    dsimp only
    exact wpAny_bind (wpAny_isInstance (typeIs_str _ _ _) isSubtype_str_str (wpAny_pure q))
  · refine wpAny_bind (m := retStr (two 58)) (wpAny_bind (wpAny_mkStr (wpAny_pure (wpAny_pure ?_)) (by decide +kernel)))
    dsimp only
    exact wpAny_bind (wpAny_isInstance (typeIs_str _ _ _) isSubtype_str_str (wpAny_pure q))
  · refine wpAny_bind (m := retStr (two 59)) (wpAny_bind (wpAny_mkStr (wpAny_pure (wpAny_pure ?_)) (by decide +kernel)))
    dsimp only
    exact wpAny_bind (wpAny_isInstance (typeIs_str _ _ _) isSubtype_str_str (wpAny_pure q))
end
section
variable {X : Cx} {M : List Addr} {σ : L2.St} {H : Hp} {e : Expr} {pos p1 p2 : Pos} {j : Nat}
def tFmt2 (te : TE) : TE := fun σ H Q => te σ H fun x H1 => ∃ i : Int, x = .int i ∧ 0 ≤ i ∧ i < 60 ∧ Q (.str (two i)) H1
theorem pe_fmt2 {te : TE} (he : PE X e te) : PE X (.FormattedValue e (-1) (some (.JoinedStr [.Constant (.str s02) j p1] p2)) pos) (tFmt2 te) := by
  refine ⟨fun pins s σ H Q I h => ?_⟩
  refine wpAny_FormattedValue_spec (thn (he.run pins s σ H _ I h) fun v s1 hv => ?_)
  obtain ⟨x, H1, I1, r1, i, rfl, h0, h1, q⟩ := hv
  obtain ⟨t, rfl⟩ := r1
  refine wpAny_mono ((pe_joined1 (X := X) pe_str).run pins s1 σ H1 (fun v H2 => v = .str s02 ∧ H2 = H1) I1 ⟨rfl, rfl⟩) (fun u s2 hu => ?_) fun _ _ z => z
  obtain ⟨y, H2, I2, r2, rfl, rfl⟩ := hu
  obtain ⟨t2, rfl⟩ := r2
  exact ⟨s02, t2, rfl, field_02 h0 h1 ⟨.str (two i), H2, I2.tok _, ⟨_, rfl⟩, q⟩⟩
end
end Dl

set_option Elab.async false
set_option linter.all false
set_option maxRecDepth 100000
set_option maxHeartbeats 8000000
/-! set(list of texts), sorted of it -/
namespace Dl
open PySem PySem.Spec PyProof.Rows L2
def nameE (e : Int × Value) : Str := match e.2 with
  | .str x _ => x
  | _ => Str.empty
def OkE (wd : World) (e : Int × Value) : Prop := ∃ x u, e.2 = Value.str x u ∧ e.1 = hashStr wd x
/-- the set of texts at a, its members those of L -/
def TxS (wd : World) (hp : Heap) (a : Addr) (L : List Str) : Prop := ∃ ob rows ep tb, hp.get? a = some ob ∧ ob.ExactSet ∧ ob.data = .set rows ep tb ∧ (∀ e ∈ rows.toList, OkE wd e) ∧ (rows.toList.map nameE).Nodup ∧ (∀ x, x ∈ L ↔ x ∈ rows.toList.map nameE) ∧
  rows.size < scanBound ∧ tb.fits rows.size = true ∧ Ris tb.place.toList ∧ (wd.params.followText "set-order" = true ∨ tb.led = true)
section
variable {P : Program} {wd : World} {hp hq : Heap} {a : Addr} {L : List Str}
theorem TxS.at (R : TxS wd hp a L) (k : ∀ o, hp.get? a = some o → hq.get? a = some o) : TxS wd hq a L := by
  obtain ⟨ob, rows, ep, tb, ho, more⟩ := R
  exact ⟨ob, rows, ep, tb, k _ ho, more⟩
theorem okE_is {e : Int × Value} (g : OkE wd e) (x : Str) : (PySem.strKind P wd).is x e.2 = true ↔ nameE e = x := by
  obtain ⟨y, u, e1, _⟩ := g
  unfold nameE
  rw [e1]
  show Value.isStrOf x (.str y u) = true ↔ y = x
  constructor
  · intro h
    obtain ⟨t, ht⟩ := Value.isStrOf_shape h
    cases ht
    rfl
  · intro h
    subst h
    simp [Value.isStrOf]
theorem okE_elems {l : List (Int × Value)} (g : ∀ e ∈ l, OkE wd e) : ElemsOf (PySem.strKind P wd) l := fun e he => by
  obtain ⟨y, u, e1, e2⟩ := g e he
  refine ⟨⟨y, ?_, e2⟩, by rw [e1]; rfl⟩
  rw [e1]
  show Value.isStrOf y (.str y u) = true
  simp [Value.isStrOf]
theorem okE_mem {l : List (Int × Value)} (g : ∀ e ∈ l, OkE wd e) (x : Str) : x ∈ l.map nameE ↔ ∃ e ∈ l, (PySem.strKind P wd).is x e.2 = true := by
  constructor
  · intro hm
    obtain ⟨e, he, q⟩ := List.mem_map.mp hm
    exact ⟨e, he, (okE_is (P := P) (g e he) x).mpr q⟩
  · rintro ⟨e, he, q⟩
    exact List.mem_map.mpr ⟨e, he, (okE_is (P := P) (g e he) x).mp q⟩
end
section
variable {P : Program} {wd : World} {Ar : Around} {Er : Value → Shared → Prop} {z : Shared} {a : Addr} {L : List Str}
/-- the set laid with new rows, the table made wider where it is full -/
theorem txS_tail {note : Bool → Sem Unit} (quiet : ∀ (b : Bool) (y : Shared) (Qn : Unit → Shared → Prop), Qn () y → wpAny (model P wd) Ar (note b) Qn Er y) {ob : Obj} {old rows : Array (Int × Value)} {ep : Nat} {tb tb2 : SetTable} {ML : List Str} {full : Bool} {Rn : Option Bool → Shared → Prop}
    (there : z.heap.get? a = some ob) (exact_ : ob.ExactSet) (dat : ob.data = .set old ep tb) (good : ∀ e ∈ rows.toList, OkE wd e) (once : (rows.toList.map nameE).Nodup) (mem : ∀ x, x ∈ ML ↔ x ∈ rows.toList.map nameE) (few : rows.size < scanBound) (fit : tb2.fits rows.size = true)
    (ris : Ris tb2.place.toList) (led : wd.params.followText "set-order" = true ∨ tb2.led = true) (fin : ∀ hn, Heap.SameBut a z.heap hn → TxS wd hn a ML → Rn (some true) { z with heap := hn }) :
    wpAny (model P wd) Ar (do
      storeSet a rows tb2
      if (!full && tb2.tooFull) = true then do
        note (relayAll tb2 rows (SetTable.grown rows.size)).2.2
        storeSet a (relayAll tb2 rows (SetTable.grown rows.size)).1 (relayAll tb2 rows (SetTable.grown rows.size)).2.1
        pure (some true)
      else pure (some true)) Rn Er z := by
  have laid := store_at (es' := rows) (t' := tb2) there dat
  have but1 := Heap.SameBut.update z.heap a (Obj.putSet rows tb2)
  refine wpAny_bind (wpAny_storeSet_of there dat ?_ (fits_of_scanBound few))
  split
  · have pm := relayAll_perm tb2 rows (SetTable.grown rows.size)
    have fit3 := relayAll_fits tb2 rows (SetTable.grown rows.size)
    have ris3 := relayAll_ris tb2 rows (SetTable.grown rows.size)
    have led3 := relayAll_led tb2 rows (SetTable.grown rows.size)
    generalize relayAll tb2 rows (SetTable.grown rows.size) = G at pm fit3 ris3 led3 ⊢
    obtain ⟨rows2, tb3, gave⟩ := G
    dsimp only at pm fit3 ris3 led3 ⊢
    have size2 : rows2.size = rows.size := by rw [← Array.length_toList, pm.length_eq, Array.length_toList]
    have few2 : rows2.size < scanBound := by rw [size2]; exact few
    refine wpAny_bind (quiet _ _ _ ?_)
    refine wpAny_bind (wpAny_storeSet_of laid rfl ?_ (fits_of_scanBound few2))
    have laid2 := store_at (es' := rows2) (t' := tb3) laid rfl
    have pn := pm.map nameE
    exact wpAny_pure (fin _ (but1.trans (Heap.SameBut.update _ a _)) ⟨_, rows2, _, tb3, laid2, exact_, rfl, fun e he => good e (pm.mem_iff.mp he), pn.nodup_iff.mpr once, fun x => (mem x).trans pn.mem_iff.symm, few2, fit3, ris3, led.imp id fun q => by rw [led3]; exact q⟩)
  · exact wpAny_pure (fin _ but1 ⟨_, rows, _, tb2, laid, exact_, rfl, good, once, mem, few, fit, ris, led⟩)
theorem txS_hashed {x : Str} {u : Tok} {Q : Bool → Shared → Prop} (R : TxS wd z.heap a L) (room : L.length + 1 < scanBound) (fin : ∀ hn b, Heap.SameBut a z.heap hn → TxS wd hn a (x :: L) → Q b { z with heap := hn }) :
    wpAny (model P wd) Ar (setAddHashed a (.str x u) ((PySem.strKind P wd).hash x)) Q Er z := by
  obtain ⟨ob, rows, ep, tb, ho, hex, hd, good, once, mem, few, fit, ris, led⟩ := R
  have isx : (PySem.strKind P wd).is x (.str x u) = true := by show Value.isStrOf x (.str x u) = true; simp [Value.isStrOf]
  have scan : (Value.str x u).scannable = true := rfl
  have elems : ElemsOf (PySem.strKind P wd) rows.toList := okE_elems good
  have size_le : rows.size ≤ L.length := by
    have := Dl.nodup_le once fun y hy => (mem y).mpr hy
    rw [List.length_map, Array.length_toList] at this
    exact this
  unfold setAddHashed setAddHashedIn
  refine wpAny_holding (wpAny_bind (wpAny_setState_of ho hd fit ?_))
  dsimp only
  rw [byScan_of scan few elems]
  simp only [↓reduceIte]
  unfold setAddByScan
  refine wpAny_bind ?_
  refine wpAny_bind (wpAny_rule ?_)
  refine wpAny_bind (wpAny_setScan_of isx ho hd fit elems ?_)
  cases seek : List.findIdx? (fun e => (PySem.strKind P wd).is x e.2) rows.toList with
  | some j =>
    dsimp only
    obtain ⟨jl, js, _⟩ := List.findIdx?_eq_some_iff_getElem.mp seek
    have inn : x ∈ L := (mem x).mpr ((okE_mem (P := P) good x).mpr ⟨rows.toList[j], List.getElem_mem jl, js⟩)
    refine wpAny_pure (wpAny_pure ?_)
    exact fin z.heap _ (Heap.SameBut.refl a z.heap) ⟨ob, rows, ep, tb, ho, hex, hd, good, once, fun y => by
      rw [List.mem_cons, ← mem y]
      exact ⟨fun q => q.elim (fun e => by rw [e]; exact inn) id, .inr⟩, few, fit, ris, led⟩
  | none =>
    dsimp only
    have out : x ∉ rows.toList.map nameE := fun q => by
      obtain ⟨e, he, q⟩ := (okE_mem (P := P) good x).mp q
      have := List.findIdx?_eq_none_iff.mp seek e he
      rw [q] at this
      cases this
    have calmN : ∀ (b : Bool) {y : Shared} {Qn : Unit → Shared → Prop}, Qn () y → wpAny (model P wd) Ar (match b with | true => rule "set.scan.the-table-gave-way" | false => pure ()) Qn Er y :=
      fun b y Qn q => by cases b <;> first | exact wpAny_pure q | exact wpAny_rule q
    have pm := layNew_perm tb rows ((PySem.strKind P wd).hash x) (.str x u)
    have fit1 := layNew_fits tb rows ((PySem.strKind P wd).hash x) (.str x u)
    have ris1 := layNew_ris tb rows ((PySem.strKind P wd).hash x) (.str x u) ris
    have led1 := layNew_led tb rows ((PySem.strKind P wd).hash x) (.str x u)
    generalize layNew tb rows ((PySem.strKind P wd).hash x) (.str x u) = G at pm fit1 ris1 led1 ⊢
    obtain ⟨rows1, tb1, full, gave⟩ := G
    dsimp only at pm fit1 ris1 led1 ⊢
    rw [Array.toList_push] at pm
    have perm1 : rows1.toList.Perm (((PySem.strKind P wd).hash x, Value.str x u) :: rows.toList) := pm.trans (List.perm_append_singleton _ _)
    have permN : (rows1.toList.map nameE).Perm (x :: rows.toList.map nameE) := perm1.map nameE
    have good1 : ∀ e ∈ rows1.toList, OkE wd e := fun e he => by
      rcases List.mem_cons.mp (perm1.mem_iff.mp he) with q | q
      · rw [q]; exact ⟨x, u, rfl, rfl⟩
      · exact good e q
    have once1 : (rows1.toList.map nameE).Nodup := permN.nodup_iff.mpr (List.nodup_cons.mpr ⟨out, once⟩)
    have mem1 : ∀ y, y ∈ x :: L ↔ y ∈ rows1.toList.map nameE := fun y => by
      rw [permN.mem_iff, List.mem_cons, List.mem_cons, mem y]
    have size1 : rows1.size = rows.size + 1 := by rw [← Array.length_toList, perm1.length_eq, List.length_cons, Array.length_toList]
    have few1 : rows1.size < scanBound := by omega
    have led1' : wd.params.followText "set-order" = true ∨ tb1.led = true := led.imp id fun q => by rw [led1]; exact q
    refine wpAny_bind (calmN _ ?_)
    split
    · refine wpAny_bind ?_
      rw [hashByValue_scannable 8 scan]
      refine wpAny_pure ?_
      refine txS_tail ?_ ho hex hd good1 once1 mem1 few1 ?_ ?_ ?_ ?_
      · intro b y Qn q; cases b <;> first | exact wpAny_pure q | exact wpAny_rule q
      · first | (split <;> first | exact fit1 | exact SetTable.fits_plain_off fit1) | exact fit1
      · first | (split <;> exact ris1) | exact ris1
      · first | (split <;> exact led1') | exact led1'
      · intro hn sb r; dsimp only; exact wpAny_pure (fin hn _ sb r)
    · refine wpAny_bind (wpAny_pure ?_)
      simp only [↓reduceIte]
      refine txS_tail ?_ ho hex hd good1 once1 mem1 few1 fit1 ris1 led1' ?_
      · intro b y Qn q; cases b <;> first | exact wpAny_pure q | exact wpAny_rule q
      · intro hn sb r; dsimp only; exact wpAny_pure (fin hn _ sb r)
/-- the members put in one by one -/
theorem txS_fill {It : Addr} {fp wr : List Addr} {Gs : Array GenState → Array GenState → Prop} {m : Nat} {Pv : Nat → Value → Prop} {St : Nat → Shared → Prop} {Rn : Result → Shared → Prop} (Wk : WalksS P wd Ar.in1 It fp wr Gs m Pv St) (D : Addr) (apart : D ∉ fp) (xs : List Str) (hm : m = xs.length) (room : xs.length + 1 < scanBound)
    (is : ∀ i v, Pv i v → ∃ x u, xs[i]? = some x ∧ v = .str x u) : ∀ (k i : Nat) (y : Shared), m - i = k → i ≤ m → St i y → (∃ L, L.length = i ∧ (∀ x, x ∈ L ↔ x ∈ xs.take i) ∧ TxS wd y.heap D L) →
      (∀ y2 L, Moved (D :: wr) Gs y y2 → (∀ x, x ∈ L ↔ x ∈ xs) → TxS wd y2.heap D L → Rn (.ok (.ret .none)) y2) → codeAny (model P wd) Ar (.builtin "set.update.loop" ⟨[.ref D, .ref It], []⟩) Rn y := by
  have apartW : D ∉ wr := fun q => apart (Wk.sub _ q)
  have within : ∀ b ∈ wr, b ∈ D :: wr := fun b q => List.mem_cons_of_mem _ q
  intro k
  induction k with
  | zero =>
    intro i y hk hi st ⟨L, hL, mL, T⟩ fin
    obtain rfl : i = m := by omega
    refine codeAny_builtin F.entry_set_update_loop ?_
    rw [Around.under_plainId F.plain_set_update_loop _]
    show wpAny _ Ar.in1 (pyNext (.ref It) >>= _) _ _ y
    refine wpAny_bind (Wk.done y _ _ st fun y2 mv => ?_)
    show wpAny _ Ar.in1 (ret Value.none) _ _ y2
    refine wpAny_pure (fin y2 L (mv.mono within) (fun x => (mL x).trans (by rw [List.take_of_length_le (by omega)])) (T.at fun o e => mv.heap D o apartW e))
  | succ k ih =>
    intro i y hk hi st ⟨L, hL, mL, T⟩ fin
    have lt : i < m := by omega
    refine codeAny_builtin F.entry_set_update_loop ?_
    rw [Around.under_plainId F.plain_set_update_loop _]
    show wpAny _ Ar.in1 (pyNext (.ref It) >>= _) _ _ y
    refine wpAny_bind (Wk.item i y _ _ lt st fun v y2 hP st2 mv => ?_)
    obtain ⟨x, u, hx, rfl⟩ := is i v hP
    have T2 : TxS wd y2.heap D L := T.at fun o e => mv.heap D o apartW e
    show wpAny _ Ar.in1 (holding [Value.str x u] (setAdd D (.str x u)) >>= _) _ _ y2
    refine wpAny_bind (wpAny_holding ?_)
    unfold setAdd
    refine wpAny_holding ?_
    refine wpAny_bind ((PySem.strKind P wd).pyHash (k := x) (by show Value.isStrOf x (.str x u) = true; simp [Value.isStrOf]) ?_)
    refine txS_hashed (z := { y2 with toks := y2.toks + 1 }) T2 (by omega) fun hn b sb T3 => ?_
    refine wpAny_pure ⟨plainId_quiet F.plain_set_update_loop _, ih (i + 1) _ (by omega) lt (Wk.frame _ y2 _ _ st2 (Nat.le_succ _) fun c hc o e => ?_) ⟨x :: L, by rw [List.length_cons, hL], fun q => ?_, T3⟩ fun y3 L3 mv3 m3 T4 => ?_⟩
    · rw [sb.2 c (fun q : c = D => apart (by rw [← q]; exact hc))]; exact e
    · rw [List.mem_cons, mL q, List.take_add_one, hx, List.mem_append]
      simp only [Option.toList_some, List.mem_singleton]
      exact Or.comm
    · refine fin y3 L3 (Moved.trans Wk.gtrans ((mv.mono within).then_heap (Nat.le_succ _) fun c o hc e => ?_) mv3) m3 T4
      rw [sb.2 c (fun q : c = D => hc (by rw [q]; exact List.mem_cons_self))]; exact e
theorem txS_new {hp : Heap} {a : Addr} (there : hp.get? a = some (bareSet wd)) : TxS wd hp a [] :=
  ⟨_, #[], 0, _, there, ⟨rfl, rfl, rfl⟩, rfl, fun e he => by simp at he, by simp, fun x => by simp, by decide, by rfl, List.Pairwise.nil, by
    show _ ∨ (!wd.params.followText "set-order") = true
    cases wd.params.followText "set-order"
    · exact .inr rfl
    · exact .inl rfl⟩
theorem set_of_txts {l : Addr} {vs : Array Value} (xs : List Str) {Q : Value → Shared → Prop} (calm : Ar.handled = none) (isL : z.heap.IsList l vs) (are : StrsAre vs.toList xs) (room : xs.length + 1 < scanBound)
    (fin : ∀ (hn : Heap) (tk : Nat) (L : List Str), (∀ x, x ∈ L ↔ x ∈ xs) → TxS wd hn z.heap.objs.size L → (∀ b o, z.heap.get? b = some o → hn.get? b = some o) → Q (.ref z.heap.objs.size) { z with heap := hn, toks := tk }) :
    wpAny (model P wd) Ar (call (.type "set") [.ref l]) Q Er z := by
  have size_vs : vs.size = xs.length := (Array.length_toList (xs := vs)).symm.trans are.length
  obtain ⟨c0, tl0, mro0⟩ := F.called_set.mro
  have made0 := F.called_set.made
  have sub0 := F.called_set.sub
  refine wpAny_call (codeAny_of_tree ?_)
  show wpAny _ _ (callAny (.type "set") _) _ _ _
  refine wpAny_pure ⟨Code.quiet_builtin _ (by decide +kernel), codeAny_builtin F.entry_type_call ?_⟩
  rw [Around.under_plain (weight_type_call_type "set" [.ref l] []) rfl]
  have not_ty := F.called_set.notType
  have can := F.called_set.canCreate
  have tc := F.typeCall_set_1 (.ref l)
  repeat (any_goals (first | assumption | wp_step))
  refine codeAny_mono (code_set_led1 (.ref l) (E := Er) (Q₁ := fun y z1 => y = .ref z.heap.objs.size ∧ z1 = { z with heap := z.heap.push (bareSet wd) }) ⟨rfl, rfl⟩) fun r z1 hr => ?_
  match r, hr with
  | .error e, hr => exact hr
  | .ok .next, hr => exact hr.elim
  | .ok .brk, hr => exact hr.elim
  | .ok .cont, hr => exact hr.elim
  | .ok (.ret y), hr =>
    obtain ⟨rfl, rfl⟩ := hr
    have at_new : (z.heap.push (bareSet wd)).get? z.heap.objs.size = some (bareSet wd) := Heap.get?_push_size _ rfl
    have ty_new : Shared.TypeIs { z with heap := z.heap.push (bareSet wd) } (.ref z.heap.objs.size) "set" := ⟨_, at_new, rfl⟩
    have look := F.called_set.init.lookup
    have bindS := F.called_set.init.bind (.ref z.heap.objs.size)
    repeat (any_goals (first | assumption | wp_step))
    refine codeAny_mono (codeAny_call_builtin (R := wants (fun r2 z2 => r2 = .none ∧ ∃ hn tk L, z2 = { z with heap := hn, toks := tk } ∧ (∀ x, x ∈ L ↔ x ∈ xs) ∧ TxS wd hn z.heap.objs.size L ∧ (∀ b o, z.heap.get? b = some o → hn.get? b = some o)) Er)
      F.called_set.init.plain F.entry_set_init (check_set_init_1 ty_new ?_)) fun r2 z2 hr2 => ?_
    · obtain ⟨⟨oc, od, odt, osl⟩, get_l, cls_l, nl, dat_l⟩ := isL
      simp only at cls_l dat_l
      subst cls_l
      subst dat_l
      have get_l2 : (z.heap.push (bareSet wd)).get? l = some { cls := .type "list", dict := od, data := .seq vs nl, slots := osl } := Heap.get?_push_of_some _ get_l
      have no1 := F.sub_list_set
      have no2 := F.sub_list_frozenset
      have no3 : (Value.type "list" == Value.type "dict") = false := by decide
      have list_l : (z.heap.push (bareSet wd)).IsList l vs := ⟨_, get_l2, rfl, nl, rfl⟩
      unfold Builtin.«set.__init__» noKeywords Builtin.Frozenset.updateFrom
      generalize walker : pyIter = walk
      wp_walk
      subst walker
      refine wpAny_pyIter_list list_l ?_
      refine wpAny_bind (wpAny_runValue ?_)
      have l_lt : l < z.heap.objs.size := Heap.lt_size get_l
      have size1 : (z.heap.push (bareSet wd)).objs.size = z.heap.objs.size + 1 := Heap.size_push ..
      have calm3 : Ar.in1.in1.in1.handled = none := by simp [calm]
      have lt1 : l < z.heap.objs.size + 1 := Nat.lt_succ_of_lt l_lt
      have ne_new : l ≠ (z.heap.push (bareSet wd)).objs.size := fun q => by
        rw [size1] at q
        exact Nat.ne_of_lt lt1 q
      have out_new : z.heap.objs.size ∉ [(z.heap.push (bareSet wd)).objs.size, l] := fun q => by
        rw [size1] at q
        rcases List.mem_cons.mp q with q | q
        · exact Nat.ne_of_lt (Nat.lt_succ_self _) q
        · exact Nat.ne_of_lt l_lt (List.mem_singleton.mp q).symm
      refine txS_fill ((Walks.list calm3 _ l ne_new vs).toS) z.heap.objs.size out_new xs size_vs room (fun i v hv => ?_) (vs.size - 0) 0 _ (by omega) (Nat.zero_le _)
        ⟨⟨_, Heap.get?_push_size _ rfl, rfl, rfl⟩, (list_l.push _)⟩ ⟨[], rfl, fun x => by simp, txS_new (Heap.get?_push_of_some _ at_new)⟩ fun z3 L3 moved m3 new3 => ?_
      · have hv' : vs.toList[i]? = some v := by rw [Array.getElem?_toList]; exact hv
        have hall := are.all v (List.mem_of_getElem? hv')
        obtain ⟨x, u, rfl⟩ := hall
        refine ⟨x, u, ?_, rfl⟩
        have e := are.strs
        have e2 : (vs.toList.map strOf)[i]? = some x := by rw [List.getElem?_map, hv']; rfl
        rw [e] at e2
        exact e2
      · obtain ⟨hz, gz, dz, tz, oz⟩ := z3
        have g1 : gz = z.gens := moved.gens
        have g2 : dz = z.drawn := moved.drawn
        have g3 : oz = z.os := moved.os
        subst g1
        subst g2
        subst g3
        show wpAny _ _ _ _ _ _
        refine wpAny_pure ?_
        show wpAny _ _ (ret Value.none) _ _ _
        refine wpAny_pure ⟨rfl, hz, tz, L3, rfl, m3, new3, fun b o e => ?_⟩
        have b_lt : b < z.heap.objs.size := Heap.lt_size e
        have free_b : b ∉ [z.heap.objs.size, (z.heap.push (bareSet wd)).objs.size] := fun q => by
          rw [size1] at q
          rcases List.mem_cons.mp q with q | q
          · exact Nat.ne_of_lt b_lt q
          · exact Nat.ne_of_lt (Nat.lt_succ_of_lt b_lt) (List.mem_singleton.mp q)
        exact moved.heap b o free_b (Heap.get?_push_of_some _ (Heap.get?_push_of_some _ e))
    · match r2, hr2 with
      | .error e, hr2 => exact hr2
      | .ok .next, hr2 => exact hr2.elim
      | .ok .brk, hr2 => exact hr2.elim
      | .ok .cont, hr2 => exact hr2.elim
      | .ok (.ret y2), hr2 =>
        obtain ⟨rfl, hn, tk, L3, rfl, m3, isSet, kept⟩ := hr2
        repeat (any_goals (first | assumption | wp_step))
        exact fin _ _ _ m3 isSet kept
end
end Dl

set_option Elab.async false
set_option linter.all false
set_option maxRecDepth 100000
set_option maxHeartbeats 8000000
/-! sorted(set of texts) -/
namespace Dl
open PySem PySem.Spec PyProof.Rows L2
theorem strs_are : ∀ (l : List Value), (∀ v ∈ l, ∃ x u, v = Value.str x u) → ∃ xs, StrsAre l xs ∧ xs = l.map strOf
  | [], _ => ⟨[], .nil, rfl⟩
  | v :: l, h => by
    obtain ⟨x, u, rfl⟩ := h v List.mem_cons_self
    obtain ⟨xs, h1, h2⟩ := strs_are l fun w hw => h w (List.mem_cons_of_mem _ hw)
    exact ⟨x :: xs, .cons x u h1, by rw [h2]; rfl⟩
section
variable {P : Program} {wd : World} {Ar : Around} {Er : Value → Shared → Prop} {z : Shared} {a : Addr} {L : List Str}
theorem sorted_txs {Q : Value → Shared → Prop} (R : TxS wd z.heap a L) (calm : Ar.handled = none) (few64 : L.length < 64)
    (fin : ∀ y p (out : Array Value) (c : Nat) (ys : List Str), (∀ b o, z.heap.get? b = some o → y.heap.get? b = some o) → y.gens = z.gens → y.os = z.os → z.heap.objs.size ≤ p → y.heap.get? p = some (seqObj "list" out c) → StrsAre out.toList ys → sortedS ys = true → ys.Nodup → (∀ x, x ∈ ys ↔ x ∈ L) → Q (.ref p) y) :
    wpAny (model P wd) Ar (call (.builtin "sorted") [.ref a]) Q Er z := by
  obtain ⟨ob, rows, ep, tb, ho, hex, hd, good, once, mem, few, fit, ris, led⟩ := R
  have size_le : rows.size ≤ L.length := by
    have := Dl.nodup_le once fun y hy => (mem y).mpr hy
    rw [List.length_map, Array.length_toList] at this
    exact this
  refine Calls.call_function_entry kind_sorted plain_sorted entry_sorted (args_sorted1 _) ?_
  unfold Builtin.«sorted»
  refine wpAny_bind (m := checkCount "sorted" 1 1 _) (wpAny_pure ?_)
  refine wpAny_bind (collect_set (A := Ar.in1) calm ⟨ob, ho, hex.1, hd⟩ fit few ris led fun z1 vs kept grown gens1 os1 pm => ?_)
  have len_vs : vs.length = rows.size := by rw [pm.length_eq, List.length_map, Array.length_toList]
  obtain ⟨xs, are, exs⟩ := strs_are vs fun v hv => by
    obtain ⟨e, he, q⟩ := List.mem_map.mp (pm.mem_iff.mp hv)
    obtain ⟨x, u, h1, _⟩ := good e he
    exact ⟨x, u, by rw [← q]; exact h1⟩
  have px : xs.Perm (rows.toList.map nameE) := by
    rw [exs]
    have q := pm.map strOf
    rw [List.map_map] at q
    have e : rows.toList.map (strOf ∘ fun x => x.2) = rows.toList.map nameE := List.map_congr_left fun e he => by
      obtain ⟨x, u, h1, _⟩ := good e he
      show strOf e.2 = nameE e
      unfold nameE
      rw [h1]
      rfl
    rw [← e]
    exact q
  have sz : vs.length ≤ sizeLine := by rw [len_vs, sizeLine_eq]; omega
  refine wpAny_bind (wpAny_newList ?_ sz)
  have laid : (z1.heap.push (seqObj "list" vs.toArray 0)).get? z1.heap.objs.size = some (seqObj "list" vs.toArray 0) := Heap.get?_push_size _ rfl
  refine wpAny_bind (wpAny_holding (wpAny_call_entry slot_list_sort ⟨_, laid, rfl⟩ entry_list_sort (list_sort_treeKAny (κ := PyProof.Rows.strKind) strKind_oneLt laid are.keysOf (fun v1 v2 rest e => keyKind_strs (by rw [← e]; exact are)) sz fun st hp hs => ⟨_, rfl, ?_⟩) (args_list_sort _)))
  obtain ⟨ys, a1, a2, a3⟩ := sorted_out_str are hp hs
  obtain ⟨c, hc⟩ := sortedHeap_at (vs := vs) (out := (arrOf st).map (·.2)) laid
  have py : ys.Perm (rows.toList.map nameE) := a2.trans px
  refine wpAny_pure ⟨_, rfl, fin _ z1.heap.objs.size _ c ys (fun b u e => ?_) gens1 os1 grown hc a1 a3 (py.nodup_iff.mpr once) fun x => by rw [py.mem_iff, ← mem x]⟩
  have q := kept b u e
  have lt := Heap.lt_size q
  show (sortedHeap (z1.heap.push (seqObj "list" vs.toArray 0)) z1.heap.objs.size vs _).get? b = some u
  rw [sortedHeap_old (Nat.ne_of_lt lt) (by rw [size_push']; exact Nat.lt_succ_of_lt lt)]
  exact Heap.get?_push_of_some _ q
end
def SetTx (wd : World) (a : Addr) (L : List Str) : HO := .ext fun h => TxS wd h a L
theorem setTx_new {wd : World} {P : Program} {H : Hp} {h : Heap} {a : Addr} {L : List Str} (R : TxS wd h a L) : ObjOk P wd H h a (SetTx wd a L) := by
  have ⟨o, _, _, _, ho, _⟩ := R
  exact ⟨R, ⟨o, ho⟩, fun h1 h2 p k => TxS.at p k⟩
theorem perm_sorted : ∀ {xs ys : List Str}, xs.Perm ys → sortedS xs = true → sortedS ys = true → xs = ys := by
  have rise : ∀ (l : List Str) (p : Str), risingS p l = true → ∀ x ∈ l, ¬ x.cps.toList < p.cps.toList := by
    intro l
    induction l with
    | nil => intro p _ x hx; cases hx
    | cons y t ih =>
      intro p h x hx
      have h' : (!ltCps y.cps.toList p.cps.toList && risingS y t) = true := h
      rw [Bool.and_eq_true] at h'
      have h1 : ¬ y.cps.toList < p.cps.toList := by
        have := h'.1
        rw [ltCps_eq] at this
        simpa using this
      rcases List.mem_cons.mp hx with e | hx
      · rw [e]; exact h1
      · intro z
        have h2 := ih y h'.2 x hx
        have h3 : p.cps.toList ≤ y.cps.toList := List.not_lt.mp h1
        have h4 : y.cps.toList ≤ x.cps.toList := List.not_lt.mp h2
        exact List.not_lt.mpr (List.le_trans h3 h4) z
  have tail : ∀ (l : List Str) (p : Str), risingS p l = true → sortedS l = true := by
    intro l p h
    cases l with
    | nil => rfl
    | cons y t =>
      have h' : (!ltCps y.cps.toList p.cps.toList && risingS y t) = true := h
      rw [Bool.and_eq_true] at h'
      exact h'.2
  intro xs
  induction xs with
  | nil => intro ys p _ _; exact (List.Perm.eq_nil p.symm).symm
  | cons x xs ih =>
    intro ys p hx hy
    cases ys with
    | nil => exact absurd p.length_eq (by simp)
    | cons y ys =>
      have e : x = y := by
        have m1 : y ∈ x :: xs := p.mem_iff.mpr (List.mem_cons_self ..)
        have m2 : x ∈ y :: ys := p.mem_iff.mp (List.mem_cons_self ..)
        rcases List.mem_cons.mp m1 with e | m1
        · exact e.symm
        · rcases List.mem_cons.mp m2 with e | m2
          · exact e
          · have h1 := rise xs x hx y m1
            have h2 := rise ys y hy x m2
            have e : x.cps.toList = y.cps.toList := List.le_antisymm (List.not_lt.mp h1) (List.not_lt.mp h2)
            have e2 : x.cps = y.cps := Array.ext' e
            cases x; cases y
            cases e2
            rfl
      subst e
      rw [ih (List.Perm.cons_inv p) (tail xs x hx) (tail ys x hy)]
section
variable {X : Cx} {M : List Addr} {σ : L2.St} {H : Hp} {e : Expr} {p1 p2 pa pb : Pos}
theorem cr_sortedTx (hc : X.calm = true) : CallR X (.builtin "sorted") (fun vs H Q => ∃ (a : Addr) (L T : List Str), vs = [V.ref a] ∧ H a = some (SetTx X.w a L) ∧ (∀ x ∈ L, x ∈ T) ∧ L.length < 64 ∧
    ∀ (ys : List Str) (p : Addr), sortedS ys = true → ys.Nodup → (∀ x, x ∈ ys ↔ x ∈ L) → H p = none → Q (.ref p) (upd H p (.lst (ys.map V.str)))) := by
  intro pins s σ H vs us Q I r h
  obtain ⟨a, L, T, rfl, ha, hT, h64, q⟩ := h
  have R : TxS X.w s.heap a L := (I.hok a _ ha).1
  rw [Vals.ref1 r]
  refine sorted_txs R (I.ok.hd hc) h64 fun y p out c ys k g o hp hg hi hs hn hm => ?_
  have len : (ys.map V.str).length ≤ sizeLine := by
    have := Dl.nodup_le hn fun x hx => (hm x).mp hx
    rw [List.length_map, sizeLine_eq]; omega
  have np : H p = none := I.hok.fresh hp
  have J : Inv X pins σ (upd H p (.lst (ys.map V.str))) { s with heap := y.heap, gens := y.gens, drawn := y.drawn, toks := y.toks } :=
    I.call (ch := []) (Un.laid k hp np) (I.hok.laid k hp ⟨len, out.toList, c, vals_of_strs hi, hg⟩) (by rw [g]; exact I.bare) (fun _ z => nomatch z)
  have e : y = { s with heap := y.heap, gens := y.gens, drawn := y.drawn, toks := y.toks } := by
    cases y
    cases s
    cases o
    rfl
  rw [e]
  exact ⟨.ref p, _, J, rfl, q ys p hs hn hm np⟩
theorem cr_setTx (hc : X.calm = true) : CallR X (.type "set") (fun vs H Q => ∃ (l : Addr) (xs : List Str), vs = [V.ref l] ∧ SqL X.K H l (xs.map V.str) ∧ xs.length ≤ 4000 ∧ ∀ p, H p = none → Q (.ref p) (upd H p (SetTx X.w p xs))) := by
  intro pins s σ H vs us Q I r h
  obtain ⟨l, xs, rfl, hl, hz, q⟩ := h
  obtain ⟨its, rv, isl, _⟩ := I.list hl
  obtain ⟨u, rfl, ru⟩ := vals1 r
  obtain rfl : u = Value.ref l := ru
  refine set_of_txts xs (I.ok.hd hc) isl.isList (by simpa using rv.strs) (Nat.lt_of_le_of_lt (Nat.succ_le_succ hz) (by decide)) fun hn tk L hm new kept => ?_
  have new' : TxS X.w hn s.heap.objs.size xs := by
    obtain ⟨ob, rows, ep, tb, h1, h2, h3, h4, h5, h6, h7⟩ := new
    exact ⟨ob, rows, ep, tb, h1, h2, h3, h4, h5, fun x => (hm x).symm.trans (h6 x), h7⟩
  exact ⟨.ref s.heap.objs.size, upd H s.heap.objs.size (SetTx X.w s.heap.objs.size xs), I.laid (t' := tk) kept (Nat.le_refl _) (setTx_new new'), rfl, q _ (I.hok.fresh (Nat.le_refl _))⟩
theorem strs_v {K : PySem.W.Frag} {H : Hp} : ∀ {xs : List Str} {vs : List V}, DqAll K H vs (xs.map PyData.str) → vs = xs.map V.str
  | [], _, h => by cases h; rfl
  | x :: xs, _, h => by
    cases h with
    | cons h1 h2 => rw [dp_str h1, strs_v h2]; rfl
theorem strs_d {K : PySem.W.Frag} {H : Hp} : ∀ xs : List Str, DqAll K H (xs.map V.str) (xs.map PyData.str)
  | [] => .nil
  | x :: xs => .cons (.str x) (strs_d xs)
/-- sorted(set(e)) of texts -/
theorem re_sortedSet {xs : List Str} {Q : VK} (hm : X.mg "sorted" = none) (hm2 : X.mg "set" = none) (ha : XD X M σ H e (.list (xs.map PyData.str))) (h64 : xs.length < 64)
    (q : ∀ ys p H1, Same H H1 → H p = none → H1 p = some (.lst (ys.map V.str)) → sortedS ys = true → ys.Nodup → (∀ x, x ∈ ys ↔ x ∈ xs) → Q (.ref p) H1) (hc : X.calm = true := by rfl) (hg : Gl X "sorted" := by rfl) (hg2 : Gl X "set" := by rfl)
    (he : starEach [.Call (.Name "set" pa) [e] [] pb] X.env = (false, eval (.Call (.Name "set" pa) [e] [] pb) X.env) :: starEach [] X.env := by rfl) (he2 : starEach [e] X.env = (false, eval e X.env) :: starEach [] X.env := by rfl) (hpl : (backTo p2 (starEach [] X.env)).any (·.1) = false := by rfl) (hpl2 : (backTo pb (starEach [] X.env)).any (·.1) = false := by rfl) :
    RE X (.Call (.Name "sorted" p1) [.Call (.Name "set" pa) [e] [] pb] [] p2) σ H Q := by
  refine re_B (cr_sortedTx hc) (ra_1 ⟨_, pe_callTy (cr_setTx hc) hg2 hm2 (by decide +kernel) ra_ (by decide) (by decide) he2 hpl2, ra_1 (ha.go fun v H2 s2 hv => ?_) he2⟩ he) hm (by decide +kernel) hg (by decide) (by decide) he hpl
  obtain ⟨a, vs, rfl, hl, hx⟩ := dp_lst hv
  have ex := strs_v hx
  subst ex
  refine ⟨a, xs, rfl, SqL.of (hid_le _ _ hl), by omega, fun p hp => ⟨p, xs, xs, rfl, upd_same, fun x hx => hx, h64, fun ys l hs hn hmm hl2 => ?_⟩⟩
  have hl3 : H2 l = none := by
    by_cases z : l = p
    · subst z; exact hp
    · rw [upd_ne z] at hl2; exact hl2
  exact q ys l _ ((s2.trans (same_new hp)).trans (same_new hl2)) (s2.free hl3) upd_same hs hn hmm
/-- sorted(e), a list of texts -/
theorem re_sortedL {xs : List Str} {Q : VK} (hm : X.mg "sorted" = none) (ha : XD X M σ H e (.list (xs.map PyData.str))) (h64 : xs.length < 64)
    (q : ∀ ys p H1, Same H H1 → H p = none → H1 p = some (.lst (ys.map V.str)) → sortedS ys = true → ys.Perm xs → Q (.ref p) H1) (hg : Gl X "sorted" := by rfl)
    (he : starEach [e] X.env = (false, eval e X.env) :: starEach [] X.env := by rfl) (hpl : (backTo p2 (starEach [] X.env)).any (·.1) = false := by rfl) :
    RE X (.Call (.Name "sorted" p1) [e] [] p2) σ H Q := by
  refine re_B cr_sortedS (ra_1 (ha.go fun v H2 s2 hv => ?_) he) hm (by decide +kernel) hg (by decide) (by decide) he hpl
  obtain ⟨a, vs, rfl, hl, hx⟩ := dp_lst hv
  have ex := strs_v hx
  subst ex
  exact ⟨a, xs, rfl, SqL.of (hid_le _ _ hl), h64, fun ys l hp hs hl2 => q ys l _ (s2.trans (same_new hl2)) (s2.free hl2) upd_same hs hp⟩
end
end Dl

set_option Elab.async false
set_option linter.all false
set_option maxRecDepth 100000
set_option maxHeartbeats 8000000
/-! Data layer: lists of things of any kind (objects), by a relation that lasts -/
namespace Dl
open PySem PySem.Spec PyProof.Rows L2
structure Rl (α : Type) where
  r : Hp → V → α → Prop
  up : ∀ {H H' : Hp} {v : V} {a : α}, Same H H' → r H v a → r H' v a
inductive RAll {α : Type} (R : Rl α) (H : Hp) : List V → List α → Prop
  | nil : RAll R H [] []
  | cons {v : V} {vs : List V} {a : α} {as : List α} : R.r H v a → RAll R H vs as → RAll R H (v :: vs) (a :: as)
section
variable {α β γ : Type} {R : Rl α} {H H' : Hp}
theorem RAll.up (s : Same H H') : ∀ {vs : List V} {as : List α}, RAll R H vs as → RAll R H' vs as
  | _, _, .nil => .nil
  | _, _, .cons a b => .cons (R.up s a) (b.up s)
theorem ral_len : ∀ {vs : List V} {as : List α}, RAll R H vs as → vs.length = as.length
  | _, _, .nil => rfl
  | _, _, .cons _ h => by rw [List.length_cons, List.length_cons, ral_len h]
theorem ral_app : ∀ {vs ws : List V} {as bs : List α}, RAll R H vs as → RAll R H ws bs → RAll R H (vs ++ ws) (as ++ bs)
  | _, _, _, _, .nil, h => h
  | _, _, _, _, .cons a b, h => .cons a (ral_app b h)
theorem ral_get : ∀ {vs : List V} {as : List α} {i : Nat} {a : α}, RAll R H vs as → as[i]? = some a → ∃ v, vs[i]? = some v ∧ R.r H v a
  | _, _, _, _, .nil, e => by simp at e
  | _, _, 0, _, .cons a _, e => by simp at e; subst e; exact ⟨_, rfl, a⟩
  | _, _, i + 1, d, .cons _ b, e => by
    obtain ⟨v, h1, h2⟩ := ral_get (i := i) (a := d) b (by simpa using e)
    exact ⟨v, by simpa using h1, h2⟩
theorem ral_get' : ∀ {vs : List V} {as : List α} {i : Nat} {v : V}, RAll R H vs as → vs[i]? = some v → ∃ a, as[i]? = some a ∧ R.r H v a
  | _, _, _, _, .nil, e => by simp at e
  | _, _, 0, _, .cons a _, e => by simp at e; subst e; exact ⟨_, rfl, a⟩
  | _, _, i + 1, v, .cons _ b, e => by
    obtain ⟨d, h1, h2⟩ := ral_get' (i := i) (v := v) b (by simpa using e)
    exact ⟨d, by simpa using h1, h2⟩
def Rl.lst {α : Type} (R : Rl α) : Rl (List α) := ⟨fun H v as => ∃ a xs, v = .ref a ∧ H a = some (.lst xs) ∧ RAll R H xs as, fun s ⟨a, xs, e, h1, h2⟩ => ⟨a, xs, e, s _ _ h1, h2.up s⟩⟩
/-- data as such a relation -/
def RD (K : PySem.W.Frag) : Rl PyData := ⟨fun H v d => Dq K H v d, fun s h => h.up s⟩
end
/-- the expression tells a thing; a new list of things -/
def XG (X : Cx) (M : List Addr) (σ : L2.St) (H : Hp) (e : Expr) {α : Type} (R : Rl α) (a : α) : Prop := ∀ H1, Same H H1 → ∀ Q : VK, (∀ v H2, Same H1 H2 → R.r (hid M H2) v a → Q v H2) → RE X e σ H1 Q
def XGL (X : Cx) (M : List Addr) (σ : L2.St) (H : Hp) (e : Expr) {α : Type} (R : Rl α) (as : List α) : Prop :=
  ∀ H1, Same H H1 → ∀ Q : VK, (∀ p xs H2, Same H1 H2 → H1 p = none → H2 p = some (.lst xs) → RAll R (hid M H2) xs as → Q (.ref p) H2) → RE X e σ H1 Q
section
variable {α β γ : Type} {R : Rl α} {Ra : Rl α} {Rm : Rl β} {Ro : Rl γ}
variable {X : Cx} {M : List Addr} {σ : L2.St} {H H' : Hp} {e a b c o elt tg iter iter1 tg1 : Expr} {ifs : List Expr} {scope : Scope} {own : List (Str × Nat)} {es : List Expr} {d d1 d2 : PyData} {ds ds2 eds : List PyData} {x : Str} {v : V} {pos p1 p2 p3 tpos py spos : Pos} {D : Ends} {rest : List Stmt} {Q : VK} {t : α} {ts us : List α}
theorem XG.go (h : XG X M σ H e R t) (k : ∀ v H2, Same H H2 → R.r (hid M H2) v t → Q v H2) : RE X e σ H Q := h H (Same.refl H) Q k
theorem XGL.go (h : XGL X M σ H e R ts) (k : ∀ p xs H2, Same H H2 → H p = none → H2 p = some (.lst xs) → RAll R (hid M H2) xs ts → Q (.ref p) H2) : RE X e σ H Q := h H (Same.refl H) Q k
theorem XG.up (h : XG X M σ H e R t) (s : Same H H') : XG X M σ H' e R t := fun H1 q => h H1 (s.trans q)
theorem XG.to {t' : α} (h : XG X M σ H e R t) (q : t = t') : XG X M σ H e R t' := q ▸ h
theorem XGL.to (h : XGL X M σ H e R ts) (q : ts = us) : XGL X M σ H e R us := q ▸ h
theorem XGL.dd (h : XGL X M σ H e R ts) (L : Live M H) : XG X M σ H e R.lst ts := fun H1 s Q q => h H1 s Q fun p xs H2 s2 hp h2 hd =>
  q _ H2 s2 ⟨p, xs, rfl, by rw [hid_of (fun z => (L.mono s) p z hp)]; exact h2, hd⟩
theorem xg_v (hv : XV X σ H e v) (h : R.r (hid M H) v t) : XG X M σ H e R t := fun H1 s Q q => hv H1 s Q fun H2 s2 => q v H2 s2 (R.up (hid_mono (s.trans s2)) h)
theorem xg_d (h : XD X M σ H e d) : XG X M σ H e (RD X.K) d := h
/-! displays -/
theorem xgl_nil : XGL X M σ H (.List [] pos) R ([] : List α) := fun H1 s Q q =>
  ⟨_, pe_lst ra_, ra_nil ⟨by show 0 ≤ sizeLine; decide, fun p hp => q p [] _ (same_new hp) hp upd_same .nil⟩⟩
theorem xgl_one (L : Live M H) (h : XG X M σ H e R t) (hs : starEach [e] X.env = (false, eval e X.env) :: starEach [] X.env := by rfl) : XGL X M σ H (.List [e] pos) R [t] := fun H1 s Q q =>
  ⟨_, pe_lst ra_, ra_1 (h H1 s _ fun v H2 s2 hv => ⟨by show 1 ≤ sizeLine; decide, fun p hp => q p [v] _ (s2.trans (same_new hp)) (s2.free hp) upd_same (by
    rw [hid_new (L.mono (s.trans s2)) hp]
    exact .cons (R.up (same_new (hid_free hp)) hv) .nil)⟩) hs⟩
/-! an item; the truth of a list; its length -/
theorem xg_ix {n : Int} (hs : PlainIx b) (ha : XG X M σ H a R.lst ts) (hb : XV X σ H b (.int n)) (h : atI ts n = some t) : XG X M σ H (.Subscript a b pos) R t := fun H1 s Q q =>
  ⟨_, pe_ix ix_list re_ re_ hs, ha H1 s _ fun v H2 s2 hv => hb H2 (s.trans s2) _ fun H3 s3 => by
    obtain ⟨p, xs, rfl, hp, hx⟩ := R.lst.up (hid_mono (M := M) s3) hv
    obtain ⟨j, hj1, hj2⟩ : ∃ j : Nat, (∀ {β : Type} (zs : List β), zs.length = ts.length → atI zs n = zs[j]?) ∧ ts[j]? = some t := by
      unfold atI at h ⊢
      cases e : ixN ts.length n with
      | none => rw [e] at h; cases h
      | some j =>
        rw [e] at h
        exact ⟨j, fun zs hz => by rw [hz, e]; rfl, h⟩
    obtain ⟨u, hu1, hu2⟩ := ral_get hx hj2
    exact ⟨p, xs, n, u, rfl, rfl, SqL.of (hid_le _ _ hp), by rw [hj1 xs (ral_len hx)]; exact hu1, q _ H3 (s2.trans s3) hu2⟩⟩
theorem xt_listG (ha : XG X M σ H e R.lst ts) (he : ∀ whole, isTrue e X.env whole = (do let v ← whole; standAt e.pos; holding [v] (truthy v)) := by intro _; rfl) : XT X σ H e (!ts.isEmpty) := fun H1 s Q q =>
  ⟨_, pt_truth re_ he, ha H1 s _ fun v H2 s2 hv => by
    obtain ⟨a, xs, rfl, ha', hx⟩ := hv
    refine ⟨_, .inl ⟨xs, SqL.of (hid_le _ _ ha'), rfl⟩, ?_⟩
    have el := ral_len hx
    have e : xs.isEmpty = ts.isEmpty := by
      cases xs with
      | nil => cases ts with
        | nil => rfl
        | cons d ds => simp at el
      | cons x xs => cases ts with
        | nil => simp at el
        | cons d ds => rfl
    rw [e]
    exact q H2 s2⟩
theorem rb_setG (i : Nat) {x : Str} {pos' : Pos} (h : XG X M σ H e R t) (k : ∀ v H1, Same H H1 → R.r (hid M H1) v t → RB X rest D (σ.set i (some v)) H1) (hN : X.N.Nodup) (hi : X.N[i]? = some x := by rfl) (hx : Loc X.env.scope x := by first | exact Or.inl rfl | exact Or.inr rfl)
    (hs : swapsWith e (some (.Name x pos')) pos.line X.env = pure false := by rfl) (hf : X.fn x = true ∨ X.env.scope.names.lookup x = some .local := by first | exact .inl rfl | exact .inr rfl) : RB X (.Assign [.Name x pos'] e pos :: rest) D σ H :=
  rb_setR i (h H (Same.refl H) _ fun v H1 s hv => k v H1 s hv) hN hi hx hs hf
theorem rb_setGL (i : Nat) {x : Str} {pos' : Pos} (h : XGL X M σ H e R ts) (k : ∀ p xs H1, Same H H1 → H p = none → H1 p = some (.lst xs) → RAll R (hid M H1) xs ts → RB X rest D (σ.set i (some (.ref p))) H1) (hN : X.N.Nodup) (hi : X.N[i]? = some x := by rfl) (hx : Loc X.env.scope x := by first | exact Or.inl rfl | exact Or.inr rfl)
    (hs : swapsWith e (some (.Name x pos')) pos.line X.env = pure false := by rfl) (hf : X.fn x = true ∨ X.env.scope.names.lookup x = some .local := by first | exact .inl rfl | exact .inr rfl) : RB X (.Assign [.Name x pos'] e pos :: rest) D σ H :=
  rb_setR i (h H (Same.refl H) _ fun p xs H1 s hp h1 hd => k p xs H1 s hp h1 hd) hN hi hx hs hf
/-- l.extend(e) -/
theorem rb_extendG {l : Addr} {xs : List V} (ho : XV X σ H o (.ref l)) (h1 : H l = some (.lst xs)) (he : XG X M σ H e R.lst ts) (hz : xs.length + ts.length ≤ 100000) (k : ∀ vs H1, Same H H1 → RAll R (hid M H1) vs ts → RB X rest D σ (upd H1 l (.lst (xs ++ vs))))
    (hbase : attributeBase o "extend" X.env (eval o X.env) = eval o X.env := by rfl)
    (hfew : ((backTo p2 (starEach [e] X.env)).all (fun x => !x.1) && (backToKw p2 (keywordEach [] X.env)).all (fun x => x.1.isSome) && decide ([e].length + ([] : List Keyword).length + (if ([] : List Keyword).isEmpty then 0 else 1) < 30)) = true := by rfl)
    (hline : (p1.endLine == p2.line) = true := by rfl) (hs : starEach [e] X.env = (false, eval e X.env) :: starEach [] X.env := by rfl) (hplain : (backTo p2 (starEach [] X.env)).any (·.1) = false := by rfl)
    (hsw : swapsWith (.Call (.Attribute o "extend" p1) [e] [] p2) none pos.line X.env = pure false := by rfl) : RB X (.Expr (.Call (.Attribute o "extend" p1) [e] [] p2) pos :: rest) D σ H :=
  rb_exprR ⟨_, pe_bm PySem.F.plainAttrs_list PySem.F.slot_list_extend PySem.F.type_list_extend mt_extend re_ ra_ hbase hfew hline hs hplain,
    ho H (Same.refl H) _ fun H1 s1 => ⟨.inl ⟨rfl, xs, SqL.of (s1 _ _ h1)⟩, ra_1 (he H1 s1 _ fun v H2 s2 hv => by
      obtain ⟨b, ys, rfl, hb, hy⟩ := hv
      exact ⟨l, b, xs, ys, rfl, rfl, (s1.trans s2) _ _ h1, hid_le _ _ hb, by rw [ral_len hy]; exact small_sz hz, k ys H2 (s1.trans s2) hy⟩) hs⟩⟩ hsw
/-! loops -/
theorem rb_forG {tg : Expr} {body : List Stmt} (hit : XG X M σ H e R.lst ts)
    (h : ∀ H1, Same H H1 → ∃ Pv : Nat → L2.St → Hp → Prop, Pv 0 σ H1 ∧ (∀ k σ' H', Pv k σ' H' → Same (hid M H1) (hid M H')) ∧
      (∀ k t, ts[k]? = some t → ∀ σ' H' v, Pv k σ' H' → R.r (hid M H') v t → RG X tg v σ' H' fun σ2 H2 => RB X body { D with nx := Pv (k + 1), ct := Pv (k + 1), bk := RB X rest D } σ2 H2) ∧ ∀ σ' H', Pv ts.length σ' H' → RB X rest D σ' H')
    (hp : PassesOwn (model X.prog X.w) X.A X.env X.xe := by exact PassesOwn.never) (hc : X.calm = true := by rfl) (hs : ∀ x, foldedSetIterable e X.env x = pure x := by intro _; rfl) : RB X (.For tg e body [] pos :: rest) D σ H :=
  ⟨_, pss_cons (ps_for hp hc (pi_list re_) rg_ rb_ hs) rb_, hit H (Same.refl H) _ fun v H1 s1 hv => by
    obtain ⟨a, xs, rfl, ha, hx⟩ := hv
    obtain ⟨Pv, h0, hk, hst, hd⟩ := h H1 s1
    refine ⟨a, rfl, ⟨xs, SqL.of (hid_le _ _ ha)⟩, for_list (xs := xs) Pv h0 (fun i σ' H' _ p => SqL.of (hid_le _ _ (hk i σ' H' p _ _ ha))) (fun i x σ' H' hi p => ?_) (by rw [ral_len hx]; exact hd)⟩
    obtain ⟨d, h1, h2⟩ := ral_get' hx hi
    exact hst i d h1 σ' H' x p (R.up (hk i σ' H' p) h2)⟩
/-! comprehensions -/
theorem ral_out {p : Addr} {vs : List V} (h : RAll R (hid (p :: M) H) vs ts) : RAll R (hid M H) vs ts := h.up fun b o e => by
  have n1 : b ∉ p :: M := fun z => by unfold hid at e; rw [if_pos z] at e; cases e
  rw [hid_of (fun z => n1 (List.mem_cons_of_mem _ z))]
  exact hid_le _ _ e
/-- [elt for tg in iter], iter a tuple of data, things told -/
theorem xgl_compT (f : PyData → α) (L : Live M H) (hN : X.N.Nodup) (hit : XD X M σ H iter (.tuple ds)) (ok : BlkOk X.N X.env.scope scope own) (hz : ds.length ≤ 100000)
    (hst : ∀ p d v H1, d ∈ ds → H p = none → Same H H1 → Live (p :: M) H1 → Dq X.K (hid (p :: M) H1) v d → BG X scope tg v (wipe σ (own.map (·.2))) H1 fun σ2 H2 => wipe σ2 (own.map (·.2)) = wipe σ (own.map (·.2)) ∧
      Same H1 H2 ∧ BE X scope elt σ2 H2 fun y H4 => Same H2 H4 ∧ R.r (hid (p :: M) H4) y (f d))
    (hc : X.calm = true := by rfl) (hs : ∀ x, foldedSetIterable iter X.env x = pure x := by intro _; rfl) : XGL X M σ H (.ListComp elt [⟨tg, iter, [], 0⟩] scope pos) R (ds.map f) := fun H1 s1 Q q =>
  ⟨_, pe_lc (own := own) hc hN (pi_tup re_) ok (fun _ _ _ _ _ => bg_) (fun _ _ _ _ _ => bt_) (fun _ _ _ _ _ => be_) hs, hit H1 s1 _ fun v H2 s2 hv => by
    obtain ⟨a, xs, rfl, ha, hx⟩ := dp_tup hv
    have L2' : Live M H2 := L.mono (s1.trans s2)
    refine ⟨a, rfl, ⟨xs, same_seqT hid_le ha⟩, fun p hp => ?_⟩
    have hp0 : H p = none := (s1.trans s2).free hp
    refine lc_tup (xs := xs) (a := a) (fun i H' => Same H2 H' ∧ ∃ acc, H' p = some (.lst acc) ∧ RAll R (hid (p :: M) H') acc ((ds.take i).map f)) ⟨same_new hp, [], upd_same, .nil⟩ (fun i H' _ w => same_seqT w.1 (same_seqT hid_le ha)) (fun i x H' hi w => ?_) (fun H' w => ?_)
    · obtain ⟨sH, acc, hacc, hda⟩ := w
      obtain ⟨d, hd1, hd2⟩ := dpa_get' hx hi
      have etake : ds.take (i + 1) = ds.take i ++ [d] := by rw [List.take_add_one, hd1]; rfl
      have hlen : acc.length < sizeLine := by
        rw [ral_len hda, List.length_map]
        have h2 : (ds.take i).length ≤ i := by rw [List.length_take]; omega
        have h3 : i < ds.length := (List.getElem?_eq_some_iff.mp hd1).1
        have h4 : 100000 < sizeLine := by decide
        omega
      have Lp : Live (p :: M) H' := fun b hb => by
        rcases List.mem_cons.mp hb with z | hb
        · subst z; rw [hacc]; simp
        · exact L2'.mono sH b hb
      refine bg_mono (hst p d x H' (List.mem_of_getElem? hd1) hp0 ((s1.trans s2).trans sH) Lp (hd2.up (hid_step hp sH))) fun σ2 Ha ⟨hw, sb, hbe⟩ => ⟨hw, bt_nil ?_⟩
      refine iteT (be_mono hbe fun y Hc ⟨sc, hy⟩ => ?_)
      have sd := sb.trans sc
      refine ⟨acc, sd _ _ hacc, hlen, fun b o e => ?_, acc ++ [y], upd_same, ?_⟩
      · rw [upd_ne (ne_of_none e hp)]
        exact sd _ _ (sH _ _ e)
      · have eh : hid (p :: M) (upd Hc p (.lst (acc ++ [y]))) = hid (p :: M) Hc := hid_upd_mem (List.mem_cons_self ..)
        rw [eh, etake, List.map_append]
        exact ral_app (hda.up (hid_mono sd)) (.cons hy .nil)
    · obtain ⟨sH, acc, hacc, hda⟩ := w
      have e1 : ds.take xs.length = ds := by rw [dpa_len hx]; exact List.take_length
      rw [e1] at hda
      exact q p acc H' (s2.trans sH) (s2.free hp) hacc (ral_out hda)⟩
/-- [elt for tg in iter], iter a list of things, data told or things -/
theorem lc_compG (f : α → γ) (L : Live M H) (hit : XG X M σ H iter Ra.lst ts) (hz : ts.length ≤ 100000)
    (hst : ∀ p t v H1, t ∈ ts → H p = none → Same H H1 → Live (p :: M) H1 → Ra.r (hid (p :: M) H1) v t → BG X scope tg v (wipe σ (own.map (·.2))) H1 fun σ2 H2 => wipe σ2 (own.map (·.2)) = wipe σ (own.map (·.2)) ∧
      Same H1 H2 ∧ BE X scope elt σ2 H2 fun y H4 => Same H2 H4 ∧ Ro.r (hid (p :: M) H4) y (f t))
    (q : ∀ p xs H2, Same H H2 → H p = none → H2 p = some (.lst xs) → RAll Ro (hid M H2) xs (ts.map f) → Q (.ref p) H2) :
    tLc (iList X.K (RE X iter)) (BG X scope tg) (BT X scope []) (BE X scope elt) (own.map (·.2)) σ H Q :=
  hit H (Same.refl H) _ fun v H2 s2 hv => by
    obtain ⟨a, xs, rfl, ha, hx⟩ := hv
    have L2' : Live M H2 := L.mono s2
    refine ⟨a, rfl, ⟨xs, SqL.of (hid_le _ _ ha)⟩, fun p hp => ?_⟩
    have hp0 : H p = none := s2.free hp
    refine lc_list (xs := xs) (a := a) (fun i H' => Same H2 H' ∧ ∃ acc, H' p = some (.lst acc) ∧ RAll Ro (hid (p :: M) H') acc ((ts.take i).map f)) ⟨same_new hp, [], upd_same, .nil⟩ (fun i H' _ w => SqL.of (w.1 _ _ (hid_le _ _ ha))) (fun i x H' hi w => ?_) (fun H' w => ?_)
    · obtain ⟨sH, acc, hacc, hda⟩ := w
      obtain ⟨t, hd1, hd2⟩ := ral_get' hx hi
      have etake : ts.take (i + 1) = ts.take i ++ [t] := by rw [List.take_add_one, hd1]; rfl
      have hlen : acc.length < sizeLine := by
        rw [ral_len hda, List.length_map]
        have h2 : (ts.take i).length ≤ i := by rw [List.length_take]; omega
        have h3 : i < ts.length := (List.getElem?_eq_some_iff.mp hd1).1
        have h4 : 100000 < sizeLine := by decide
        omega
      have Lp : Live (p :: M) H' := fun b hb => by
        rcases List.mem_cons.mp hb with z | hb
        · subst z; rw [hacc]; simp
        · exact L2'.mono sH b hb
      refine bg_mono (hst p t x H' (List.mem_of_getElem? hd1) hp0 (s2.trans sH) Lp (Ra.up (hid_step hp sH) hd2)) fun σ2 Ha ⟨hw, sb, hbe⟩ => ⟨hw, bt_nil ?_⟩
      refine iteT (be_mono hbe fun y Hc ⟨sc, hy⟩ => ?_)
      have sd := sb.trans sc
      refine ⟨acc, sd _ _ hacc, hlen, fun b o e => ?_, acc ++ [y], upd_same, ?_⟩
      · rw [upd_ne (ne_of_none e hp)]
        exact sd _ _ (sH _ _ e)
      · have eh : hid (p :: M) (upd Hc p (.lst (acc ++ [y]))) = hid (p :: M) Hc := hid_upd_mem (List.mem_cons_self ..)
        rw [eh, etake, List.map_append]
        exact ral_app (hda.up (hid_mono sd)) (.cons hy .nil)
    · obtain ⟨sH, acc, hacc, hda⟩ := w
      have e1 : ts.take xs.length = ts := by rw [ral_len hx]; exact List.take_length
      rw [e1] at hda
      exact q p acc H' (s2.trans sH) hp0 hacc (ral_out hda)
/-- [elt for tg in iter for tg1 in iter1], lists of things -/
theorem lc_comp2G {vs1 : List Nat} (bs : α → List β) (g : α → β → γ) (L : Live M H) (hit : XG X M σ H iter Ra.lst ts) (hz : (ts.flatMap fun t => (bs t).map (g t)).length ≤ 100000)
    (hst : ∀ p t v H1, t ∈ ts → H p = none → Same H H1 → Live (p :: M) H1 → Ra.r (hid (p :: M) H1) v t → BG X scope tg v (wipe σ (own.map (·.2))) H1 fun τ H2 => wipe τ (own.map (·.2)) = wipe σ (own.map (·.2)) ∧ Same H1 H2 ∧
      (∀ (s : Shared) (H0 : Hp) (C : Addr) (cl : List (Str × Addr)) (fp : List Addr), XG (X.blk s H0 scope (compEnvC scope cl C X.env) fp) (p :: M) τ H2 iter1 Rm.lst (bs t)) ∧
      ∀ ed w H3, ed ∈ bs t → (∀ b o, b ≠ p → H2 b = some o → H3 b = some o) → Live (p :: M) H3 → Rm.r (hid (p :: M) H3) w ed → BG X scope tg1 w (wipe τ vs1) H3 fun τ2 H4 => wipe τ2 vs1 = wipe τ vs1 ∧ Same H3 H4 ∧ BE X scope elt τ2 H4 fun u H5 => Same H4 H5 ∧ Ro.r (hid (p :: M) H5) u (g t ed))
    (q : ∀ p xs H2, Same H H2 → H p = none → H2 p = some (.lst xs) → RAll Ro (hid M H2) xs (ts.flatMap fun t => (bs t).map (g t)) → Q (.ref p) H2) :
    tLc2 (iList X.K (RE X iter)) (BG X scope tg) (BT X scope []) (iList X.K (BE X scope iter1)) (BG X scope tg1) (BT X scope []) (BE X scope elt) (own.map (·.2)) vs1 σ H Q :=
  hit H (Same.refl H) _ fun v H2 s2 hv => by
    obtain ⟨a, xs, rfl, ha, hx⟩ := hv
    have L2' : Live M H2 := L.mono s2
    have hlx := ral_len hx
    refine ⟨a, rfl, ⟨xs, SqL.of (hid_le _ _ ha)⟩, fun p hp => ?_⟩
    have hp0 : H p = none := s2.free hp
    refine ⟨fun i m Hx => m + i = xs.length ∧ Same H2 Hx ∧ ∃ acc, Hx p = some (.lst acc) ∧ RAll Ro (hid (p :: M) Hx) acc ((ts.take i).flatMap fun t => (bs t).map (g t)), ⟨xs.length, rfl, same_new hp, [], upd_same, .nil⟩, fun i m Hx w => ?_⟩
    obtain ⟨hmi, sx, acc, hacc, hda⟩ := w
    have gt : SqL X.K Hx a xs := SqL.of (sx _ _ (hid_le _ _ ha))
    cases ex : xs[i]? with
    | none =>
      have hge : xs.length ≤ i := List.getElem?_eq_none_iff.mp ex
      have ei : ts.take i = ts := List.take_of_length_le (by omega)
      rw [ei] at hda
      exact .inl ⟨⟨xs, gt, hge⟩, q p acc Hx (s2.trans sx) (s2.free hp) hacc (ral_out hda)⟩
    | some x0 =>
      have hlt := (List.getElem?_eq_some_iff.mp ex).1
      refine .inr ⟨⟨xs, x0, gt, ex⟩, fun Hy => Same H2 Hy ∧ ∃ acc, Hy p = some (.lst acc) ∧ RAll Ro (hid (p :: M) Hy) acc ((ts.take (i + 1)).flatMap fun t => (bs t).map (g t)), fun Hy hy => ⟨m - 1, by omega, by omega, hy⟩, fun v Hy hyl => ?_⟩
      obtain ⟨rfl, h1⟩ := hyl
      obtain ⟨t, hd1, hd2⟩ := ral_get' hx (h1 xs gt)
      have hdi := (List.getElem?_eq_some_iff.mp hd1).1
      have etake : ts.take (i + 1) = ts.take i ++ [t] := by rw [List.take_add_one, hd1]; rfl
      have Lp : Live (p :: M) Hy := fun b hb => by
        rcases List.mem_cons.mp hb with z | hb
        · subst z; rw [hacc]; simp
        · exact L2'.mono sx b hb
      refine bg_mono (hst p t v Hy (List.mem_of_getElem? hd1) hp0 (s2.trans sx) Lp (Ra.up (hid_step hp sx) hd2)) fun τ Ha ⟨hw, sa, hin, hel⟩ => ⟨hw, bt_nil (iteT fun s0 H0 C0 cl fp => ?_)⟩
      refine hin s0 H0 C0 cl fp Ha (Same.refl _) _ fun w Hb sb hwv => ?_
      obtain ⟨a1, ys, rfl, ha1, hy⟩ := hwv
      have hly := ral_len hy
      refine ⟨a1, rfl, ⟨ys, SqL.of (hid_le _ _ ha1)⟩, ?_⟩
      have sab := sa.trans sb
      have pMem : p ∈ p :: M := List.mem_cons_self ..
      have hbp : Hb p = some (.lst acc) := sab _ _ hacc
      have upM : ∀ {Hz : Hp}, (∀ b o, b ≠ p → Hb b = some o → Hz b = some o) → Same (hid (p :: M) Hb) (hid (p :: M) Hz) := fun {Hz} z b o e => by
        have n1 : b ∉ p :: M := fun y => by unfold hid at e; rw [if_pos y] at e; cases e
        rw [hid_of n1]
        rw [hid_of n1] at e
        exact z b o (fun y => n1 (by rw [y]; exact pMem)) e
      refine ⟨fun j k Hz => k + j = ys.length ∧ (∀ b o, b ≠ p → Hb b = some o → Hz b = some o) ∧ ∃ acc', Hz p = some (.lst acc') ∧ RAll Ro (hid (p :: M) Hz) acc' (((ts.take i).flatMap fun t => (bs t).map (g t)) ++ ((bs t).take j).map (g t)), ⟨ys.length, rfl, fun b o _ e => e, acc, hbp, ?_⟩, fun j k Hz hz' => ?_⟩
      · simpa using hda.up (hid_mono sab)
      · obtain ⟨hkj, sz, acc', hacc', hda'⟩ := hz'
        have gz : SqL X.K Hz a1 ys := SqL.of (hid_le _ _ (upM sz _ _ ha1))
        have s2z : Same H2 Hz := fun b o e => sz b o (ne_of_none e hp) (sab b o (sx b o e))
        cases ey : ys[j]? with
        | none =>
          have hge : ys.length ≤ j := List.getElem?_eq_none_iff.mp ey
          have ej : (bs t).take j = bs t := List.take_of_length_le (by omega)
          rw [ej] at hda'
          refine .inl ⟨⟨ys, gz, hge⟩, s2z, acc', hacc', ?_⟩
          rw [etake, List.flatMap_append]
          simpa using hda'
        | some y0 =>
          have hltj := (List.getElem?_eq_some_iff.mp ey).1
          refine .inr ⟨⟨ys, y0, gz, ey⟩, fun Hu => (∀ b o, b ≠ p → Hb b = some o → Hu b = some o) ∧ ∃ acc', Hu p = some (.lst acc') ∧ RAll Ro (hid (p :: M) Hu) acc' (((ts.take i).flatMap fun t => (bs t).map (g t)) ++ ((bs t).take (j + 1)).map (g t)), fun Hu hu => ⟨k - 1, by omega, by omega, hu⟩, fun v Hu hyl => ?_⟩
          obtain ⟨rfl, h2⟩ := hyl
          obtain ⟨ed, he1, he2⟩ := ral_get' hy (h2 ys gz)
          have Lz : Live (p :: M) Hu := fun b hb => by
            by_cases z : b = p
            · subst z; rw [hacc']; simp
            · intro q0
              rcases List.mem_cons.mp hb with y | hb
              · exact z y
              · cases q1 : Hb b with
                | none => exact ((L2'.mono sx).mono sab) b hb q1
                | some o => rw [sz b o z q1] at q0; cases q0
          refine bg_mono (hel ed v Hu (List.mem_of_getElem? he1) (fun b o nb e => sz b o nb (sb b o e)) Lz (Rm.up (upM sz) he2)) fun τ2 Hc ⟨hw2, sc, hbe⟩ => ⟨hw2, bt_nil (iteT (be_mono hbe fun u Hd ⟨sd, hu⟩ => ?_))⟩
          have scd := sc.trans sd
          refine ⟨acc', scd _ _ hacc', ?_, fun b o nb e => ?_, acc' ++ [u], upd_same, ?_⟩
          · have h4 : 100000 < sizeLine := by decide
            have e3 : ts = ts.take i ++ t :: ts.drop (i + 1) := by
              obtain ⟨hl, e⟩ := List.getElem?_eq_some_iff.mp hd1
              rw [← e, List.getElem_cons_drop, List.take_append_drop]
            have h7 : ((ts.take i).flatMap fun t => (bs t).map (g t)).length + (bs t).length ≤ (ts.flatMap fun t => (bs t).map (g t)).length := by
              have e5 : (ts.flatMap fun t => (bs t).map (g t)).length = ((ts.take i ++ t :: ts.drop (i + 1)).flatMap fun t => (bs t).map (g t)).length := congrArg (fun l => (List.flatMap (fun t => (bs t).map (g t)) l).length) e3
              rw [e5, List.flatMap_append, List.flatMap_cons, List.length_append, List.length_append, List.length_map]
              omega
            have h10 : ((bs t).take j).length ≤ j := by rw [List.length_take]; omega
            rw [ral_len hda', List.length_append, List.length_map]
            omega
          · rw [upd_ne nb]
            exact scd _ _ (sz b o nb e)
          · have eh : hid (p :: M) (upd Hd p (.lst (acc' ++ [u]))) = hid (p :: M) Hd := hid_upd_mem (List.mem_cons_self ..)
            rw [eh, List.take_add_one, he1]
            show RAll Ro (hid (p :: M) Hd) (acc' ++ [u]) (((ts.take i).flatMap fun t => (bs t).map (g t)) ++ ((bs t).take j ++ [ed]).map (g t))
            rw [List.map_append, ← List.append_assoc]
            exact ral_app (hda'.up (hid_mono scd)) (.cons hu .nil)
/-- x = .., such a comprehension, on one line -/
theorem rb_setG2 (i : Nat) {vs1 : List Nat} (bs : α → List β) (g : α → β → γ) (L : Live M H) (hN : X.N.Nodup) (hit : XG X M σ H iter Ra.lst ts) (ok : BlkOk X.N X.env.scope scope own) (hv : ∀ i ∈ vs1, i ∈ own.map (·.2)) (hz : (ts.flatMap fun t => (bs t).map (g t)).length ≤ 100000)
    (hst : ∀ p t v H1, t ∈ ts → H p = none → Same H H1 → Live (p :: M) H1 → Ra.r (hid (p :: M) H1) v t → BG X scope tg v (wipe σ (own.map (·.2))) H1 fun τ H2 => wipe τ (own.map (·.2)) = wipe σ (own.map (·.2)) ∧ Same H1 H2 ∧
      (∀ (s : Shared) (H0 : Hp) (C : Addr) (cl : List (Str × Addr)) (fp : List Addr), XG (X.blk s H0 scope (compEnvC scope cl C X.env) fp) (p :: M) τ H2 iter1 Rm.lst (bs t)) ∧
      ∀ ed w H3, ed ∈ bs t → (∀ b o, b ≠ p → H2 b = some o → H3 b = some o) → Live (p :: M) H3 → Rm.r (hid (p :: M) H3) w ed → BG X scope tg1 w (wipe τ vs1) H3 fun τ2 H4 => wipe τ2 vs1 = wipe τ vs1 ∧ Same H3 H4 ∧ BE X scope elt τ2 H4 fun u H5 => Same H4 H5 ∧ Ro.r (hid (p :: M) H5) u (g t ed))
    (q : ∀ p xs H2, Same H H2 → H p = none → H2 p = some (.lst xs) → RAll Ro (hid M H2) xs (ts.flatMap fun t => (bs t).map (g t)) → RB X rest D (σ.set i (some (.ref p))) H2)
    (hi : X.N[i]? = some x := by rfl) (hx : X.env.scope.names.lookup x = some .local := by rfl) (hsw : swapsWith (.ListComp elt [⟨tg, iter, [], 0⟩, ⟨tg1, iter1, [], 0⟩] scope pos) (some (.Name x py)) spos.line X.env = pure true := by exact sw_true rfl rfl rfl rfl)
    (hc : X.calm = true := by rfl) (hs : ∀ x, foldedSetIterable iter X.env x = pure x := by intro _; rfl) (hs1 : ∀ env x, foldedSetIterable iter1 env x = pure x := by intro _ _; rfl) : RB X (.Assign [.Name x py] (.ListComp elt [⟨tg, iter, [], 0⟩, ⟨tg1, iter1, [], 0⟩] scope pos) spos :: rest) D σ H :=
  ⟨_, pss_cons (ps_setLc2 (own := own) (vs1 := vs1) hc hN hi hx hsw (pi_list re_) ok hv (fun _ _ _ _ _ => bg_) (fun _ _ _ _ _ => bt_) (fun _ _ _ _ _ => pi_list be_) (fun _ _ _ _ _ => bg_) (fun _ _ _ _ _ => bt_) (fun _ _ _ _ _ => be_) hs hs1) rb_,
    lc_comp2G (own := own) (vs1 := vs1) (Q := fun v H1 => RB X rest D (σ.set i (some v)) H1) bs g L hit hz hst q⟩
/-- .. as a value -/
theorem xgl_comp2 {vs1 : List Nat} (bs : α → List β) (g : α → β → γ) (L : Live M H) (hN : X.N.Nodup) (hit : XG X M σ H iter Ra.lst ts) (ok : BlkOk X.N X.env.scope scope own) (hv : ∀ i ∈ vs1, i ∈ own.map (·.2)) (hz : (ts.flatMap fun t => (bs t).map (g t)).length ≤ 100000)
    (hst : ∀ p t v H1, t ∈ ts → H p = none → Same H H1 → Live (p :: M) H1 → Ra.r (hid (p :: M) H1) v t → BG X scope tg v (wipe σ (own.map (·.2))) H1 fun τ H2 => wipe τ (own.map (·.2)) = wipe σ (own.map (·.2)) ∧ Same H1 H2 ∧
      (∀ (s : Shared) (H0 : Hp) (C : Addr) (cl : List (Str × Addr)) (fp : List Addr), XG (X.blk s H0 scope (compEnvC scope cl C X.env) fp) (p :: M) τ H2 iter1 Rm.lst (bs t)) ∧
      ∀ ed w H3, ed ∈ bs t → (∀ b o, b ≠ p → H2 b = some o → H3 b = some o) → Live (p :: M) H3 → Rm.r (hid (p :: M) H3) w ed → BG X scope tg1 w (wipe τ vs1) H3 fun τ2 H4 => wipe τ2 vs1 = wipe τ vs1 ∧ Same H3 H4 ∧ BE X scope elt τ2 H4 fun u H5 => Same H4 H5 ∧ Ro.r (hid (p :: M) H5) u (g t ed))
    (hc : X.calm = true := by rfl) (hs : ∀ x, foldedSetIterable iter X.env x = pure x := by intro _; rfl) (hs1 : ∀ env x, foldedSetIterable iter1 env x = pure x := by intro _ _; rfl) : XGL X M σ H (.ListComp elt [⟨tg, iter, [], 0⟩, ⟨tg1, iter1, [], 0⟩] scope pos) Ro (ts.flatMap fun t => (bs t).map (g t)) := fun H1 s1 Q q =>
  ⟨_, pe_lc2 (own := own) (vs1 := vs1) hc hN (pi_list re_) ok hv (fun _ _ _ _ _ => bg_) (fun _ _ _ _ _ => bt_) (fun _ _ _ _ _ => pi_list be_) (fun _ _ _ _ _ => bg_) (fun _ _ _ _ _ => bt_) (fun _ _ _ _ _ => be_) hs hs1,
    lc_comp2G (own := own) (vs1 := vs1) bs g (L.mono s1) (hit.up s1) hz (fun p t v H2 ht hp s2 => hst p t v H2 ht (s1.free hp) (s1.trans s2)) (fun p xs H2 s2 hp h2 hx => q p xs H2 s2 hp h2 hx)⟩
end
end Dl

set_option Elab.async false
set_option linter.all false
set_option maxRecDepth 100000
set_option maxHeartbeats 8000000
namespace Zn
open PySem PySem.Spec PyProof.Rows L2 Dl
def top (i : Nat) : Stmt := PySem.Challenge.pw_everyzone_k11_programs_refused.main.body.getD i (.Pass ⟨0, 0, 0, 0⟩)
/-- built-in names that the module leaves alone -/
structure Nm (mg : Str → Option Value) : Prop where
  isi : mg "isinstance" = none
  int : mg "int" = none
  bool : mg "bool" = none
  str : mg "str" = none
  len : mg "len" = none
  min : mg "min" = none
  max : mg "max" = none
  rep : mg "repr" = none
  rng : mg "range" = none
  all : mg "all" = none
  lst : mg "list" = none
  tup : mg "tuple" = none
  dct : mg "dict" = none
  set : mg "set" = none
  srt : mg "sorted" = none
  sum : mg "sum" = none
  enu : mg "enumerate" = none
  rvs : mg "reversed" = none
  abs : mg "abs" = none
  zip : mg "zip" = none
  any : mg "any" = none
/-! from N1 -/
abbrev sIsName : Stmt := top 11
abbrev sIsTT : Stmt := top 12
abbrev sTimeFrom : Stmt := top 14
/-- a def of the module -/
structure Df (K : PySem.W.Frag) (mg : Str → Option Value) (x : Str) (st : Stmt) (ps : List Str) (f : Addr) (fd : FuncData) : Prop where
  F : Fun K x x st f fd
  g : mg x = some (.ref f)
  b : Binds K fd ps []
/-- a value of one of these types -/
def tys : List String := ["NoneType", "bool", "int", "str", "list", "tuple", "dict"]
structure Th (K : PySem.W.Frag) (H : Hp) (v : V) (T : String) : Prop where
  ty : ∀ H1, Same H H1 → TyX K H1 v (.type T)
  t : T ∈ tys
  i : ∀ n, v = .int n → T = "int"
  j : T = "int" → ∃ n, v = .int n
  k : ∀ x, v = .str x → T = "str"
  l : T = "str" → ∃ x, v = .str x
theorem Th.up {K : PySem.W.Frag} {H H1 : Hp} {v : V} {T : String} (h : Th K H v T) (s : Same H H1) : Th K H1 v T := ⟨fun H2 s2 => h.ty H2 (s.trans s2), h.t, h.i, h.j, h.k, h.l⟩
theorem th_int {K : PySem.W.Frag} {H : Hp} {n : Int} : Th K H (.int n) "int" := ⟨fun _ _ => .base (.int n), by decide, fun _ _ => rfl, fun _ => ⟨n, rfl⟩, fun _ z => V.noConfusion z, fun z => absurd z (by decide)⟩
theorem th_str {K : PySem.W.Frag} {H : Hp} {x : Str} : Th K H (.str x) "str" := ⟨fun _ _ => .base (.str x), by decide, fun _ z => V.noConfusion z, fun z => absurd z (by decide), fun _ _ => rfl, fun _ => ⟨x, rfl⟩⟩
theorem kt_str {T : String} (h : T ∈ tys) : kitB T "str" = some (decide (T = "str")) := by
  simp only [tys, List.mem_cons, List.not_mem_nil, or_false] at h
  rcases h with e | e | e | e | e | e | e <;> rw [e] <;> decide +kernel
section
variable {X : Cx} {M : List Addr} {σ : L2.St} {H : Hp} {a : Expr} {v : V} {pos p1 p2 : Pos}
/-- isinstance(a, T), a of the type T' -/
theorem xd_isTy {T T' : String} {r : Bool} {nm : Str} (hk : kitB T' T = some r) (hm : X.mg "isinstance" = none) (hmT : X.mg nm = none) (hvT : bootBuiltins nm = some (.type T)) (ha : XV X σ H a v) (hty : ∀ H1, Same H H1 → TyX X.K H1 v (.type T')) (hg : Gl X "isinstance" := by rfl) (hgT : Gl X nm := by rfl) (hnT : nm ≠ "__name__" := by decide) (hdT : (nm == ("__debug__" : Str)) = false := by decide)
    (he : starEach [a, .Name nm p2] X.env = (false, eval a X.env) :: starEach [.Name nm p2] X.env := by rfl) (he2 : starEach [.Name nm p2] X.env = (false, eval (.Name nm p2) X.env) :: starEach [] X.env := by rfl) (hpl : (backTo pos (starEach [.Name nm p2] X.env)).any (·.1) = false := by rfl) :
    XD X M σ H (.Call (.Name "isinstance" p1) [a, .Name nm p2] [] pos) (.bool r) := fun H1 s Q q =>
  re_B call_isi (ra_cons (ha H1 s _ fun H2 s2 => ra_1 (xv_bltn (v := .ty T) hmT hvT rfl hgT hnT hdT H2 (Same.refl _) _ fun H3 s3 =>
    ⟨v, .ty T, _, _, r, rfl, .ty T, hty H3 ((s.trans s2).trans s3), kit_ty hk, q _ H3 (s2.trans s3) (.bl _)⟩) he2) he) hm (by decide +kernel) hg (by decide) (by decide) he hpl
end
section
variable {P : Program} {w : World} {K : PySem.W.Frag} {mg : Str → Option Value} {base : Heap}
/-- a promise that no exception is wanted of holds where none may leave -/
theorem fn0 {k : Nat} {f : Addr} {fd : FuncData} {ps : List Str} {sp : Sp} (F : FnOk P w K mg base (L2.CX P w) k f fd ps sp) : FnOk P w K mg base CX0 k f fd ps (fun vs H Q _ => sp vs H Q fun _ _ _ => False) where
  len := fun vs H Q E h => F.len vs H Q _ h
  run := fun A outer s H args us vs Q E hr e0 hb r h => codeAny_mono (F.run A outer s H args us vs Q (fun _ _ _ => False) hr e0 hb r h) fun r' s' z => by
    cases r' with
    | ok fl => cases fl <;> exact z
    | error e =>
      obtain ⟨a, B, H', cls, d, _, _, _, _, _, _, _, q⟩ := z
      exact q.elim
end
/-! from N2 -/
section
variable {P : Program} {w : World} {K : PySem.W.Frag} {mg : Str → Option Value} {base : Heap} {CI CT CX' : Addr}
/-- the exception of the class C with the very value v comes out -/
def Out (E : XK) (C : Addr) (v : V) (H : Hp) : Prop := ∀ d H1, Same H H1 → H1 d = some (.xd [(("value" : Str), v)]) → E (.ref C) (some d) H1
theorem Out.up {E : XK} {C : Addr} {v : V} {H H1 : Hp} (h : Out E C v H) (s : Same H H1) : Out E C v H1 := fun d H2 s2 e => h d H2 (s.trans s2) e
theorem cdivN {m n : Int} (h : 0 < n) (h2 : n.natAbs < 2 ^ 200) : CDivW m n := wide_div h h2 (by decide) (by decide)
/-- l <= x <= h, as a value -/
theorem xd_chainV {X : Cx} {M : List Addr} {σ : L2.St} {H : Hp} {a b c : Expr} {pos : Pos} {op op' : CmpOp} {g g' : Int → Int → Bool} {l m n : Int} (ho : OpR X (compareOp op) (rI0 fun i j => .bl (g i j))) (ho' : OpR X (compareOp op') (rI0 fun i j => .bl (g' i j))) (ha : XD X M σ H a (.int l)) (hb : XD X M σ H b (.int m)) (hc : XD X M σ H c (.int n))
    (hm : lastMarks [op, op'] [b, c] = false := by with_unfolding_all rfl) : XD X M σ H (.Compare a [op, op'] [b, c] pos) (.bool (g l m && g' m n)) := fun H1 s Q q =>
  ⟨_, pe_chain ho ho' re_ re_ re_ hm, ha H1 s _ fun v H2 s2 hv => hb H2 (s.trans s2) _ fun u H3 s3 hu => ⟨l, m, dp_int hv, dp_int hu, g l m, rfl, by
    cases e : g l m with
    | false =>
      rw [e] at q
      exact iteF (q _ H3 (s2.trans s3) (.bl _))
    | true =>
      rw [e] at q
      exact iteT (hc H3 ((s.trans s2).trans s3) _ fun y H4 s4 hy => ⟨m, n, dp_int hu, dp_int hy, q _ H4 ((s2.trans s3).trans s4) (.bl _)⟩)⟩⟩
end
/-! from N4 -/
section
variable {X : Cx} {M : List Addr} {σ : L2.St} {H : Hp} {e a b : Expr} {pos p1 p2 : Pos} {k1 k2 : Bool}
theorem xd_all {bs : List Bool} (hm : X.mg "all" = none) (ha : XD X M σ H e (.list (bs.map PyData.bool))) (hc : X.calm = true := by rfl) (hg : Gl X "all" := by rfl)
    (he : starEach [e] X.env = (false, eval e X.env) :: starEach [] X.env := by rfl) (hpl : (backTo p2 (starEach [] X.env)).any (·.1) = false := by rfl) : XD X M σ H (.Call (.Name "all" p1) [e] [] p2) (.bool (bs.all id)) := fun H1 s1 Q q =>
  re_B (cr_all hc) (ra_1 (ha H1 s1 _ fun v H2 s2 hv => by
    obtain ⟨a, xs, rfl, ha, hx⟩ := dp_lst hv
    have ex := bools_v hx
    subst ex
    exact ⟨a, bs, rfl, SqL.of (hid_le _ _ ha), q _ H2 s2 (.bl _)⟩) he) hm (by decide +kernel) hg (by decide) (by decide) he hpl
theorem xd_or2 (ha : XD X M σ H a (.bool k1)) (hb : XD X M σ H b (.bool k2)) : XD X M σ H (.BoolOp .Or [a, b] pos) (.bool (k1 || k2)) := by
  cases k1 with
  | true => exact xd_orT ha
  | false => exact xd_orF ha (xd_one hb)
end
def letS : Str := "abcdefghijklmnopqrstuvwxyz"
def digS : Str := "0123456789"
def lets : List Nat := letS.cps.toList
def digs : List Nat := digS.cps.toList
def nameB (x : Str) : Bool := (decide ((1 : Int) ≤ x.length) && decide ((x.length : Int) ≤ 8)) && ((match x.cps.toList.head? with | some c => decide (c ∈ lets) | none => false) && x.cps.toList.all fun c => decide (c ∈ lets) || decide (c ∈ digs))
theorem all_map (x : List Nat) (g : Nat → Bool) : x.filterMap (fun c => some (PyData.bool (g c))) = (x.map g).map PyData.bool := by
  induction x with
  | nil => rfl
  | cons c x ih => rw [List.filterMap_cons, List.map_cons, List.map_cons, ← ih]
theorem all_id (x : List Nat) (g : Nat → Bool) : (x.map g).all id = x.all g := by rw [List.all_map]; rfl
section
variable {P : Program} {w : World} {K : PySem.W.Frag} {mg : Str → Option Value} {base : Heap} {CT : Addr}
def spName (K : PySem.W.Frag) : Sp := fun vs H Q _ => ∃ (v : V) (T : String), vs = [v] ∧ Th K H v T ∧ (∀ x, v = .str x → x.length ≤ 1000 ∧ ∀ H1, Same H H1 → Q (.bl (nameB x)) H1) ∧ (T ≠ "str" → ∀ H1, Same H H1 → Q (.bl false) H1)
theorem scIsName : FnScope ["value", "sign"] ["value"] (defScope sIsName) := ⟨rfl, rfl, rfl, by decide +kernel, rfl, by decide +kernel, by decide +kernel⟩
theorem ok_isName {f : Addr} {fd : FuncData} (T : Nm mg) (hN : ∃ t, mg "LONGEST_NAME" = some (.int 8 t)) (hL : ∃ t, mg "LETTERS" = some (.str letS t)) (hD : ∃ t, mg "DIGITS" = some (.str digS t)) (F : Df K mg "is_name" sIsName ["value"] f fd) : FnOk P w K mg base CX0 1 f fd ["value"] (spName K) := by
  obtain ⟨t1, hN⟩ := hN
  obtain ⟨t2, hL⟩ := hL
  obtain ⟨t3, hD⟩ := hD
  refine F.F.ok scIsName (fun vs H Q E h => ?_) (fun cdv A outer s H vs Q E hr h => ?_)
  · obtain ⟨v, T', rfl, _⟩ := h; rfl
  · obtain ⟨v, T', rfl, ht, q1, q2⟩ := h
    by_cases c : T' = "str"
    · obtain ⟨x, rfl⟩ := ht.l c
      obtain ⟨hz, q⟩ := q1 x rfl
      refine rb_if (k := !(decide ((1 : Int) ≤ x.length) && decide ((x.length : Int) ≤ 8))) ((xt_or2 (k1 := false) ((xt_not (xt_val (M := []) (k := true) (xd_isTy (by rw [kt_str ht.t, decide_eq_true c]) T.isi T.str (by decide +kernel) (xv_name 0 rfl) ht.ty))).to rfl) fun _ => xt_not (xt_chainI (M := []) op_le op_le xd_int (xd_lenStr T.len (xd_name 0 rfl (.str x)) (by omega)) (xv_glob (v := .int 8) hN ⟨t1, rfl⟩).int)).to (Bool.false_or _)) (fun e H1 s1 => ?_) (fun e H1 s1 => rb_nil ?_)
      · have e0 : nameB x = false := by
          unfold nameB
          cases z : (decide ((1 : Int) ≤ x.length) && decide ((x.length : Int) ≤ 8)) with
          | true => rw [z] at e; cases e
          | false => rfl
        exact rb_ret (M := []) xd_bl fun v2 H2 s2 hv2 => by rw [dp_bl hv2, ← e0]; exact q H2 (s1.trans s2)
      · have e1 : (decide ((1 : Int) ≤ x.length) && decide ((x.length : Int) ≤ 8)) = true := by simpa using e
        have hlen : 1 ≤ x.length := by
          rw [Bool.and_eq_true] at e1
          have := of_decide_eq_true e1.1
          omega
        obtain ⟨c0, cs, hcs⟩ : ∃ c0 cs, x.cps.toList = c0 :: cs := by
          cases z : x.cps.toList with
          | nil =>
            have hz0 : x.length = 0 := by show x.cps.size = 0; rw [← Array.length_toList, z]; rfl
            omega
          | cons c0 cs => exact ⟨c0, cs, rfl⟩
        refine rb_ret (M := []) (d := .bool (decide (c0 ∈ lets) && x.cps.toList.all fun c => decide (c ∈ lets) || decide (c ∈ digs))) (xd_and2 (xd_inSg (xd_ixS (c := c0) (fun _ _ => rfl) (xd_name 0 rfl (.str x)) xd_int (by omega) (by rw [hcs]; unfold atI ixN; simp)) ((xv_glob (v := .str letS) hL ⟨t2, rfl⟩).dd (.str _))) fun _ => (xd_all T.all (XL.dd ((xl_compS (own := [("sign", 1)]) (fun c => some (PyData.bool (decide (c ∈ lets) || decide (c ∈ digs)))) Live.nil scIsName.nd (xd_name 0 rfl (.str x))
          (blkOk_by (own := [("sign", 1)]) (N := ["value", "sign"]) (sc := defScope sIsName) (by decide +kernel)) (by omega) (fun p c H2 hc hp s2 Lp => ?comp)).to (all_map _ _)) Live.nil)).to (by rw [all_id])) fun v3 H3 s3 hv3 => ?_
        case comp =>
          intro s0 H0 C0 cl fp
          refine rg_name 1 ⟨rfl, bt_nil ⟨Same.refl _, .inl ⟨rfl, _, rfl, fun s0 H0 C0 cl fp => ?_⟩⟩⟩ scIsName.nd
          exact XD.go (xd_or2 (xd_inSg (xd_name 1 rfl (.str _)) ((xv_glob (v := .str letS) hL ⟨t2, rfl⟩).dd (.str _))) (xd_inSg (xd_name 1 rfl (.str _)) ((xv_glob (v := .str digS) hD ⟨t3, rfl⟩).dd (.str _)))) fun v H4 s4 hv4 => ⟨s4, hv4⟩
        have e2 : nameB x = (decide (c0 ∈ lets) && x.cps.toList.all fun c => decide (c ∈ lets) || decide (c ∈ digs)) := by
          unfold nameB
          rw [e1, hcs]
          rfl
        rw [dp_bl hv3, ← e2]
        exact q H3 (s1.trans s3)
    · refine rb_ifT ((xt_or2 (k1 := true) (k2 := false) ((xt_not (xt_val (M := []) (k := false) (xd_isTy (by rw [kt_str ht.t, decide_eq_false c]) T.isi T.str (by decide +kernel) (xv_name 0 rfl) ht.ty))).to rfl) fun z => absurd z (by decide)).to rfl) fun H1 s1 => ?_
      exact rb_ret (M := []) xd_bl fun v2 H2 s2 hv2 => by rw [dp_bl hv2]; exact q2 c H2 (s1.trans s2)
end
/-! from N5 -/
def num2 (a b : Nat) : Int := 10 * ((a : Int) - 48) + ((b : Int) - 48)
/-- the time of a text HH:MM -/
def ttV (x : Str) : Option Int := match x.cps.toList with
  | [a, b, c, d, e] => if c = 58 ∧ (a ∈ digs ∧ b ∈ digs ∧ d ∈ digs ∧ e ∈ digs) ∧ (num2 a b < 24 ∧ num2 d e < 60) then some (num2 a b * 60 + num2 d e) else none
  | _ => none
theorem dig_at {a : Nat} (h : a ∈ digs) : ∃ i : Fin 10, a = 48 + i.val := by
  have e : digs = [48, 49, 50, 51, 52, 53, 54, 55, 56, 57] := by decide +kernel
  rw [e] at h
  simp only [List.mem_cons, List.not_mem_nil, or_false] at h
  rcases h with h | h | h | h | h | h | h | h | h | h <;> rw [h]
  · exact ⟨0, rfl⟩
  · exact ⟨1, rfl⟩
  · exact ⟨2, rfl⟩
  · exact ⟨3, rfl⟩
  · exact ⟨4, rfl⟩
  · exact ⟨5, rfl⟩
  · exact ⟨6, rfl⟩
  · exact ⟨7, rfl⟩
  · exact ⟨8, rfl⟩
  · exact ⟨9, rfl⟩
theorem int_two {a b : Nat} (ha : a ∈ digs) (hb : b ∈ digs) : PySem.intText? ⟨#[a, b]⟩ = some (num2 a b) := by
  obtain ⟨i, rfl⟩ := dig_at ha
  obtain ⟨j, rfl⟩ := dig_at hb
  rw [two_digits i j]
  unfold num2
  congr 1
  omega
theorem five {x : Str} (h : x.length = 5) : ∃ a b c d e, x = ⟨#[a, b, c, d, e]⟩ := by
  obtain ⟨arr⟩ := x
  obtain ⟨l⟩ := arr
  have hl : l.length = 5 := h
  match l, hl with
  | [a, b, c, d, e], _ => exact ⟨a, b, c, d, e, rfl⟩
theorem cut_lo {a b c d e : Nat} : cutS ⟨#[a, b, c, d, e]⟩ none (some 2) = ⟨#[a, b]⟩ := rfl
theorem cut_hi {a b c d e : Nat} : cutS ⟨#[a, b, c, d, e]⟩ (some 3) none = ⟨#[d, e]⟩ := rfl
section
variable {P : Program} {w : World} {K : PySem.W.Frag} {mg : Str → Option Value} {base : Heap} {CX' : Addr}
def spTT (K : PySem.W.Frag) : Sp := fun vs H Q _ => ∃ (v : V) (T : String), vs = [v] ∧ Th K H v T ∧ (∀ x, v = .str x → x.length ≤ 1000 ∧ ∀ H1, Same H H1 → Q (.bl (ttV x).isSome) H1) ∧ (T ≠ "str" → ∀ H1, Same H H1 → Q (.bl false) H1)
theorem scTT : FnScope ["value", "sign"] ["value"] (defScope sIsTT) := ⟨rfl, rfl, rfl, by decide +kernel, rfl, by decide +kernel, by decide +kernel⟩
theorem xt_or3T1 {X : Cx} {σ : L2.St} {H : Hp} {a b c : Expr} {pos : Pos} (ha : XT X σ H a true) : XT X σ H (.BoolOp .Or [a, b, c] pos) true := (xw_orT ha).t
theorem xt_or3 {X : Cx} {σ : L2.St} {H : Hp} {a b c : Expr} {pos : Pos} {k1 k2 k3 : Bool} (ha : XT X σ H a k1) (hb : k1 = false → XT X σ H b k2) (hc : k1 = false → k2 = false → XT X σ H c k3) : XT X σ H (.BoolOp .Or [a, b, c] pos) (k1 || (k2 || k3)) := by
  cases k1 with
  | true => exact (xw_orT ha).t
  | false =>
    cases k2 with
    | true => exact (xw_orF ha (xw_orT (hb rfl))).t
    | false => exact (xw_orF ha (xw_orF (hb rfl) (xw_or1 (hc rfl rfl)))).t
theorem ok_isTT {f : Addr} {fd : FuncData} (T : Nm mg) (hD : ∃ t, mg "DIGITS" = some (.str digS t)) (hH : ∃ t, mg "DAY_HOURS" = some (.int 24 t)) (hM : ∃ t, mg "HOUR_LENGTH" = some (.int 60 t)) (F : Df K mg "is_time_text" sIsTT ["value"] f fd) : FnOk P w K mg base CX0 1 f fd ["value"] (spTT K) := by
  obtain ⟨t1, hD⟩ := hD
  obtain ⟨t2, hH⟩ := hH
  obtain ⟨t3, hM⟩ := hM
  refine F.F.ok scTT (fun vs H Q E h => ?_) (fun cdv A outer s H vs Q E hr h => ?_)
  · obtain ⟨v, T', rfl, _⟩ := h; rfl
  · obtain ⟨v, T', rfl, ht, q1, q2⟩ := h
    by_cases c : T' = "str"
    · obtain ⟨x, rfl⟩ := ht.l c
      obtain ⟨hz, q⟩ := q1 x rfl
      by_cases h5 : x.length = 5
      · obtain ⟨a, b, m, d, e, rfl⟩ := five h5
        refine rb_if (k := !decide (m = 58)) ((xt_or3 (k1 := false) (k2 := false) ((xt_not (xt_val (M := []) (k := true) (xd_isTy (by rw [kt_str ht.t, decide_eq_true c]) T.isi T.str (by decide +kernel) (xv_name 0 rfl) ht.ty))).to rfl) (fun _ => (xt_neI (M := []) (xd_lenStr T.len (xd_name 0 rfl (.str _)) (by omega)) xd_int).to rfl) fun _ _ => xt_neS (M := []) (x := sg m) (y := ":") (xd_ixS (c := m) (fun _ _ => rfl) (xd_name 0 rfl (.str _)) xd_int (by omega) rfl) xd_str).to ?_) (fun ek H1 s1 => ?_) (fun ek H1 s1 => rb_nil ?_)
        · show (!decide (sg m = ":")) = !decide (m = 58)
          congr 1
          by_cases z : m = 58
          · subst z; decide +kernel
          · rw [decide_eq_false z, decide_eq_false fun y => z (by
              have y2 : sg m = sg 58 := y
              unfold sg at y2
              injection y2 with y3
              simpa using y3)]
        · have e0 : (ttV ⟨#[a, b, m, d, e]⟩).isSome = false := by
            have z : ¬ m = 58 := by simpa using ek
            show (if m = 58 ∧ _ ∧ _ then some _ else none).isSome = false
            rw [if_neg fun y => z y.1]
            rfl
          exact rb_ret (M := []) xd_bl fun v2 H2 s2 hv2 => by rw [dp_bl hv2, ← e0]; exact q H2 (s1.trans s2)
        · have em : m = 58 := by simpa using ek
          have hcut : ∀ {Hx : Hp} {p1 p2 p3 p4 p5 p6 p7 p8 p9 : Pos} {j1 j2 : Nat}, XD (cxOf CX0 P w K mg base ["value", "sign"] "is_time_text" (defScope sIsTT) f cdv A outer s H E).nox [] [some (.str ⟨#[a, b, m, d, e]⟩), none] Hx (.BinOp (.Subscript (.Name "value" p1) (.Slice none (some (.Constant (.int 2) j1 p2)) none p3) p4) .Add (.Subscript (.Name "value" p5) (.Slice (some (.Constant (.int 3) j2 p6)) none none p7) p8) p9) (.str ⟨#[a, b, d, e]⟩) :=
            (xd_addS (xd_cutS (xd_name 0 rfl (.str ⟨#[a, b, m, d, e]⟩)) xo_none (xo_some (M := []) xd_int) (by show 5 ≤ 100000; decide)) (xd_cutS (xd_name 0 rfl (.str ⟨#[a, b, m, d, e]⟩)) (xo_some (M := []) xd_int) xo_none (by show 5 ≤ 100000; decide)) (by show 2 + 2 ≤ 100000; decide)).to rfl
          refine rb_if (k := !([a, b, d, e].all fun c => decide (c ∈ digs))) ((xt_not (xt_val (M := []) (k := [a, b, d, e].all fun c => decide (c ∈ digs)) ((xd_all T.all (XL.dd ((xl_compS (own := [("sign", 1)]) (x := ⟨#[a, b, d, e]⟩) (fun c => some (PyData.bool (decide (c ∈ digs)))) Live.nil scTT.nd hcut
            (blkOk_by (own := [("sign", 1)]) (N := ["value", "sign"]) (sc := defScope sIsTT) (by decide +kernel)) (by show 4 ≤ 100000; decide) (fun p c H2 hc hp s2 Lp => ?comp)).to (all_map _ _)) Live.nil)).to (by rw [all_id])))).to rfl) (fun ed H2 s2 => ?_) (fun ed H2 s2 => rb_nil ?_)
          case comp =>
            intro s0 H0 C0 cl fp
            refine rg_name 1 ⟨rfl, bt_nil ⟨Same.refl _, .inl ⟨rfl, _, rfl, fun s0 H0 C0 cl fp => ?_⟩⟩⟩ scTT.nd
            exact XD.go (xd_inSg (xd_name 1 rfl (.str _)) ((xv_glob (v := .str digS) hD ⟨t1, rfl⟩).dd (.str _))) fun v H4 s4 hv4 => ⟨s4, hv4⟩
          · have e0 : (ttV ⟨#[a, b, m, d, e]⟩).isSome = false := by
              show (if m = 58 ∧ (a ∈ digs ∧ b ∈ digs ∧ d ∈ digs ∧ e ∈ digs) ∧ _ then some _ else none).isSome = false
              rw [if_neg fun y => ?_]
              · rfl
              · obtain ⟨_, ⟨y1, y2, y3, y4⟩, _⟩ := y
                simp [y1, y2, y3, y4] at ed
            exact rb_ret (M := []) xd_bl fun v2 H3 s3 hv3 => by rw [dp_bl hv3, ← e0]; exact q H3 ((s1.trans s2).trans s3)
          · have dg : a ∈ digs ∧ b ∈ digs ∧ d ∈ digs ∧ e ∈ digs := by simpa using ed
            obtain ⟨da, db, dd', de⟩ := dg
            refine rb_ret (M := []) (xd_and2 (xd_cmpI op_lt (xd_intS T.int (xd_cutS (xd_name 0 rfl (.str _)) xo_none (xo_some (M := []) xd_int) (by omega)) (by rw [cut_lo]; exact int_two da db) (by show 2 ≤ 640; decide)) (xv_glob (v := .int 24) hH ⟨t2, rfl⟩).int) fun _ => xd_cmpI op_lt (xd_intS T.int (xd_cutS (xd_name 0 rfl (.str _)) (xo_some (M := []) xd_int) xo_none (by omega)) (by rw [cut_hi]; exact int_two dd' de) (by show 2 ≤ 640; decide)) (xv_glob (v := .int 60) hM ⟨t3, rfl⟩).int) fun v3 H3 s3 hv3 => ?_
            have e0 : (ttV ⟨#[a, b, m, d, e]⟩).isSome = (decide (num2 a b < 24) && decide (num2 d e < 60)) := by
              show (if m = 58 ∧ (a ∈ digs ∧ b ∈ digs ∧ d ∈ digs ∧ e ∈ digs) ∧ (num2 a b < 24 ∧ num2 d e < 60) then some _ else none).isSome = _
              by_cases z : num2 a b < 24 ∧ num2 d e < 60
              · rw [if_pos ⟨em, ⟨da, db, dd', de⟩, z⟩, decide_eq_true z.1, decide_eq_true z.2]; rfl
              · rw [if_neg fun y => z y.2.2]
                by_cases z1 : num2 a b < 24
                · rw [decide_eq_true z1, decide_eq_false fun y => z ⟨z1, y⟩]; rfl
                · rw [decide_eq_false z1]; rfl
            rw [dp_bl hv3, ← e0]
            exact q H3 ((s1.trans s2).trans s3)
      · have e0 : (ttV x).isSome = false := by
          unfold ttV
          split
          · rename_i a b m d e hx
            exfalso
            refine h5 ?_
            show x.cps.size = 5
            rw [← Array.length_toList, hx]; rfl
          · rfl
        refine rb_ifT ((xt_or3 (k1 := false) (k2 := true) (k3 := true) ((xt_not (xt_val (M := []) (k := true) (xd_isTy (by rw [kt_str ht.t, decide_eq_true c]) T.isi T.str (by decide +kernel) (xv_name 0 rfl) ht.ty))).to rfl) (fun _ => (xt_neI (M := []) (xd_lenStr T.len (xd_name 0 rfl (.str _)) (by omega)) xd_int).to (by rw [decide_eq_false (by omega)]; rfl)) fun _ z => absurd z (by decide)).to rfl) fun H1 s1 => ?_
        exact rb_ret (M := []) xd_bl fun v2 H2 s2 hv2 => by rw [dp_bl hv2, ← e0]; exact q H2 (s1.trans s2)
    · refine rb_ifT ((xt_or3 (k1 := true) (k2 := false) (k3 := false) ((xt_not (xt_val (M := []) (k := false) (xd_isTy (by rw [kt_str ht.t, decide_eq_false c]) T.isi T.str (by decide +kernel) (xv_name 0 rfl) ht.ty))).to rfl) (fun z => absurd z (by decide)) fun z _ => absurd z (by decide)).to rfl) fun H1 s1 => ?_
      exact rb_ret (M := []) xd_bl fun v2 H2 s2 hv2 => by rw [dp_bl hv2]; exact q2 c H2 (s1.trans s2)
end
/-! from N8 -/
theorem tt_some {x : Str} {t : Int} (h : ttV x = some t) : ∃ a b d e : Nat, x = ⟨#[a, b, 58, d, e]⟩ ∧ a ∈ digs ∧ b ∈ digs ∧ d ∈ digs ∧ e ∈ digs ∧ num2 a b < 24 ∧ num2 d e < 60 ∧ t = num2 a b * 60 + num2 d e := by
  unfold ttV at h
  split at h
  · rename_i a b c d e hx
    split at h
    · rename_i z
      obtain ⟨rfl, ⟨h1, h2, h3, h4⟩, h5, h6⟩ := z
      refine ⟨a, b, d, e, ?_, h1, h2, h3, h4, h5, h6, (Option.some.inj h).symm⟩
      obtain ⟨arr⟩ := x
      obtain ⟨l⟩ := arr
      have hx' : l = [a, b, 58, d, e] := hx
      rw [hx']
    · cases h
  · cases h
section
variable {P : Program} {w : World} {K : PySem.W.Frag} {mg : Str → Option Value} {base : Heap} {C : Addr}
def spTF (K : PySem.W.Frag) (C : Addr) : Sp := fun vs H Q E => ∃ (v : V) (T : String), vs = [v] ∧ Th K H v T ∧ (∀ x, v = .str x → x.length ≤ 1000) ∧ (∀ x t, v = .str x → ttV x = some t → ∀ H1, Same H H1 → Q (.int t) H1) ∧ ((∀ x, v = .str x → ttV x = none) → Out E C v H)
theorem scTF : FnScope ["text"] ["text"] (defScope sTimeFrom) := ⟨rfl, rfl, rfl, by decide +kernel, rfl, by decide +kernel, by decide +kernel⟩
theorem ok_tf {f fI fX : Addr} {fd fdI fdX : FuncData} (T : Nm mg) (hM : ∃ t, mg "HOUR_LENGTH" = some (.int 60 t)) (Y : XCls P w K mg base "InvalidText" "value" C fX fdX) (GI : FnOk P w K mg base CX0 1 fI fdI ["value"] (spTT K)) (FI : Df K mg "is_time_text" sIsTT ["value"] fI fdI) (F : Df K mg "time_from" sTimeFrom ["text"] f fd) : FnOk P w K mg base (L2.CX P w) 3 f fd ["text"] (spTF K C) := by
  obtain ⟨t3, hM⟩ := hM
  refine F.F.okX scTF (fun vs H Q E h => ?_) (fun cdv A outer s H vs Q E hr h => ?_)
  · obtain ⟨v, T', rfl, _⟩ := h; rfl
  · obtain ⟨v, T', rfl, ht, hz, q1, q2⟩ := h
    have hr1 := hr.mono (show 1 ≤ 2 by decide)
    have tk : Takes (cxOf (L2.CX P w) P w K mg base ["text"] "time_from" (defScope sTimeFrom) f cdv A outer s H E) (fun cls d _ H => E cls d H) := takes_of rfl rfl rfl rfl
    show RB (cxOf (L2.CX P w) P w K mg base ["text"] "time_from" (defScope sTimeFrom) f cdv A outer s H E) (defBody sTimeFrom) _ _ H
    refine rb_ifR ⟨_, pt_not rt_, _, pt_val re_ (by intro _; rfl), re_call GI hr1 FI.g FI.F.kp FI.b (ra_1 (XV.go (xv_name 0 rfl) fun H1 s1 => ⟨v, T', rfl, ht.up s1, fun x hx => ⟨hz x hx, fun H2 s2 => ⟨_, rfl, ?_⟩⟩, fun c H2 s2 => ⟨false, rfl, iteT (rb_raise Y hr tk (XV.go (xv_name 0 rfl) fun H3 s3 d H4 s4 e => q2 (fun x hx => absurd (ht.k x hx) c) d H4 (((s1.trans s2).trans s3).trans s4) e))⟩⟩))⟩
    subst hx
    cases e : ttV x with
    | none => exact iteT (rb_raise Y hr tk (XV.go (xv_name 0 rfl) fun H3 s3 d H4 s4 e2 => q2 (fun y hy => by cases hy; exact e) d H4 (((s1.trans s2).trans s3).trans s4) e2))
    | some t =>
      refine iteF (rb_nil ?_)
      obtain ⟨a, b, d, e', rfl, h1, h2, h3, h4, h5, h6, rfl⟩ := tt_some e
      refine rb_ret (M := []) (xd_add (xd_mul (xd_intS T.int (xd_cutS (xd_name 0 rfl (.str _)) xo_none (xo_some (M := []) xd_int) (by show 5 ≤ 100000; decide)) (by rw [cut_lo]; exact int_two h1 h2) (by show 2 ≤ 640; decide)) (xv_glob (v := .int 60) hM ⟨t3, rfl⟩).int (.inr (by decide))) (xd_intS T.int (xd_cutS (xd_name 0 rfl (.str _)) (xo_some (M := []) xd_int) xo_none (by show 5 ≤ 100000; decide)) (by rw [cut_hi]; exact int_two h3 h4) (by show 2 ≤ 640; decide))) fun v3 H3 s3 hv3 => ?_
      rw [dp_int hv3]
      exact q1 _ _ rfl e H3 ((s1.trans s2).trans s3)
end
/-! from K8C -/
section
variable {X : Cx} {M : List Addr} {σ : L2.St} {H H' : Hp} {e a b c o : Expr} {d d1 d2 : PyData} {ds ds2 : List PyData} {v : V} {pos p1 p2 p3 tpos : Pos} {D : Ends} {rest : List Stmt}
/-- for i, x in enumerate(e): .. -/
theorem rb_enum {elts : List Expr} {kk : Nat} {body : List Stmt} (hm : X.mg "enumerate" = none) (hit : XD X M σ H e (.list ds))
    (h : ∀ H1, Same H H1 → ∃ Pv : Nat → L2.St → Hp → Prop, Pv 0 σ H1 ∧ (∀ k σ' H', Pv k σ' H' → Same (hid M H1) (hid M H')) ∧
      (∀ k d, ds[k]? = some d → ∀ σ' H' T x, Pv k σ' H' → H' T = none → Dq X.K (hid M H') x d → RG X (.Tuple elts kk tpos) (.ref T) σ' (upd H' T (.tup [.int (k : Nat), x])) fun σ2 H2 => RB X body { D with nx := Pv (k + 1), ct := Pv (k + 1), bk := RB X rest D } σ2 H2) ∧ ∀ σ' H', Pv ds.length σ' H' → RB X rest D σ' H')
    (hg : Gl X "enumerate" := by rfl) (he : starEach [e] X.env = [(false, eval e X.env)] := by rfl) (hp : PassesOwn (model X.prog X.w) X.A X.env X.xe := by exact PassesOwn.never) (hc : X.calm = true := by rfl) (hs : ∀ x, foldedSetIterable (.Call (.Name "enumerate" p1) [e] [] p2) X.env x = pure x := by intro _; rfl) :
    RB X (.For (.Tuple elts kk tpos) (.Call (.Name "enumerate" p1) [e] [] p2) body [] pos :: rest) D σ H :=
  ⟨_, pss_cons (ps_for hp hc (pi_enum hg hm ra_ he) rg_ rb_ hs) rb_, ra_1 (hit H (Same.refl H) _ fun v H1 s1 hv => by
    obtain ⟨a, xs, rfl, ha, hx⟩ := dp_lst hv
    obtain ⟨Pv, h0, hk, hst, hd⟩ := h H1 s1
    have hlen := dpa_len hx
    refine ⟨a, xs, rfl, SqL.of (hid_le _ _ ha), fun i m σ' H' => m + i = xs.length ∧ Pv i σ' H', ⟨xs.length, rfl, h0⟩, fun i m σ' H' w => ?_⟩
    obtain ⟨hmi, hp⟩ := w
    have here : SqL X.K H' a xs := SqL.of (hid_le _ _ (hk i σ' H' hp _ _ ha))
    cases ex : xs[i]? with
    | none =>
      have hge : xs.length ≤ i := List.getElem?_eq_none_iff.mp ex
      have ei : i = ds.length := by omega
      subst ei
      exact .inl ⟨⟨xs, here, hge⟩, hd σ' H' hp⟩
    | some x0 =>
      have hlt := (List.getElem?_eq_some_iff.mp ex).1
      refine .inr ⟨⟨xs, x0, here, ex⟩, Pv (i + 1), fun σ2 H2 h2 => ⟨m - 1, by omega, by omega, h2⟩, fun v H2 hy => ?_⟩
      obtain ⟨T, x, rfl, hT, rfl, hx0⟩ := hy
      obtain ⟨d, hd1, hd2⟩ := dpa_get' hx (hx0 xs here)
      exact hst i d hd1 σ' H' T x hp hT (hd2.up (hk i σ' H' hp))) he⟩
/-- e is None -/
def isN : PyData → Bool
  | .none => true
  | _ => false
theorem dec_non {K : PySem.W.Frag} {H : Hp} {v : V} {d : PyData} (h : Dq K H v d) : decide (v = V.non) = isN d := by
  cases h <;> first | exact decide_eq_true rfl | exact decide_eq_false (fun z => V.noConfusion z)
theorem xd_isNone {j} (ha : XD X M σ H a d) (hm : behindInMarks .Is (.Constant .none j p1) = false := by rfl) : XD X M σ H (.Compare a [.Is] [.Constant .none j p1] pos) (.bool (isN d)) :=
  xd_cmp op_isN ha xd_non (fun H1 v w s hv hw Q q => ⟨dp_non hw, by rw [dec_non hv]; exact q _ H1 (Same.refl _) (.bl _)⟩) hm
theorem xt_isNone {j} (ha : XD X M σ H a d) (hm : behindInMarks .Is (.Constant .none j p1) = false := by rfl) : XT X σ H (.Compare a [.Is] [.Constant .none j p1] pos) (isN d) :=
  xt_cmp op_isN ha (xd_non (M := M)) (fun H1 v w s hv hw Q q => ⟨dp_non hw, by rw [dec_non hv]; exact q H1 (Same.refl _)⟩) hm
/-- the first number below n with p -/
def first (p : Nat → Bool) : Nat → Option Nat
  | 0 => none
  | n + 1 => match first p n with
    | some i => some i
    | none => if p n = true then some n else none
end
/-! from B1 -/
/-- a tuple or a list -/
def sqD (k : Bool) (ds : List PyData) : PyData := if k then .tuple ds else .list ds
section
variable {X : Cx} {M : List Addr} {σ : L2.St} {H H' : Hp} {e a b c o i elt tg iter value : Expr} {es ifs tgs : List Expr} {scope : Scope} {own : List (Str × Nat)} {d d1 d2 : PyData} {ds ds2 : List PyData} {v : V} {pos p1 p2 p3 pos' tpos : Pos} {D : Ends} {rest : List Stmt} {k : Bool} {Q : VK} {x : Str}
theorem rb_enumQ {elts : List Expr} {kk : Nat} {body : List Stmt} (hm : X.mg "enumerate" = none) (hit : XD X M σ H e (sqD k ds))
    (h : ∀ H1, Same H H1 → ∃ Pv : Nat → L2.St → Hp → Prop, Pv 0 σ H1 ∧ (∀ k σ' H', Pv k σ' H' → Same (hid M H1) (hid M H')) ∧
      (∀ k d, ds[k]? = some d → ∀ σ' H' T x, Pv k σ' H' → H' T = none → Dq X.K (hid M H') x d → RG X (.Tuple elts kk tpos) (.ref T) σ' (upd H' T (.tup [.int (k : Nat), x])) fun σ2 H2 => RB X body { D with nx := Pv (k + 1), ct := Pv (k + 1), bk := RB X rest D } σ2 H2) ∧ ∀ σ' H', Pv ds.length σ' H' → RB X rest D σ' H')
    (hg : Gl X "enumerate" := by rfl) (he : starEach [e] X.env = [(false, eval e X.env)] := by rfl) (hp : PassesOwn (model X.prog X.w) X.A X.env X.xe := by exact PassesOwn.never) (hc : X.calm = true := by rfl) (hs : ∀ x, foldedSetIterable (.Call (.Name "enumerate" p1) [e] [] p2) X.env x = pure x := by intro _; rfl) :
    RB X (.For (.Tuple elts kk tpos) (.Call (.Name "enumerate" p1) [e] [] p2) body [] pos :: rest) D σ H := by
  cases k with
  | false => exact rb_enum hm hit h hg he hp hc hs
  | true =>
    exact ⟨_, pss_cons (ps_for hp hc (pi_enumT hg hm ra_ he) rg_ rb_ hs) rb_, ra_1 (hit H (Same.refl H) _ fun v H1 s1 hv => by
      obtain ⟨a, xs, rfl, ha, hx⟩ := dp_tup hv
      obtain ⟨Pv, h0, hk, hst, hd⟩ := h H1 s1
      have hlen := dpa_len hx
      refine ⟨a, xs, rfl, same_seqT hid_le ha, fun i m σ' H' => m + i = xs.length ∧ Pv i σ' H', ⟨xs.length, rfl, h0⟩, fun i m σ' H' w => ?_⟩
      obtain ⟨hmi, hp⟩ := w
      have here : SqT X.K H' a xs := same_seqT hid_le (same_seqT (hk i σ' H' hp) ha)
      cases ex : xs[i]? with
      | none =>
        have hge : xs.length ≤ i := List.getElem?_eq_none_iff.mp ex
        have ei : i = ds.length := by omega
        subst ei
        exact .inl ⟨⟨xs, here, hge⟩, hd σ' H' hp⟩
      | some x0 =>
        have hlt := (List.getElem?_eq_some_iff.mp ex).1
        refine .inr ⟨⟨xs, x0, here, ex⟩, Pv (i + 1), fun σ2 H2 h2 => ⟨m - 1, by omega, by omega, h2⟩, fun v H2 hy => ?_⟩
        obtain ⟨T, x, rfl, hT, rfl, hx0⟩ := hy
        obtain ⟨d, hd1, hd2⟩ := dpa_get' hx (hx0 xs here)
        exact hst i d hd1 σ' H' T x hp hT (hd2.up (hk i σ' H' hp))) he⟩
def dmap (ks : List Str) (f : Str → V) : List (Key × V) := ks.map fun s => (.inr s, f s)
theorem val_dmap {ks : List Str} {f : Str → V} {x : Str} : valV (dmap ks f) (.inr x) = if x ∈ ks then some (f x) else none := by
  induction ks with
  | nil => rfl
  | cons y t ih =>
    by_cases e : y = x
    · subst e
      rw [if_pos (List.mem_cons_self ..)]
      exact valV_pos rfl
    · have h1 : valV (dmap (y :: t) f) (.inr x) = valV (dmap t f) (.inr x) := valV_neg fun z => e (Sum.inr.inj z)
      rw [h1, ih]
      by_cases m : x ∈ t
      · rw [if_pos m, if_pos (List.mem_cons_of_mem _ m)]
      · rw [if_neg m, if_neg fun z => (List.mem_cons.mp z).elim (fun q => e q.symm) m]
theorem dmap_len {ks : List Str} {f : Str → V} : (dmap ks f).length = ks.length := List.length_map ..
theorem dmap_up {ks : List Str} {f : Str → V} {x : Str} {v : V} (h : x ∉ ks) : dmap ks (Bf.up f x v) = dmap ks f := by
  refine List.map_congr_left fun s hs => ?_
  have n : s ≠ x := fun e => h (by rw [← e]; exact hs)
  show ((Sum.inr s : Key), Bf.up f x v s) = _
  rw [Bf.up_ne n]
theorem put_dmap {ks : List Str} {f : Str → V} {x : Str} {v : V} : putK (dmap ks f) (.inr x) v = dmap (Bf.ins ks x) (Bf.up f x v) := by
  have e1 : ((dmap ks f).any fun kv => decide (kv.1 = (Sum.inr x : Key))) = decide (x ∈ ks) := by
    rw [valV_any, val_dmap]
    by_cases m : x ∈ ks
    · rw [if_pos m, decide_eq_true m]; rfl
    · rw [if_neg m, decide_eq_false m]; rfl
  unfold putK Bf.ins
  rw [e1]
  by_cases m : x ∈ ks
  · rw [if_pos (decide_eq_true m), if_pos m]
    unfold dmap
    rw [List.map_map]
    refine List.map_congr_left fun s hs => ?_
    show (if (Sum.inr s : Key) = Sum.inr x then ((Sum.inr s : Key), v) else (Sum.inr s, f s)) = (Sum.inr s, Bf.up f x v s)
    by_cases e : s = x
    · rw [if_pos (by rw [e]), e, Bf.up_same]
    · rw [if_neg fun z => e (Sum.inr.inj z), Bf.up_ne e]
  · rw [if_neg (by simpa using m), if_neg m]
    have e2 : dmap (ks ++ [x]) (Bf.up f x v) = dmap ks (Bf.up f x v) ++ [(.inr x, Bf.up f x v x)] := by unfold dmap; rw [List.map_append]; rfl
    rw [e2, dmap_up m, Bf.up_same]
/-- the dict at a -/
def DM (H : Hp) (a : Addr) (ks : List Str) (f : Str → V) : Prop := H a = some (.dK (dmap ks f))
section
variable {W : Addr} {ks : List Str} {f : Str → V}
theorem DM.up (h : DM H W ks f) (s : Same H H') : DM H' W ks f := s _ _ h
theorem DM.get (h : DM H W ks f) (hx : x ∈ ks) : DGet H W (.str x) (some (f x)) := by
  have := DGet.k (k := .inr x) h
  rw [val_dmap, if_pos hx] at this
  exact this
theorem DM.gets (h : DM H W ks f) : DGet H W (.str x) (if x ∈ ks then some (f x) else none) := by
  have := DGet.k (k := .inr x) h
  rw [val_dmap] at this
  exact this
theorem xv_dget (hu : X.A.units + 1 < cLine) (ho : XV X σ H o (.ref W)) (hk : XD X M σ H i (.str x)) (hW : DM H W ks f) (hx : x ∈ ks) (hs : NoSl i := by exact fun _ _ => rfl) : XV X σ H (.Subscript o i pos) (f x) := fun H1 s Q q =>
  ⟨_, pe_dget hu re_ re_ hs, ho H1 s _ fun H2 s2 => hk H2 (s.trans s2) _ fun y H3 s3 hy => by
    rw [dp_str hy]
    exact ⟨W, _, rfl, ((hW.up s).up (s2.trans s3)).get hx, q H3 (s2.trans s3)⟩⟩
theorem xd_din (hu : X.A.units + 1 < cLine) (hk : XD X M σ H i (.str x)) (ho : XV X σ H o (.ref W)) (hW : DM H W ks f) (hm : behindInMarks .In o = false := by rfl) : XD X M σ H (.Compare i [.In] [o] pos) (.bool (decide (x ∈ ks))) := fun H1 s Q q =>
  ⟨_, pe_cmp (pc_din hu re_ re_) hm, hk H1 s _ fun y H2 s2 hy => ho H2 (s.trans s2) _ fun H3 s3 => by
    rw [dp_str hy]
    refine ⟨W, _, rfl, ((hW.up s).up (s2.trans s3)).gets, ?_⟩
    by_cases m : x ∈ ks
    · rw [decide_eq_true m] at q
      rw [if_pos m]
      exact q _ H3 (s2.trans s3) (.bl _)
    · rw [decide_eq_false m] at q
      rw [if_neg m]
      exact q _ H3 (s2.trans s3) (.bl _)⟩
theorem xd_dnin (hu : X.A.units + 1 < cLine) (hk : XD X M σ H i (.str x)) (ho : XV X σ H o (.ref W)) (hW : DM H W ks f) (hm : behindInMarks .NotIn o = false := by rfl) : XD X M σ H (.Compare i [.NotIn] [o] pos) (.bool (!decide (x ∈ ks))) := fun H1 s Q q =>
  ⟨_, pe_cmp (pc_dnotin hu re_ re_) hm, hk H1 s _ fun y H2 s2 hy => ho H2 (s.trans s2) _ fun H3 s3 => by
    rw [dp_str hy]
    refine ⟨W, _, rfl, ((hW.up s).up (s2.trans s3)).gets, ?_⟩
    by_cases m : x ∈ ks
    · rw [decide_eq_true m] at q
      rw [if_pos m]
      exact q _ H3 (s2.trans s3) (.bl _)
    · rw [decide_eq_false m] at q
      rw [if_neg m]
      exact q _ H3 (s2.trans s3) (.bl _)⟩
/-- d[k] = e -/
theorem rb_dput (hu : X.A.units + 1 < cLine) (he : XD X M σ H value d) (ho : XV X σ H o (.ref W)) (hk : XD X M σ H i (.str x)) (hW : DM H W ks f) (hz : ks.length < 100000)
    (q : ∀ v H1, Same H H1 → Dq X.K (hid M H1) v d → RB X rest D σ (upd H1 W (.dK (dmap (Bf.ins ks x) (Bf.up f x v))))) (hs : swapsWith value (some (.Subscript o i pos')) pos.line X.env = pure false := by rfl) :
    RB X (.Assign [.Subscript o i pos'] value pos :: rest) D σ H :=
  ⟨_, pss_cons (ps_dput hu re_ re_ re_ hs) rb_, he H (Same.refl H) _ fun v H1 s1 hv => ho H1 s1 _ fun H2 s2 => hk H2 (s1.trans s2) _ fun y H3 s3 hy => by
    have s23 := s2.trans s3
    have hW3 : H3 W = some (.dK (dmap ks f)) := hW.up (s1.trans s23)
    rw [dp_str hy]
    refine ⟨W, _, rfl, DPut.k (k := .inr x) hW3 (by rw [dmap_len]; exact Nat.lt_of_lt_of_le hz (by decide)), ?_⟩
    rw [put_dmap]
    exact q v H3 (s1.trans s23) (hv.up (hid_mono s23))⟩
theorem xd_dlen (hm : X.mg "len" = none) (ha : XV X σ H e (.ref W)) (hW : DM H W ks f) (hg : Gl X "len" := by rfl) (he : starEach [e] X.env = (false, eval e X.env) :: starEach [] X.env := by rfl) (hpl : (backTo pos (starEach [] X.env)).any (·.1) = false := by rfl) :
    XD X M σ H (.Call (.Name "len" p1) [e] [] pos) (.int ks.length) := fun H1 s Q q =>
  re_B call_lenD (ra_1 (ha H1 s _ fun H2 s2 => ⟨W, dmap ks f, rfl, (hW.up s).up s2, by rw [dmap_len]; exact q _ H2 s2 (.int _)⟩) he) hm PySem.boot_len hg (by decide) (by decide) he hpl
theorem strs_dq {K : PySem.W.Frag} : ∀ ks : List Str, DqAll K H ((ks.map fun s => (Sum.inr s : Key)).map kV) (ks.map PyData.str)
  | [] => .nil
  | s :: t => .cons (.str s) (strs_dq t)
/-- list(d) -/
theorem xl_dlist (hm : X.mg "list" = none) (L : Live M H) (ha : XV X σ H e (.ref W)) (hW : DM H W ks f) (hc : X.calm = true := by rfl) (hg : Gl X "list" := by rfl) (he : starEach [e] X.env = (false, eval e X.env) :: starEach [] X.env := by rfl) (hpl : (backTo pos (starEach [] X.env)).any (·.1) = false := by rfl) :
    XL X M σ H (.Call (.Name "list" p1) [e] [] pos) (ks.map PyData.str) := fun H1 s Q q =>
  re_Ty (call_list_dK hc) (ra_1 (ha H1 s _ fun H2 s2 => ⟨W, dmap ks f, rfl, (hW.up s).up s2, fun l hl => by
    have e2 : ((dmap ks f).map fun kv => kV kv.1) = (ks.map fun s => (Sum.inr s : Key)).map kV := by unfold dmap; rw [List.map_map, List.map_map]; rfl
    rw [e2]
    exact q l _ _ (s2.trans (same_new hl)) (s2.free hl) upd_same (strs_dq ks)⟩) he) hm (by decide +kernel) hg (by decide) (by decide) he hpl
/-- d.get(k) -/
theorem xv_dgets (hu : X.A.units + 1 < cLine) (ho : XV X σ H o (.ref W)) (hk : XD X M σ H i (.str x)) (hW : DM H W ks f) (mm : M1 X o "get" p1 i p2) : XV X σ H (.Call (.Attribute o "get" p1) [i] [] p2) (if x ∈ ks then f x else .non) := fun H1 s Q q =>
  ⟨_, pe_dget1 hu re_ re_ mm, ho H1 s _ fun H2 s2 => ⟨W, rfl, .inl ⟨_, .inl ((hW.up s).up s2)⟩, hk H2 (s.trans s2) _ fun y H3 s3 hy => by
    rw [dp_str hy]
    refine ⟨_, ((hW.up s).up (s2.trans s3)).gets, ?_⟩
    by_cases m : x ∈ ks
    · rw [if_pos m] at q ⊢
      exact q H3 (s2.trans s3)
    · rw [if_neg m] at q ⊢
      exact q H3 (s2.trans s3)⟩⟩
end
/-- {} -/
theorem re_dnew {f : Str → V} (q : ∀ p, H p = none → DM (upd H p (.dK [])) p [] f → Q (.ref p) (upd H p (.dK []))) : RE X (.Dict [] [] pos) σ H Q := ⟨_, pe_dnewK, fun p hp => q p hp upd_same⟩
end
/-! from K8B -/
section
variable {X : Cx} {M : List Addr} {σ : L2.St} {H H' : Hp} {e a b c o elt tg iter : Expr} {ifs : List Expr} {scope : Scope} {own : List (Str × Nat)} {d d1 d2 : PyData} {ds ds2 es' : List PyData} {v : V} {pos p1 p2 p3 : Pos}
/-- [elt for tg in iter if ..], iter a tuple -/
theorem xl_compT (f : PyData → Option PyData) (L : Live M H) (hN : X.N.Nodup) (hit : XD X M σ H iter (.tuple ds)) (ok : BlkOk X.N X.env.scope scope own) (hz : ds.length ≤ 100000)
    (hst : ∀ p d v H1, d ∈ ds → H p = none → Same H H1 → Live (p :: M) H1 → Dq X.K (hid (p :: M) H1) v d → BG X scope tg v (wipe σ (own.map (·.2))) H1 fun σ2 H2 => wipe σ2 (own.map (·.2)) = wipe σ (own.map (·.2)) ∧ BT X scope ifs σ2 H2 fun k H3 =>
      Same H1 H3 ∧ ((k = true ∧ ∃ d', f d = some d' ∧ BE X scope elt σ2 H3 fun y H4 => Same H3 H4 ∧ Dq X.K (hid (p :: M) H4) y d') ∨ (k = false ∧ f d = none)))
    (hc : X.calm = true := by rfl) (hs : ∀ x, foldedSetIterable iter X.env x = pure x := by intro _; rfl) : XL X M σ H (.ListComp elt [⟨tg, iter, ifs, 0⟩] scope pos) (ds.filterMap f) := fun H1 s1 Q q =>
  ⟨_, pe_lc (own := own) hc hN (pi_tup re_) ok (fun _ _ _ _ _ => bg_) (fun _ _ _ _ _ => bt_) (fun _ _ _ _ _ => be_) hs, hit H1 s1 _ fun v H2 s2 hv => by
    obtain ⟨a, xs, rfl, ha, hx⟩ := dp_tup hv
    have L2' : Live M H2 := L.mono (s1.trans s2)
    refine ⟨a, rfl, ⟨xs, same_seqT hid_le ha⟩, fun p hp => ?_⟩
    have hp0 : H p = none := (s1.trans s2).free hp
    refine lc_tup (xs := xs) (a := a) (fun i H' => Same H2 H' ∧ ∃ acc, H' p = some (.lst acc) ∧ DqAll X.K (hid (p :: M) H') acc ((ds.take i).filterMap f)) ⟨same_new hp, [], upd_same, by simpa using DqAll.nil⟩ (fun i H' _ w => same_seqT w.1 (same_seqT hid_le ha)) (fun i x H' hi w => ?_) (fun H' w => ?_)
    · obtain ⟨sH, acc, hacc, hda⟩ := w
      obtain ⟨d, hd1, hd2⟩ := dpa_get' hx hi
      have etake : ds.take (i + 1) = ds.take i ++ [d] := by rw [List.take_add_one, hd1]; rfl
      have hlen : acc.length < sizeLine := by
        rw [dpa_len hda]
        have h1 : ((ds.take i).filterMap f).length ≤ (ds.take i).length := List.length_filterMap_le ..
        have h2 : (ds.take i).length ≤ i := by rw [List.length_take]; omega
        have h3 : i < ds.length := (List.getElem?_eq_some_iff.mp hd1).1
        have h4 : 100000 < sizeLine := by decide
        omega
      have Lp : Live (p :: M) H' := fun b hb => by
        rcases List.mem_cons.mp hb with z | hb
        · subst z; rw [hacc]; simp
        · exact L2'.mono sH b hb
      refine bg_mono (hst p d x H' (List.mem_of_getElem? hd1) hp0 ((s1.trans s2).trans sH) Lp (hd2.up (hid_step hp sH))) fun σ2 Ha ⟨hw, hbt⟩ => ⟨hw, bt_mono hbt fun k Hb ⟨sb, hk⟩ => ?_⟩
      rcases hk with ⟨hk, d', hf, hbe⟩ | ⟨hk, hf⟩
      · subst hk
        refine iteT (be_mono hbe fun y Hc ⟨sc, hy⟩ => ?_)
        have sd := sb.trans sc
        refine ⟨acc, sd _ _ hacc, hlen, fun b o e => ?_, acc ++ [y], upd_same, ?_⟩
        · rw [upd_ne (ne_of_none e hp)]
          exact sd _ _ (sH _ _ e)
        · have eh : hid (p :: M) (upd Hc p (.lst (acc ++ [y]))) = hid (p :: M) Hc := hid_upd_mem (List.mem_cons_self ..)
          rw [eh, etake, List.filterMap_append]
          have e2 : [d].filterMap f = [d'] := by simp [hf]
          rw [e2]
          exact dpa_app (hda.up (hid_mono sd)) (.cons hy .nil)
      · subst hk
        refine iteF ⟨sH.trans sb, acc, sb _ _ hacc, ?_⟩
        rw [etake, List.filterMap_append]
        have e2 : [d].filterMap f = [] := by simp [hf]
        rw [e2, List.append_nil]
        exact hda.up (hid_mono sb)
    · obtain ⟨sH, acc, hacc, hda⟩ := w
      have e1 : ds.take xs.length = ds := by rw [dpa_len hx]; exact List.take_length
      rw [e1] at hda
      refine q p acc H' (s2.trans sH) (s2.free hp) hacc (hda.up fun b o e => ?_)
      have n1 : b ∉ p :: M := fun z => by unfold hid at e; rw [if_pos z] at e; cases e
      rw [hid_of (fun z => n1 (List.mem_cons_of_mem _ z))]
      exact hid_le _ _ e⟩
end
/-! from E9 -/
section
variable {X : Cx} {M : List Addr} {σ : L2.St} {H : Hp} {a b e : Expr} {d : PyData} {pos p1 : Pos}
theorem xt_notNone {j} (ha : XD X M σ H a d) (hm : behindInMarks .IsNot (.Constant .none j p1) = false := by rfl) : XT X σ H (.Compare a [.IsNot] [.Constant .none j p1] pos) (!isN d) :=
  xt_cmp op_notN ha (xd_non (M := M)) (fun H1 v w s hv hw Q q => ⟨dp_non hw, by rw [dec_non hv]; exact q H1 (Same.refl _)⟩) hm
end
/-! from LR -/
section
variable {X : Cx} {M : List Addr} {σ : L2.St} {H : Hp} {a b e o elt : Expr} {v : V} {pos p1 p2 p3 tpos py spos apos : Pos} {D : Ends} {rest : List Stmt} {x : Str} {scope : Scope} {own : List (Str × Nat)} {ds ds2 : List PyData} {C f : Addr} {fd : FuncData} {rs : List Row} {off : Int} {k1 k2 : Bool}
theorem xd_notNoneV {j} (ha : XV X σ H a v) (hm : behindInMarks .IsNot (.Constant .none j p1) = false := by rfl) : XD X M σ H (.Compare a [.IsNot] [.Constant .none j p1] pos) (.bool (!decide (v = .non))) := fun H1 s Q q =>
  ⟨_, pe_cmpR op_notN re_ re_ hm, ha H1 s _ fun H2 s2 => (xd_non (M := M)) H2 (Same.refl _) _ fun w H3 s3 hw => ⟨dp_non hw, q _ H3 (s2.trans s3) (.bl _)⟩⟩
theorem xd_isNoneV {j} (ha : XV X σ H a v) (hm : behindInMarks .Is (.Constant .none j p1) = false := by rfl) : XD X M σ H (.Compare a [.Is] [.Constant .none j p1] pos) (.bool (decide (v = .non))) := fun H1 s Q q =>
  ⟨_, pe_cmpR op_isN re_ re_ hm, ha H1 s _ fun H2 s2 => (xd_non (M := M)) H2 (Same.refl _) _ fun w H3 s3 hw => ⟨dp_non hw, q _ H3 (s2.trans s3) (.bl _)⟩⟩
theorem xt_isNoneV {j} (ha : XV X σ H a v) (hm : behindInMarks .Is (.Constant .none j p1) = false := by rfl) : XT X σ H (.Compare a [.Is] [.Constant .none j p1] pos) (decide (v = .non)) := fun H1 s Q q =>
  ⟨_, pt_cmpR op_isN re_ re_ hm, ha H1 s _ fun H2 s2 => (xd_non (M := [])) H2 (Same.refl _) _ fun w H3 s3 hw => ⟨dp_non hw, _, rfl, q H3 (s2.trans s3)⟩⟩
end
/-! from N6 -/
/-! from K8E -/
section
variable {X : Cx} {M : List Addr} {σ : L2.St} {H : Hp} {a b e o hi : Expr} {pos p1 p2 : Pos} {xs : List V} {l : Addr} {Q : VK}
/-- a == b, whatever happens on the way -/
theorem rt_eqI {Q : Bool → Hp → Prop} (h : RE X a σ H fun v H1 => ∃ i : Int, v = .int i ∧ RE X b σ H1 fun w H2 => ∃ j : Int, w = .int j ∧ Q (decide (i = j)) H2) (hm : behindInMarks .Eq b = false := by first | exact nomark _ | rfl) : RT X (.Compare a [.Eq] [b] pos) σ H Q :=
  ⟨_, pt_cmpR op_eq re_ re_ hm, re_mono h fun v H1 ⟨i, ev, h1⟩ => re_mono h1 fun w H2 ⟨j, ew, q⟩ => by
    subst ev
    subst ew
    exact ⟨rfl, by rw [Dl.dec_int]; exact ⟨_, rfl, q⟩⟩⟩
end
/-! from LA -/
section
variable {X : Cx} {M : List Addr} {σ : L2.St} {H H' : Hp} {e a b o ie : Expr} {d : PyData} {ds : List PyData} {pos p1 p2 p3 : Pos} {D : Ends} {rest : List Stmt} {v : V} {xs : List V}
theorem xv_lenS {p : Addr} (hm : X.mg "len" = none) (ha : XV X σ H e (.ref p)) (hS : SqL X.K H p xs) (hg : Gl X "len" := by rfl) (he : starEach [e] X.env = (false, eval e X.env) :: starEach [] X.env := by rfl) (hpl : (backTo pos (starEach [] X.env)).any (·.1) = false := by rfl) :
    XV X σ H (.Call (.Name "len" p1) [e] [] pos) (.int xs.length) := fun H1 s Q q =>
  re_B call_len_seq (ra_1 (ha H1 s _ fun H2 s2 => ⟨p, xs, rfl, .inl ((s.trans s2).seq hS), q H2 s2⟩) he) hm PySem.boot_len hg (by decide) (by decide) he hpl
theorem xv_ixS {p : Addr} {n : Int} (hs : PlainIx b) (ha : XV X σ H a (.ref p)) (hS : SqL X.K H p xs) (hb : XV X σ H b (.int n)) (h : atI xs n = some v) : XV X σ H (.Subscript a b pos) v := fun H1 s Q q =>
  ⟨_, pe_ix ix_list re_ re_ hs, ha H1 s _ fun H2 s2 => hb H2 (s.trans s2) _ fun H3 s3 => ⟨p, xs, n, v, rfl, rfl, ((s.trans s2).trans s3).seq hS, h, q H3 (s2.trans s3)⟩⟩
/-- o[i] = e -/
theorem rb_setIx {l : Addr} {n : Int} {j : Nat} (hl : H l = some (.lst xs)) (he : XD X M σ H e d) (ho : XV X σ H o (.ref l)) (hi : XV X σ H ie (.int n)) (hj : ixN xs.length n = some j) (k : ∀ v H1, Same H H1 → Dq X.K (hid M H1) v d → RB X rest D σ (upd H1 l (.lst (xs.set j v))))
    (hs : swapsWithSole [.Subscript o ie p1] e pos.line X.env = pure false := by rfl) (hw : swappedStores [.Subscript o ie p1] e X.env = pure none := by rfl) (h1 : (assignEach [.Subscript o ie p1] X.env).map (·.2) = [assign (.Subscript o ie p1) X.env] := by rfl)
    (hg : PG X (.Subscript o ie p1) (gSub (RE X o) (RE X ie) rSetL) := by exact pg_sub re_ re_ set_list) : RB X (.Assign [.Subscript o ie p1] e pos :: rest) D σ H :=
  rb_asgR (he.go fun v H1 s1 hv => ⟨_, hg, ho H1 s1 _ fun H2 s2 => hi H2 (s1.trans s2) _ fun H3 s3 => ⟨l, xs, n, j, rfl, rfl, ((s1.trans s2).trans s3) _ _ hl, hj, k v H3 ((s1.trans s2).trans s3) (hv.up (hid_mono (s2.trans s3)))⟩⟩) hs hw h1
end
/-! from LD -/
section
variable {X : Cx} {M : List Addr} {σ : L2.St} {H H' : Hp} {e a b o ie : Expr} {pos p1 p2 p3 : Pos} {D : Ends} {rest : List Stmt}
theorem rb_parR (i j : Nat) {x y : Str} {px py pt : Pos} {kt k2 pt2} (ha : RA X [a, b] σ H fun vs H1 => ∃ v w, vs = [v, w] ∧ RB X rest D ((σ.set i (some v)).set j (some w)) H1) (hN : X.N.Nodup)
    (hw : swappedStores [.Tuple [.Name x px, .Name y py] kt pt] (.Tuple [a, b] k2 pt2) X.env = pure (some [x, y]) := by rfl) (hc : X.calm = true := by rfl) (hi : X.N[i]? = some x := by rfl) (hj : X.N[j]? = some y := by rfl) (hij : i ≠ j := by decide)
    (hx : X.env.scope.names.lookup x = some .local := by rfl) (hy : X.env.scope.names.lookup y = some .local := by rfl)
    (hs : swapsWithSole [.Tuple [.Name x px, .Name y py] kt pt] (.Tuple [a, b] k2 pt2) pos.line X.env = pure false := by rfl) : RB X (.Assign [.Tuple [.Name x px, .Name y py] kt pt] (.Tuple [a, b] k2 pt2) pos :: rest) D σ H :=
  ⟨_, pss_cons (ps_par hc hN hi hj hij hx hy ra_ hw hs) rb_, ha⟩
end
/-! from ZB -/
theorem hid_weak {p : Addr} {M : List Addr} {H : Hp} : Same (hid (p :: M) H) (hid M H) := fun b o e => by
  have n : b ∉ p :: M := fun z => by unfold hid at e; rw [if_pos z] at e; cases e
  rw [hid_of (fun z => n (List.mem_cons_of_mem _ z))]
  exact hid_le _ _ e
theorem hid_cons_upd {p : Addr} {M : List Addr} {H : Hp} {o : HO} : hid (p :: M) (upd H p o) = hid (p :: M) H := hid_upd_mem (List.mem_cons_self ..)
theorem same_upd {H H' : Hp} {p : Addr} {o : HO} (s : Same H H') (hp : H p = none) : Same H (upd H' p o) := fun b u e => by rw [upd_ne (ne_of_none e hp)]; exact s b u e
/-! from P6G -/
theorem cut1 (xs : List PyData) : Dl.cutD xs (some 1) none = xs.drop 1 := by
  unfold Dl.cutD
  have e1 : HT.sIx xs.length 0 (some 1) = min 1 xs.length := HT.sIx_nat _ _ 1
  rw [HT.sIx_none, e1]
  cases xs with
  | nil => rfl
  | cons x xs =>
    have e2 : min 1 (x :: xs).length = 1 := by simp
    rw [e2]
    simp
/-! from K8H -/
theorem cut_to {α : Type} (g : α → PyData) (xs : List α) (a : Nat) (h : a ≤ xs.length) : Dl.cutD (xs.map g) none (some (a : Int)) = (xs.take a).map g := by
  unfold Dl.cutD
  have e1 : HT.sIx (xs.map g).length (xs.map g).length (some (a : Int)) = min a (xs.map g).length := HT.sIx_nat _ _ a
  rw [HT.sIx_none, e1, List.drop_zero, List.length_map, Nat.min_eq_left h, Nat.sub_zero, List.map_take]
theorem cut_from {α : Type} (g : α → PyData) (xs : List α) (a : Nat) (h : a ≤ xs.length) : Dl.cutD (xs.map g) (some (a : Int)) none = (xs.drop a).map g := by
  unfold Dl.cutD
  have e1 : HT.sIx (xs.map g).length 0 (some (a : Int)) = min a (xs.map g).length := HT.sIx_nat _ _ a
  rw [HT.sIx_none, e1, List.length_map, Nat.min_eq_left h, List.map_drop]
  exact List.take_of_length_le (by rw [List.length_drop, List.length_map]; omega)
/-! from K8A -/
section
variable {X : Cx} {M : List Addr} {σ : L2.St} {H H' : Hp} {e a b c o : Expr} {d sq : PyData} {ds : List PyData} {pos p1 p2 : Pos} {D : Ends} {rest : List Stmt} {C pa : Addr} {off : Int} {rs : List Row}
/-- xs + [x]: a list that is being made -/
theorem live_new {p : Addr} (L : Live M H) (s : Same H H') (h : H' p ≠ none) : Live (p :: M) H' := fun b hb => by
  rcases List.mem_cons.mp hb with z | hb
  · subst z; exact h
  · exact L.mono s b hb
end
/-! from LD -/
theorem map_get {α : Type} {g : α → PyData} {xs : List α} {k : Nat} {d : PyData} (h : (xs.map g)[k]? = some d) : ∃ x, xs[k]? = some x ∧ d = g x := by
  rw [List.getElem?_map] at h
  cases e : xs[k]? with
  | none => rw [e] at h; cases h
  | some x => rw [e] at h; cases h; exact ⟨x, rfl, rfl⟩
/-! from N6 -/
section
variable {X : Cx} {M : List Addr} {σ : L2.St} {H H' : Hp} {e a b o ie : Expr} {d : PyData} {ds : List PyData} {pos p1 p2 p3 : Pos} {D : Ends} {rest : List Stmt} {v : V} {xs : List V}
theorem xd_pow {m n : Int} (ha : XD X M σ H a (.int m)) (hb : XD X M σ H b (.int n)) (hc : CPow m n) : XD X M σ H (.BinOp a .Pow b pos) (.int (m ^ n.toNat)) := xd_binI op_pow ha hb hc
theorem xd_mod {m n : Int} (ha : XD X M σ H a (.int m)) (hb : XD X M σ H b (.int n)) (hc : 0 < n) : XD X M σ H (.BinOp a .Mod b pos) (.int (m % n)) := xd_binI op_mod ha hb hc
theorem xd_div {m n : Int} (ha : XD X M σ H a (.int m)) (hb : XD X M σ H b (.int n)) (hc : CDivW m n) : XD X M σ H (.BinOp a .FloorDiv b pos) (.int (m / n)) := xd_binI op_fdivW ha hb hc
end
/-! from N7 -/
section
variable {X : Cx} {M : List Addr} {σ : L2.St} {H H' : Hp} {e a b o ie : Expr} {es : List Expr} {d : PyData} {ds : List PyData} {pos p1 p2 p3 : Pos} {D : Ends} {rest : List Stmt} {v : V} {xs : List V} {Q : VK}
theorem re_bin {op : Operator} {r : R2} (ho : OpR X (binaryOp op) r) (h : RE X a σ H fun x H1 => RE X b σ H1 fun y H2 => r x y H2 Q) : RE X (.BinOp a op b pos) σ H Q := ⟨_, pe_op ho re_ re_, h⟩
theorem at_menu {ms : List Int} {r : Int} (h0 : 0 ≤ r) (h1 : r.toNat < ms.length) : atI (ms.map V.int) r = some (V.int (ms[r.toNat])) := by
  have h : atI (ms.map V.int) ((r.toNat : Nat) : Int) = some (V.int (ms[r.toNat])) := atI_nat (by rw [List.getElem?_map, List.getElem?_eq_getElem h1]; rfl)
  rw [Int.toNat_of_nonneg h0] at h
  exact h
end
theorem at_any {vs : List V} {r : Int} (h0 : 0 ≤ r) (h1 : r.toNat < vs.length) : atI vs r = some (vs[r.toNat]) := by
  obtain ⟨n, rfl⟩ : ∃ n : Nat, r = (n : Int) := ⟨r.toNat, by omega⟩
  have h2 : n < vs.length := by omega
  unfold atI
  rw [show ixN vs.length (n : Int) = some n by unfold ixN; simp; omega]
  simp [h2]
theorem day_len {ds : List Int} {r : Int} (h0 : 0 ≤ r) (h1 : r < ds.length) : ∃ v, atI (ds.map V.int) r = some (V.int v) ∧ v ∈ ds := by
  have h : r.toNat < ds.length := by omega
  exact ⟨ds[r.toNat], at_menu h0 h, List.getElem_mem h⟩
section
variable {X : Cx} {M : List Addr} {σ : L2.St} {H : Hp} {a b c e e2 e3 e4 e5 o : Expr} {pos apos p1 p2 py spos : Pos} {C f : Addr} {fd : FuncData} {off n : Int} {k : Nat} {D : Ends} {rest : List Stmt} {x : Str} {scope : Scope} {own : List (Str × Nat)} {elt tg : Expr} {Q : VK} {esl : List Expr}
theorem re_menuV {vs : List V} (hs : PlainIx b) (hn : vs.length ≤ 1000) (h : RA X esl σ H fun ws H1 => ws = vs ∧ ∀ l, H1 l = none → RE X b σ (upd H1 l (.lst vs)) fun y H3 => ∃ r : Int, y = .int r ∧ 0 ≤ r ∧ r < vs.length ∧ H3 l = some (.lst vs) ∧ ∀ z, z ∈ vs → Q z H3) :
    RE X (.Subscript (.List esl p1) b pos) σ H Q :=
  ⟨_, pe_ix ix_list (pe_lst ra_) re_ hs, ra_mono h fun ws H1 ⟨e1, k⟩ => by
    subst e1
    exact ⟨Nat.le_trans hn (by decide), fun l hl => re_mono (k l hl) fun y H3 ⟨r, ey, r0, r1, h3, q⟩ => by
      subst ey
      have hlt : r.toNat < ws.length := by omega
      refine ⟨l, ws, r, ws[r.toNat], rfl, rfl, SqL.of h3, ?_, q _ (List.getElem_mem hlt)⟩
      exact at_any r0 hlt⟩⟩
theorem rb_forE {tg : Expr} {body : List Stmt} (h : RE X e σ H fun v H1 => ∃ ds, Dq X.K (hid M H1) v (.list ds) ∧ ∃ Pv : Nat → L2.St → Hp → Prop, Pv 0 σ H1 ∧ (∀ k σ' H', Pv k σ' H' → Same (hid M H1) (hid M H')) ∧
      (∀ k d, ds[k]? = some d → ∀ σ' H' v, Pv k σ' H' → Dq X.K (hid M H') v d → RG X tg v σ' H' fun σ2 H2 => RB X body { D with nx := Pv (k + 1), ct := Pv (k + 1), bk := RB X rest D } σ2 H2) ∧ ∀ σ' H', Pv ds.length σ' H' → RB X rest D σ' H')
    (hp : PassesOwn (model X.prog X.w) X.A X.env X.xe := by exact PassesOwn.never) (hc : X.calm = true := by rfl) (hs : ∀ x, foldedSetIterable e X.env x = pure x := by intro _; rfl) : RB X (.For tg e body [] pos :: rest) D σ H :=
  ⟨_, pss_cons (ps_for hp hc (pi_list re_) rg_ rb_ hs) rb_, re_mono h fun v H1 ⟨ds, hv, Pv, h0, hk, hst, hd⟩ => by
    obtain ⟨a, xs, rfl, ha, hx⟩ := dp_lst hv
    refine ⟨a, rfl, ⟨xs, SqL.of (hid_le _ _ ha)⟩, for_list (xs := xs) Pv h0 (fun i σ' H' _ p => SqL.of (hid_le _ _ (hk i σ' H' p _ _ ha))) (fun i x σ' H' hi p => ?_) (by rw [dpa_len hx]; exact hd)⟩
    obtain ⟨d, h1, h2⟩ := dpa_get' hx hi
    exact hst i d h1 σ' H' x p (h2.up (hk i σ' H' p))⟩
end
/-! from OZF -/
section
variable {X : Cx} {M : List Addr} {σ : L2.St} {H : Hp} {e e1 e2 e3 e4 e5 : Expr} {pos p1 : Pos} {f a : Addr} {fd : FuncData} {CK : Addr} {k : Kd} {es : List Step} {kb : Bool}
theorem xt_notNoneR {v : V} {j} (ha : XV X σ H e v) (hn : v ≠ .non) (hm : behindInMarks .IsNot (.Constant .none j p1) = false := by rfl) : XT X σ H (.Compare e [.IsNot] [.Constant .none j p1] pos) true := fun H1 s Q q =>
  ⟨_, pt_cmpR op_notN re_ re_ hm, ha H1 s _ fun H2 s2 => (xd_non (M := [])) H2 (Same.refl _) _ fun w H3 s3 hw => ⟨dp_non hw, _, rfl, by rw [decide_eq_false hn]; exact q H3 (s2.trans s3)⟩⟩
theorem rt_notR {Q : Bool → Hp → Prop} (h : RT X e σ H fun b H1 => Q (!b) H1) : RT X (.UnaryOp .Not e pos) σ H Q := ⟨_, pt_not rt_, h⟩
theorem rt_valR {Q : Bool → Hp → Prop} (h : RE X e σ H fun v H1 => ∃ k, v = .bl k ∧ Q k H1) (he : ∀ whole, isTrue e X.env whole = (do let v ← whole; standAt e.pos; holding [v] (truthy v)) := by intro _; rfl) : RT X e σ H Q := ⟨_, pt_val re_ he, h⟩
end
end Zn

set_option Elab.async false
set_option linter.all false
set_option maxRecDepth 100000
set_option maxHeartbeats 8000000
namespace Zn
open PySem PySem.Spec PyProof.Rows L2 Dl
/-! programs: texts split and joined; texts of numbers -/
abbrev sIsNT : Stmt := top 13
abbrev sNumOf : Stmt := top 33
section
variable {X : Cx} {M : List Addr} {σ : L2.St} {H : Hp} {o e a b : Expr} {x y : Str} {ys : List Str} {pos p1 p2 apos : Pos}
theorem strs_dqM {K : PySem.W.Frag} {H : Hp} : ∀ xs : List Str, DqAll K H (xs.map V.str) (xs.map PyData.str)
  | [] => .nil
  | x :: xs => .cons (.str x) (strs_dqM xs)
theorem xd_eqSV {z : Str} (ha : XD X M σ H a (.str y)) (hb : XD X M σ H b (.str z)) : XD X M σ H (.Compare a [.Eq] [b] pos) (.bool (decide (y = z))) :=
  xd_cmp op_eq ha hb fun H1 v w s hv hw Q q => by
    rw [dp_str hv, dp_str hw]
    exact ⟨rfl, by rw [Dl.dec_str]; exact q _ H1 (Same.refl _) (.bl _)⟩
theorem xd_neSV {z : Str} (ha : XD X M σ H a (.str y)) (hb : XD X M σ H b (.str z)) : XD X M σ H (.Compare a [.NotEq] [b] pos) (.bool (!decide (y = z))) :=
  xd_cmp op_ne ha hb fun H1 v w s hv hw Q q => by
    rw [dp_str hv, dp_str hw]
    exact ⟨rfl, by rw [Dl.dec_str]; exact q _ H1 (Same.refl _) (.bl _)⟩
theorem sg_zero (c : Nat) : decide (sg c = "0") = decide (c = 48) := by
  by_cases h : c = 48
  · subst h
    rw [decide_eq_true rfl, decide_eq_true (show sg 48 = "0" by decide +kernel)]
  · rw [decide_eq_false h, decide_eq_false fun z => h ?_]
    have := congrArg (fun x : Str => x.cps.toList) z
    have e : ("0" : Str).cps.toList = [48] := by decide +kernel
    rw [e] at this
    exact (List.cons.inj this).1
/-- o.split(e) -/
theorem xl_split (L : Live M H) (ha : XD X M σ H o (.str x)) (hb : XD X M σ H e (.str y)) (hy : (y.length == 0) = false) (hz : x.length ≤ 100000) (hs : starEach [e] X.env = [(false, eval e X.env)] := by rfl) (hbase : attributeBase o "split" X.env (eval o X.env) = eval o X.env := by rfl) (hline : (apos.endLine == pos.line) = true := by rfl) :
    XL X M σ H (.Call (.Attribute o "split" apos) [e] [] pos) ((Txt.split x y).map PyData.str) := fun H1 s Q q =>
  ⟨_, pe_split re_ re_ hs hbase hline, ha H1 s _ fun v H2 s2 hv => ⟨⟨x, dp_str hv⟩, hb H2 (s.trans s2) _ fun u H3 s3 hu => ⟨x, y, dp_str hv, by rw [dp_str hu], hy, Nat.le_trans (Nat.add_le_add_right hz 2) (by decide), fun p hp => q p _ _ ((s2.trans s3).trans (same_new hp)) ((s2.trans s3).free hp) upd_same (strs_dqM _)⟩⟩⟩
/-- sep.join(list) -/
theorem xd_join (ha : XD X M σ H o (.str x)) (hb : XD X M σ H e (.list (ys.map PyData.str))) (hz : (ys.map (·.length)).sum + ys.length * x.length ≤ 16777216) (hs : starEach [e] X.env = [(false, eval e X.env)] := by rfl) (hbase : attributeBase o "join" X.env (eval o X.env) = eval o X.env := by rfl) (hline : (apos.endLine == pos.line) = true := by rfl) :
    XD X M σ H (.Call (.Attribute o "join" apos) [e] [] pos) (.str (Txt.join x ys)) := fun H1 s Q q =>
  ⟨_, pe_join re_ re_ hs hbase hline, ha H1 s _ fun v H2 s2 hv => ⟨⟨x, dp_str hv⟩, hb H2 (s.trans s2) _ fun u H3 s3 hu => by
    obtain ⟨p, xs, rfl, hp, hx⟩ := dp_lst hu
    have ex := strs_v hx
    subst ex
    exact ⟨x, p, ys, dp_str hv, rfl, .inl (SqL.of (hid_le _ _ hp)), hz, q _ H3 (s2.trans s3) (.str _)⟩⟩⟩
/-- o.removeprefix(e) -/
theorem xd_rmpre (ha : XD X M σ H o (.str x)) (hb : XD X M σ H e (.str y)) (hz : x.length ≤ 100000) (hs : starEach [e] X.env = [(false, eval e X.env)] := by rfl) (hbase : attributeBase o "removeprefix" X.env (eval o X.env) = eval o X.env := by rfl) (hline : (apos.endLine == pos.line) = true := by rfl) :
    XD X M σ H (.Call (.Attribute o "removeprefix" apos) [e] [] pos) (.str (Txt.removeprefix x y)) := fun H1 s Q q =>
  ⟨_, pe_m1 F.slot_str_removeprefix F.type_str_removeprefix mt_removeprefix re_ re_ hs hbase hline, ha H1 s _ fun v H2 s2 hv => ⟨⟨x, dp_str hv⟩, hb H2 (s.trans s2) _ fun u H3 s3 hu => ⟨x, y, dp_str hv, by rw [dp_str hu], small_sz hz, q _ H3 (s2.trans s3) (.str _)⟩⟩⟩
end
/-! ### numbers -/
def bareL (l : List Nat) : List Nat := match l with
  | 45 :: t => t
  | l => l
theorem bare_l (x : Str) : (Txt.removeprefix x "-").cps.toList = bareL x.cps.toList := by
  rw [PySem.StrLaws.removeprefix_eq]
  have hl : x.length = x.cps.toList.length := TL.len_tl x
  have ey : (("-" : Str)).cps.toList = [45] := by decide +kernel
  have el : (("-" : Str)).length = 1 := by decide +kernel
  rw [PySem.StrLaws.subAt_eq, ey, el, List.drop_zero]
  cases e : x.cps.toList with
  | nil =>
    rw [e] at hl
    rw [hl]
    rw [if_neg (by simp)]
    exact e
  | cons c t =>
    rw [e] at hl
    by_cases h : c = 45
    · subst h
      rw [if_pos (by rw [hl]; simp)]
      show ((t.take (x.length - 1)).toArray).toList = t
      rw [hl]
      simp
    · rw [if_neg (by simp; intro _; exact h)]
      rw [e]
      unfold bareL
      split
      · rename_i q; cases q; exact absurd rfl h
      · rfl
def digB (c : Nat) : Bool := decide (c ∈ digs)
def numB (x : Str) (d : Int) : Bool := (decide (1 ≤ ((bareL x.cps.toList).length : Int)) && decide (((bareL x.cps.toList).length : Int) ≤ d)) && ((bareL x.cps.toList).all digB && (!decide ((bareL x.cps.toList).head? = some 48) || decide (x = "0")))
theorem dig_bnd {c : Nat} (h : digB c = true) : 48 ≤ c ∧ c ≤ 57 := by
  obtain ⟨i, rfl⟩ := dig_at (of_decide_eq_true h)
  have := i.isLt
  omega
/-- the number of a text -/
def numI (x : Str) : Int := (PySem.intText? x).getD 0
theorem num_int {x : Str} {d : Int} (h : numB x d = true) (hl : x.length ≤ 4300) : PySem.intText? x = some (numI x) := by
  unfold numB at h
  rw [Bool.and_eq_true, Bool.and_eq_true, Bool.and_eq_true] at h
  obtain ⟨⟨h1, _⟩, h2, _⟩ := h
  have h1 := of_decide_eq_true h1
  have key : ∃ n, PySem.intText? x = some n := by
    cases e : x.cps.toList with
    | nil => rw [e] at h1; simp [bareL] at h1
    | cons c t =>
      by_cases g : c = 45
      · subst g
        rw [e] at h1 h2
        have h2 : t.all digB = true := h2
        have h1 : 1 ≤ (t.length : Int) := h1
        exact ⟨_, PySem.intText_neg e (fun y hy => dig_bnd (List.all_eq_true.mp h2 y hy)) (fun z => by rw [z] at h1; simp at h1) hl⟩
      · have eb : bareL (c :: t) = c :: t := by
          unfold bareL
          split
          · rename_i q; cases q; exact absurd rfl g
          · rfl
        rw [e, eb] at h2
        refine ⟨_, PySem.intText_digits (fun y hy => ?_) (by rw [e]; simp) hl⟩
        rw [e] at hy
        exact dig_bnd (List.all_eq_true.mp h2 y hy)
  obtain ⟨n, hn⟩ := key
  unfold numI
  rw [hn]
  rfl
def RNumT (ds : List PyData) (d : PyData) : Prop := ∃ (x : Str) (n : Int), ds = [.str x, .int n] ∧ x.length ≤ 100000 ∧ d = .bool (numB x n)
/-- the number of a text with at most so much in it -/
def numV (x : Str) (dg most : Int) : Option Int := if numB x dg = true then (if (numI x).natAbs ≤ most.natAbs then some (numI x) else none) else none
def optI : Option Int → PyData
  | some n => .int n
  | none => .none
section
variable {P : Program} {w : World} {K : PySem.W.Frag} {mg : Str → Option Value} {base : Heap}
abbrev ntN : List Str := ["text", "digits", "bare", "sign"]
theorem scIsNT : FnScope ntN ["text", "digits"] (defScope sIsNT) := ⟨rfl, rfl, rfl, by decide +kernel, rfl, by decide +kernel, by decide +kernel⟩
theorem ok_isNT {f : Addr} {fd : FuncData} (T : Nm mg) (hD : ∃ t, mg "DIGITS" = some (.str digS t)) (F : Df K mg "is_number_text" sIsNT ["text", "digits"] f fd) : FnOk P w K mg base CX0 1 f fd ["text", "digits"] (spR K RNumT) := by
  obtain ⟨t3, hD⟩ := hD
  refine F.F.ok scIsNT (fun vs H Q E h => ?_) (fun cdv A outer s H vs Q E hr h => ?_)
  · obtain ⟨M, ds, d, L, hd, ⟨x, n, rfl, _⟩, q⟩ := h
    exact dpa_len hd
  · obtain ⟨M, ds, d, L, hd, ⟨x, n, rfl, hl, rfl⟩, q⟩ := h
    cases hd with
    | cons h1 hd => cases hd with
      | cons h2 hd =>
        cases hd
        have e1 := dp_str h1
        have e2 := dp_int h2
        subst e1 e2
        refine rb_set 2 (M := []) (xd_rmpre (xd_name 0 rfl (.str x)) xd_str hl) (fun v H1 s1 hv => ?_) scIsNT.nd
        have ev := dp_str hv
        subst ev
        have hb : (Txt.removeprefix x "-").length = (bareL x.cps.toList).length := by rw [TL.len_tl]; exact congrArg List.length (bare_l x)
        have hbl : (bareL x.cps.toList).length ≤ 100000 := by
          have hx : x.length = x.cps.toList.length := TL.len_tl x
          rw [hx] at hl
          unfold bareL
          split
          · rename_i t e; rw [e] at hl; simp at hl; omega
          · exact hl
        refine rb_if (k := !(decide (1 ≤ ((bareL x.cps.toList).length : Int)) && decide (((bareL x.cps.toList).length : Int) ≤ n)) || !((bareL x.cps.toList).all digB)) (xt_or2 (xt_not (XT.to (xt_chainI (M := []) op_le op_le xd_int (xd_lenStr T.len (xd_name 2 rfl (.str _)) (by rw [hb]; exact hbl)) (xv_name 1 rfl).int) (by rw [hb]))) fun _ => xt_not (xt_val (M := []) (XD.to (xd_all (bs := (bareL x.cps.toList).map digB) T.all (XL.dd (XL.to (xl_compS (own := [("sign", 3)]) (fun c => some (.bool (digB c))) Live.nil scIsNT.nd (xd_name 2 rfl (.str _)) (blkOk_by (own := [("sign", 3)]) (N := ntN) (sc := defScope sIsNT) (by decide +kernel)) (by rw [hb]; exact hbl) (fun p c H2 hc hp s2 Lp => ?comp)) (by rw [bare_l, all_map])) Live.nil)) (by rw [all_id])))) (fun e H2 s2 => ?_) (fun e H2 s2 => rb_nil ?_)
        case comp =>
          intro s0 H0 C0 cl fp
          refine rg_name 3 ⟨rfl, bt_nil ⟨Same.refl _, .inl ⟨rfl, _, rfl, fun s0 H0 C0 cl fp => ?_⟩⟩⟩ scIsNT.nd
          exact XD.go (M := [p]) (XD.to (xd_inSg (xd_name 3 rfl (.str _)) (xv_glob (v := .str digS) hD ⟨t3, rfl⟩ |>.dd (.str _))) (by rfl)) fun v H4 s4 hv4 => ⟨s4, hv4⟩
        · refine rb_ret (M := []) xd_bl fun v3 H3 s3 hv3 => q v3 H3 ((s1.trans s2).trans s3) ?_
          have : numB x n = false := by
            unfold numB
            rw [Bool.or_eq_true, Bool.not_eq_true', Bool.not_eq_true'] at e
            rcases e with e | e <;> rw [e] <;> simp
          rw [this, dp_bl hv3]
          exact .bl false
        · rw [Bool.or_eq_false_iff, Bool.not_eq_false', Bool.not_eq_false'] at e
          obtain ⟨g1, g2⟩ := e
          rw [Bool.and_eq_true, decide_eq_true_eq, decide_eq_true_eq] at g1
          obtain ⟨c, t, ect⟩ : ∃ c t, bareL x.cps.toList = c :: t := by
            cases e : bareL x.cps.toList with
            | nil => rw [e] at g1; simp at g1
            | cons c t => exact ⟨c, t, rfl⟩
          refine rb_ret (M := []) (d := .bool (!decide (c = 48) || decide (x = "0"))) (xd_or2 (XD.to (xd_neSV (xd_ixS (n := 0) (c := c) (fun _ _ => rfl) (xd_name 2 rfl (.str _)) xd_int (by rw [hb]; exact hbl) (by rw [bare_l, ect]; exact atI_nat (j := 0) rfl)) xd_str) (by rw [sg_zero])) (xd_eqSV (xd_name 0 rfl (.str _)) xd_str)) fun v3 H3 s3 hv3 => q v3 H3 ((s1.trans s2).trans s3) ?_
          have : numB x n = (!decide (c = 48) || decide (x = "0")) := by
            unfold numB
            rw [decide_eq_true g1.1, decide_eq_true g1.2, g2, ect]
            simp
          rw [this, dp_bl hv3]
          exact .bl _
end
end Zn

set_option Elab.async false
set_option linter.all false
set_option maxRecDepth 100000
set_option maxHeartbeats 8000000
/-! enumerate(list, start=1); o.f, o.g = e -/
namespace Dl
open PySem PySem.Spec PyProof.Rows L2
/-- a walk of a list, its places told from one on -/
theorem draws_one {pr : Program} {wd : World} {Ar : Around} (hh : Ar.handled = none) (it l : Addr) (hne : l ≠ it) (its : Array Value) :
    Draws pr wd Ar it [it, l] (its.size + 1) (fun i v => 1 ≤ i ∧ its[i - 1]? = some v) (fun i h => 1 ≤ i ∧ h.IsListIter it l (i - 1) ∧ h.IsList l its) where
  live := fun i h st => (Draws.list (prog := pr) (w := wd) (A := Ar) hh it l hne its).live (i - 1) h st.2
  frame := fun i h h' st hk => ⟨st.1, (Draws.list (prog := pr) (w := wd) (A := Ar) hh it l hne its).frame (i - 1) h h' st.2 hk⟩
  item := fun i z Q E hi st hQ => (Draws.list (prog := pr) (w := wd) (A := Ar) hh it l hne its).item (i - 1) z Q E (by have := st.1; omega) st.2 fun x h' tk p st' sb => hQ x h' tk ⟨st.1, p⟩ ⟨by omega, by
    have e : i + 1 - 1 = (i - 1) + 1 := by have := st.1; omega
    rw [e]; exact st'⟩ sb
  done := fun z Q E st hE => (Draws.list (prog := pr) (w := wd) (A := Ar) hh it l hne its).done z Q E (by have := st.2; rwa [Nat.add_sub_cancel] at this) hE
theorem list_apart {h : Heap} {a it : Addr} {i : Nat} {its : Array Value} (h1 : h.IsList a its) (h2 : h.IsListIter it a i) : a ≠ it := fun z => by
  subst z
  obtain ⟨o, ho, hc, n, hd⟩ := h1
  obtain ⟨o2, ho2, hc2, hd2⟩ := h2
  rw [ho] at ho2
  cases ho2
  rw [hd] at hd2
  cases hd2
/-- the list at a, each item in a new pair, numbered from one on -/
def Ite1 (K : PySem.W.Frag) (a : Addr) : It :=
  ⟨fun i H => ∃ (ys : List V) (y : V), SqL K H a ys ∧ ys[i]? = some y, fun i H v H' => ∃ T y, v = .ref T ∧ H T = none ∧ H' = upd H T (.tup [.int ((i + 1 : Nat) : Int), y]) ∧ ∀ ys, SqL K H a ys → ys[i]? = some y, fun i H => ∃ ys : List V, SqL K H a ys ∧ ys.length ≤ i⟩
theorem turn_enum1 {P : Program} {w : World} {K : PySem.W.Frag} {elts : List Expr} {kk : Nat} {tpos : Pos} (a e it : Addr) :
    Turn P w K (.Tuple elts kk tpos) (Ite1 K a) [e, it] e (fun i h => (∃ old, IsEnum h e it ((i + 1 : Nat) : Int) old) ∧ h.IsListIter it a i ∧ e ≠ it) where
  mem := List.mem_cons_self ..
  obj := fun i h st b hb => by
    obtain ⟨⟨old, he⟩, ⟨o, ho, hc, hd⟩, _⟩ := st
    rcases (show b = e ∨ b = it by simpa using hb) with z | z
    · subst z; exact ⟨_, he, fun v q => nomatch q⟩
    · subst z; exact ⟨o, ho, fun v q => by rw [hd] at q; cases q⟩
  keep := fun i h h' st k => by
    obtain ⟨⟨old, he⟩, hi, hne⟩ := st
    exact ⟨⟨old, k e (List.mem_cons_self ..) _ he⟩, hi.at fun o q => k it (List.mem_cons_of_mem _ (List.mem_cons_self ..)) o q, hne⟩
  item := by
    intro X hP hw hK hc i pins s σ H E I hf st hg
    subst hP hw hK
    obtain ⟨⟨old, he⟩, hit, hne⟩ := st
    obtain ⟨ys, y, hq, hy⟩ := hg
    obtain ⟨its, rv, p, hz⟩ := I.list hq
    obtain ⟨u, hu, ru⟩ := rv.get hy
    have le : e < s.heap.objs.size := Heap.lt_size he
    have li : it < s.heap.objs.size := by obtain ⟨_, q, _⟩ := hit; exact Heap.lt_size q
    have p' : s.heap.IsList a its.toArray := p.isList
    have hea : e ≠ a := fun z => by
      subst z
      obtain ⟨o, ho, hcl, n, hd⟩ := p'
      have he2 : s.heap.get? e = some _ := he
      rw [ho] at he2
      cases he2
      cases hd
    have D := draws_one (pr := X.prog) (wd := X.w) (Ar := X.A.in1) (by have := I.ok.hd hc; simpa using this) it a (list_apart p' hit) its.toArray
    refine wpAny_pyNext_enum_itemD (i := i + 1) D he ⟨by omega, hit, p'⟩ (by have := (List.getElem?_eq_some_iff.mp hu).1; simpa using this) hne (by simp [hne, hea]) fun x h' tk hx ho stt hT hsz hk => ?_
    have ex : x = u := by
      have q : its.toArray[i]? = some x := hx.2
      rw [List.getElem?_toArray, hu] at q
      exact (Option.some.inj q).symm
    subst ex
    refine ⟨_, rfl, wpAny_letOwnedTupleGo_enum (s := { s with heap := h', toks := tk + 1 }) ho fun h2 he2 sb => ?_⟩
    have hT2 : h2.get? s.heap.objs.size = some { cls := .type "tuple", data := .seq #[.int ((i + 1 : Nat) : Int) tk, x] } := (sb.2 _ (Nat.ne_of_gt le)).trans hT
    have nw : ObjOk X.prog X.w (upd H s.heap.objs.size (.tup [.int ((i + 1 : Nat) : Int), y])) h2 s.heap.objs.size (.tup [.int ((i + 1 : Nat) : Int), y]) :=
      ⟨by show 2 ≤ sizeLine; decide, [.int ((i + 1 : Nat) : Int) tk, x], .cons ⟨_, rfl⟩ (.cons ru .nil), ⟨_, hT2, rfl, _, rfl⟩⟩
    have J1 : Inv X pins σ (upd H s.heap.objs.size (.tup [.int ((i + 1 : Nat) : Int), y])) { s with heap := h2, toks := tk + 1 } :=
      I.turnedNew (ch := [e, it]) (fun b ob hb q => (sb.2 b (fun z => hb (by simp [z]))).trans (hk b ob (fun z => hb (by simp [z])) (fun z => hb (by simp [z])) q)) hf (Nat.le_refl _) nw
    refine ⟨.ref s.heap.objs.size, _, J1, rfl, ⟨_, y, rfl, I.hok.fresh (Nat.le_refl _), rfl, fun zs hzs => by rw [I.list_inj hzs hq]; exact hy⟩, ⟨⟨x, ?_⟩, stt.2.1.at fun o q => (sb.2 it (Ne.symm hne)).trans q, hne⟩, fun b hb => ?_⟩
    · have e1 : (((i + 1 + 1 : Nat) : Nat) : Int) = ((i + 1 : Nat) : Int) + 1 := Int.natCast_add (i + 1) 1
      rw [e1]
      exact he2
    · have lb : b < s.heap.objs.size := by
        rcases (show b = e ∨ b = it by simpa using hb) with z | z
        · rw [z]; exact le
        · rw [z]; exact li
      rw [upd_ne (Nat.ne_of_lt lb)]
      exact (hf b hb).1
  done := by
    intro X hP hw hK hc i pins s σ H E I hf st hg
    subst hP hw hK
    obtain ⟨⟨old, he⟩, hit, hne⟩ := st
    obtain ⟨xs, hq, hx⟩ := hg
    obtain ⟨its, rv, p, hz⟩ := I.list hq
    obtain ⟨f0, f1, f2, f3, f4, f5⟩ := hf it (by simp)
    have hl := rv.length
    have hT : s.TypeIs (.ref e) "enumerate" := ⟨_, he, rfl⟩
    unfold pyNext
    refine wpAny_bind (wpAny_attempt (wpAny_callSpecial?_slot (name := Str.ofString "__next__") hT F.slot_enumerate_next (wpAny_call_entry F.slot_enumerate_next hT F.entry_enumerate_next ?_ (F.args_enumerate_next_1 _))))
    show wpAny _ _ (field (.ref e) 2 >>= _) _ _ _
    refine wpAny_bind (wpAny_field he rfl (x := .ref it) rfl ?_)
    refine wpAny_bind (wpAny_nextOf_list_end (by have := I.ok.hd hc; simpa using this) hit p.isList (by simp; omega) fun h' xx eb hxx => ?_)
    obtain ⟨o, ho, hcc⟩ := hxx
    refine wpAny_bind (wpAny_isInstance (T := "StopIteration") (b := true) ⟨o, ho, hcc⟩ isSubtype_stop (wpAny_pure ⟨rfl, I.turned (t' := s.toks) (fun b o hb q => eb b o hb q) f0 f1 f3 f4 f5⟩))
  self := fun A i s Q E st h => let ⟨⟨_, he⟩, _⟩ := st; wpAny_pyIter_enum he h
def iEnum1 (K : PySem.W.Frag) (ta : TA) : TI := fun σ H R => ta σ H fun vs H1 => ∃ a ys, vs = [.ref a] ∧ SqL K H1 a ys ∧ R (Ite1 K a) H1
section
variable {Mo : Model} {Ar : Around} {Er : Value → Shared → Prop} {z : Shared}
theorem callWith_type_kwB {pos : Pos} {id : String} {first : List Value} {args : List (Bool × Sem Value)} {keywords : List (Option Str × Sem Value)} {Q : Value → Shared → Prop}
    (hplain : args.any (·.1) = false) (hkw : keywords.any (·.1.isNone) = false)
    (h : wpAny Mo Ar (evalArgs (.type id) true args keywords) (fun a s₁ => wpAny Mo Ar (call (.type id) (first ++ a.pos) a.kw) Q Er s₁) Er z) :
    wpAny Mo Ar (callWith pos (.type id) first args keywords) Q Er z := by
  unfold callWith
  refine wpAny_bind (wpAny_holding (wpAny_mono h (fun a s₁ h₁ => wpAny_bind (wpAny_standAt ?_)) fun _ _ x => x))
  simp only [hplain, hkw, Bool.or_false]
  refine wpAny_bind (wpAny_pure ?_)
  exact wpAny_bind (wpAny_mono h₁ (fun r s₂ hr => wpAny_bind (wpAny_holding (wpAny_point (wpAny_pure hr)))) fun _ _ x => x)
end
/-- enumerate(e, start=1) -/
theorem pi_enum1 {X : Cx} {e : Expr} {ta : TA} {p pos tpos p5 kp : Pos} {j : Nat} {elts : List Expr} {kk : Nat} (hg : Gl X "enumerate") (hm : X.mg "enumerate" = none) (ha : PA X [e] ta) (hs : starEach [e] X.env = [(false, eval e X.env)]) :
    PI X (.Tuple elts kk tpos) (.Call (.Name "enumerate" p) [e] [⟨some "start", .Constant (.int 1) j p5, kp⟩] pos) (iEnum1 X.K ta) := by
  refine ⟨fun pins s σ H R I h => ?_⟩
  refine wpAny_Call_Name_kw (ld_blt I hg hm boot_enumerate ?_)
  have hb : backTo pos (starEach [e] X.env) = [(false, eval e X.env)] := by rw [hs]; rfl
  refine callWith_type_kwB (by rw [hb]; rfl) rfl ?_
  rw [hb]
  refine evalArgs_kwB rfl ?_
  rw [← hb]
  refine thn (ha.run pos pins s σ H _ I h) fun us z ⟨vs, H1, I1, r1, a, ys, ex, hq, q⟩ => ?_
  subst ex
  obtain ⟨u, rfl, ru⟩ := vals1 r1
  obtain rfl : u = Value.ref a := ru
  obtain ⟨its, rv, p', hz⟩ := I1.list hq
  refine kws_cons (thn ((pe_int (X := X) (i := 1) (j := j) (pos := p5)).run pins z σ H1 (fun v H2 => v = .int 1 ∧ H2 = H1) I1 ⟨rfl, rfl⟩) fun uk z2 ⟨vk, H2, I2, rk, ek, eh⟩ => kws_nil ?_)
  subst ek eh
  obtain ⟨tk, rfl⟩ := rk
  obtain ⟨its, rv, p', hz⟩ := I2.list hq
  refine enum_begins_start (begins_list a its.toArray) p'.isList (by decide) (by decide) fun h' he hit hsz hk => wpAny_pyIter_enum he ?_
  have J2 : Inv X pins σ H2 { z2 with heap := h' } := I2.kept (t' := z2.toks) hk
  refine ⟨z2.heap.objs.size + 1, [z2.heap.objs.size + 1, z2.heap.objs.size], _, _, H2, rfl, J2, turn_enum1 a (z2.heap.objs.size + 1) z2.heap.objs.size, ⟨⟨.none, he⟩, ⟨_, hit, rfl, rfl⟩, Nat.succ_ne_self _⟩, fun b hb => ?_, q⟩
  have lb : z2.heap.objs.size ≤ b := by
    rcases (show b = z2.heap.objs.size + 1 ∨ b = z2.heap.objs.size by simpa using hb) with y | y
    · rw [y]; exact Nat.le_add_right _ _
    · rw [y]; exact Nat.le_refl _
  exact I2.fpOk lb (I2.hok.fresh lb)
section
variable {X : Cx} {M : List Addr} {σ : L2.St} {H H' : Hp} {e o : Expr} {ds : List PyData} {D : Ends} {rest : List Stmt} {pos p1 p2 tpos p5 kp : Pos} {j : Nat}
/-- for i, x in enumerate(e, start=1): .. -/
theorem rb_enum1 {elts : List Expr} {kk : Nat} {body : List Stmt} (hm : X.mg "enumerate" = none) (hit : XD X M σ H e (.list ds))
    (h : ∀ H1, Same H H1 → ∃ Pv : Nat → L2.St → Hp → Prop, Pv 0 σ H1 ∧ (∀ k σ' H', Pv k σ' H' → Same (hid M H1) (hid M H')) ∧
      (∀ k d, ds[k]? = some d → ∀ σ' H' T x, Pv k σ' H' → H' T = none → Dq X.K (hid M H') x d → RG X (.Tuple elts kk tpos) (.ref T) σ' (upd H' T (.tup [.int ((k + 1 : Nat) : Int), x])) fun σ2 H2 => RB X body { D with nx := Pv (k + 1), ct := Pv (k + 1), bk := RB X rest D } σ2 H2) ∧ ∀ σ' H', Pv ds.length σ' H' → RB X rest D σ' H')
    (hg : Gl X "enumerate" := by rfl) (he : starEach [e] X.env = [(false, eval e X.env)] := by rfl) (hp : PassesOwn (model X.prog X.w) X.A X.env X.xe := by exact PassesOwn.never) (hc : X.calm = true := by rfl) (hs : ∀ x, foldedSetIterable (.Call (.Name "enumerate" p1) [e] [⟨some "start", .Constant (.int 1) j p5, kp⟩] p2) X.env x = pure x := by intro _; rfl) :
    RB X (.For (.Tuple elts kk tpos) (.Call (.Name "enumerate" p1) [e] [⟨some "start", .Constant (.int 1) j p5, kp⟩] p2) body [] pos :: rest) D σ H :=
  ⟨_, pss_cons (ps_for hp hc (pi_enum1 hg hm ra_ he) rg_ rb_ hs) rb_, ra_1 (hit H (Same.refl H) _ fun v H1 s1 hv => by
    obtain ⟨a, xs, rfl, ha, hx⟩ := dp_lst hv
    obtain ⟨Pv, h0, hk, hst, hd⟩ := h H1 s1
    have hlen := dpa_len hx
    refine ⟨a, xs, rfl, SqL.of (hid_le _ _ ha), fun i m σ' H' => m + i = xs.length ∧ Pv i σ' H', ⟨xs.length, rfl, h0⟩, fun i m σ' H' w => ?_⟩
    obtain ⟨hmi, hp⟩ := w
    have here : SqL X.K H' a xs := SqL.of (hid_le _ _ (hk i σ' H' hp _ _ ha))
    cases ex : xs[i]? with
    | none =>
      have hge : xs.length ≤ i := List.getElem?_eq_none_iff.mp ex
      have ei : i = ds.length := by omega
      subst ei
      exact .inl ⟨⟨xs, here, hge⟩, hd σ' H' hp⟩
    | some x0 =>
      have hlt := (List.getElem?_eq_some_iff.mp ex).1
      refine .inr ⟨⟨xs, x0, here, ex⟩, Pv (i + 1), fun σ2 H2 h2 => ⟨m - 1, by omega, by omega, h2⟩, fun v H2 hy => ?_⟩
      obtain ⟨T, x, rfl, hT, rfl, hx0⟩ := hy
      obtain ⟨d, hd1, hd2⟩ := dpa_get' hx (hx0 xs here)
      exact hst i d hd1 σ' H' T x hp hT (hd2.up (hk i σ' H' hp))) he⟩
/-! ### o.f as a target -/
def gFld (K : PySem.W.Frag) (to : TE) (f : Str) : TG := fun v σ H Q => to σ H fun x H1 => ∃ a C dx fs, x = .ref a ∧ H1 a = some (.ins C dx fs) ∧ L2.Cls K C ∧ NoAttr K C f ∧ fs.length < 1000 ∧ Q σ (upd H1 a (.ins C dx (putF f v fs)))
theorem pg_fld {f : Str} {to : TE} (ho : PE X o to) : PG X (.Attribute o f pos) (gFld X.K to f) := by
  refine ⟨fun pins s σ H v u Q I r h => ?_⟩
  show wpAny _ _ (do
      let ov ← holding [u] (eval o X.env)
      standAt pos.atName
      holding [u, ov] (setAttr ov f u)
      release [u, ov] []) _ _ _
  refine wpAny_bind (wpAny_holding (thn (ho.run pins s σ H _ I h) fun ov s1 ⟨x, H1, I1, r1, a, C, dx, fs, ex, ea, c, n, l, q1⟩ => ?_))
  subst ex
  obtain rfl : ov = Value.ref a := r1
  refine wpAny_bind (wpAny_standAt (wpAny_bind (wpAny_holding ?_)))
  exact setattr_ok I1 ea c n l r fun s3 I3 => wpAny_release ⟨σ, _, I3, q1⟩
theorem rg_fld {f : Str} {v : V} {a C dx : Addr} {fs : List (Str × V)} {Q : L2.St → Hp → Prop} (ho : XV X σ H o (.ref a)) (hc : L2.Cls X.K C) (hn : NoAttr X.K C f) (h : ∀ H1, Same H H1 → H1 a = some (.ins C dx fs) ∧ fs.length < 1000 ∧ Q σ (upd H1 a (.ins C dx (putF f v fs)))) : RG X (.Attribute o f pos) v σ H Q :=
  ⟨_, pg_fld re_, ho.go fun H1 s1 => by
    obtain ⟨h1, h2, h3⟩ := h H1 s1
    exact ⟨a, C, dx, fs, rfl, h1, hc, hn, h2, h3⟩⟩
end
end Dl

set_option Elab.async false
set_option linter.all false
set_option maxRecDepth 100000
set_option maxHeartbeats 8000000
namespace Zn
open PySem PySem.Spec PyProof.Rows L2 Dl
/-! programs: written dicts and tuples of texts; is_rule, number_of, is_free, part_behind, kind_given, step_of -/
abbrev sIsRule : Stmt := top 17
abbrev sFree : Stmt := top 31
abbrev sPart : Stmt := top 32
abbrev sStepOf : Stmt := top 30
abbrev sKindG : Stmt := top 34
/-! ### texts among texts -/
def optV : Option Str → V
  | some s => .str s
  | none => .non
def optSD : Option Str → PyData
  | some s => .str s
  | none => .none
def memO (o : Option Str) (l : List Str) : Bool := match o with
  | some s => decide (s ∈ l)
  | none => false
theorem flat_strs (l : List Str) : (l.map V.str).all flatV = true := List.all_eq_true.mpr fun v hv => by
  obtain ⟨s, _, rfl⟩ := List.mem_map.mp hv
  rfl
theorem flat_opt (o : Option Str) : flatV (optV o) = true := by cases o <;> rfl
theorem inV_opt (o : Option Str) : ∀ l : List Str, inV (optV o) (l.map V.str) = memO o l
  | [] => by cases o <;> rfl
  | x :: l => by
    have ih := inV_opt o l
    unfold inV at ih ⊢
    rw [List.map_cons, List.any_cons, ih]
    cases o with
    | none => rfl
    | some s =>
      show ((x == s) || decide (s ∈ l)) = decide (s ∈ x :: l)
      by_cases h : x = s
      · subst h; simp
      · rw [show (x == s) = false by simpa using h, Bool.false_or]
        by_cases m : s ∈ l
        · rw [decide_eq_true m, decide_eq_true (List.mem_cons_of_mem _ m)]
        · rw [decide_eq_false m, decide_eq_false fun z => (List.mem_cons.mp z).elim (fun e => h e.symm) m]
/-- a written tuple of texts -/
structure TxT (K : PySem.W.Frag) (mg : Str → Option Value) (x : Str) (l : List Str) : Prop where
  ex : ∃ a, mg x = some (.ref a) ∧ ∀ H, SqT K H a (l.map V.str)
/-- TAKES, GIVES -/
def takesL : List (Str × List Str) := [("read", ["moment"]), ("place", ["reading"]), ("add", ["moment", "reading"]), ("days", ["reading"]), ("at", ["reading"]), ("time", ["reading"]), ("day", ["reading"]), ("between", ["moment", "reading"]), ("before", ["moment", "reading"])]
def givesL : List (Str × Str) := [("read", "reading"), ("place", "moment"), ("time", "number"), ("day", "number"), ("between", "number"), ("before", "truth")]
structure TkD (K : PySem.W.Frag) (w : World) (mg : Str → Option Value) : Prop where
  ex : ∃ d es n, mg "TAKES" = some (.ref d) ∧ KDict K w d es n ∧ (∀ z, takesL.lookup z = none → PySem.W.nsIn K d z = some none) ∧ ∀ z l, takesL.lookup z = some l → ∃ p, PySem.W.nsIn K d z = some (some (.ref p)) ∧ ∀ H, SqT K H p (l.map V.str)
structure GvD (K : PySem.W.Frag) (w : World) (mg : Str → Option Value) : Prop where
  ex : ∃ d es n, mg "GIVES" = some (.ref d) ∧ KDict K w d es n ∧ (∀ z, givesL.lookup z = none → PySem.W.nsIn K d z = some none) ∧ ∀ z y, givesL.lookup z = some y → ∃ t, PySem.W.nsIn K d z = some (some (.str y t))
section
variable {X : Cx} {M : List Addr} {σ : L2.St} {H : Hp} {o e e1 e2 a b : Expr} {x z : Str} {l : List Str} {ov : Option Str} {pos p1 p2 p3 apos : Pos} {v : V}
theorem xd_inT {p : Addr} (ha : XV X σ H a (optV ov)) (hb : XV X σ H b (.ref p)) (hp : ∀ H, SqT X.K H p (l.map V.str)) (hm : behindInMarks .In b = false := by rfl) : XD X M σ H (.Compare a [.In] [b] pos) (.bool (memO ov l)) := fun H1 s Q q =>
  ⟨_, pe_cmpR op_in_seq re_ re_ hm, ha H1 s _ fun H2 s2 => hb H2 (s.trans s2) _ fun H3 s3 => ⟨p, _, rfl, .inr (hp H3), flat_opt ov, flat_strs l, by
    rw [inV_opt]; exact q _ H3 (s2.trans s3) (.bl _)⟩⟩
theorem xt_inT {p : Addr} (ha : XV X σ H a (optV ov)) (hb : XV X σ H b (.ref p)) (hp : ∀ H, SqT X.K H p (l.map V.str)) (hm : behindInMarks .In b = false := by rfl) : XT X σ H (.Compare a [.In] [b] pos) (memO ov l) := fun H1 s Q q =>
  ⟨_, pt_cmpR op_in_seq re_ re_ hm, ha H1 s _ fun H2 s2 => hb H2 (s.trans s2) _ fun H3 s3 => ⟨p, _, rfl, .inr (hp H3), flat_opt ov, flat_strs l, by
    rw [inV_opt]; exact ⟨_, rfl, q H3 (s2.trans s3)⟩⟩⟩
theorem xt_notInT {p : Addr} (ha : XV X σ H a (optV ov)) (hb : XV X σ H b (.ref p)) (hp : ∀ H, SqT X.K H p (l.map V.str)) (hm : behindInMarks .NotIn b = false := by rfl) : XT X σ H (.Compare a [.NotIn] [b] pos) (!memO ov l) := fun H1 s Q q =>
  ⟨_, pt_cmpR op_notIn_seq re_ re_ hm, ha H1 s _ fun H2 s2 => hb H2 (s.trans s2) _ fun H3 s3 => ⟨p, _, rfl, .inr (hp H3), flat_opt ov, flat_strs l, by
    rw [inV_opt]; exact ⟨_, rfl, q H3 (s2.trans s3)⟩⟩⟩
/-- word not in TAKES -/
theorem xt_notTk (D : TkD X.K X.w X.mg) (ha : XV X σ H a (.str z)) (hg : Gl X "TAKES" := by rfl) (hm : behindInMarks .NotIn (.Name "TAKES" p1) = false := by rfl) : XT X σ H (.Compare a [.NotIn] [.Name "TAKES" p1] pos) (!(takesL.lookup z).isSome) := fun H1 s Q q => by
  obtain ⟨d, es, n, h1, kd, h2, h3⟩ := D.ex
  refine ⟨_, pt_cmpR (op_notIn_kd kd) re_ re_ hm, ha H1 s _ fun H2 s2 => xv_glob (v := .ref d) h1 rfl hg (by decide) H2 (Same.refl _) _ fun H3 s3 => ?_⟩
  cases e : takesL.lookup z with
  | none => rw [e] at q; exact ⟨z, none, rfl, rfl, h2 z e, _, rfl, q H3 (s2.trans s3)⟩
  | some l =>
    rw [e] at q
    obtain ⟨p, h4, _⟩ := h3 z l e
    exact ⟨z, _, rfl, rfl, h4, _, rfl, q H3 (s2.trans s3)⟩
/-- TAKES[word] -/
theorem xv_tk (D : TkD X.K X.w X.mg) (ha : XV X σ H a (.str z)) (hz : takesL.lookup z = some l) (hs : PlainIx a) (hg : Gl X "TAKES" := by rfl) : ∃ p, (∀ H, SqT X.K H p (l.map V.str)) ∧ XV X σ H (.Subscript (.Name "TAKES" p1) a pos) (.ref p) := by
  obtain ⟨d, es, n, h1, kd, h2, h3⟩ := D.ex
  obtain ⟨p, h4, h5⟩ := h3 z l hz
  exact ⟨p, h5, fun H1 s Q q => ⟨_, pe_ix ix_kdict re_ re_ hs, xv_glob (v := .ref d) h1 rfl hg (by decide) H1 (Same.refl _) _ fun H2 s2 => ha H2 (s.trans s2) _ fun H3 s3 => ⟨d, z, .ref p, rfl, rfl, ⟨es, n, .ref p, kd.at_, kd.lit, h4, rfl⟩, q H3 (s2.trans s3)⟩⟩⟩
/-- GIVES.get(k, d) -/
theorem xv_gvget {dflt : Str} (D : GvD X.K X.w X.mg) (ha : XV X σ H e1 (.str z)) (hb : XV X σ H e2 (.str dflt)) (mm : M2 X (.Name "GIVES" p1) "get" apos e1 e2 pos) (hg : Gl X "GIVES" := by rfl) : XV X σ H (.Call (.Attribute (.Name "GIVES" p1) "get" apos) [e1, e2] [] pos) (.str ((givesL.lookup z).getD dflt)) := by
  obtain ⟨d, es, n, h1, kd, h2, h3⟩ := D.ex
  intro H1 s Q q
  refine ⟨fun σ' H' Q' => RE X (.Name "GIVES" p1) σ' H' fun x H2 => x = .ref d ∧ RE X e1 σ' H2 fun y H3 => ∃ zz, y = .str zz ∧ RE X e2 σ' H3 fun u H4 => ∃ dd, u = .str dd ∧ Q' (.str ((givesL.lookup zz).getD dd)) H4, ⟨fun pins st σ' H' Q' I h => ?_⟩, ?_⟩
  · refine wpAny_Call_method mm.base mm.few mm.line PySem.F.plainAttrs_dict PySem.F.slot_dict_get PySem.F.type_dict_get (thn (re_.run pins st σ' H' _ I h) fun u s1 ⟨x, H2, I1, rx, ex, q1⟩ => ?_)
    subst ex
    obtain rfl : u = Value.ref d := rx
    have ty := kd_type kd I1
    have look := I1.kIn _ _ kd.at_
    refine ⟨ty, fun b hb => by cases hb; exact ⟨_, look, rfl⟩, ?_⟩
    rw [mm.trees]
    refine Calls.callWith_builtin rfl (Calls.evalArgs_plain (Calls.spliced_cons (thn (re_.run pins s1 σ' H2 _ I1 q1) fun iv s2 ⟨y, H3, I2, ry, zz, ey, q2⟩ => ?_)))
    subst ey
    obtain ⟨tz, rfl⟩ := ry
    refine Calls.spliced_cons (thn (re_.run pins s2 σ' H3 _ I2 q2) fun fv s3 ⟨yd, H4, I3, rd, dd, ed, q3⟩ => Calls.spliced_nil ?_)
    subst ed
    have hm := PySem.W.mapOf_K (prog := X.prog) (w := X.w) I3.kIn kd.at_ kd.lit
    refine call_meetsIn PySem.F.slot_dict_get hm.typeIs PySem.F.entry_dict_get (PySem.F.args_dict_get_3 _ _ _) (meets_dict_get_default (PySem.strKind X.prog X.w) d (PySem.strKind_is X.prog X.w zz tz) kd.low fv) ⟨_, hm, ?_⟩
    cases e : givesL.lookup zz with
    | none =>
      rw [PySem.W.find_K kd.at_ (h2 zz e)]
      rw [e] at q3
      exact ⟨_, H4, I3.tok _, rd, q3⟩
    | some yy =>
      obtain ⟨t, h4⟩ := h3 zz yy e
      rw [PySem.W.find_K kd.at_ h4]
      rw [e] at q3
      exact ⟨.str yy, H4, I3.tok _, (show RelV (.str yy) (.str yy t) from ⟨t, rfl⟩), q3⟩
  · exact xv_glob (v := .ref d) h1 rfl hg (by decide) H1 (Same.refl _) _ fun H2 s2 => ⟨rfl, ha H2 (s.trans s2) _ fun H3 s3 => ⟨z, rfl, hb H3 ((s.trans s2).trans s3) _ fun H4 s4 => ⟨dflt, rfl, q H4 ((s2.trans s3).trans s4)⟩⟩⟩
end
/-! ### the program's own words -/
def rulesL : List Str := ["ahead", "behind", "strict"]
def ruleB (x : Str) : Bool := decide (x ∈ rulesL)
def RIsR (ds : List PyData) (d : PyData) : Prop := ∃ x : Str, ds = [.str x] ∧ d = .bool (ruleB x)
def RNumOf (ds : List PyData) (d : PyData) : Prop := ∃ (x : Str) (dg most : Int), ds = [.str x, .int most] ∧ x.length ≤ 4000 ∧ ((dg = 6 ∧ most = 100000) ∨ (dg = 2 ∧ most = 60)) ∧ d = optI (numV x dg most)
section
variable {P : Program} {w : World} {K : PySem.W.Frag} {mg : Str → Option Value} {base : Heap}
theorem scIsRule : FnScope ["value"] ["value"] (defScope sIsRule) := ⟨rfl, rfl, rfl, by decide +kernel, rfl, by decide +kernel, by decide +kernel⟩
theorem ok_isRule {f : Addr} {fd : FuncData} (T : Nm mg) (hR : TxT K mg "RULES" rulesL) (F : Df K mg "is_rule" sIsRule ["value"] f fd) : FnOk P w K mg base CX0 1 f fd ["value"] (spR K RIsR) := by
  obtain ⟨ra, hR1, hR2⟩ := hR.ex
  refine F.F.ok scIsRule (fun vs H Q E h => ?_) (fun cdv A outer s H vs Q E hr h => ?_)
  · obtain ⟨M, ds, d, L, hd, ⟨x, rfl, _⟩, q⟩ := h
    exact dpa_len hd
  · obtain ⟨M, ds, d, L, hd, ⟨x, rfl, rfl⟩, q⟩ := h
    cases hd with
    | cons h1 h2 =>
      cases h2
      have e1 := dp_str h1
      subst e1
      exact rb_ret (M := M) (xd_andT (xd_is1 (d := .str x) (r := true) (T := "str") (show kitB "str" "str" = some true by decide +kernel) T.isi T.str (by decide +kernel) (xd_name 0 rfl h1)) (xd_one (xd_inT (ov := some x) (xv_name 0 rfl) (xv_glob (v := .ref ra) hR1 rfl) hR2))) q
theorem scNumOf : FnScope ["text", "most", "number"] ["text", "most"] (defScope sNumOf) := ⟨rfl, rfl, rfl, by decide +kernel, rfl, by decide +kernel, by decide +kernel⟩
theorem ok_numOf {f fT : Addr} {fd fdT : FuncData} (T : Nm mg) (GT : FnOk P w K mg base CX0 1 fT fdT ["text", "digits"] (spR K RNumT)) (FT : Df K mg "is_number_text" sIsNT ["text", "digits"] fT fdT) (F : Df K mg "number_of" sNumOf ["text", "most"] f fd) : FnOk P w K mg base CX0 2 f fd ["text", "most"] (spR K RNumOf) := by
  refine F.F.ok scNumOf (fun vs H Q E h => ?_) (fun cdv A outer s H vs Q E hr h => ?_)
  · obtain ⟨M, ds, d, L, hd, ⟨x, dg, most, rfl, _⟩, q⟩ := h
    exact dpa_len hd
  · obtain ⟨M, ds, d, L, hd, ⟨x, dg, most, rfl, hl, hdm, rfl⟩, q⟩ := h
    cases hd with
    | cons h1 hd => cases hd with
      | cons h2 hd =>
        cases hd
        have e1 := dp_str h1
        have e2 := dp_int h2
        subst e1 e2
        have hlen : ((Str.ofString (toString most)).length : Int) = dg ∧ most.natAbs.log2 < 1920 := by
          rcases hdm with ⟨rfl, rfl⟩ | ⟨rfl, rfl⟩
          · exact ⟨by decide +kernel, by decide +kernel⟩
          · exact ⟨by decide +kernel, by decide +kernel⟩
        have hsl : (Str.ofString (toString most)).length ≤ 100000 := by
          have : dg ≤ 6 := by rcases hdm with ⟨rfl, _⟩ | ⟨rfl, _⟩ <;> decide
          omega
        refine rb_if (k := !(numB x dg)) (xt_not (xt_val (M := []) (xd_call Live.nil GT hr FT.g FT.F.kp FT.b (xa_cons (xd_name 0 rfl (.str x)) (xa_cons (XD.to (xd_lenStr T.len (xd_strI T.str (xv_name 1 rfl).int hlen.2) hsl) (by rw [hlen.1])) xa_nil)) ⟨x, dg, rfl, by omega, rfl⟩))) (fun e H1 s1 => ?_) (fun e H1 s1 => rb_nil ?_)
        · refine rb_ret (M := M) xd_non fun v H2 s2 hv => q v H2 (s1.trans s2) ?_
          have e' : numB x dg = false := by simpa using e
          have : numV x dg most = none := by unfold numV; rw [e']; rfl
          rw [this]
          exact hv
        · have e' : numB x dg = true := by simpa using e
          have hb2 : x.length ≤ 640 := by
            have h := e'
            unfold numB at h
            rw [Bool.and_eq_true, Bool.and_eq_true] at h
            have h2 := of_decide_eq_true h.1.2
            have hx : x.length = x.cps.toList.length := TL.len_tl x
            have hbl : x.cps.toList.length ≤ (bareL x.cps.toList).length + 1 := by
              unfold bareL
              split
              · rename_i t e; rw [e, List.length_cons]; exact Nat.le_refl _
              · omega
            have : dg ≤ 6 := by rcases hdm with ⟨rfl, _⟩ | ⟨rfl, _⟩ <;> decide
            omega
          refine rb_set 2 (M := []) (d := .int (numI x)) (xd_intS T.int (xd_name 0 rfl (.str x)) (num_int e' (by omega)) hb2) (fun v H2 s2 hv => ?_) scNumOf.nd
          have ev := dp_int hv
          subst ev
          have hab : (if numI x < 0 then -numI x else numI x) ≤ most ↔ (numI x).natAbs ≤ most.natAbs := by
            rcases hdm with ⟨_, rfl⟩ | ⟨_, rfl⟩ <;> (split <;> omega)
          cases c : decide ((if numI x < 0 then -numI x else numI x) ≤ most) with
          | true =>
            have c' := hab.mp (of_decide_eq_true c)
            have : numV x dg most = some (numI x) := by unfold numV; rw [if_pos e', if_pos c']
            refine rb_ret (M := []) (d := .int (numI x)) (xd_ifT (XT.to (xt_cmpI (M := []) op_le (xd_abs T.abs (xv_name 2 rfl).int) (xv_name 1 rfl).int) c) (xv_name 2 rfl).int) fun v3 H3 s3 hv3 => q v3 H3 ((s1.trans s2).trans s3) ?_
            rw [this, dp_int hv3]
            exact .int _
          | false =>
            have c' : ¬(numI x).natAbs ≤ most.natAbs := fun z => of_decide_eq_false c (hab.mpr z)
            have : numV x dg most = none := by unfold numV; rw [if_pos e', if_neg c']
            refine rb_ret (M := []) (d := .none) (xd_ifF (XT.to (xt_cmpI (M := []) op_le (xd_abs T.abs (xv_name 2 rfl).int) (xv_name 1 rfl).int) c) xd_non) fun v3 H3 s3 hv3 => q v3 H3 ((s1.trans s2).trans s3) ?_
            rw [this, dp_non hv3]
            exact .non
end
end Zn

set_option Elab.async false
set_option linter.all false
set_option maxRecDepth 100000
set_option maxHeartbeats 8000000
namespace Zn
open PySem PySem.Spec PyProof.Rows L2 Dl
/-! programs: is_free, part_behind, step_of, kind_given: the lines of a program -/
def optIV : Option Int → V
  | some n => .int n
  | none => .non
def fk (kf : Str → Str) : Str → V := fun s => .str (kf s)
def kget (ks : List Str) (kf : Str → Str) (x : Str) : Option Str := if x ∈ ks then some (kf x) else none
theorem kget_v (ks : List Str) (kf : Str → Str) (x : Str) : (if x ∈ ks then fk kf x else .non) = optV (kget ks kf x) := by
  unfold kget
  split <;> rfl
def singleL : List Str := ["read", "time", "day"]
def partV (ks : List Str) (kf : Str → Str) (word kind t : Str) : V :=
  if word = "place" then (if ruleB t = true then .str t else .non) else if word = "add" then optIV (numV t 6 100000) else if word = "days" then optIV (numV t 2 60) else if word = "at" then optIV (ttV t) else if kget ks kf t = some kind then .str t else .non
/-- a line's tuple: name, word, first value's name, the rest -/
structure Stp where
  nm : Str
  wd : Str
  x : Str
  more : V
def mrD : V → PyData
  | .str s => .str s
  | .int n => .int n
  | _ => .none
def stpD (s : Stp) : PyData := .tuple [.str s.nm, .str s.wd, .str s.x, mrD s.more]
def optStD : Option Stp → PyData
  | some s => stpD s
  | none => .none
def stepM (ks : List Str) (kf : Str → Str) (nm wd x : Str) (rest : List Str) : Option Stp := match rest with
  | [t] => if partV ks kf wd (kf x) t = .non then none else some ⟨nm, wd, x, partV ks kf wd (kf x) t⟩
  | _ => none
def stepV2 (ks : List Str) (kf : Str → Str) (nm eq wd x : Str) (rest : List Str) : Option Stp :=
  if (nameB nm && !decide (nm ∈ ks)) = true ∧ eq = "=" then
    match takesL.lookup wd with
    | none => none
    | some l => if memO (kget ks kf x) l = true then
        if wd ∈ singleL then (if rest = [] then some ⟨nm, wd, x, .non⟩ else none)
        else stepM ks kf nm wd x rest
      else none
  else none
def stepV (ks : List Str) (kf : Str → Str) (ws : List Str) : Option Stp := match ws with
  | nm :: eq :: wd :: x :: rest => stepV2 ks kf nm eq wd x rest
  | _ => none
theorem optIV_dq {K : PySem.W.Frag} {H : Hp} (o : Option Int) : Dq K H (optIV o) (mrD (optIV o)) := by
  cases o with
  | none => exact .non
  | some n => exact .int n
theorem part_dq {K : PySem.W.Frag} {H : Hp} (ks : List Str) (kf : Str → Str) (word kind t : Str) : Dq K H (partV ks kf word kind t) (mrD (partV ks kf word kind t)) := by
  unfold partV
  split
  · split
    · exact .str _
    · exact .non
  · split
    · exact optIV_dq _
    · split
      · exact optIV_dq _
      · split
        · exact optIV_dq _
        · split
          · exact .str _
          · exact .non
def spFree (K : PySem.W.Frag) : Sp := fun vs H Q _ => ∃ (nm : Str) (kd : Addr) (ks : List Str) (kf : Str → Str), vs = [.str nm, .ref kd] ∧ DM H kd ks (fk kf) ∧ nm.length ≤ 1000 ∧ ∀ H1, Same H H1 → Q (.bl (nameB nm && !decide (nm ∈ ks))) H1
def spPart (K : PySem.W.Frag) : Sp := fun vs H Q _ => ∃ (word kind t : Str) (kd : Addr) (ks : List Str) (kf : Str → Str), vs = [.str word, .str kind, .str t, .ref kd] ∧ DM H kd ks (fk kf) ∧ t.length ≤ 1000 ∧ ∀ H1, Same H H1 → Q (partV ks kf word kind t) H1
def spStep (K : PySem.W.Frag) : Sp := fun vs H Q _ => ∃ (M : List Addr) (vw : V) (kd : Addr) (ws ks : List Str) (kf : Str → Str), vs = [vw, .ref kd] ∧ Live M H ∧ Dq K (hid M H) vw (.list (ws.map PyData.str)) ∧ DM H kd ks (fk kf) ∧ (∀ w ∈ ws, w.length ≤ 1000) ∧
  ∀ v H1, Same H H1 → Dq K (hid M H1) v (optStD (stepV ks kf ws)) → Q v H1
def kindS (kf : Str → Str) (s : Stp) : Str := (givesL.lookup s.wd).getD (kf s.x)
def spKindG (K : PySem.W.Frag) : Sp := fun vs H Q _ => ∃ (M : List Addr) (v : V) (kd : Addr) (s : Stp) (ks : List Str) (kf : Str → Str), vs = [v, .ref kd] ∧ Live M H ∧ Dq K (hid M H) v (stpD s) ∧ DM H kd ks (fk kf) ∧ s.x ∈ ks ∧ ∀ H1, Same H H1 → Q (.str (kindS kf s)) H1
section
variable {X : Cx} {M : List Addr} {σ : L2.St} {H : Hp} {o e e1 e2 e3 e4 a b : Expr} {x z y : Str} {ov : Option Str} {pos p1 p2 p3 apos : Pos} {v : V} {f : Addr} {fd : FuncData}
theorem xt_eqOV (ha : XV X σ H a (optV ov)) (hb : XV X σ H b (.str y)) : XT X σ H (.Compare a [.Eq] [b] pos) (decide (ov = some y)) := by
  cases ov with
  | none =>
    refine xt_cmp (M := []) (d1 := .none) (d2 := .str y) op_eq (ha.dd .non) (hb.dd (.str y)) fun H1 v w s hv hw Q q => ?_
    rw [dp_non hv, dp_str hw]
    exact ⟨rfl, q H1 (Same.refl _)⟩
  | some u =>
    refine xt_cmp (M := []) (d1 := .str u) (d2 := .str y) op_eq (ha.dd (.str u)) (hb.dd (.str y)) fun H1 v w s hv hw Q q => ?_
    rw [dp_str hv, dp_str hw]
    refine ⟨rfl, ?_⟩
    have e : decide (V.str u = V.str y) = decide (some u = some y) := by
      by_cases h : u = y
      · subst h; simp
      · rw [decide_eq_false (fun z => h (V.str.inj z)), decide_eq_false (fun z => h (Option.some.inj z))]
    rw [e]
    exact q H1 (Same.refl _)
theorem xv_dgetO {kd : Addr} {ks : List Str} {kf : Str → Str} (hu : X.A.units + 1 < cLine) (ho : XV X σ H o (.ref kd)) (hk : XV X σ H e (.str x)) (hW : DM H kd ks (fk kf)) (mm : M1 X o "get" p1 e p2) : XV X σ H (.Call (.Attribute o "get" p1) [e] [] p2) (optV (kget ks kf x)) := by
  rw [← kget_v]
  exact xv_dgets (M := []) hu ho (hk.dd (.str x)) hW mm
theorem xt_eqSV (ha : XV X σ H a (.str x)) (hb : XV X σ H b (.str y)) : XT X σ H (.Compare a [.Eq] [b] pos) (decide (x = y)) := XT.to (xt_eqOV (ov := some x) ha hb) (by
  by_cases h : x = y
  · subst h; simp
  · rw [decide_eq_false h, decide_eq_false fun z => h (Option.some.inj z)])
theorem xd_isName (G : FnOk X.prog X.w X.K X.mg X.base CX0 1 f fd ["value"] (spName X.K)) (hr : Room 1 X.A) (FF : Df X.K X.mg "is_name" sIsName ["value"] f fd) (ha : XV X σ H e (.str x)) (hx : x.length ≤ 1000)
    (hg : Gl X "is_name" := by rfl) (he : starEach [e] X.env = (false, eval e X.env) :: starEach [] X.env := by rfl) (hpl : (backTo pos (starEach [] X.env)).any (·.1) = false := by rfl) : XD X M σ H (.Call (.Name "is_name" p1) [e] [] pos) (.bool (nameB x)) := fun H1 s Q q =>
  re_call G hr FF.g FF.F.kp FF.b (ra_1 (ha H1 s _ fun H2 s2 => ⟨.str x, "str", rfl, th_str, fun y hy => by cases hy; exact ⟨hx, fun H3 s3 => q _ H3 (s2.trans s3) (.bl _)⟩, fun c => absurd rfl c⟩) he) hg (by decide) he hpl
theorem xd_isTT (G : FnOk X.prog X.w X.K X.mg X.base CX0 1 f fd ["value"] (spTT X.K)) (hr : Room 1 X.A) (FF : Df X.K X.mg "is_time_text" sIsTT ["value"] f fd) (ha : XV X σ H e (.str x)) (hx : x.length ≤ 1000)
    (hg : Gl X "is_time_text" := by rfl) (he : starEach [e] X.env = (false, eval e X.env) :: starEach [] X.env := by rfl) (hpl : (backTo pos (starEach [] X.env)).any (·.1) = false := by rfl) : XD X M σ H (.Call (.Name "is_time_text" p1) [e] [] pos) (.bool (ttV x).isSome) := fun H1 s Q q =>
  re_call G hr FF.g FF.F.kp FF.b (ra_1 (ha H1 s _ fun H2 s2 => ⟨.str x, "str", rfl, th_str, fun y hy => by cases hy; exact ⟨hx, fun H3 s3 => q _ H3 (s2.trans s3) (.bl _)⟩, fun c => absurd rfl c⟩) he) hg (by decide) he hpl
/-- time_from(text), the text of a time -/
theorem xv_tf {C : Addr} {t : Int} (G : FnOk X.prog X.w X.K X.mg X.base CX0 3 f fd ["text"] (fun vs H Q _ => spTF X.K C vs H Q fun _ _ _ => False)) (hr : Room 3 X.A) (FF : Df X.K X.mg "time_from" sTimeFrom ["text"] f fd) (ha : XV X σ H e (.str x)) (hx : x.length ≤ 1000) (ht : ttV x = some t)
    (hg : Gl X "time_from" := by rfl) (he : starEach [e] X.env = (false, eval e X.env) :: starEach [] X.env := by rfl) (hpl : (backTo pos (starEach [] X.env)).any (·.1) = false := by rfl) : XV X σ H (.Call (.Name "time_from" p1) [e] [] pos) (.int t) := fun H1 s Q q =>
  re_call G hr FF.g FF.F.kp FF.b (ra_1 (ha H1 s _ fun H2 s2 => ⟨.str x, "str", rfl, th_str, fun y hy => by cases hy; exact hx, fun y u hy hu H3 s3 => by
    cases hy
    rw [ht] at hu
    cases hu
    exact q H3 (s2.trans s3), fun h => by
    have := h x rfl
    rw [ht] at this
    cases this⟩) he) hg (by decide) he hpl
end
section
variable {P : Program} {w : World} {K : PySem.W.Frag} {mg : Str → Option Value} {base : Heap}
theorem scFree : FnScope ["name", "kinds"] ["name", "kinds"] (defScope sFree) := ⟨rfl, rfl, rfl, by decide +kernel, rfl, by decide +kernel, by decide +kernel⟩
theorem ok_free {f fN : Addr} {fd fdN : FuncData} (GN : FnOk P w K mg base CX0 1 fN fdN ["value"] (spName K)) (FN : Df K mg "is_name" sIsName ["value"] fN fdN) (F : Df K mg "is_free" sFree ["name", "kinds"] f fd) : FnOk P w K mg base CX0 2 f fd ["name", "kinds"] (spFree K) := by
  refine F.F.ok scFree (fun vs H Q E h => ?_) (fun cdv A outer s H vs Q E hr h => ?_)
  · obtain ⟨nm, kd, ks, kf, rfl, _⟩ := h; rfl
  · obtain ⟨nm, kd, ks, kf, rfl, hd, hl, q⟩ := h
    have hu := Nat.lt_of_le_of_lt (Nat.add_le_add_left (show 1 ≤ 64 by decide) _) hr.units
    exact rb_ret (M := []) (xd_and2 (xd_isName GN hr FN (xv_name 0 rfl) hl) fun _ => xd_dnin hu (xv_name 0 rfl |>.dd (.str nm)) (xv_name 1 rfl) hd) fun v H1 s1 hv => by rw [dp_bl hv]; exact q H1 s1
theorem scPart : FnScope ["word", "kind", "text", "kinds"] ["word", "kind", "text", "kinds"] (defScope sPart) := ⟨rfl, rfl, rfl, by decide +kernel, rfl, by decide +kernel, by decide +kernel⟩
theorem optI_v {K : PySem.W.Frag} {H : Hp} {v : V} {o : Option Int} (h : Dq K H v (optI o)) : v = optIV o := by
  cases o with
  | none => exact dp_non h
  | some n => exact dp_int h
theorem ok_part {C : Addr} {f fR fN fT fF : Addr} {fd fdR fdN fdT fdF : FuncData} (hM : ∃ t, mg "MOST_MINUTES" = some (.int 100000 t)) (hD : ∃ t, mg "MOST_DAYS" = some (.int 60 t))
    (GR : FnOk P w K mg base CX0 1 fR fdR ["value"] (spR K RIsR)) (FR : Df K mg "is_rule" sIsRule ["value"] fR fdR) (GN : FnOk P w K mg base CX0 2 fN fdN ["text", "most"] (spR K RNumOf)) (FN : Df K mg "number_of" sNumOf ["text", "most"] fN fdN)
    (GT : FnOk P w K mg base CX0 1 fT fdT ["value"] (spTT K)) (FT : Df K mg "is_time_text" sIsTT ["value"] fT fdT) (GF : FnOk P w K mg base (L2.CX P w) 3 fF fdF ["text"] (spTF K C)) (FF : Df K mg "time_from" sTimeFrom ["text"] fF fdF)
    (F : Df K mg "part_behind" sPart ["word", "kind", "text", "kinds"] f fd) : FnOk P w K mg base CX0 4 f fd ["word", "kind", "text", "kinds"] (spPart K) := by
  obtain ⟨t1, hM⟩ := hM
  obtain ⟨t2, hD⟩ := hD
  refine F.F.ok scPart (fun vs H Q E h => ?_) (fun cdv A outer s H vs Q E hr h => ?_)
  · obtain ⟨word, kind, t, kd, ks, kf, rfl, _⟩ := h; rfl
  · obtain ⟨word, kind, t, kd, ks, kf, rfl, hd, hl, q⟩ := h
    have hu := Nat.lt_of_le_of_lt (Nat.add_le_add_left (show 1 ≤ 64 by decide) _) hr.units
    have hr2 := hr.mono (show 2 ≤ 3 by decide)
    have hr1 := hr.mono (show 1 ≤ 3 by decide)
    refine rb_if (k := decide (word = "place")) (xt_eqSV (xv_name 0 rfl) xv_str) (fun e H1 s1 => ?_) (fun e H1 s1 => rb_nil ?_)
    · have e' := of_decide_eq_true e
      have ev : partV ks kf word kind t = if ruleB t = true then .str t else .non := by unfold partV; rw [if_pos e']
      rw [ev] at q
      cases c : ruleB t with
      | true =>
        rw [c] at q
        exact rb_ret (M := []) (xd_ifT (XT.to (xt_val (M := []) (xd_call (d := .bool (ruleB t)) Live.nil GR hr1 FR.g FR.F.kp FR.b (xa_cons (xd_name 2 rfl (.str t)) xa_nil) ⟨t, rfl, rfl⟩)) c) (xd_name 2 rfl (.str t))) fun v H2 s2 hv => by rw [dp_str hv]; exact q H2 (s1.trans s2)
      | false =>
        rw [c] at q
        exact rb_ret (M := []) (xd_ifF (XT.to (xt_val (M := []) (xd_call (d := .bool (ruleB t)) Live.nil GR hr1 FR.g FR.F.kp FR.b (xa_cons (xd_name 2 rfl (.str t)) xa_nil) ⟨t, rfl, rfl⟩)) c) xd_non) fun v H2 s2 hv => by rw [dp_non hv]; exact q H2 (s1.trans s2)
    have n1 := of_decide_eq_false e
    refine rb_if (k := decide (word = "add")) (xt_eqSV (xv_name 0 rfl) xv_str) (fun e H2 s2 => ?_) (fun e H2 s2 => rb_nil ?_)
    · have e' := of_decide_eq_true e
      have ev : partV ks kf word kind t = optIV (numV t 6 100000) := by unfold partV; rw [if_neg n1, if_pos e']
      rw [ev] at q
      exact rb_ret (M := []) (d := optI (numV t 6 100000)) (xd_call Live.nil GN hr2 FN.g FN.F.kp FN.b (xa_cons (xd_name 2 rfl (.str t)) (xa_cons (xv_glob (v := .int 100000) hM ⟨t1, rfl⟩).int xa_nil)) ⟨t, 6, 100000, rfl, by omega, .inl ⟨rfl, rfl⟩, rfl⟩) fun v H3 s3 hv => by rw [optI_v hv]; exact q H3 ((s1.trans s2).trans s3)
    have n2 := of_decide_eq_false e
    refine rb_if (k := decide (word = "days")) (xt_eqSV (xv_name 0 rfl) xv_str) (fun e H3 s3 => ?_) (fun e H3 s3 => rb_nil ?_)
    · have e' := of_decide_eq_true e
      have ev : partV ks kf word kind t = optIV (numV t 2 60) := by unfold partV; rw [if_neg n1, if_neg n2, if_pos e']
      rw [ev] at q
      exact rb_ret (M := []) (d := optI (numV t 2 60)) (xd_call Live.nil GN hr2 FN.g FN.F.kp FN.b (xa_cons (xd_name 2 rfl (.str t)) (xa_cons (xv_glob (v := .int 60) hD ⟨t2, rfl⟩).int xa_nil)) ⟨t, 2, 60, rfl, by omega, .inr ⟨rfl, rfl⟩, rfl⟩) fun v H4 s4 hv => by rw [optI_v hv]; exact q H4 (((s1.trans s2).trans s3).trans s4)
    have n3 := of_decide_eq_false e
    refine rb_if (k := decide (word = "at")) (xt_eqSV (xv_name 0 rfl) xv_str) (fun e H4 s4 => ?_) (fun e H4 s4 => rb_nil ?_)
    · have e' := of_decide_eq_true e
      have ev : partV ks kf word kind t = optIV (ttV t) := by unfold partV; rw [if_neg n1, if_neg n2, if_neg n3, if_pos e']
      rw [ev] at q
      have s04 := ((s1.trans s2).trans s3).trans s4
      cases c : ttV t with
      | some n =>
        rw [c] at q
        exact rb_ret (M := []) (d := .int n) (xd_ifT (XT.to (xt_val (M := []) (xd_isTT GT hr1 FT (xv_name 2 rfl) hl)) (by rw [c]; rfl)) (xv_tf (fn0 GF) hr FF (xv_name 2 rfl) hl c).int) fun v H5 s5 hv => by rw [dp_int hv]; exact q H5 (s04.trans s5)
      | none =>
        rw [c] at q
        exact rb_ret (M := []) (d := .none) (xd_ifF (XT.to (xt_val (M := []) (xd_isTT GT hr1 FT (xv_name 2 rfl) hl)) (by rw [c]; rfl)) xd_non) fun v H5 s5 hv => by rw [dp_non hv]; exact q H5 (s04.trans s5)
    have n4 := of_decide_eq_false e
    have s04 := ((s1.trans s2).trans s3).trans s4
    have ev : partV ks kf word kind t = if kget ks kf t = some kind then .str t else .non := by unfold partV; rw [if_neg n1, if_neg n2, if_neg n3, if_neg n4]
    rw [ev] at q
    have hd4 : DM H4 kd ks (fk kf) := hd.up s04
    by_cases c : kget ks kf t = some kind
    · rw [if_pos c] at q
      exact rb_ret (M := []) (xd_ifT (XT.to (xt_eqOV (ov := kget ks kf t) (xv_dgetO hu (xv_name 3 rfl) (xv_name 2 rfl) hd4 ⟨rfl, rfl, rfl, rfl⟩) (xv_name 1 rfl)) (decide_eq_true c)) (xd_name 2 rfl (.str t))) fun v H5 s5 hv => by rw [dp_str hv]; exact q H5 (s04.trans s5)
    · rw [if_neg c] at q
      exact rb_ret (M := []) (xd_ifF (XT.to (xt_eqOV (ov := kget ks kf t) (xv_dgetO hu (xv_name 3 rfl) (xv_name 2 rfl) hd4 ⟨rfl, rfl, rfl, rfl⟩) (xv_name 1 rfl)) (decide_eq_false c)) xd_non) fun v H5 s5 hv => by rw [dp_non hv]; exact q H5 (s04.trans s5)
end
end Zn

set_option Elab.async false
set_option linter.all false
set_option maxRecDepth 100000
set_option maxHeartbeats 8000000
namespace Zn
open PySem PySem.Spec PyProof.Rows L2 Dl
/-! programs: step_of, kind_given -/
section
variable {X : Cx} {M : List Addr} {σ : L2.St} {H : Hp} {o e e1 e2 e3 e4 a b c : Expr} {x z y nm : Str} {ov : Option Str} {pos p1 p2 p3 apos : Pos} {v : V} {f kd : Addr} {fd : FuncData} {ks : List Str} {kf : Str → Str}
theorem xv_tkI {d p : Addr} {es : Array DictEntry} {n : Nat} (h1 : X.mg "TAKES" = some (.ref d)) (kd : KDict X.K X.w d es n) (h4 : PySem.W.nsIn X.K d z = some (some (.ref p))) (ha : XV X σ H a (.str z)) (hs : PlainIx a) (hg : Gl X "TAKES" := by rfl) : XV X σ H (.Subscript (.Name "TAKES" p1) a pos) (.ref p) := fun H1 s Q q =>
  ⟨_, pe_ix ix_kdict re_ re_ hs, xv_glob (v := .ref d) h1 rfl hg (by decide) H1 (Same.refl _) _ fun H2 s2 => ha H2 (s.trans s2) _ fun H3 s3 => ⟨d, z, .ref p, rfl, rfl, ⟨es, n, .ref p, kd.at_, kd.lit, h4, rfl⟩, q H3 (s2.trans s3)⟩⟩
theorem xv_ifT (hc : XT X σ H c true) (ha : XV X σ H a v) : XV X σ H (.IfExp c a b pos) v := fun H1 s Q q =>
  ⟨_, pe_ifExp rt_ re_ re_, hc H1 s _ fun H2 s2 => iteT (ha H2 (s.trans s2) Q fun H3 s3 => q H3 (s2.trans s3))⟩
theorem xv_ifF (hc : XT X σ H c false) (hb : XV X σ H b v) : XV X σ H (.IfExp c a b pos) v := fun H1 s Q q =>
  ⟨_, pe_ifExp rt_ re_ re_, hc H1 s _ fun H2 s2 => iteF (hb H2 (s.trans s2) Q fun H3 s3 => q H3 (s2.trans s3))⟩
theorem xv_non {j} : XV X σ H (.Constant .none j pos) .non := fun H1 _ Q q => ⟨_, pe_non, q H1 (Same.refl _)⟩
theorem xd_isFree (G : FnOk X.prog X.w X.K X.mg X.base CX0 2 f fd ["name", "kinds"] (spFree X.K)) (hr : Room 2 X.A) (FF : Df X.K X.mg "is_free" sFree ["name", "kinds"] f fd) (ha : XV X σ H e1 (.str nm)) (hb : XV X σ H e2 (.ref kd)) (hd : DM H kd ks (fk kf)) (hx : nm.length ≤ 1000)
    (hg : Gl X "is_free" := by rfl) (he : starEach [e1, e2] X.env = (false, eval e1 X.env) :: starEach [e2] X.env := by rfl) (he2 : starEach [e2] X.env = (false, eval e2 X.env) :: starEach [] X.env := by rfl) (hpl : (backTo pos (starEach [e2] X.env)).any (·.1) = false := by rfl) : XD X M σ H (.Call (.Name "is_free" p1) [e1, e2] [] pos) (.bool (nameB nm && !decide (nm ∈ ks))) := fun H1 s Q q =>
  re_call G hr FF.g FF.F.kp FF.b (ra_cons (ha H1 s _ fun H2 s2 => ra_1 (hb H2 (s.trans s2) _ fun H3 s3 => ⟨nm, kd, ks, kf, rfl, ((hd.up s).up s2).up s3, hx, fun H4 s4 => q _ H4 ((s2.trans s3).trans s4) (.bl _)⟩) he2) he) hg (by decide) he hpl
theorem xv_part {wd kind t : Str} (G : FnOk X.prog X.w X.K X.mg X.base CX0 4 f fd ["word", "kind", "text", "kinds"] (spPart X.K)) (hr : Room 4 X.A) (FF : Df X.K X.mg "part_behind" sPart ["word", "kind", "text", "kinds"] f fd) (h1 : XV X σ H e1 (.str wd)) (h2 : XV X σ H e2 (.str kind)) (h3 : XV X σ H e3 (.str t)) (h4 : XV X σ H e4 (.ref kd)) (hd : DM H kd ks (fk kf)) (hx : t.length ≤ 1000)
    (hg : Gl X "part_behind" := by rfl) (he : starEach [e1, e2, e3, e4] X.env = (false, eval e1 X.env) :: starEach [e2, e3, e4] X.env := by rfl) (he2 : starEach [e2, e3, e4] X.env = (false, eval e2 X.env) :: starEach [e3, e4] X.env := by rfl) (he3 : starEach [e3, e4] X.env = (false, eval e3 X.env) :: starEach [e4] X.env := by rfl) (he4 : starEach [e4] X.env = (false, eval e4 X.env) :: starEach [] X.env := by rfl) (hpl : (backTo pos (starEach [e2, e3, e4] X.env)).any (·.1) = false := by rfl) :
    XV X σ H (.Call (.Name "part_behind" p1) [e1, e2, e3, e4] [] pos) (partV ks kf wd kind t) := fun H1 s Q q =>
  re_call G hr FF.g FF.F.kp FF.b (ra_cons (h1 H1 s _ fun Ha sa => ra_cons (h2 Ha (s.trans sa) _ fun Hb sb => ra_cons (h3 Hb ((s.trans sa).trans sb) _ fun Hc sc => ra_1 (h4 Hc (((s.trans sa).trans sb).trans sc) _ fun Hd sd =>
    ⟨wd, kind, t, kd, ks, kf, rfl, hd.up ((((s.trans sa).trans sb).trans sc).trans sd), hx, fun He se => q He ((((sa.trans sb).trans sc).trans sd).trans se)⟩) he4) he3) he2) he) hg (by decide) he hpl
end
section
variable {P : Program} {w : World} {K : PySem.W.Frag} {mg : Str → Option Value} {base : Heap}
abbrev soN : List Str := ["words", "kinds", "word", "x", "more"]
theorem scStepOf : FnScope soN ["words", "kinds"] (defScope sStepOf) := ⟨rfl, rfl, rfl, by decide +kernel, rfl, by decide +kernel, by decide +kernel⟩
theorem ok_stepOf {f fF fP : Addr} {fd fdF fdP : FuncData} (T : Nm mg) (D : TkD K w mg) (hS : TxT K mg "SINGLE" singleL) (GF : FnOk P w K mg base CX0 2 fF fdF ["name", "kinds"] (spFree K)) (FF : Df K mg "is_free" sFree ["name", "kinds"] fF fdF)
    (GP : FnOk P w K mg base CX0 4 fP fdP ["word", "kind", "text", "kinds"] (spPart K)) (FP : Df K mg "part_behind" sPart ["word", "kind", "text", "kinds"] fP fdP)
    (F : Df K mg "step_of" sStepOf ["words", "kinds"] f fd) : FnOk P w K mg base CX0 5 f fd ["words", "kinds"] (spStep K) := by
  obtain ⟨sa, hS1, hS2⟩ := hS.ex
  refine F.F.ok scStepOf (fun vs H Q E h => ?_) (fun cdv A outer s H vs Q E hr h => ?_)
  · obtain ⟨M, vw, kd, ws, ks, kf, rfl, _⟩ := h; rfl
  · obtain ⟨M, vw, kd, ws, ks, kf, rfl, L, hw, hd, hl, q⟩ := h
    have hu := Nat.lt_of_le_of_lt (Nat.add_le_add_left (show 1 ≤ 64 by decide) _) hr.units
    have hr4 := hr
    have hr2 := hr.mono (show 2 ≤ 4 by decide)
    by_cases hlen : ws.length < 4
    · have ev : stepV ks kf ws = none := by
        match ws, hlen with
        | [], _ => rfl
        | [_], _ => rfl
        | [_, _], _ => rfl
        | [_, _, _], _ => rfl
        | _ :: _ :: _ :: _ :: _, h => exact absurd h (by simp)
      refine rb_ifT (xt_or3 (k1 := true) (k2 := false) (k3 := false) (XT.to (xt_cmpI (M := M) op_lt (xd_len T.len (xd_name 0 rfl hw)) xd_int) (decide_eq_true (by rw [List.length_map]; omega))) (fun z => by cases z) (fun z => by cases z)) fun H1 s1 => ?_
      refine rb_ret (M := M) xd_non fun v H2 s2 hv => q v H2 (s1.trans s2) ?_
      rw [ev]
      exact hv
    · obtain ⟨w0, w1, w2, w3, rest, rfl⟩ : ∃ w0 w1 w2 w3 rest, ws = w0 :: w1 :: w2 :: w3 :: rest := by
        match ws, hlen with
        | [], h => exact absurd (by simp) h
        | [_], h => exact absurd (by simp) h
        | [_, _], h => exact absurd (by simp) h
        | [_, _, _], h => exact absurd (by simp) h
        | a :: b :: c :: d :: r, _ => exact ⟨a, b, c, d, r, rfl⟩
      have l0 := hl w0 (by simp)
      have ix0 : ∀ {H1 : Hp}, Same H H1 → Dq K (hid M H1) vw (.list ((w0 :: w1 :: w2 :: w3 :: rest).map PyData.str)) := fun s1 => hw.up (hid_mono s1)
      refine rb_if (k := !(nameB w0 && !decide (w0 ∈ ks)) || !decide (w1 = "=")) (XT.to (xt_or3 (k1 := false) (k2 := !(nameB w0 && !decide (w0 ∈ ks))) (k3 := !decide (w1 = "=")) (XT.to (xt_cmpI (M := M) op_lt (xd_len T.len (xd_name 0 rfl hw)) xd_int) (decide_eq_false (by rw [List.length_map]; omega)))
        (fun _ => xt_not (xt_val (M := M) (xd_isFree GF hr2 FF (xd_ixL (M := M) (fun _ _ => rfl) (xd_name 0 rfl hw) xd_int (atI_nat (j := 0) rfl)).vstr (xv_name 1 rfl) hd l0)))
        (fun _ _ => xt_neS (M := M) (xd_ixL (M := M) (fun _ _ => rfl) (xd_name 0 rfl hw) xd_int (atI_nat (j := 1) rfl)) xd_str)) (Bool.false_or _)) (fun e H1 s1 => ?_) (fun e H1 s1 => rb_nil ?_)
      · have ev : stepV ks kf (w0 :: w1 :: w2 :: w3 :: rest) = none := by
          show stepV2 ks kf w0 w1 w2 w3 rest = none
          unfold stepV2
          rw [if_neg]
          rintro ⟨a, b⟩
          rw [a, decide_eq_true b] at e
          cases e
        refine rb_ret (M := M) xd_non fun v H2 s2 hv => q v H2 (s1.trans s2) ?_
        rw [ev]
        exact hv
      rw [Bool.or_eq_false_iff, Bool.not_eq_false', Bool.not_eq_false', decide_eq_true_eq] at e
      obtain ⟨hfree, heq⟩ := e
      have hw1 := ix0 s1
      refine rb_par 2 3 (M := M) (d1 := .str w2) (d2 := .str w3) (xa_cons (xd_ixL (fun _ _ => rfl) (xd_name 0 rfl hw1) xd_int (atI_nat (j := 2) rfl)) (xa_cons (xd_ixL (fun _ _ => rfl) (xd_name 0 rfl hw1) xd_int (atI_nat (j := 3) rfl)) xa_nil)) (fun va vb H2 s2 hva hvb => ?_) scStepOf.nd
      have ea := dp_str hva
      have eb := dp_str hvb
      subst ea eb
      have s02 := s1.trans s2
      have hw2 := ix0 s02
      have hd2 : DM H2 kd ks (fk kf) := hd.up s02
      have L2' := L.mono s02
      cases htk : takesL.lookup w2 with
      | none =>
        have ev : stepV ks kf (w0 :: w1 :: w2 :: w3 :: rest) = none := by
          show stepV2 ks kf w0 w1 w2 w3 rest = none
          unfold stepV2
          rw [if_pos ⟨hfree, heq⟩, htk]
        refine rb_ifT (XT.to (xt_or2 (k1 := true) (k2 := false) (XT.to (xt_notTk D (xv_name 2 rfl)) (by rw [htk]; rfl)) fun z => by cases z) rfl) fun H3 s3 => ?_
        refine rb_ret (M := M) xd_non fun v H4 s4 hv => q v H4 ((s02.trans s3).trans s4) ?_
        rw [ev]
        exact hv
      | some l =>
        obtain ⟨td, tes, tn, ht1, ht2, _, ht3⟩ := D.ex
        obtain ⟨tp, ht4, ht5⟩ := ht3 w2 l htk
        refine rb_if (k := !memO (kget ks kf w3) l) (XT.to (xt_or2 (k1 := false) (k2 := !memO (kget ks kf w3) l) (XT.to (xt_notTk D (xv_name 2 rfl)) (by rw [htk]; rfl)) fun _ => xt_notInT (xv_dgetO hu (xv_name 1 rfl) (xv_name 3 rfl) hd2 ⟨rfl, rfl, rfl, rfl⟩) (xv_tkI ht1 ht2 ht4 (xv_name 2 rfl) (fun _ _ => rfl)) ht5) (Bool.false_or _)) (fun e H3 s3 => ?_) (fun e H3 s3 => rb_nil ?_)
        · have ev : stepV ks kf (w0 :: w1 :: w2 :: w3 :: rest) = none := by
            show stepV2 ks kf w0 w1 w2 w3 rest = none
            unfold stepV2
            rw [if_pos ⟨hfree, heq⟩, htk]
            show (if memO (kget ks kf w3) l = true then _ else none) = none
            rw [if_neg (by rw [Bool.not_eq_true'] at e; rw [e]; simp)]
          refine rb_ret (M := M) xd_non fun v H4 s4 hv => q v H4 ((s02.trans s3).trans s4) ?_
          rw [ev]
          exact hv
        have hmem : memO (kget ks kf w3) l = true := by simpa using e
        have hx3 : w3 ∈ ks := by
          unfold kget at hmem
          by_cases c : w3 ∈ ks
          · exact c
          · rw [if_neg c] at hmem; cases hmem
        have s03 := s02.trans s3
        have hw3 := ix0 s03
        have hd3 : DM H3 kd ks (fk kf) := hd.up s03
        have L3 := L.mono s03
        have hll : ((w0 :: w1 :: w2 :: w3 :: rest).map PyData.str).length = 4 + rest.length := by rw [List.length_map]; simp only [List.length_cons]; omega
        refine rb_if (k := memO (some w2) singleL) (xt_inT (ov := some w2) (xv_name 2 rfl) (xv_glob (v := .ref sa) hS1 rfl) hS2) (fun e H4 s4 => ?_) (fun e H4 s4 => rb_nil ?_)
        · have hsi : w2 ∈ singleL := of_decide_eq_true e
          have s04 := s03.trans s4
          have hw4 := ix0 s04
          have L4 := L.mono s04
          have ev : stepV ks kf (w0 :: w1 :: w2 :: w3 :: rest) = if rest = [] then some ⟨w0, w2, w3, .non⟩ else none := by
            show stepV2 ks kf w0 w1 w2 w3 rest = _
            unfold stepV2
            rw [if_pos ⟨hfree, heq⟩, htk]
            show (if memO (kget ks kf w3) l = true then _ else none) = _
            rw [if_pos hmem, if_pos hsi]
          by_cases c : rest = []
          · rw [if_pos c] at ev
            refine rb_ret (M := M) (xd_ifT (XT.to (xt_eqI (M := M) (xd_len T.len (xd_name 0 rfl hw4)) xd_int) (decide_eq_true (by rw [hll, c]; rfl))) (xd_tup (ds := [.str w0, .str w2, .str w3, .none]) L4 (xa_cons (xd_ixL (fun _ _ => rfl) (xd_name 0 rfl hw4) xd_int (atI_nat (j := 0) rfl)) (xa_cons (xd_name 2 rfl (.str w2)) (xa_cons (xd_name 3 rfl (.str w3)) (xa_cons xd_non xa_nil)))))) fun v H5 s5 hv => q v H5 (s04.trans s5) ?_
            rw [ev]
            exact hv
          · rw [if_neg c] at ev
            refine rb_ret (M := M) (xd_ifF (XT.to (xt_eqI (M := M) (xd_len T.len (xd_name 0 rfl hw4)) xd_int) (decide_eq_false (by rw [hll]; intro z; exact c (List.length_eq_zero_iff.mp (by omega))))) xd_non) fun v H5 s5 hv => q v H5 (s04.trans s5) ?_
            rw [ev]
            exact hv
        have hns : w2 ∉ singleL := fun z => by have : decide (w2 ∈ singleL) = false := e; rw [decide_eq_true z] at this; cases this
        have s04 := s03.trans s4
        have hw4 := ix0 s04
        have hd4 : DM H4 kd ks (fk kf) := hd.up s04
        have evr : stepV ks kf (w0 :: w1 :: w2 :: w3 :: rest) = stepM ks kf w0 w2 w3 rest := by
            show stepV2 ks kf w0 w1 w2 w3 rest = _
            unfold stepV2
            rw [if_pos ⟨hfree, heq⟩, htk]
            show (if memO (kget ks kf w3) l = true then _ else none) = _
            rw [if_pos hmem, if_neg hns]
        refine rb_setR 4 (re_mono (Q := fun m H5 => Same H4 H5 ∧ (m = .non → stepM ks kf w0 w2 w3 rest = none) ∧ (m ≠ .non → stepM ks kf w0 w2 w3 rest = some ⟨w0, w2, w3, m⟩ ∧ Dq K (hid M H5) m (mrD m))) ?val fun m H5 ⟨s5, h1, h2⟩ => ?rest) scStepOf.nd
        case rest =>
          have s05 := s04.trans s5
          by_cases c : m = .non
          · refine rb_ret (M := M) (xd_ifT (XT.to (xt_isNoneV (xv_name 4 rfl)) (decide_eq_true c)) xd_non) fun v H6 s6 hv => q v H6 (s05.trans s6) ?_
            rw [evr, h1 c]
            exact hv
          · obtain ⟨ev, hm⟩ := h2 c
            refine rb_ret (M := M) (xd_ifF (XT.to (xt_isNoneV (xv_name 4 rfl)) (decide_eq_false c)) (xd_tup (ds := [.str w0, .str w2, .str w3, mrD m]) (L.mono s05) (xa_cons (xd_ixL (fun _ _ => rfl) (xd_name 0 rfl (ix0 s05)) xd_int (atI_nat (j := 0) rfl)) (xa_cons (xd_name 2 rfl (.str w2)) (xa_cons (xd_name 3 rfl (.str w3)) (xa_cons (xd_name 4 rfl hm) xa_nil)))))) fun v H6 s6 hv => q v H6 (s05.trans s6) ?_
            rw [evr, ev]
            exact hv
        case val =>
          by_cases c : rest.length = 1
          · obtain ⟨t, et⟩ : ∃ t, rest = [t] := by
              cases rest with
              | nil => simp at c
              | cons t r =>
                cases r with
                | nil => exact ⟨t, rfl⟩
                | cons _ _ => simp at c
            subst et
            have lt := hl t (by simp)
            refine XV.go (xv_ifT (XT.to (xt_eqI (M := M) (xd_len T.len (xd_name 0 rfl hw4)) xd_int) (decide_eq_true (by rw [hll]; rfl))) (xv_part GP hr4 FP (xv_name 2 rfl) (xv_dget (M := M) (f := fk kf) hu (xv_name 1 rfl) (xd_name 3 rfl (.str w3)) hd4 hx3) (xd_ixL (M := M) (fun _ _ => rfl) (xd_name 0 rfl hw4) xd_int (atI_nat (j := 4) rfl)).vstr (xv_name 1 rfl) hd4 lt)) fun H5 s5 => ⟨s5, fun z => ?_, fun z => ⟨?_, part_dq ..⟩⟩
            · show (if _ then none else _) = none; rw [if_pos z]
            · show (if _ then none else _) = _; rw [if_neg z]
          · refine XV.go (xv_ifF (XT.to (xt_eqI (M := M) (xd_len T.len (xd_name 0 rfl hw4)) xd_int) (decide_eq_false (by rw [hll]; omega))) xv_non) fun H5 s5 => ⟨s5, fun _ => ?_, fun z => absurd rfl z⟩
            cases rest with
            | nil => rfl
            | cons t r =>
              cases r with
              | nil => exact absurd rfl c
              | cons _ _ => rfl
end
end Zn

set_option Elab.async false
set_option linter.all false
set_option maxRecDepth 100000
set_option maxHeartbeats 8000000
namespace Zn
open PySem PySem.Spec PyProof.Rows L2 Dl
/-! programs: kind_given, start_times, step_rows, is_answer_row, answer_names -/
abbrev sStartT : Stmt := top 28
abbrev sStepR : Stmt := top 29
abbrev sAnsN : Stmt := top 35
abbrev sAnsR : Stmt := top 36
/-- the exception of the class C with the very value v in the field fl comes out -/
def OutF (E : XK) (C : Addr) (fl : Str) (v : V) (H : Hp) : Prop := ∀ d H1, Same H H1 → H1 d = some (.xd [(fl, v)]) → E (.ref C) (some d) H1
theorem OutF.up {E : XK} {C : Addr} {fl : Str} {v : V} {H H1 : Hp} (h : OutF E C fl v H) (s : Same H H1) : OutF E C fl v H1 := fun d H2 s2 e => h d H2 (s.trans s2) e
def rowD (ws : List Str) : PyData := .list (ws.map PyData.str)
def startV (ws : List Str) : Option (Int × Int) := match ws with
  | [a, b, c] => if a = "start" then (match ttV b, ttV c with
      | some l, some h => if l ≤ h then some (l, h) else none
      | _, _ => none) else none
  | _ => none
theorem startV3 (a b c : Str) : startV [a, b, c] = if a = "start" then (match ttV b, ttV c with
      | some l, some h => if l ≤ h then some (l, h) else none
      | _, _ => none) else none := rfl
def stepRows (rows : List (List Str)) : List (List Str) := (rows.drop 1).takeWhile fun r => !decide (r.head? = some "return")
def ansL : List Str := ["number", "truth"]
def ansB (ks : List Str) (kf : Str → Str) (ws : List Str) : Bool := (decide (1 ≤ ((ws.drop 1).length : Int)) && decide (((ws.drop 1).length : Int) ≤ 4)) && (ws.drop 1).all fun n => memO (kget ks kf n) ansL
def spStart (K : PySem.W.Frag) (C : Addr) : Sp := fun vs H Q E => ∃ (M : List Addr) (vw : V) (ws : List Str), vs = [vw] ∧ Live M H ∧ Dq K (hid M H) vw (rowD ws) ∧ (∀ w ∈ ws, w.length ≤ 1000) ∧
  (∀ l h, startV ws = some (l, h) → ∀ v H1, Same H H1 → Dq K (hid M H1) v (.tuple [.int l, .int h]) → Q v H1) ∧ (startV ws = none → OutF E C "index" (.int 0) H)
def RStepR (ds es : List PyData) : Prop := ∃ rows : List (List Str), ds = [.list (rows.map rowD)] ∧ (∀ r ∈ rows, r ≠ []) ∧ rows.length ≤ 100000 ∧ es = (stepRows rows).map rowD
def spAnsR (K : PySem.W.Frag) : Sp := fun vs H Q _ => ∃ (M : List Addr) (vw : V) (kd : Addr) (ws ks : List Str) (kf : Str → Str), vs = [vw, .ref kd] ∧ Live M H ∧ Dq K (hid M H) vw (rowD ws) ∧ DM H kd ks (fk kf) ∧ ws.length ≤ 100000 ∧ ∀ H1, Same H H1 → Q (.bl (ansB ks kf ws)) H1
def spAnsN (K : PySem.W.Frag) (C : Addr) : Sp := fun vs H Q E => ∃ (M : List Addr) (vr : V) (kd : Addr) (i : Nat) (rows : List (List Str)) (ks : List Str) (kf : Str → Str), vs = [vr, .int (i : Int), .ref kd] ∧ Live M H ∧ Dq K (hid M H) vr (.list (rows.map rowD)) ∧ DM H kd ks (fk kf) ∧ (∀ r ∈ rows, r.length ≤ 100000) ∧ i ≤ rows.length ∧
  ((∀ r, rows[i]? = some r → ansB ks kf r = false) → OutF E C "index" (.int (i : Int)) H) ∧
  (∀ r, rows[i]? = some r → ansB ks kf r = true → i + 1 < rows.length → OutF E C "index" (.int ((i + 1 : Nat) : Int)) H) ∧
  (∀ r, rows[i]? = some r → ansB ks kf r = true → ¬i + 1 < rows.length → ∀ p xs H1, Same H H1 → H p = none → H1 p = some (.lst xs) → DqAll K (hid M H1) xs ((r.drop 1).map PyData.str) → Q (.ref p) H1)
theorem tw_take {α : Type} (q : α → Bool) : ∀ (l : List α) (n : Nat), (∀ (i : Nat) (x : α), i < n → l[i]? = some x → q x = true) → n ≤ l.length → (∀ x, l[n]? = some x → q x = false) → l.takeWhile q = l.take n
  | [], n, _, _, _ => by simp
  | x :: l, 0, _, _, h => by
    rw [List.takeWhile_cons, h x rfl]
    rfl
  | x :: l, n + 1, h1, h2, h3 => by
    rw [List.takeWhile_cons, h1 0 x (by omega) rfl, if_pos rfl, List.take_succ_cons, tw_take q l n (fun i y hi hy => h1 (i + 1) y (by omega) (by simpa using hy)) (by simpa using h2) (fun y hy => h3 y (by simpa using hy))]
section
variable {X : Cx} {σ : L2.St} {H : Hp} {a b : Expr} {pos : Pos} {rest : List Expr}
theorem xw_orB {k1 k2 : Bool} (ha : XT X σ H a k1) (hb : k1 = false → XW X σ H (.BoolOp .Or (b :: rest) pos) k2) : XW X σ H (.BoolOp .Or (a :: b :: rest) pos) (k1 || k2) := by
  cases k1 with
  | true => exact xw_orT ha
  | false => exact xw_orF ha (hb rfl)
end
section
variable {P : Program} {w : World} {K : PySem.W.Frag} {mg : Str → Option Value} {base : Heap} {C : Addr}
theorem scKindG : FnScope ["step", "kinds"] ["step", "kinds"] (defScope sKindG) := ⟨rfl, rfl, rfl, by decide +kernel, rfl, by decide +kernel, by decide +kernel⟩
theorem ok_kindG {f : Addr} {fd : FuncData} (D : GvD K w mg) (F : Df K mg "kind_given" sKindG ["step", "kinds"] f fd) : FnOk P w K mg base CX0 1 f fd ["step", "kinds"] (spKindG K) := by
  refine F.F.ok scKindG (fun vs H Q E h => ?_) (fun cdv A outer s H vs Q E hr h => ?_)
  · obtain ⟨M, v, kd, st, ks, kf, rfl, _⟩ := h; rfl
  · obtain ⟨M, v, kd, st, ks, kf, rfl, L, hv, hd, hx, q⟩ := h
    have hu := Nat.lt_of_le_of_lt (Nat.add_le_add_left (show 1 ≤ 64 by decide) _) hr.units
    have hv : Dq K (hid M H) v (.tuple [.str st.nm, .str st.wd, .str st.x, mrD st.more]) := hv
    exact rb_retR (XV.go (xv_gvget D (xd_ixT (M := M) (fun _ _ => rfl) (xd_name 0 rfl hv) xd_int (atI_nat (j := 1) rfl)).vstr (xv_dget (M := M) (f := fk kf) hu (xv_name 1 rfl) (xd_ixT (fun _ _ => rfl) (xd_name 0 rfl hv) xd_int (atI_nat (j := 2) rfl)) hd hx) ⟨rfl, rfl, rfl, rfl⟩) fun H1 s1 => q H1 s1)
abbrev stN : List Str := ["words", "low", "high"]
theorem scStartT : FnScope stN ["words"] (defScope sStartT) := ⟨rfl, rfl, rfl, by decide +kernel, rfl, by decide +kernel, by decide +kernel⟩
theorem ok_startT {C2 : Addr} {f fT fF fX : Addr} {fd fdT fdF fdX : FuncData} (T : Nm mg) (Y : XCls P w K mg base "InvalidLine" "index" C fX fdX)
    (GT : FnOk P w K mg base CX0 1 fT fdT ["value"] (spTT K)) (FT : Df K mg "is_time_text" sIsTT ["value"] fT fdT) (GF : FnOk P w K mg base (L2.CX P w) 3 fF fdF ["text"] (spTF K C2)) (FF : Df K mg "time_from" sTimeFrom ["text"] fF fdF)
    (F : Df K mg "start_times" sStartT ["words"] f fd) : FnOk P w K mg base (L2.CX P w) 4 f fd ["words"] (spStart K C) := by
  refine F.F.okX scStartT (fun vs H Q E h => ?_) (fun cdv A outer s H vs Q E hr h => ?_)
  · obtain ⟨M, vw, ws, rfl, _⟩ := h; rfl
  · obtain ⟨M, vw, ws, rfl, L, hw, hl, q1, q2⟩ := h
    have hr1 := hr.mono (show 1 ≤ 3 by decide)
    have hr2 := hr.mono (show 2 ≤ 3 by decide)
    have tk : Takes (cxOf (L2.CX P w) P w K mg base stN "start_times" (defScope sStartT) f cdv A outer s H E) (fun cls d _ H => E cls d H) := takes_of rfl rfl rfl rfl
    show RB (cxOf (L2.CX P w) P w K mg base stN "start_times" (defScope sStartT) f cdv A outer s H E) (defBody sStartT) _ _ H
    have bad : startV ws = none → ∀ (σ : L2.St) (H1 : Hp) (p1 p2 p3 p4 : Pos) (j : Nat) (rest : List Stmt) (D : Ends), Same H H1 → RB (cxOf (L2.CX P w) P w K mg base stN "start_times" (defScope sStartT) f cdv A outer s H E) (.Raise (some (.Call (.Name "InvalidLine" p1) [.Constant (.int 0) j p2] [] p3)) none p4 :: rest) D σ H1 := fun hn σ H1 p1 p2 p3 p4 j rest D s1 =>
      rb_raise Y hr2 tk (XV.go xv_int fun H2 s2 d H3 s3 e => q2 hn d H3 ((s1.trans s2).trans s3) e)
    by_cases hlen : ws.length = 3
    · obtain ⟨a, b, c, rfl⟩ : ∃ a b c, ws = [a, b, c] := by
        match ws, hlen with
        | [a, b, c], _ => exact ⟨a, b, c, rfl⟩
      have lb := hl b (by simp)
      have lc := hl c (by simp)
      have hw : Dq K (hid M H) vw (.list [.str a, .str b, .str c]) := hw
      refine rb_if (k := !decide (a = "start") || (!(ttV b).isSome || !(ttV c).isSome)) (xw_orF (XT.to (xt_neI (M := M) (xd_len T.len (xd_name 0 rfl hw)) xd_int) rfl) (xw_orB (xt_neS (M := M) (xd_ixL (fun _ _ => rfl) (xd_name 0 rfl hw) xd_int (atI_nat (j := 0) rfl)) xd_str) fun _ => xw_orB (xt_not (xt_val (M := M) (xd_isTT GT hr1 FT (xd_ixL (M := M) (fun _ _ => rfl) (xd_name 0 rfl hw) xd_int (atI_nat (j := 1) rfl)).vstr lb))) fun _ => xw_or1 (xt_not (xt_val (M := M) (xd_isTT GT hr1 FT (xd_ixL (M := M) (fun _ _ => rfl) (xd_name 0 rfl hw) xd_int (atI_nat (j := 2) rfl)).vstr lc))))).t (fun e H1 s1 => ?_) (fun e H1 s1 => rb_nil ?_)
      · refine bad ?_ _ _ _ _ _ _ _ _ _ s1
        rw [startV3]
        by_cases e1 : a = "start"
        · rw [if_pos e1]
          rw [decide_eq_true e1] at e
          cases h1 : ttV b with
          | none => rfl
          | some l =>
            cases h2 : ttV c with
            | none => rfl
            | some h => rw [h1, h2] at e; cases e
        · rw [if_neg e1]
      · rw [Bool.or_eq_false_iff, Bool.or_eq_false_iff, Bool.not_eq_false', Bool.not_eq_false', Bool.not_eq_false', decide_eq_true_eq] at e
        obtain ⟨e1, e2, e3⟩ := e
        obtain ⟨l, h1⟩ := Option.isSome_iff_exists.mp e2
        obtain ⟨h, h2⟩ := Option.isSome_iff_exists.mp e3
        have hw1 := hw.up (hid_mono (M := M) s1)
        refine rb_par 1 2 (M := M) (d1 := .int l) (d2 := .int h) (xa_cons (xv_tf (fn0 GF) hr FF (xd_ixL (M := M) (fun _ _ => rfl) (xd_name 0 rfl hw1) xd_int (atI_nat (j := 1) rfl)).vstr lb h1).int (xa_cons (xv_tf (fn0 GF) hr FF (xd_ixL (M := M) (fun _ _ => rfl) (xd_name 0 rfl hw1) xd_int (atI_nat (j := 2) rfl)).vstr lc h2).int xa_nil)) (fun va vb H2 s2 hva hvb => ?_) scStartT.nd
        have ea := dp_int hva
        have eb := dp_int hvb
        subst ea eb
        have s02 := s1.trans s2
        have ev : startV [a, b, c] = if l ≤ h then some (l, h) else none := by
          rw [startV3, if_pos e1, h1, h2]
        refine rb_if (k := decide (l > h)) (xt_cmpI (M := M) op_gt (xv_name 1 rfl).int (xv_name 2 rfl).int) (fun e H3 s3 => ?_) (fun e H3 s3 => rb_nil ?_)
        · refine bad ?_ _ _ _ _ _ _ _ _ _ (s02.trans s3)
          have := of_decide_eq_true e
          rw [ev, if_neg (by omega)]
        · have := of_decide_eq_false e
          rw [if_pos (by omega)] at ev
          exact rb_ret (M := M) (xd_tup (ds := [.int l, .int h]) (L.mono (s02.trans s3)) (xa_cons (xv_name 1 rfl).int (xa_cons (xv_name 2 rfl).int xa_nil))) fun v H4 s4 hv => q1 l h ev v H4 ((s02.trans s3).trans s4) hv
    · refine rb_ifT (xw_orT (XT.to (xt_neI (M := M) (xd_len T.len (xd_name 0 rfl hw)) xd_int) (by rw [List.length_map, decide_eq_false (by omega)]; rfl))).t fun H1 s1 => bad ?_ _ _ _ _ _ _ _ _ _ s1
      unfold startV
      match ws, hlen with
      | [], _ => rfl
      | [_], _ => rfl
      | [_, _], _ => rfl
      | [_, _, _], h => exact absurd rfl h
      | _ :: _ :: _ :: _ :: _, _ => rfl
abbrev srN : List Str := ["rows", "found", "words"]
theorem scStepR : FnScope srN ["rows"] (defScope sStepR) := ⟨rfl, rfl, rfl, by decide +kernel, rfl, by decide +kernel, by decide +kernel⟩
theorem ok_stepR {f : Addr} {fd : FuncData} (F : Df K mg "step_rows" sStepR ["rows"] f fd) : FnOk P w K mg base CX0 1 f fd ["rows"] (spL K RStepR) := by
  refine F.F.ok scStepR (fun vs H Q E h => ?_) (fun cdv A outer s H vs Q E hr h => ?_)
  · obtain ⟨M, ds, es', L, hd, ⟨rows, rfl, _⟩, q⟩ := h
    exact dpa_len hd
  · obtain ⟨M, ds, es', L, hd, ⟨rows, rfl, hne, hlen, rfl⟩, q⟩ := h
    cases hd with
    | cons h1 hd =>
      cases hd
      rename_i v0
      refine rb_setL 1 (M := M) (xl_lst L xa_nil) (fun g xs H1 s1 hg hg1 hx => ?_) scStepR.nd
      cases hx
      have Lg : Live (g :: M) H1 := live_new L s1 (by rw [hg1]; simp)
      have ngM : g ∉ M := fun z => L g z hg
      have h1' := h1.up (hid_step (M := M) hg s1)
      have hcut : Dl.cutD (rows.map rowD) (some 1) none = (rows.drop 1).map rowD := by rw [cut1, List.map_drop]
      refine rb_for (M := g :: M) (ds := (rows.drop 1).map rowD) (XD.to (XL.dd (xl_cut Lg (xd_name 0 rfl h1') (xo_some (M := g :: M) xd_int) xo_none) Lg) (by rw [hcut])) fun H2 s2 =>
        ⟨fun i σ' H' => Same (hid (g :: M) H2) (hid (g :: M) H') ∧ Live (g :: M) H' ∧ Same H H' ∧ (∀ (j : Nat) (r : List Str), j < i → (rows.drop 1)[j]? = some r → r.head? ≠ some "return") ∧ ∃ zs a2, σ' = [some v0, some (.ref g), a2] ∧ H' g = some (.lst zs) ∧ DqAll K (hid (g :: M) H') zs (((rows.drop 1).take i).map rowD),
          ⟨Same.refl _, Lg.mono s2, s1.trans s2, (fun j r hj => by omega), [], none, rfl, s2 _ _ hg1, by rw [List.take_zero]; exact .nil⟩, fun i σ' H' w => w.1, fun i d hd σ' H' v w hv => ?step, fun σ' H' w => ?done⟩
      case done =>
        obtain ⟨y1, L3, y2, hno, zs, a2, rfl, hgz, hzs⟩ := w
        refine rb_retR (XV.go (xv_name 1 rfl) fun H3 s3 => q g zs H3 (y2.trans s3) hg (s3 _ _ hgz) ?_)
        have e : stepRows rows = (rows.drop 1).take ((rows.drop 1).map rowD).length := by
          unfold stepRows
          refine tw_take _ _ _ (fun i r hi hr => ?_) (by rw [List.length_map]; exact Nat.le_refl _) (fun r hr => ?_)
          · have := hno i r hi hr
            simpa using this
          · have := (List.getElem?_eq_some_iff.mp hr).1
            rw [List.length_map] at this
            omega
        rw [e]
        exact (hzs.up (hid_mono s3)).up hid_weak
      case step =>
        obtain ⟨y1, L3, y2, hno, zs, a2, rfl, hgz, hzs⟩ := w
        obtain ⟨r, hr0, rfl⟩ := map_get hd
        have hil := (List.getElem?_eq_some_iff.mp hr0).1
        have hv : Dq K (hid (g :: M) H') v (.list (r.map PyData.str)) := hv
        have hrne := hne r (List.mem_of_mem_drop (List.mem_of_getElem? hr0))
        obtain ⟨r0, rt, er⟩ : ∃ a b, r = a :: b := by
          cases r with
          | nil => exact absurd rfl hrne
          | cons a b => exact ⟨a, b, rfl⟩
        have hzl : zs.length = ((rows.drop 1).take i).length := by rw [dpa_len hzs, List.length_map]
        rw [List.length_take, List.length_drop] at hzl
        refine rg_name 2 ?_ scStepR.nd
        refine rb_if (k := decide (r0 = "return")) (xt_eqSV (xd_ixL (M := g :: M) (fun _ _ => rfl) (xd_name 2 rfl hv) xd_int (by rw [er]; exact atI_nat (j := 0) rfl)).vstr xv_str) (fun e H3 s3 => ?_) (fun e H3 s3 => rb_nil ?_)
        · have e' := of_decide_eq_true e
          refine rb_retR (XV.go (xv_name 1 rfl) fun H4 s4 => q g zs H4 (y2.trans (s3.trans s4)) hg ((s3.trans s4) _ _ hgz) ?_)
          have eq : stepRows rows = (rows.drop 1).take i := by
            unfold stepRows
            refine tw_take _ _ _ (fun j r' hj hr' => ?_) (by omega) (fun r' hr' => ?_)
            · have := hno j r' hj hr'
              simpa using this
            · rw [hr0] at hr'
              cases hr'
              rw [er, e']
              rfl
          rw [eq]
          exact (hzs.up (hid_mono (s3.trans s4))).up hid_weak
        · have e' := of_decide_eq_false e
          refine rb_append (M := g :: M) (d := rowD r) (List.mem_cons_self ..) (xv_name 1 rfl) (s3 _ _ hgz) (xd_name 2 rfl (hv.up (hid_mono s3))) (by omega) fun v4 H4 s4 hv4 => rb_nil ?_
          have s34 := s3.trans s4
          refine ⟨?_, ?_, ?_, ?_, zs ++ [v4], _, rfl, upd_same, ?_⟩
          · rw [hid_cons_upd]; exact y1.trans (hid_mono s34)
          · exact (L3.mono s34).upd
          · exact fun u o hu => by rw [upd_ne (ne_of_none hu hg)]; exact s34 _ _ (y2 _ _ hu)
          · intro j r' hj hr'
            by_cases c : j < i
            · exact hno j r' c hr'
            · have : j = i := by omega
              subst this
              rw [hr0] at hr'
              cases hr'
              rw [er]
              intro z
              exact e' (Option.some.inj z)
          · rw [hid_cons_upd, List.take_add_one, hr0, List.map_append]
            exact dpa_app (hzs.up (hid_mono s34)) (.cons hv4 .nil)
end
end Zn

set_option Elab.async false
set_option linter.all false
set_option maxRecDepth 100000
set_option maxHeartbeats 8000000
namespace Zn
open PySem PySem.Spec PyProof.Rows L2 Dl
/-! programs: is_answer_row, answer_names, reach_of -/
def ansF (ks : List Str) (kf : Str → Str) : PyData → Option PyData
  | .str n => some (.bool (memO (kget ks kf n) ansL))
  | _ => none
theorem ansF_map (ks : List Str) (kf : Str → Str) : ∀ ws : List Str, (ws.map PyData.str).filterMap (ansF ks kf) = (ws.map fun n => memO (kget ks kf n) ansL).map PyData.bool
  | [] => rfl
  | w :: ws => by rw [List.map_cons, List.filterMap_cons, List.map_cons, List.map_cons, ← ansF_map ks kf ws]; rfl
section
variable {X : Cx} {M : List Addr} {σ : L2.St} {H : Hp} {e1 e2 : Expr} {pos p1 : Pos} {f kd : Addr} {fd : FuncData} {ks ws : List Str} {kf : Str → Str}
theorem xd_ansR (G : FnOk X.prog X.w X.K X.mg X.base CX0 1 f fd ["words", "kinds"] (spAnsR X.K)) (hr : Room 1 X.A) (FF : Df X.K X.mg "is_answer_row" sAnsR ["words", "kinds"] f fd) (ha : XD X M σ H e1 (rowD ws)) (hb : XV X σ H e2 (.ref kd)) (L : Live M H) (hd : DM H kd ks (fk kf)) (hx : ws.length ≤ 100000)
    (hg : Gl X "is_answer_row" := by rfl) (he : starEach [e1, e2] X.env = (false, eval e1 X.env) :: starEach [e2] X.env := by rfl) (he2 : starEach [e2] X.env = (false, eval e2 X.env) :: starEach [] X.env := by rfl) (hpl : (backTo pos (starEach [e2] X.env)).any (·.1) = false := by rfl) : XD X M σ H (.Call (.Name "is_answer_row" p1) [e1, e2] [] pos) (.bool (ansB ks kf ws)) := fun H1 s Q q =>
  re_call G hr FF.g FF.F.kp FF.b (ra_cons (ha H1 s _ fun v H2 s2 hv => ra_1 (hb H2 (s.trans s2) _ fun H3 s3 => ⟨M, v, kd, ws, ks, kf, rfl, L.mono ((s.trans s2).trans s3), hv.up (hid_mono s3), ((hd.up s).up s2).up s3, hx, fun H4 s4 => q _ H4 ((s2.trans s3).trans s4) (.bl _)⟩) he2) he) hg (by decide) he hpl
end
section
variable {P : Program} {w : World} {K : PySem.W.Frag} {mg : Str → Option Value} {base : Heap} {C : Addr}
abbrev arN : List Str := ["words", "kinds", "names", "name"]
theorem scAnsR : FnScope arN ["words", "kinds"] (defScope sAnsR) := ⟨rfl, rfl, rfl, by decide +kernel, rfl, by decide +kernel, by decide +kernel⟩
theorem ok_ansR {f : Addr} {fd : FuncData} (T : Nm mg) (hM : ∃ t, mg "MOST_ANSWERS" = some (.int 4 t)) (hA : TxT K mg "ANSWER_KINDS" ansL) (F : Df K mg "is_answer_row" sAnsR ["words", "kinds"] f fd) : FnOk P w K mg base CX0 1 f fd ["words", "kinds"] (spAnsR K) := by
  obtain ⟨tm, hM⟩ := hM
  obtain ⟨ra, hA1, hA2⟩ := hA.ex
  refine F.F.ok scAnsR (fun vs H Q E h => ?_) (fun cdv A outer s H vs Q E hr h => ?_)
  · obtain ⟨M, vw, kd, ws, ks, kf, rfl, _⟩ := h; rfl
  · obtain ⟨M, vw, kd, ws, ks, kf, rfl, L, hw, hd, hl, q⟩ := h
    have hu := Nat.lt_of_le_of_lt (Nat.add_le_add_left (show 1 ≤ 64 by decide) _) hr.units
    refine rb_setL 2 (M := M) ((xl_cut (M := M) L (xd_name 0 rfl hw) (xo_some (M := M) xd_int) xo_none).to (by rw [cut1, ← List.map_drop])) (fun g xs H1 s1 hg hg1 hx => ?_) scAnsR.nd
    have hx1 : Dq K (hid M H1) (.ref g) (.list ((ws.drop 1).map PyData.str)) := .lst (by rw [hid_of (fun z => L g z hg)]; exact hg1) hx
    have hd1 := hd.up s1
    have hlen : ((ws.drop 1).map PyData.str).length = (ws.drop 1).length := List.length_map ..
    have hl2 : (ws.drop 1).length ≤ ws.length := by rw [List.length_drop]; omega
    refine rb_ret (M := M) (d := .bool (ansB ks kf ws)) (xd_and2 (xd_chainV op_le op_le xd_int ((xd_len T.len (xd_name 2 rfl hx1)).to (by rw [hlen])) (xv_glob (v := .int 4) hM ⟨tm, rfl⟩).int) fun _ => (xd_all T.all (XL.dd ((xl_comp (own := [("name", 3)]) (ansF ks kf) (L.mono s1) scAnsR.nd (xd_name 2 rfl hx1) (blkOk_by (own := [("name", 3)]) (N := arN) (sc := defScope sAnsR) (by decide +kernel)) (by rw [hlen]; omega) (fun p d v' H3 hdm hp s3 Lp hv' => ?comp)).to (ansF_map ks kf _)) (L.mono s1))).to (by rw [List.all_map]; rfl)) fun v5 H5 s5 hv5 => by rw [dp_bl hv5]; exact q H5 (s1.trans s5)
    case comp =>
      obtain ⟨n, _, rfl⟩ := List.mem_map.mp hdm
      have ev := dp_str hv'
      subst ev
      intro s0 H0 C0 cl fp
      refine rg_name 3 ⟨rfl, bt_nil ⟨Same.refl _, .inl ⟨rfl, _, rfl, fun s0 H0 C0 cl fp => ?_⟩⟩⟩ scAnsR.nd
      exact XD.go (xd_inT (M := p :: M) (xv_dgetO hu (xv_name 1 rfl) (xv_name 3 rfl) (hd1.up s3) ⟨rfl, rfl, rfl, rfl⟩) (xv_glob (v := .ref ra) hA1 rfl) hA2) fun v4 H4 s4 hv4 => ⟨s4, hv4⟩
abbrev anN : List Str := ["rows", "index", "kinds"]
theorem scAnsN : FnScope anN anN (defScope sAnsN) := ⟨rfl, rfl, rfl, by decide +kernel, rfl, by decide +kernel, by decide +kernel⟩
theorem rowD_get {rows : List (List Str)} {i : Nat} {r : List Str} (h : rows[i]? = some r) : atI (rows.map rowD) (i : Int) = some (rowD r) := by
  refine atI_nat ?_
  rw [List.getElem?_map, h]
  rfl
theorem ok_ansN {f fA fX : Addr} {fd fdA fdX : FuncData} (T : Nm mg) (Y : XCls P w K mg base "InvalidLine" "index" C fX fdX) (GA : FnOk P w K mg base CX0 1 fA fdA ["words", "kinds"] (spAnsR K)) (FA : Df K mg "is_answer_row" sAnsR ["words", "kinds"] fA fdA)
    (F : Df K mg "answer_names" sAnsN anN f fd) : FnOk P w K mg base (L2.CX P w) 3 f fd anN (spAnsN K C) := by
  refine F.F.okX scAnsN (fun vs H Q E h => ?_) (fun cdv A outer s H vs Q E hr h => ?_)
  · obtain ⟨M, vr, kd, i, rows, ks, kf, rfl, _⟩ := h; rfl
  · obtain ⟨M, vr, kd, i, rows, ks, kf, rfl, L, hw, hd, hl, hi, q1, q2, q3⟩ := h
    have hr1 := hr.mono (show 1 ≤ 2 by decide)
    have tk : Takes (cxOf (L2.CX P w) P w K mg base anN "answer_names" (defScope sAnsN) f cdv A outer s H E) (fun cls d _ H => E cls d H) := takes_of rfl rfl rfl rfl
    show RB (cxOf (L2.CX P w) P w K mg base anN "answer_names" (defScope sAnsN) f cdv A outer s H E) (defBody sAnsN) _ _ H
    have hlen : (rows.map rowD).length = rows.length := List.length_map ..
    by_cases c : i = rows.length
    · refine rb_ifT ((xw_orT (XT.to (xt_eqI (M := M) (xv_name 1 rfl).int (xd_len T.len (xd_name 0 rfl hw))) (by rw [hlen, c]; exact decide_eq_true rfl))).t) fun H1 s1 => ?_
      have hn : ∀ r, rows[i]? = some r → ansB ks kf r = false := fun r hr => by
        rw [List.getElem?_eq_none (by omega)] at hr
        cases hr
      exact rb_raise Y hr tk (XV.go (xv_name 1 rfl) fun H2 s2 d H3 s3 e => q1 hn d H3 ((s1.trans s2).trans s3) e)
    · obtain ⟨r, hri⟩ : ∃ r, rows[i]? = some r := ⟨rows[i]'(by omega), List.getElem?_eq_getElem (by omega)⟩
      have rl := hl r (List.mem_of_getElem? hri)
      refine rb_if (k := !ansB ks kf r) ((xw_orF (XT.to (xt_eqI (M := M) (xv_name 1 rfl).int (xd_len T.len (xd_name 0 rfl hw))) (decide_eq_false (by rw [hlen]; omega))) (xw_or1 (xt_not (xt_val (M := M) (xd_ansR GA hr1 FA (xd_ixL (fun _ _ => rfl) (xd_name 0 rfl hw) (xv_name 1 rfl).int (rowD_get hri)) (xv_name 2 rfl) L hd rl))))).t) (fun e H1 s1 => ?_) (fun e H1 s1 => rb_nil ?_)
      · have hn : ∀ r, rows[i]? = some r → ansB ks kf r = false := fun r' hr' => by
          rw [hri] at hr'
          cases hr'
          simpa using e
        exact rb_raise Y hr tk (XV.go (xv_name 1 rfl) fun H2 s2 d H3 s3 e => q1 hn d H3 ((s1.trans s2).trans s3) e)
      · have e' : ansB ks kf r = true := by simpa using e
        refine rb_if (k := decide (i + 1 < rows.length)) (XT.to (xt_cmpI (M := M) op_lt (xd_add (xv_name 1 rfl).int xd_int) (xd_len T.len (xd_name 0 rfl (hw.up (hid_mono s1))))) (by
          rw [hlen]
          by_cases z : i + 1 < rows.length
          · rw [decide_eq_true z, decide_eq_true (by omega)]
          · rw [decide_eq_false z, decide_eq_false (by omega)])) (fun e2 H2 s2 => ?_) (fun e2 H2 s2 => rb_nil ?_)
        · refine rb_raise Y hr tk (XD.go (M := M) (xd_add (xv_name 1 rfl).int xd_int) fun v H3 s3 hv d H4 s4 e4 => ?_)
          rw [dp_int hv] at e4
          exact q2 r hri e' (of_decide_eq_true e2) d H4 (((s1.trans s2).trans s3).trans s4) e4
        · have s12 := s1.trans s2
          refine rb_retR (XL.go (xl_cut (L.mono s12) (xd_ixL (M := M) (fun _ _ => rfl) (xd_name 0 rfl (hw.up (hid_mono s12))) (xv_name 1 rfl).int (rowD_get hri)) (xo_some (M := M) xd_int) xo_none) fun p xs H3 s3 hp h3 hx => ?_)
          refine q3 r hri e' (of_decide_eq_false e2) p xs H3 (s12.trans s3) (s12.free hp) h3 ?_
          rw [cut1, ← List.map_drop] at hx
          exact hx
/-- how far a step goes -/
def reachV (s : Stp) : Int := if s.wd = "add" then (match s.more with | .int n => (n.natAbs : Int) | _ => 0) else if s.wd = "days" then (match s.more with | .int n => (n.natAbs : Int) * 1440 | _ => 0) else if s.wd = "at" then 1440 else 0
def RReachOf (ds : List PyData) (d : PyData) : Prop := ∃ s : Stp, ds = [stpD s] ∧ ((s.wd = "add" ∨ s.wd = "days") → ∃ n : Int, s.more = .int n ∧ n.natAbs ≤ 1000000) ∧ d = .int (reachV s)
abbrev roN : List Str := ["step", "word", "more"]
end
end Zn

set_option Elab.async false
set_option linter.all false
set_option maxRecDepth 100000
set_option maxHeartbeats 8000000
namespace Zn
open PySem PySem.Spec PyProof.Rows L2 Dl
/-! programs: the class, __init__ -/
abbrev sPgInit : Stmt := inClass (top 27) 0
def rowsOf (x : Str) : List (List Str) := (Txt.split x "\n").map fun l => Txt.split l " "
abbrev St3 := List Stp × List Str × (Str → Str)
def stepSt (k : Nat) (st : St3) (ws : List Str) : Option St3 := match stepV st.2.1 st.2.2 ws with
  | none => none
  | some s => if 8 < k + 1 then none else some (st.1 ++ [s], Bf.ins st.2.1 s.nm, Bf.up st.2.2 s.nm (kindS st.2.2 s))
def runK (rows : List (List Str)) : Nat → Option St3
  | 0 => some ([], ["now"], fun _ => "moment")
  | k + 1 => (runK rows k).bind fun st => (rows[k]?).bind (stepSt k st)
theorem runK_succ {rows : List (List Str)} {k : Nat} {st : St3} {ws : List Str} (h : runK rows k = some st) (hr : rows[k]? = some ws) : runK rows (k + 1) = stepSt k st ws := by
  show (runK rows k).bind _ = _
  rw [h, Option.bind_some, hr, Option.bind_some]
structure Pg where
  src : Str
  lo : Int
  hi : Int
  ks : List Str
  kf : Str → Str
  sts : List Stp
  res : List Str
def pf (src : Str) (lo hi : Int) (kd sl rl : Addr) : List (Str × V) := [("source", .str src), ("earliest", .int lo), ("latest", .int hi), ("kinds", .ref kd), ("steps", .ref sl), ("results", .ref rl)]
def pf5 (src : Str) (lo hi : Int) (kd sl : Addr) : List (Str × V) := [("source", .str src), ("earliest", .int lo), ("latest", .int hi), ("kinds", .ref kd), ("steps", .ref sl)]
def pf4 (src : Str) (lo hi : Int) (kd : Addr) : List (Str × V) := [("source", .str src), ("earliest", .int lo), ("latest", .int hi), ("kinds", .ref kd)]
def pf3 (src : Str) (lo hi : Int) : List (Str × V) := [("source", .str src), ("earliest", .int lo), ("latest", .int hi)]
theorem pf_p1 {x : Str} {lo : Int} : putF "earliest" (.int lo) [(("source" : Str), V.str x)] = [(("source" : Str), V.str x), (("earliest" : Str), V.int lo)] := rfl
theorem pf_p2 {x : Str} {lo hi : Int} : putF "latest" (.int hi) [(("source" : Str), V.str x), ("earliest", .int lo)] = pf3 x lo hi := rfl
theorem pf_p3 {x : Str} {lo hi : Int} {kd : Addr} : putF "kinds" (.ref kd) (pf3 x lo hi) = pf4 x lo hi kd := rfl
theorem pf_p4 {x : Str} {lo hi : Int} {kd sl : Addr} : putF "steps" (.ref sl) (pf4 x lo hi kd) = pf5 x lo hi kd sl := rfl
theorem pf_p5 {x : Str} {lo hi : Int} {kd sl rl : Addr} : putF "results" (.ref rl) (pf5 x lo hi kd sl) = pf x lo hi kd sl rl := rfl
theorem lk5k (src : Str) (lo hi : Int) (kd sl : Addr) : List.lookup ("kinds" : Str) (pf5 src lo hi kd sl) = some (V.ref kd) := rfl
theorem lk5s (src : Str) (lo hi : Int) (kd sl : Addr) : List.lookup ("steps" : Str) (pf5 src lo hi kd sl) = some (V.ref sl) := rfl
def PgAt (K : PySem.W.Frag) (C : Addr) (H : Hp) (a : Addr) (p : Pg) : Prop := ∃ dx kd sl rl, H a = some (.ins C dx (pf p.src p.lo p.hi kd sl rl)) ∧ DM H kd p.ks (fk p.kf) ∧ Dq K H (.ref sl) (.list (p.sts.map stpD)) ∧ Dq K H (.ref rl) (.list (p.res.map PyData.str))
theorem PgAt.up {K : PySem.W.Frag} {C : Addr} {H H' : Hp} {a : Addr} {p : Pg} (h : PgAt K C H a p) (s : Same H H') : PgAt K C H' a p := by
  obtain ⟨dx, kd, sl, rl, h1, h2, h3, h4⟩ := h
  exact ⟨dx, kd, sl, rl, s _ _ h1, h2.up s, h3.up s, h4.up s⟩
structure PgT (K : PySem.W.Frag) (mg : Str → Option Value) (C : Addr) : Prop where
  cl : Cls K C
  n1 : NoAttr K C "source"
  n2 : NoAttr K C "earliest"
  n3 : NoAttr K C "latest"
  n4 : NoAttr K C "kinds"
  n5 : NoAttr K C "steps"
  n6 : NoAttr K C "results"
  mgC : mg "Program" = some (.ref C)
def GoodRows (rows : List (List Str)) : Prop := rows.length ≤ 1000 ∧ ∀ r ∈ rows, r ≠ [] ∧ r.length ≤ 1000 ∧ ∀ w ∈ r, w.length ≤ 1000
def spPgInit (K : PySem.W.Frag) (C CL : Addr) : Sp := fun vs H Q E => ∃ (M : List Addr) (H0 : Hp) (y dx : Addr) (x : Str) (r0 : List Str) (rs : List (List Str)), vs = [.ref y, .str x] ∧ H = upd (upd H0 dx (.own y)) y (.ins C dx []) ∧ H0 y = none ∧ H0 dx = none ∧ dx ≠ y ∧ Live M H0 ∧
  rowsOf x = r0 :: rs ∧ GoodRows (rowsOf x) ∧ (x.length ≤ 10000 ∧ ∀ l ∈ Txt.split x "\n", l.length ≤ 10000) ∧ (startV r0 = none → OutF E CL "index" (.int 0) H0) ∧ ∀ l h, startV r0 = some (l, h) →
    (∀ k st ws, runK (stepRows (rowsOf x)) k = some st → (stepRows (rowsOf x))[k]? = some ws → stepSt k st ws = none → OutF E CL "index" (.int ((k + 1 : Nat) : Int)) H0) ∧
    ∀ st, runK (stepRows (rowsOf x)) (stepRows (rowsOf x)).length = some st →
      ((∀ r, (rowsOf x)[st.1.length + 1]? = some r → ansB st.2.1 st.2.2 r = false) → OutF E CL "index" (.int ((st.1.length + 1 : Nat) : Int)) H0) ∧
      (∀ r, (rowsOf x)[st.1.length + 1]? = some r → ansB st.2.1 st.2.2 r = true → st.1.length + 1 + 1 < (rowsOf x).length → OutF E CL "index" (.int ((st.1.length + 1 + 1 : Nat) : Int)) H0) ∧
      (∀ r, (rowsOf x)[st.1.length + 1]? = some r → ansB st.2.1 st.2.2 r = true → ¬st.1.length + 1 + 1 < (rowsOf x).length → ∀ H1, Same H0 H1 → PgAt K C (hid M H1) y ⟨x, l, h, st.2.1, st.2.2, st.1, r.drop 1⟩ → Q .non H1)
theorem run_len {rows : List (List Str)} : ∀ (k : Nat) {st : St3}, runK rows k = some st → st.1.length = k ∧ st.2.1.length ≤ k + 1 ∧ ("now" : Str) ∈ st.2.1
  | 0, st, h => by cases h; exact ⟨rfl, Nat.le_refl _, by simp⟩
  | k + 1, st, h => by
    cases h1 : runK rows k with
    | none =>
      have : runK rows (k + 1) = none := by show (runK rows k).bind _ = _; rw [h1]; rfl
      rw [this] at h; cases h
    | some s0 =>
      cases h2 : rows[k]? with
      | none =>
        have : runK rows (k + 1) = none := by show (runK rows k).bind _ = _; rw [h1, Option.bind_some, h2]; rfl
        rw [this] at h; cases h
      | some ws =>
        rw [runK_succ h1 h2] at h
        obtain ⟨e1, e2, e3⟩ := run_len k h1
        unfold stepSt at h
        split at h
        · cases h
        · split at h
          · cases h
          · cases h
            refine ⟨by rw [List.length_append, e1]; rfl, ?_, ?_⟩
            · show (Bf.ins _ _).length ≤ _
              unfold Bf.ins
              split
              · omega
              · rw [List.length_append, List.length_singleton]; omega
            · show ("now" : Str) ∈ Bf.ins _ _
              unfold Bf.ins
              split
              · exact e3
              · exact List.mem_append_left _ e3
theorem fk_up (kf : Str → Str) (x y : Str) : Bf.up (fk kf) x (.str y) = fk (Bf.up kf x y) := by
  funext z
  unfold Bf.up fk
  show (if z = x then V.str y else V.str (kf z)) = V.str (if z = x then y else kf z)
  split <;> rfl
theorem stp_nm {ks : List Str} {kf : Str → Str} {ws : List Str} {s : Stp} (h : stepV ks kf ws = some s) : s.x ∈ ks := by
  unfold stepV at h
  split at h
  · rename_i nm eq wd x rest
    unfold stepV2 at h
    split at h
    · split at h
      · cases h
      · rename_i l hl
        split at h
        · rename_i hm
          have hx : x ∈ ks := by
            unfold kget at hm
            by_cases c : x ∈ ks
            · exact c
            · rw [if_neg c] at hm; cases hm
          split at h
          · split at h
            · cases h; exact hx
            · cases h
          · unfold stepM at h
            split at h
            · split at h
              · cases h
              · cases h; exact hx
            · cases h
        · cases h
    · cases h
  · cases h
def splF : PyData → Option PyData
  | .str l => some (rowD (Txt.split l " "))
  | _ => none
theorem splF_map : ∀ ls : List Str, (ls.map PyData.str).filterMap splF = (ls.map fun l => Txt.split l " ").map rowD
  | [] => rfl
  | l :: ls => by rw [List.map_cons, List.filterMap_cons, List.map_cons, List.map_cons, ← splF_map ls]; rfl
end Zn

set_option Elab.async false
set_option linter.all false
set_option maxRecDepth 100000
set_option maxHeartbeats 8000000
namespace Zn
open PySem PySem.Spec PyProof.Rows L2 Dl
/-! programs: Program.__init__ -/
abbrev piN : List Str := ["self", "text", "rows", "index", "words", "step", "line"]
section
variable {X : Cx} {M : List Addr} {σ : L2.St} {H : Hp} {e1 e2 : Expr} {pos p1 : Pos} {f kd : Addr} {fd : FuncData} {ks ws : List Str} {kf : Str → Str} {s : Stp}
theorem xd_stepOf (G : FnOk X.prog X.w X.K X.mg X.base CX0 5 f fd ["words", "kinds"] (spStep X.K)) (hr : Room 5 X.A) (FF : Df X.K X.mg "step_of" sStepOf ["words", "kinds"] f fd) (ha : XD X M σ H e1 (rowD ws)) (hb : XV X σ H e2 (.ref kd)) (L : Live M H) (hd : DM H kd ks (fk kf)) (hx : ∀ w ∈ ws, w.length ≤ 1000)
    (hg : Gl X "step_of" := by rfl) (he : starEach [e1, e2] X.env = (false, eval e1 X.env) :: starEach [e2] X.env := by rfl) (he2 : starEach [e2] X.env = (false, eval e2 X.env) :: starEach [] X.env := by rfl) (hpl : (backTo pos (starEach [e2] X.env)).any (·.1) = false := by rfl) : XD X M σ H (.Call (.Name "step_of" p1) [e1, e2] [] pos) (optStD (stepV ks kf ws)) := fun H1 s Q q =>
  re_call G hr FF.g FF.F.kp FF.b (ra_cons (ha H1 s _ fun v H2 s2 hv => ra_1 (hb H2 (s.trans s2) _ fun H3 s3 => ⟨M, v, kd, ws, ks, kf, rfl, L.mono ((s.trans s2).trans s3), hv.up (hid_mono s3), ((hd.up s).up s2).up s3, hx, fun u H4 s4 hu => q u H4 ((s2.trans s3).trans s4) hu⟩) he2) he) hg (by decide) he hpl
theorem xv_kindG (G : FnOk X.prog X.w X.K X.mg X.base CX0 1 f fd ["step", "kinds"] (spKindG X.K)) (hr : Room 1 X.A) (FF : Df X.K X.mg "kind_given" sKindG ["step", "kinds"] f fd) (ha : XD X M σ H e1 (stpD s)) (hb : XV X σ H e2 (.ref kd)) (L : Live M H) (hd : DM H kd ks (fk kf)) (hx : s.x ∈ ks)
    (hg : Gl X "kind_given" := by rfl) (he : starEach [e1, e2] X.env = (false, eval e1 X.env) :: starEach [e2] X.env := by rfl) (he2 : starEach [e2] X.env = (false, eval e2 X.env) :: starEach [] X.env := by rfl) (hpl : (backTo pos (starEach [e2] X.env)).any (·.1) = false := by rfl) : XV X σ H (.Call (.Name "kind_given" p1) [e1, e2] [] pos) (.str (kindS kf s)) := fun H1 s1 Q q =>
  re_call G hr FF.g FF.F.kp FF.b (ra_cons (ha H1 s1 _ fun v H2 s2 hv => ra_1 (hb H2 (s1.trans s2) _ fun H3 s3 => ⟨M, v, kd, s, ks, kf, rfl, L.mono ((s1.trans s2).trans s3), hv.up (hid_mono s3), ((hd.up s1).up s2).up s3, hx, fun H4 s4 => q H4 ((s2.trans s3).trans s4)⟩) he2) he) hg (by decide) he hpl
end
theorem same_dict {H : Hp} {p : Addr} {kvs : List (Key × V)} (hp : H p = none) : Same H (upd (upd H p (.dK [])) p (.dK kvs)) := fun b o e => by
  have nb : b ≠ p := fun z => by rw [z, hp] at e; cases e
  rw [upd_ne nb, upd_ne nb]; exact e
theorem live_two {M : List Addr} {H : Hp} {a b : Addr} (L : Live M H) (ha : H a ≠ none) (hb : H b ≠ none) : Live (a :: b :: M) H := fun c hc => by
  rcases List.mem_cons.mp hc with rfl | hc
  · exact ha
  · rcases List.mem_cons.mp hc with rfl | hc
    · exact hb
    · exact L c hc
theorem isN_opt (o : Option Stp) : isN (optStD o) = o.isNone := by cases o <;> rfl
theorem stepRows_sub {rows : List (List Str)} {r : List Str} (h : r ∈ stepRows rows) : r ∈ rows := List.mem_of_mem_drop ((List.takeWhile_sublist _).subset h)
theorem stepRows_len (rows : List (List Str)) : (stepRows rows).length ≤ rows.length := by
  have h1 : (stepRows rows).length ≤ (rows.drop 1).length := (List.takeWhile_sublist _).length_le
  rw [List.length_drop] at h1
  omega
section
variable {P : Program} {w : World} {K : PySem.W.Frag} {mg : Str → Option Value} {base : Heap} {C CL CT : Addr}
theorem scPgInit : FnScope piN ["self", "text"] (defScope sPgInit) := ⟨rfl, rfl, rfl, by decide +kernel, rfl, by decide +kernel, by decide +kernel⟩
theorem ok_pgInit {f fX fS fR fP fK fA : Addr} {fd fdX fdS fdR fdP fdK fdA : FuncData} (T : Nm mg) (Z : PgT K mg C) (hM : ∃ t, mg "MOST_LINES" = some (.int 8 t)) (Y : XCls P w K mg base "InvalidLine" "index" CL fX fdX)
    (GS : FnOk P w K mg base (L2.CX P w) 4 fS fdS ["words"] (spStart K CL)) (FS : Df K mg "start_times" sStartT ["words"] fS fdS)
    (GR : FnOk P w K mg base CX0 1 fR fdR ["rows"] (spL K RStepR)) (FR : Df K mg "step_rows" sStepR ["rows"] fR fdR)
    (GP : FnOk P w K mg base CX0 5 fP fdP ["words", "kinds"] (spStep K)) (FP : Df K mg "step_of" sStepOf ["words", "kinds"] fP fdP)
    (GK : FnOk P w K mg base CX0 1 fK fdK ["step", "kinds"] (spKindG K)) (FK : Df K mg "kind_given" sKindG ["step", "kinds"] fK fdK)
    (GA : FnOk P w K mg base (L2.CX P w) 3 fA fdA anN (spAnsN K CL)) (FA : Df K mg "answer_names" sAnsN anN fA fdA)
    (F : Fun K "__init__" "Program.__init__" sPgInit f fd) : FnOk P w K mg base (L2.CX P w) 6 f fd ["self", "text"] (spPgInit K C CL) := by
  obtain ⟨tM, hM⟩ := hM
  refine F.okX scPgInit (fun vs H Q E h => ?_) (fun cdv A outer s H vs Q E hr h => ?_)
  · obtain ⟨M, H0, y, dx, x, r0, rs, rfl, _⟩ := h; rfl
  · obtain ⟨M, H0, y, dx, x, r0, rs, rfl, rfl, hy, hdx, hne, L, erow, hgood, ⟨hxl, hll⟩, q0, q⟩ := h
    have hr1 := hr.mono (show 1 ≤ 5 by decide)
    have hr2 := hr.mono (show 2 ≤ 5 by decide)
    have hr3 := hr.mono (show 3 ≤ 5 by decide)
    have hr4 := hr.mono (show 4 ≤ 5 by decide)
    have hu := Nat.lt_of_le_of_lt (Nat.add_le_add_left (show 1 ≤ 64 by decide) _) hr.units
    have hy1 : upd H0 dx (.own y) y = none := by rw [upd_ne (Ne.symm hne)]; exact hy
    have s0 : Same H0 (upd (upd H0 dx (.own y)) y (.ins C dx [])) := (same_new hdx).trans (same_new hy1)
    have Ly : Live (y :: M) (upd (upd H0 dx (.own y)) y (.ins C dx [])) := (L.mono (same_new hdx)).cons hy1
    have hyH : upd (upd H0 dx (.own y)) y (.ins C dx []) y = some (.ins C dx []) := upd_same
    generalize upd (upd H0 dx (.own y)) y (.ins C dx []) = H at s0 Ly hyH hr hr1 hr2 hr3 hr4 hu
    have tk : Takes (cxOf (L2.CX P w) P w K mg base piN "Program.__init__" (defScope sPgInit) f cdv A outer s H E) (fun cls d _ H => E cls d H) := takes_of rfl rfl rfl rfl
    have po : PassesOwn (model P w) (cxOf (L2.CX P w) P w K mg base piN "Program.__init__" (defScope sPgInit) f cdv A outer s H E).A (cxOf (L2.CX P w) P w K mg base piN "Program.__init__" (defScope sPgInit) f cdv A outer s H E).env (cxOf (L2.CX P w) P w K mg base piN "Program.__init__" (defScope sPgInit) f cdv A outer s H E).xe := passes_of (X := cxOf (L2.CX P w) P w K mg base piN "Program.__init__" (defScope sPgInit) f cdv A outer s H E) rfl
    show RB (cxOf (L2.CX P w) P w K mg base piN "Program.__init__" (defScope sPgInit) f cdv A outer s H E) (defBody sPgInit) _ _ H
    refine rb_ifF ((xt_not (xt_val (M := y :: M) (k := true) (xd_is1 (d := .str x) (r := true) (T := "str") (show kitB "str" "str" = some true by decide +kernel) T.isi T.str (by decide +kernel) (xd_name 1 rfl (.str x))))).to rfl) fun H1 s1 => ?_
    have L1 := Ly.mono s1
    -- rows
    refine rb_setC0 2 (M := y :: M) (own := [("line", 6)]) splF L1 scPgInit.nd (XL.dd (xl_split L1 (xd_name 1 rfl (.str x)) xd_str (by decide +kernel) (by omega)) L1) (blkOk_by (own := [("line", 6)]) (N := piN) (sc := defScope sPgInit) (by decide +kernel)) (by
      have h := hgood.1
      unfold rowsOf at h
      rw [List.length_map] at h ⊢
      exact Nat.le_trans h (by decide)) (fun p d v H3 hd hp s3 Lp hv => ?comp) (fun rl xs H2 s2 hrl hrl2 hx => ?_)
    case comp =>
      obtain ⟨l, hl, rfl⟩ := List.mem_map.mp hd
      have ev := dp_str hv
      subst ev
      intro s9 H9 C9 cl fp
      refine rg_name 6 ⟨rfl, bt_nil ⟨Same.refl _, .inl ⟨rfl, _, rfl, fun s9 H9 C9 cl fp => ?_⟩⟩⟩ scPgInit.nd
      exact XD.go (XL.dd (xl_split (M := p :: y :: M) Lp (xd_name 6 rfl (.str l)) xd_str (by decide +kernel) (Nat.le_trans (hll l hl) (by decide))) Lp) fun v4 H4 s4 hv4 => ⟨s4, hv4⟩
    rw [splF_map] at hx
    have s12 := s1.trans s2
    have L2' := L1.mono s2
    have hrows : Dq K (hid (y :: M) H2) (.ref rl) (.list ((rowsOf x).map rowD)) := .lst (by rw [hid_of (fun z => L1 rl z hrl)]; exact hrl2) hx
    have hy2 := s12 _ _ hyH
    -- self.source
    refine rb_fld (pa := y) (dx := dx) (fs := []) (XV.go (xv_name 1 rfl) fun H3 s3 => ⟨s3 _ _ hy2, (by decide), xv_name 0 rfl, fun H4 s4 => ?_⟩) Z.cl Z.n1
    have s24 := s3.trans s4
    have hrows5 : Dq K (hid (y :: M) (upd H4 y (.ins C dx (putF "source" (.str x) [])))) (.ref rl) (.list ((rowsOf x).map rowD)) := by rw [hid_cons_upd]; exact hrows.up (hid_mono s24)
    have L5 : Live (y :: M) (upd H4 y (.ins C dx (putF "source" (.str x) []))) := (L2'.mono s24).upd
    have s05 : Same H0 (upd H4 y (.ins C dx (putF "source" (.str x) []))) := same_upd ((s0.trans s12).trans s24) hy
    have h5y : upd H4 y (.ins C dx (putF "source" (.str x) [])) y = some (.ins C dx [(("source" : Str), .str x)]) := upd_same
    generalize upd H4 y (.ins C dx (putF "source" (.str x) [])) = H5 at hrows5 L5 s05 h5y
    -- self.earliest, self.latest
    have hr0 : atI ((rowsOf x).map rowD) 0 = some (rowD r0) := rowD_get (i := 0) (by rw [erow]; rfl)
    refine rb_asgR (re_callX GS hr4 tk FS.g FS.F.kp FS.b (ra_1 (XD.go (xd_ixL (M := y :: M) (fun _ _ => rfl) (xd_name 2 rfl hrows5) xd_int hr0) fun v6 H6 s6 hv6 => ⟨y :: M, v6, r0, rfl, L5.mono s6, hv6, fun w hw => (hgood.2 r0 (by rw [erow]; exact List.mem_cons_self ..)).2.2 w hw, fun lo hi he v7 H7 s7 hv7 => ?ok, fun he => (q0 he).up (s05.trans s6)⟩)))
    case ok =>
      obtain ⟨tp, ts, rfl, htp, hts⟩ := dp_tup hv7
      obtain ⟨ta, tb, rfl⟩ : ∃ ta tb, ts = [ta, tb] := by
        have := dpa_len hts
        match ts, this with
        | [a, b], _ => exact ⟨a, b, rfl⟩
      cases hts with
      | cons hta hts =>
      cases hts with
      | cons htb _ =>
      have eta := dp_int hta
      have etb := dp_int htb
      subst eta etb
      obtain ⟨q1, q2⟩ := q lo hi he
      have L7 := (L5.mono s6).mono s7
      have hrows7 := (hrows5.up (hid_mono (M := y :: M) s6)).up (hid_mono s7)
      have h7y := s7 _ _ (s6 _ _ h5y)
      have s07 : Same H0 H7 := (s05.trans s6).trans s7
      refine rg_tup (xs := [.int lo, .int hi]) (same_seqT hid_le htp) (rgs_cons (rg_fld (a := y) (C := C) (dx := dx) (fs := [(("source" : Str), .str x)]) (xv_name 0 rfl) Z.cl Z.n2 fun H8 s8 => ⟨s8 _ _ h7y, (by show 1 < 1000; decide), ?g2⟩) )
      case g2 =>
        rw [pf_p1]
        refine rgs_cons (rg_fld (a := y) (C := C) (dx := dx) (fs := [(("source" : Str), .str x), ("earliest", .int lo)]) (xv_name 0 rfl) Z.cl Z.n3 fun H9 s9 => ⟨s9 _ _ upd_same, (by show 2 < 1000; decide), rgs_nil ?_⟩)
        rw [pf_p2]
        have s09 : Same H0 (upd H9 y (.ins C dx (pf3 x lo hi))) := fun b o e => by
          have nb : b ≠ y := ne_of_none e hy
          rw [upd_ne nb]
          exact s9 _ _ (by rw [upd_ne nb]; exact s8 _ _ (s07 _ _ e))
        have s79 : Same (hid (y :: M) H7) (hid (y :: M) (upd H9 y (.ins C dx (pf3 x lo hi)))) := by
          rw [hid_cons_upd]
          refine (hid_mono s8).trans ?_
          have := hid_mono (M := y :: M) s9
          rw [hid_cons_upd] at this
          exact this
        have L9 : Live (y :: M) (upd H9 y (.ins C dx (pf3 x lo hi))) := ((L7.mono s8).upd.mono s9).upd
        have hrows9 := hrows7.up s79
        have h9y : upd H9 y (.ins C dx (pf3 x lo hi)) y = some (.ins C dx (pf3 x lo hi)) := upd_same
        generalize upd H9 y (.ins C dx (pf3 x lo hi)) = Ha at s09 L9 hrows9 h9y
        -- self.kinds
        refine rb_fld (pa := y) (dx := dx) (fs := pf3 x lo hi) (m := "kinds") ⟨_, pe_disp (pps_cons pe_str pe_str pps_nil) rfl rfl (by simp) (by simp), fun kd hkd => ⟨upd_same, [(.inr "now", .str "moment")], rfl, by show 1 ≤ 15; decide, ?_⟩⟩ Z.cl Z.n4
        have sd : Same Ha (upd (upd Ha kd (.dK [])) kd (.dK (mergeK [] [(Sum.inr ("now" : Str), V.str "moment")]))) := same_dict hkd
        have hd0 : DM (upd (upd Ha kd (.dK [])) kd (.dK (mergeK [] [(Sum.inr ("now" : Str), V.str "moment")]))) kd ["now"] (fk fun _ => "moment") := upd_same
        generalize upd (upd Ha kd (.dK [])) kd (.dK (mergeK [] [(Sum.inr ("now" : Str), V.str "moment")])) = Hb at sd hd0
        refine ⟨sd _ _ h9y, (by show 3 < 1000; decide), xv_name 0 rfl, fun Hc sc => ?_⟩
        rw [pf_p3]
        have nky : kd ≠ y := fun z => by rw [z, h9y] at hkd; cases hkd
        have s0c : Same H0 (upd Hc y (.ins C dx (pf4 x lo hi kd))) := same_upd ((s09.trans sd).trans sc) hy
        have hdc : DM (upd Hc y (.ins C dx (pf4 x lo hi kd))) kd ["now"] (fk fun _ => "moment") := by
          unfold DM
          rw [upd_ne nky]
          exact sc _ _ hd0
        have hkdM : kd ∉ y :: M := fun z => L9 kd z hkd
        have Lc : Live (y :: M) (upd Hc y (.ins C dx (pf4 x lo hi kd))) := ((L9.mono sd).mono sc).upd
        have hrowsc : Dq K (hid (kd :: y :: M) (upd Hc y (.ins C dx (pf4 x lo hi kd)))) (.ref rl) (.list ((rowsOf x).map rowD)) := by rw [hid_upd_mem (by simp)]; exact hrows9.up (hid_step hkd (sd.trans sc))
        have hcy : upd Hc y (.ins C dx (pf4 x lo hi kd)) y = some (.ins C dx (pf4 x lo hi kd)) := upd_same
        have hkd0 : H0 kd = none := s09.free hkd
        generalize upd Hc y (.ins C dx (pf4 x lo hi kd)) = Hd at s0c hdc Lc hrowsc hcy
        -- self.steps
        refine rb_fld (pa := y) (dx := dx) (fs := pf4 x lo hi kd) (XL.go (M := y :: M) (xl_lst Lc xa_nil) fun sl xs9 He se hsl hsl2 hx9 => ⟨se _ _ hcy, (by show 4 < 1000; decide), xv_name 0 rfl, fun Hf sf => ?_⟩) Z.cl Z.n5
        cases hx9
        rw [pf_p4]
        have nsy : sl ≠ y := fun z => by rw [z, hcy] at hsl; cases hsl
        have nsk : sl ≠ kd := fun z => by
          unfold DM at hdc
          rw [z, hdc] at hsl
          cases hsl
        have hsl0 : H0 sl = none := s0c.free hsl
        have sef := se.trans sf
        have s0f : Same H0 (upd Hf y (.ins C dx (pf5 x lo hi kd sl))) := same_upd (s0c.trans sef) hy
        have hdf : DM (upd Hf y (.ins C dx (pf5 x lo hi kd sl))) kd ["now"] (fk fun _ => "moment") := by
          unfold DM
          rw [upd_ne nky]
          exact sef _ _ hdc
        have hsf : upd Hf y (.ins C dx (pf5 x lo hi kd sl)) sl = some (.lst []) := by rw [upd_ne nsy]; exact sf _ _ hsl2
        have Lf : Live (y :: M) (upd Hf y (.ins C dx (pf5 x lo hi kd sl))) := (Lc.mono sef).upd
        have hrowsf : Dq K (hid (sl :: kd :: y :: M) (upd Hf y (.ins C dx (pf5 x lo hi kd sl)))) (.ref rl) (.list ((rowsOf x).map rowD)) := by rw [hid_upd_mem (by simp)]; exact hrowsc.up (hid_step hsl sef)
        have hfy : upd Hf y (.ins C dx (pf5 x lo hi kd sl)) y = some (.ins C dx (pf5 x lo hi kd sl)) := upd_same
        generalize upd Hf y (.ins C dx (pf5 x lo hi kd sl)) = Hg at s0f hdf hsf Lf hrowsf hfy
        -- the loop's frame
        have LM : Live (sl :: kd :: y :: M) Hg := live_two Lf (by rw [hsf]; simp) (by unfold DM at hdf; rw [hdf]; simp)
        have hslM : sl ∉ y :: M := fun z => Lc sl z hsl
        have hrl : (rowsOf x).length ≤ 1000 := hgood.1
        generalize hsr : stepRows (rowsOf x) = sr at q1 q2
        have hsrl : sr.length ≤ 1000 := by rw [← hsr]; exact Nat.le_trans (stepRows_len _) hrl
        have hsrg : ∀ ws ∈ sr, ∀ w ∈ ws, w.length ≤ 1000 := fun ws hws w hw => (hgood.2 ws (stepRows_sub (by rw [hsr]; exact hws))).2.2 w hw
        refine rb_enum1 (M := sl :: kd :: y :: M) (ds := sr.map rowD) T.enu (XL.dd (xl_call LM GR hr1 FR.g FR.F.kp FR.b (xa_cons (xd_name 2 rfl hrowsf) xa_nil) ⟨rowsOf x, rfl, fun r hr => (hgood.2 r hr).1, by omega, by rw [hsr]⟩) LM) (hp := po) fun H1 s1 =>
          ⟨fun k σ' H' => ∃ st zs a3 a4 a5 a6, runK sr k = some st ∧ σ' = [some (.ref y), some (.str x), some (.ref rl), a3, a4, a5, a6] ∧ Same (hid (sl :: kd :: y :: M) H1) (hid (sl :: kd :: y :: M) H') ∧ Live (sl :: kd :: y :: M) H' ∧ Same H0 H' ∧ H' y = some (.ins C dx (pf5 x lo hi kd sl)) ∧ DM H' kd st.2.1 (fk st.2.2) ∧ H' sl = some (.lst zs) ∧ DqAll K (hid (sl :: kd :: y :: M) H') zs (st.1.map stpD),
            ⟨([], ["now"], fun _ => "moment"), [], none, none, none, none, rfl, rfl, Same.refl _, LM.mono s1, s0f.trans s1, s1 _ _ hfy, hdf.up s1, s1 _ _ hsf, .nil⟩, fun k σ' H' w => by obtain ⟨_, _, _, _, _, _, _, _, z, _⟩ := w; exact z, fun k d hd σ' H' Tt xv w hT hx => ?step, fun σ' H' w => ?done⟩
        case done =>
          obtain ⟨st, zs, a3, a4, a5, a6, hst, rfl, y1, L3, y2, y3, y4, y5, y6⟩ := w
          rw [List.length_map] at hst
          have hk1 := run_len _ hst
          obtain ⟨q3, q4, q5⟩ := q2 st hst
          have hrL := hrowsf.up ((hid_mono (M := sl :: kd :: y :: M) s1).trans y1)
          have hzl : zs.length = st.1.length := by rw [dpa_len y6, List.length_map]
          have hil : st.1.length + 1 ≤ (rowsOf x).length := by
            have h1 : sr.length ≤ ((rowsOf x).drop 1).length := by rw [← hsr]; exact (List.takeWhile_sublist _).length_le
            rw [List.length_drop, erow, List.length_cons] at h1
            rw [erow, List.length_cons]
            omega
          refine rb_fld (pa := y) (dx := dx) (fs := pf5 x lo hi kd sl) (re_callX GA hr3 tk FA.g FA.F.kp FA.b (ra_cons (XD.go (M := sl :: kd :: y :: M) (xd_name 2 rfl hrL) fun v1 Hh s2 hv1 => ra_cons (XD.go (M := sl :: kd :: y :: M) (xd_add (xv_lenS T.len (xv_fld (xv_name 0 rfl) (s2 _ _ y3) Z.cl Z.n5 (lk5s ..)) (SqL.of (s2 _ _ y5))).int xd_int) fun v2 Hi s3 hv2 => ra_1 (XV.go (xv_fld (xv_name 0 rfl) ((s2.trans s3) _ _ y3) Z.cl Z.n4 (lk5k ..)) fun Hj s4 => ?_))))) Z.cl Z.n6
          have s24 := (s2.trans s3).trans s4
          have ev := dp_int hv2
          subst ev
          refine ⟨sl :: kd :: y :: M, v1, kd, st.1.length + 1, rowsOf x, st.2.1, st.2.2, by rw [hzl, Int.natCast_add]; rfl, L3.mono s24, hv1.up (hid_mono (s3.trans s4)), y4.up s24, fun r hr => Nat.le_trans (hgood.2 r hr).2.1 (by decide), hil, fun hn => (q3 hn).up (y2.trans s24), fun r h1 h2 h3 => (q4 r h1 h2 h3).up (y2.trans s24), fun r h1 h2 h3 p ps Hk s5 hp hk hps => ?_⟩
          have s25 := s24.trans s5
          refine ⟨s25 _ _ y3, (by show 5 < 1000; decide), xv_name 0 rfl, fun Hl s6 => rb_nil (q5 r h1 h2 h3 _ (same_upd ((y2.trans s25).trans s6) hy) ?_)⟩
          rw [pf_p5]
          have s26 := s25.trans s6
          have npy : p ≠ y := fun z => by rw [z, s24 _ _ y3] at hp; cases hp
          have hp0 : H0 p = none := (y2.trans s24).free hp
          have wk : Same (hid (sl :: kd :: y :: M) (upd Hl y (.ins C dx (pf x lo hi kd sl p)))) (hid M (upd Hl y (.ins C dx (pf x lo hi kd sl p)))) := (hid_weak.trans hid_weak).trans hid_weak
          rw [hid_upd_mem (by simp)] at wk
          refine ⟨dx, kd, sl, p, ?_, ?_, ?_, ?_⟩
          · rw [hid_of (L.fresh hy)]; exact upd_same
          · unfold DM
            rw [hid_of (L.fresh hkd0), upd_ne nky]
            exact s26 _ _ y4
          · refine .lst (xs := zs) ?_ ((y6.up (hid_mono s26)).up wk)
            rw [hid_of (L.fresh hsl0), upd_ne nsy]
            exact s26 _ _ y5
          · refine .lst (xs := ps) ?_ ((hps.up (hid_mono s6)).up wk)
            rw [hid_of (L.fresh hp0), upd_ne npy]
            exact s6 _ _ hk
        case step =>
          obtain ⟨st, zs, a3, a4, a5, a6, hst, rfl, y1, L3, y2, y3, y4, y5, y6⟩ := w
          obtain ⟨ws, hws, rfl⟩ := map_get hd
          have hwsm := List.mem_of_getElem? hws
          have sT : Same H' (upd H' Tt (.tup [.int ((k + 1 : Nat) : Int), xv])) := same_new hT
          refine rg_tup (xs := [.int ((k + 1 : Nat) : Int), xv]) (SqT.of upd_same) (rgs_cons (rg_name 3 (rgs_cons (rg_name 4 (rgs_nil ?_) scPgInit.nd)) scPgInit.nd))
          have L4 := L3.mono sT
          have z1 := y1.trans (hid_mono (M := sl :: kd :: y :: M) sT)
          have z2 := y2.trans sT
          have z3 := sT _ _ y3
          have z4 := y4.up sT
          have z5 := sT _ _ y5
          have z6 := y6.up (hid_mono (M := sl :: kd :: y :: M) sT)
          have hxT := hx.up (hid_mono (M := sl :: kd :: y :: M) sT)
          generalize upd H' Tt (.tup [.int ((k + 1 : Nat) : Int), xv]) = Hh at L4 z1 z2 z3 z4 z5 z6 hxT
          have hk1 := run_len k hst
          have hkl : k < sr.length := (List.getElem?_eq_some_iff.mp hws).1
          refine rb_set 5 (M := sl :: kd :: y :: M) (d := optStD (stepV st.2.1 st.2.2 ws)) (xd_stepOf GP hr FP (xd_name 4 rfl hxT) (xv_fld (xv_name 0 rfl) z3 Z.cl Z.n4 (lk5k ..)) L4 z4 (hsrg ws hwsm)) (fun vs Hi si hvs => ?_) scPgInit.nd
          refine rb_if (k := (stepV st.2.1 st.2.2 ws).isNone || decide ((8 : Int) < ((k + 1 : Nat) : Int))) (XT.to (xt_or2 (xt_isNone (M := sl :: kd :: y :: M) (xd_name 5 rfl hvs)) fun _ => xt_cmpI (M := sl :: kd :: y :: M) op_gt (xv_name 3 rfl).int (xv_glob (v := .int 8) hM ⟨tM, rfl⟩).int) (by rw [isN_opt])) (fun e Hj sj => ?_) (fun e Hj sj => rb_nil ?_)
          · refine rb_raise Y hr2 tk (XV.go (xv_name 3 rfl) fun Hk sk d Hl sl' el => ?_)
            refine q1 k st ws hst hws ?_ d Hl ((((z2.trans si).trans sj).trans sk).trans sl') el
            unfold stepSt
            cases hv : stepV st.2.1 st.2.2 ws with
            | none => rfl
            | some s =>
              rw [hv, Option.isNone_some, Bool.false_or, decide_eq_true_eq] at e
              show (if 8 < k + 1 then none else _) = none
              rw [if_pos (by omega)]
          · rw [Bool.or_eq_false_iff, decide_eq_false_iff_not] at e
            obtain ⟨e1, e2⟩ := e
            obtain ⟨sp, hsp⟩ : ∃ sp, stepV st.2.1 st.2.2 ws = some sp := by
              cases hv : stepV st.2.1 st.2.2 ws with
              | none => rw [hv] at e1; cases e1
              | some s => exact ⟨s, rfl⟩
            rw [hsp] at hvs
            have hvs : Dq K (hid (sl :: kd :: y :: M) Hi) vs (stpD sp) := hvs
            have sij := si.trans sj
            have nks : kd ≠ sl := fun z => nsk z.symm
            have eru : runK sr (k + 1) = some (st.1 ++ [sp], Bf.ins st.2.1 sp.nm, Bf.up st.2.2 sp.nm (kindS st.2.2 sp)) := by
              rw [runK_succ hst hws]
              unfold stepSt
              rw [hsp]
              show (if 8 < k + 1 then none else _) = _
              rw [if_neg (by omega)]
            refine rb_append (M := sl :: kd :: y :: M) (l := sl) (d := stpD sp) (List.mem_cons_self ..) (xv_fld (xv_name 0 rfl) (sij _ _ z3) Z.cl Z.n5 (lk5s ..)) (sij _ _ z5) (xd_name 5 rfl (hvs.up (hid_mono sj))) (by rw [dpa_len z6, List.length_map, hk1.1]; omega) fun v5 Hk sk hv5 => ?_
            have sik := sij.trans sk
            have w1 : Same (hid (sl :: kd :: y :: M) H1) (hid (sl :: kd :: y :: M) (upd Hk sl (.lst (zs ++ [v5])))) := by rw [hid_cons_upd]; exact z1.trans (hid_mono sik)
            have w2 : Same H0 (upd Hk sl (.lst (zs ++ [v5]))) := same_upd (z2.trans sik) hsl0
            have w3 : upd Hk sl (.lst (zs ++ [v5])) y = some (.ins C dx (pf5 x lo hi kd sl)) := by rw [upd_ne (Ne.symm nsy)]; exact sik _ _ z3
            have w4 : DM (upd Hk sl (.lst (zs ++ [v5]))) kd st.2.1 (fk st.2.2) := by unfold DM; rw [upd_ne nks]; exact sik _ _ z4
            have w5 : upd Hk sl (.lst (zs ++ [v5])) sl = some (.lst (zs ++ [v5])) := upd_same
            have w6 : DqAll K (hid (sl :: kd :: y :: M) (upd Hk sl (.lst (zs ++ [v5])))) (zs ++ [v5]) ((st.1 ++ [sp]).map stpD) := by
              rw [hid_cons_upd, List.map_append]
              exact dpa_app (z6.up (hid_mono sik)) (.cons hv5 .nil)
            have w7 : Dq K (hid (sl :: kd :: y :: M) (upd Hk sl (.lst (zs ++ [v5])))) vs (stpD sp) := by rw [hid_cons_upd]; exact hvs.up (hid_mono (sj.trans sk))
            have L5' : Live (sl :: kd :: y :: M) (upd Hk sl (.lst (zs ++ [v5]))) := (L4.mono sik).upd
            generalize upd Hk sl (.lst (zs ++ [v5])) = Hm at w1 w2 w3 w4 w5 w6 w7 L5'
            refine rb_dput (M := sl :: kd :: y :: M) (W := kd) (x := sp.nm) (ks := st.2.1) (f := fk st.2.2) hu ((xv_kindG GK hr1 FK (xd_name 5 rfl w7) (xv_fld (xv_name 0 rfl) w3 Z.cl Z.n4 (lk5k ..)) L5' w4 (stp_nm hsp)).dd (.str _)) (xv_fld (xv_name 0 rfl) w3 Z.cl Z.n4 (lk5k ..)) (xd_ixT (fun _ _ => rfl) (xd_name 5 rfl w7) xd_int (atI_nat (j := 0) rfl)) w4 (by have := hk1.2.1; omega) fun v Hn sn hvn => ?_
            have ev := dp_str hvn
            subst ev
            rw [fk_up]
            refine rb_nil ⟨_, zs ++ [v5], _, _, _, _, eru, rfl, ?_, ?_, ?_, ?_, ?_, ?_, ?_⟩
            · rw [hid_upd_mem (by simp)]; exact w1.trans (hid_mono sn)
            · exact (L5'.mono sn).upd
            · exact same_upd (w2.trans sn) hkd0
            · rw [upd_ne (Ne.symm nky)]; exact sn _ _ w3
            · exact upd_same
            · rw [upd_ne nsk]; exact sn _ _ w5
            · rw [hid_upd_mem (by simp)]; exact w6.up (hid_mono sn)
end
end Zn

set_option Elab.async false
set_option linter.all false
set_option maxRecDepth 100000
set_option maxHeartbeats 8000000
namespace Zn
open PySem PySem.Spec PyProof.Rows L2 Dl
abbrev sCell : Stmt := top 38
abbrev sBag : Stmt := top 39
abbrev sTake : Stmt := top 40
/-- the bag: a great rest, a seed, a count up to n -/
def BagAt (H : Hp) (b : Addr) (n : Nat) : Prop := ∃ (g m c : Int), H b = some (.lst [.int g, .int m, .int c]) ∧ 0 ≤ m ∧ m < 2147483648 ∧ 0 ≤ c ∧ c ≤ n
theorem BagAt.up {H H' : Hp} {b : Addr} {n n' : Nat} (h : BagAt H b n) (s : Same H H') (hn : n ≤ n') : BagAt H' b n' := by
  obtain ⟨g, m, c, h1, h2, h3, h4, h5⟩ := h
  exact ⟨g, m, c, s _ _ h1, h2, h3, h4, by omega⟩
/-- all but b stands -/
def SameB (b : Addr) (H H' : Hp) : Prop := ∀ a o, a ≠ b → H a = some o → H' a = some o
theorem SameB.of {b : Addr} {H H' : Hp} (s : Same H H') : SameB b H H' := fun a o _ e => s a o e
theorem SameB.trans {b : Addr} {H H1 H2 : Hp} (s : SameB b H H1) (t : SameB b H1 H2) : SameB b H H2 := fun a o n e => t a o n (s a o n e)
theorem SameB.upd {b : Addr} {H H' : Hp} {o : HO} (s : SameB b H H') : SameB b H (upd H' b o) := fun a u n e => by rw [upd_ne n]; exact s a u n e
theorem SameB.hid {b : Addr} {M : List Addr} {H H' : Hp} (s : SameB b H H') (h : b ∈ M) : Same (hid M H) (hid M H') := fun a o e => by
  have n : a ∉ M := fun z => by unfold Dl.hid at e; rw [if_pos z] at e; cases e
  have nb : a ≠ b := fun z => n (z ▸ h)
  rw [hid_of n]
  exact s a o nb (hid_le _ _ e)
theorem SameB.live {b : Addr} {M : List Addr} {H H' : Hp} (s : SameB b H H') (L : Live M H) (hb : H' b ≠ none) : Live M H' := fun a ha z => by
  by_cases e : a = b
  · subst e; exact hb z
  · cases q : H a with
    | none => exact L a ha q
    | some o => rw [s a o e q] at z; cases z
theorem BagAt.some {H : Hp} {b : Addr} {n : Nat} (h : BagAt H b n) : H b ≠ none := by
  obtain ⟨g, m, c, h1, _⟩ := h
  rw [h1]; simp
def spCell (K : PySem.W.Frag) : Sp := fun vs H Q _ => ∃ (a : Addr) (ns : List Int) (j : Nat), vs = [.ref a, .int j] ∧ SqL K H a (ns.map V.int) ∧ ∀ (n : Int) H1, Same H H1 → Q (.int n) H1
def spBag : Sp := fun vs H Q _ => ∃ (n : Int), vs = [.int n] ∧ ∀ b H1, Same H H1 → H b = none → BagAt H1 b 0 → Q (.ref b) H1
def spTake : Sp := fun vs H Q _ => ∃ (b : Addr) (many : Int) (n : Nat), vs = [.ref b, .int many] ∧ 0 < many ∧ many.natAbs < 2 ^ 200 ∧ n ≤ 1000000 ∧ BagAt H b n ∧
  ∀ (r : Int) H1, 0 ≤ r → r < many → SameB b H H1 → BagAt H1 b (n + 1) → Q (.int r) H1
section
variable {P : Program} {w : World} {K : PySem.W.Frag} {mg : Str → Option Value} {base : Heap}
theorem scCell : FnScope ["_law_script", "_law_k"] ["_law_script", "_law_k"] (defScope sCell) := ⟨rfl, rfl, rfl, by decide +kernel, rfl, by decide +kernel, by decide +kernel⟩
theorem ok_cell {f : Addr} {fd : FuncData} (T : Nm mg) (F : Df K mg "_law_cell" sCell ["_law_script", "_law_k"] f fd) : FnOk P w K mg base CX0 1 f fd ["_law_script", "_law_k"] (spCell K) := by
  refine F.F.ok scCell (fun vs H Q E h => ?_) (fun cdv A outer s H vs Q E hr h => ?_)
  · obtain ⟨a, ns, j, rfl, _⟩ := h; rfl
  · obtain ⟨a, ns, j, rfl, hS, q⟩ := h
    refine rb_if (xt_cmpI (M := []) op_lt (xv_name 1 rfl).int (xv_lenS T.len (xv_name 0 rfl) hS).int) (fun e H1 s1 => ?_) (fun e H1 s1 => rb_nil ?_)
    · have hj : j < ns.length := by
        have z := of_decide_eq_true e
        rw [List.length_map] at z
        omega
      have ha : atI (ns.map V.int) ((j : Nat) : Int) = some (V.int ns[j]) := atI_nat (by rw [List.getElem?_map, List.getElem?_eq_getElem hj]; rfl)
      exact rb_retR (XV.go (xv_ixS (fun _ _ => rfl) (xv_name 0 rfl) (s1.seq hS) (xv_name 1 rfl) ha) fun H2 s2 => q _ H2 (s1.trans s2))
    · exact rb_ret (M := []) (xd_add (xd_mul xd_int (xv_name 1 rfl).int (.inl ⟨by decide, by decide⟩)) xd_int) fun v H2 s2 hv => by
        rw [dp_int hv]
        exact q _ H2 (s1.trans s2)
theorem scBag : FnScope ["_law_cell_here"] ["_law_cell_here"] (defScope sBag) := ⟨rfl, rfl, rfl, by decide +kernel, rfl, by decide +kernel, by decide +kernel⟩
theorem ok_bag {f : Addr} {fd : FuncData} (T : Nm mg) (F : Df K mg "_law_box" sBag ["_law_cell_here"] f fd) : FnOk P w K mg base CX0 1 f fd ["_law_cell_here"] spBag := by
  refine F.F.ok scBag (fun vs H Q E h => ?_) (fun cdv A outer s H vs Q E hr h => ?_)
  · obtain ⟨n, rfl, _⟩ := h; rfl
  · obtain ⟨n, rfl, q⟩ := h
    refine rb_retR (XL.go (M := []) (xl_lst Live.nil (xa_cons (xd_max T.max (xa_cons xd_int (xa_cons (xd_sub (xv_name 0 rfl).int (xd_pow xd_int xd_int ⟨by decide, by decide, by decide⟩)) xa_nil))) (xa_cons (xd_mod (xv_name 0 rfl).int xd_int (by decide)) (xa_cons xd_int xa_nil)))) fun p xs H1 s1 hp h1 hx => ?_)
    cases hx with
    | cons a1 hx => cases hx with
      | cons a2 hx => cases hx with
        | cons a3 hx =>
          cases hx
          rw [dp_int a1, dp_int a2, dp_int a3] at h1
          exact q p H1 s1 hp ⟨_, _, _, h1, by omega, by omega, by decide, by decide⟩
theorem scTake : FnScope ["_law_box_here", "_law_many", "_law_digit", "_law_mixed"] ["_law_box_here", "_law_many"] (defScope sTake) := ⟨rfl, rfl, rfl, by decide +kernel, rfl, by decide +kernel, by decide +kernel⟩
theorem cdiv0 {m n : Int} (h : 0 < n) (h2 : n.natAbs < 2 ^ 200) : CDivW m n := wide_div h h2 (by decide) (by decide)
theorem ok_take {f : Addr} {fd : FuncData} (F : Df K mg "_law_take" sTake ["_law_box_here", "_law_many"] f fd) : FnOk P w K mg base CX0 1 f fd ["_law_box_here", "_law_many"] spTake := by
  refine F.F.ok scTake (fun vs H Q E h => ?_) (fun cdv A outer s H vs Q E hr h => ?_)
  · obtain ⟨b, many, n, rfl, _⟩ := h; rfl
  · obtain ⟨b, many, n, rfl, hm, hm2, hn, ⟨g, m, c, hb, m0, m1, c0, c1⟩, q⟩ := h
    have at0 : ∀ {x y z : V}, atI [x, y, z] 0 = some x := fun {x y z} => rfl
    have at1 : ∀ {x y z : V}, atI [x, y, z] 1 = some y := fun {x y z} => rfl
    have at2 : ∀ {x y z : V}, atI [x, y, z] 2 = some z := fun {x y z} => rfl
    refine rb_if (xt_cmpI (M := []) op_gt (xv_ixS (fun _ _ => rfl) (xv_name 0 rfl) (SqL.of hb) xv_int at0).int xd_int) (fun e H1 s1 => ?_) (fun e H1 s1 => rb_nil ?_)
    · have hb1 := s1 _ _ hb
      refine rb_set 2 (M := []) (xd_mod (xv_ixS (fun _ _ => rfl) (xv_name 0 rfl) (SqL.of hb1) xv_int at0).int (xv_name 1 rfl).int hm) (fun v H2 s2 hv => ?_) scTake.nd
      have ev := dp_int hv
      subst ev
      have hb2 := s2 _ _ hb1
      refine rb_setIx (M := []) (n := 0) (j := 0) hb2 (xd_div (xv_ixS (fun _ _ => rfl) (xv_name 0 rfl) (SqL.of hb2) xv_int at0).int (xv_name 1 rfl).int (cdiv0 hm hm2)) (xv_name 0 rfl) xv_int rfl fun v H3 s3 hv => ?_
      have ev := dp_int hv
      subst ev
      refine rb_retR (XV.go (xv_name 2 rfl) fun H4 s4 => q _ H4 (Int.emod_nonneg _ (by omega)) (Int.emod_lt_of_pos _ hm) ((((SameB.of s1).trans (.of s2)).trans (.of s3)).upd.trans (.of s4)) ⟨g / many, m, c, s4 _ _ upd_same, m0, m1, c0, by omega⟩)
    · have hb1 := s1 _ _ hb
      refine rb_setIx (M := []) (n := 2) (j := 2) hb1 (xd_add (xv_ixS (fun _ _ => rfl) (xv_name 0 rfl) (SqL.of hb1) xv_int at2).int xd_int) (xv_name 0 rfl) xv_int rfl fun v H2 s2 hv => ?_
      have ev := dp_int hv
      subst ev
      have hb3 : upd H2 b (.lst [V.int g, V.int m, V.int (c + 1)]) b = some (.lst [V.int g, V.int m, V.int (c + 1)]) := upd_same
      have sB : SameB b H (upd H2 b (.lst [V.int g, V.int m, V.int (c + 1)])) := ((SameB.of s1).trans (.of s2)).upd
      show RB _ _ _ _ (upd H2 b (.lst [V.int g, V.int m, V.int (c + 1)]))
      generalize upd H2 b (.lst [V.int g, V.int m, V.int (c + 1)]) = H3 at hb3 sB
      refine rb_set 3 (M := []) (xd_mod (xd_pow (xd_add (xd_add (xv_ixS (fun _ _ => rfl) (xv_name 0 rfl) (SqL.of hb3) xv_int at1).int (xd_mul xd_int (xv_ixS (fun _ _ => rfl) (xv_name 0 rfl) (SqL.of hb3) xv_int at2).int (.inl ⟨by decide, by decide⟩))) xd_int) xd_int ⟨by decide, by decide, by omega⟩) xd_int (by decide)) (fun v H4 s4 hv => ?_) scTake.nd
      have ev := dp_int hv
      subst ev
      generalize hx : ((m + 15490151 * (c + 1) + 2029) ^ (5 : Int).toNat % 2147483647 : Int) = x1
      have x0 : 0 ≤ x1 := by rw [← hx]; exact Int.emod_nonneg _ (by decide)
      have x2 : x1 < 2147483647 := by rw [← hx]; exact Int.emod_lt_of_pos _ (by decide)
      have hb4 := s4 _ _ hb3
      refine rb_set 3 (M := []) (xd_mod (xd_pow (xd_add (xv_name 3 rfl).int (xd_mul xd_int (xv_ixS (fun _ _ => rfl) (xv_name 0 rfl) (SqL.of hb4) xv_int at2).int (.inl ⟨by decide, by decide⟩))) xd_int ⟨by decide, by decide, by omega⟩) xd_int (by decide)) (fun v H5 s5 hv => ?_) scTake.nd
      have ev := dp_int hv
      subst ev
      refine rb_ret (M := []) (xd_mod (xd_div (xv_name 3 rfl).int xd_int (cdiv0 (by decide) (by decide))) (xv_name 1 rfl).int hm) fun v H6 s6 hv => ?_
      rw [dp_int hv]
      exact q _ H6 (Int.emod_nonneg _ (by omega)) (Int.emod_lt_of_pos _ hm) (((sB.trans (.of s4)).trans (.of s5)).trans (.of s6)) ⟨g, m, c + 1, s6 _ _ (s5 _ _ hb4), m0, m1, by omega, by omega⟩
end
theorem re_take {X : Cx} {σ : L2.St} {H : Hp} {o e : Expr} {pos p1 : Pos} {Q : VK} {k n : Nat} {f b : Addr} {fd : FuncData} {many : Int} (G : FnOk X.prog X.w X.K X.mg X.base CX0 k f fd ["_law_box_here", "_law_many"] spTake) (F : Df X.K X.mg "_law_take" sTake ["_law_box_here", "_law_many"] f fd) (hr : Room k X.A)
    (ho : XV X σ H o (.ref b)) (he : XV X σ H e (.int many)) (hB : BagAt H b n) (q : ∀ (r : Int) H1, 0 ≤ r → r < many → SameB b H H1 → BagAt H1 b (n + 1) → Q (.int r) H1) (h0 : 0 < many := by decide) (h1 : many.natAbs < 2 ^ 200 := by decide) (hn : n ≤ 1000000 := by omega) (hg : Gl X "_law_take" := by rfl)
    (hs : starEach [o, e] X.env = (false, eval o X.env) :: starEach [e] X.env := by rfl) (hs2 : starEach [e] X.env = (false, eval e X.env) :: starEach [] X.env := by rfl) (hpl : (backTo pos (starEach [e] X.env)).any (·.1) = false := by rfl) : RE X (.Call (.Name "_law_take" p1) [o, e] [] pos) σ H Q :=
  re_call G hr F.g F.F.kp F.b (ra_cons (ho.go fun H1 s1 => ra_1 ((he.up s1).go fun H2 s2 => ⟨b, many, n, rfl, h0, h1, hn, hB.up (s1.trans s2) (Nat.le_refl _), fun r H3 r0 r1 sB hB3 => q r H3 r0 r1 ((SameB.of (s1.trans s2)).trans sB) hB3⟩) hs2) hs) hg (by decide) hs hpl
theorem sameB_new {b l : Addr} {H : Hp} {o : HO} (h : H l = none) : SameB b H (upd H l o) := SameB.of (same_new h)
theorem bag_new {H : Hp} {b l : Addr} {n : Nat} {o : HO} (h : BagAt H b n) (hl : H l = none) : BagAt (upd H l o) b n := h.up (same_new hl) (Nat.le_refl _)
theorem bag_sameB {H H' : Hp} {b : Addr} {n : Nat} (h : BagAt H b n) (s : Same H H') : BagAt H' b n := h.up s (Nat.le_refl _)
theorem strs_va {K : PySem.W.Frag} {H : Hp} : ∀ {ss : List Str} {xs : List V}, DqAll K H xs (ss.map PyData.str) → xs = ss.map V.str
  | [], _, h => by cases h; rfl
  | n :: ns, _, h => by
    cases h with
    | cons a b => rw [dp_str a, strs_va b]; rfl
section
variable {X : Cx} {σ : L2.St} {H : Hp} {o e : Expr} {pos p1 p2 p3 p4 : Pos} {Q : VK} {D : Ends} {rest : List Stmt}
theorem re_menuS {esl : List Expr} {ss : List Str} {many : Int} {j n k : Nat} {f b : Addr} {fd : FuncData} (G : FnOk X.prog X.w X.K X.mg X.base CX0 k f fd ["_law_box_here", "_law_many"] spTake) (F : Df X.K X.mg "_law_take" sTake ["_law_box_here", "_law_many"] f fd) (hr : Room k X.A)
    (ha : XA X [] σ H esl (ss.map PyData.str)) (ho : XV X σ H o (.ref b)) (hB : BagAt H b n) (q : ∀ y, y ∈ ss → ∀ H1, SameB b H H1 → BagAt H1 b (n + 1) → Q (.str y) H1) (hl : (ss.length : Int) = many := by rfl) (h1 : many.natAbs < 2 ^ 200 := by decide) (h0 : 0 < many := by decide) (hz : ss.length ≤ 1000 := by decide) (hn : n ≤ 1000000 := by omega) (hg : Gl X "_law_take" := by rfl)
    (hs : starEach [o, .Constant (.int many) j p4] X.env = (false, eval o X.env) :: starEach [.Constant (.int many) j p4] X.env := by rfl) (hs2 : starEach [.Constant (.int many) j p4] X.env = (false, eval (.Constant (.int many) j p4) X.env) :: starEach [] X.env := by rfl) (hpl : (backTo p3 (starEach [.Constant (.int many) j p4] X.env)).any (·.1) = false := by rfl) :
    RE X (.Subscript (.List esl p1) (.Call (.Name "_law_take" p2) [o, .Constant (.int many) j p4] [] p3) pos) σ H Q := by
  refine re_menuV (vs := ss.map V.str) (fun _ _ => rfl) (by rw [List.length_map]; exact hz) (ha H (Same.refl _) _ fun vs H1 s1 hv => ⟨strs_va hv, fun l hl2 => ?_⟩)
  have hv2 := strs_va hv
  subst hv2
  have hlb : l ≠ b := fun e => by rw [e] at hl2; exact (hB.up s1 (Nat.le_refl _)).some hl2
  refine re_take (n := n) G F hr (ho.up (s1.trans (same_new hl2))) xv_int (hB.up (s1.trans (same_new hl2)) (Nat.le_refl _)) (fun r H2 r0 r1 sB hB2 => ⟨r, rfl, r0, by rw [List.length_map, hl]; exact r1, sB _ _ hlb upd_same, fun z hz2 => ?_⟩) h0 h1 hn hg hs hs2 hpl
  obtain ⟨y, hy, rfl⟩ := List.mem_map.mp hz2
  exact q y hy H2 ((SameB.of (s1.trans (same_new hl2))).trans sB) hB2
theorem re_addS {a b : Expr} (h : RE X a σ H fun x H1 => ∃ i, x = .str i ∧ RE X b σ H1 fun y H2 => ∃ j, y = .str j ∧ i.length + j.length ≤ 100000 ∧ Q (.str (i ++ j)) H2) : RE X (.BinOp a .Add b pos) σ H Q :=
  re_bin op_add_str (re_mono h fun x H1 ⟨i, ei, h1⟩ => re_mono h1 fun y H2 ⟨j, ej, hz, q⟩ => ⟨i, j, ei, ej, small_sz hz, q⟩)
theorem re_menuI {esl : List Expr} {ss : List Int} {many : Int} {j n k : Nat} {f b : Addr} {fd : FuncData} (G : FnOk X.prog X.w X.K X.mg X.base CX0 k f fd ["_law_box_here", "_law_many"] spTake) (F : Df X.K X.mg "_law_take" sTake ["_law_box_here", "_law_many"] f fd) (hr : Room k X.A)
    (ha : XA X [] σ H esl (ss.map PyData.int)) (ho : XV X σ H o (.ref b)) (hB : BagAt H b n) (q : ∀ y, y ∈ ss → ∀ H1, SameB b H H1 → BagAt H1 b (n + 1) → Q (.int y) H1) (hl : (ss.length : Int) = many := by rfl) (h1 : many.natAbs < 2 ^ 200 := by decide) (h0 : 0 < many := by decide) (hz : ss.length ≤ 1000 := by decide) (hn : n ≤ 1000000 := by omega) (hg : Gl X "_law_take" := by rfl)
    (hs : starEach [o, .Constant (.int many) j p4] X.env = (false, eval o X.env) :: starEach [.Constant (.int many) j p4] X.env := by rfl) (hs2 : starEach [.Constant (.int many) j p4] X.env = (false, eval (.Constant (.int many) j p4) X.env) :: starEach [] X.env := by rfl) (hpl : (backTo p3 (starEach [.Constant (.int many) j p4] X.env)).any (·.1) = false := by rfl) :
    RE X (.Subscript (.List esl p1) (.Call (.Name "_law_take" p2) [o, .Constant (.int many) j p4] [] p3) pos) σ H Q := by
  refine re_menuV (vs := ss.map V.int) (fun _ _ => rfl) (by rw [List.length_map]; exact hz) (ha H (Same.refl _) _ fun vs H1 s1 hv => ⟨ints_v hv, fun l hl2 => ?_⟩)
  have hv2 := ints_v hv
  subst hv2
  have hlb : l ≠ b := fun e => by rw [e] at hl2; exact (hB.up s1 (Nat.le_refl _)).some hl2
  refine re_take (n := n) G F hr (ho.up (s1.trans (same_new hl2))) xv_int (hB.up (s1.trans (same_new hl2)) (Nat.le_refl _)) (fun r H2 r0 r1 sB hB2 => ⟨r, rfl, r0, by rw [List.length_map, hl]; exact r1, sB _ _ hlb upd_same, fun z hz2 => ?_⟩) h0 h1 hn hg hs hs2 hpl
  obtain ⟨y, hy, rfl⟩ := List.mem_map.mp hz2
  exact q y hy H2 ((SameB.of (s1.trans (same_new hl2))).trans sB) hB2
theorem re_mulR {a b : Expr} (h : RE X a σ H fun x H1 => ∃ i, x = .int i ∧ RE X b σ H1 fun y H2 => ∃ j, y = .int j ∧ (-(2 ^ 64) < j ∧ j < 2 ^ 64) ∧ Q (.int (i * j)) H2) : RE X (.BinOp a .Mult b pos) σ H Q :=
  re_bin op_mul (re_mono h fun x H1 ⟨i, ei, h1⟩ => re_mono h1 fun y H2 ⟨j, ej, hj, q⟩ => ⟨i, j, ei, ej, .inr hj, q⟩)
end
end Zn

set_option Elab.async false
set_option linter.all false
set_option maxRecDepth 100000
set_option maxHeartbeats 8000000
namespace Zn
open PySem PySem.Spec PyProof.Rows L2 Dl
/-! from ZD -/
theorem int_all {K : PySem.W.Frag} {H : Hp} : ∀ {ns : List Int} {xs : List V}, DqAll K H xs (ns.map PyData.int) → xs = ns.map V.int
  | [], _, h => by cases h; rfl
  | n :: ns, _, h => by
    cases h with
    | cons a b => rw [dp_int a, int_all b]; rfl
theorem inV_int (n : Int) : ∀ ns : List Int, inV (.int n) (ns.map V.int) = ns.any (fun m => m == n)
  | [] => rfl
  | m :: ns => by
    show (eqV (.int m) (.int n) || inV (.int n) (ns.map V.int)) = _
    rw [inV_int n ns]
    rfl
theorem flat_int : ∀ ns : List Int, (ns.map V.int).all flatV = true
  | [] => rfl
  | n :: ns => flat_int ns
/-! from B9 -/
theorem at_any' {α : Type} {vs : List α} {r : Int} (h0 : 0 ≤ r) (h1 : r.toNat < vs.length) : atI vs r = some (vs[r.toNat]) := by
  obtain ⟨n, rfl⟩ : ∃ n : Nat, r = (n : Int) := ⟨r.toNat, by omega⟩
  have h2 : n < vs.length := by omega
  unfold atI
  rw [show ixN vs.length (n : Int) = some n by unfold ixN; simp; omega]
  simp [h2]
section
variable {X : Cx} {M : List Addr} {σ : L2.St} {H : Hp} {a a' b c o : Expr} {pos p1 p2 p3 p4 p5 : Pos} {D : Ends} {rest : List Stmt} {Q : VK}
/-- xs[take(box, len(xs))] -/
theorem re_pick {ds : List PyData} {n k : Nat} {f bx : Addr} {fd : FuncData} (GT : FnOk X.prog X.w X.K X.mg X.base CX0 k f fd ["_law_box_here", "_law_many"] spTake) (FT : Df X.K X.mg "_law_take" sTake ["_law_box_here", "_law_many"] f fd) (hr : Room k X.A) (T : X.mg "len" = none) (hb : bx ∈ M)
    (ha : XD X M σ H a (.list ds)) (ha' : XD X M σ H a' (.list ds)) (ho : XV X σ H o (.ref bx)) (hB : BagAt H bx n) (hne : ds ≠ []) (hl : ds.length ≤ 1000) (q : ∀ d u H1, d ∈ ds → Dq X.K (hid M H1) u d → SameB bx H H1 → BagAt H1 bx (n + 1) → Q u H1) (hn : n ≤ 1000000 := by omega) (hg : Gl X "_law_take" := by rfl) (hg2 : Gl X "len" := by rfl)
    (hs : starEach [o, .Call (.Name "len" p4) [a'] [] p5] X.env = (false, eval o X.env) :: starEach [.Call (.Name "len" p4) [a'] [] p5] X.env := by rfl) (hs2 : starEach [.Call (.Name "len" p4) [a'] [] p5] X.env = (false, eval (.Call (.Name "len" p4) [a'] [] p5) X.env) :: starEach [] X.env := by rfl) (hpl : (backTo p3 (starEach [.Call (.Name "len" p4) [a'] [] p5] X.env)).any (·.1) = false := by rfl)
    (hs3 : starEach [a'] X.env = (false, eval a' X.env) :: starEach [] X.env := by rfl) (hpl3 : (backTo p5 (starEach [] X.env)).any (·.1) = false := by rfl) :
    RE X (.Subscript a (.Call (.Name "_law_take" p2) [o, .Call (.Name "len" p4) [a'] [] p5] [] p3) pos) σ H Q := by
  refine ⟨_, pe_ix ix_list re_ re_ (fun _ _ => rfl), ha.go fun v H1 s1 hv => ?_⟩
  obtain ⟨p, xs, rfl, hp, hx⟩ := dp_lst hv
  have hpb : p ≠ bx := fun e => by
    unfold hid at hp
    rw [if_pos (by rw [e]; exact hb)] at hp
    cases hp
  have hlen : 0 < ds.length := List.length_pos_iff.mpr hne
  refine re_take (many := (ds.length : Int)) (n := n) GT FT hr (ho.up s1) (XD.vint (M := M) (xd_len T (ha'.up s1) hg2 hs3 hpl3)) (hB.up s1 (Nat.le_refl _)) (fun r H2 r0 r1 sB hB2 => ?_) (by omega) (by omega) hn hg hs hs2 hpl
  have hrl : r.toNat < ds.length := by omega
  have hd : atI ds r = some ds[r.toNat] := at_any' r0 hrl
  have hx2 : DqAll X.K (hid M H2) xs ds := hx.up (sB.hid hb)
  obtain ⟨u, hu, hdu⟩ := atI_map (dpa_len hx2) (fun i y h => dpa_get hx2 h) hd
  exact ⟨p, xs, r, u, rfl, rfl, SqL.of (sB p _ hpb (hid_le _ _ hp)), hu, q _ u H2 (List.getElem_mem hrl) hdu ((SameB.of s1).trans sB) hB2⟩
end
/-! from K8K -/
section
variable {X : Cx} {M : List Addr} {σ : L2.St} {H : Hp} {a b c e o : Expr} {d : PyData} {ds : List PyData} {pos apos p1 p2 p3 p4 : Pos} {D : Ends} {rest : List Stmt} {CK : Addr} {Q : VK}
/-- a[::-1] -/
theorem xl_rev {j : _} (L : Live M H) (ha : XD X M σ H a (.list ds)) : XL X M σ H (.Subscript a (.Slice none none (some (.UnaryOp .USub (.Constant (.int 1) j p1) p2)) p3) pos) ds.reverse := fun H1 s Q q =>
  ⟨_, pe_revL re_, ha H1 s _ fun v H2 s2 hv => by
    obtain ⟨p, xs, rfl, hp, hx⟩ := dp_lst hv
    refine ⟨p, xs, rfl, SqL.of (hid_le _ _ hp), fun l hl => q l _ _ (s2.trans (same_new hl)) (s2.free hl) upd_same ?_⟩
    rw [hid_new (L.mono (s.trans s2)) hl]
    have rev : ∀ {vs : List V} {es : List PyData} {K : PySem.W.Frag} {Hx : Hp}, DqAll K Hx vs es → DqAll K Hx vs.reverse es.reverse := fun {vs es K Hx} h => by
      induction vs generalizing es with
      | nil => cases h; exact .nil
      | cons v vs ih =>
        cases h with
        | cons h1 h2 =>
          rw [List.reverse_cons, List.reverse_cons]
          exact dpa_app (ih h2) (.cons h1 .nil)
    exact (rev hx).up (same_new (hid_free hl))⟩
end
/-! from K8A -/
section
variable {P : Program} {w : World} {K : PySem.W.Frag} {mg : Str → Option Value} {base : Heap} {C : Addr}
theorem any_int (ns : List Int) (n : Int) : (ns.any fun m => m == n) = decide (n ∈ ns) := by
  induction ns with
  | nil => simp
  | cons m ns ih =>
    rw [List.any_cons, ih]
    by_cases h : m = n
    · subst h; simp
    · have e : (m == n) = false := by simpa using h
      rw [e, Bool.false_or]
      have h' : n ≠ m := fun z => h z.symm
      by_cases k : n ∈ ns
      · rw [decide_eq_true k, decide_eq_true (List.mem_cons_of_mem _ k)]
      · rw [decide_eq_false k, decide_eq_false (by simp [h', k])]
theorem inI_R {X : Cx} {M : List Addr} {H : Hp} {v w : V} {n : Int} {ns : List Int} (hv : Dq X.K (hid M H) v (.int n)) (hw : Dq X.K (hid M H) w (.list (ns.map PyData.int)) ∨ Dq X.K (hid M H) w (.tuple (ns.map PyData.int))) {Q : VK} (q : Q (.bl (decide (n ∈ ns))) H) : rIn X.K false v w H Q := by
  rw [dp_int hv]
  rcases hw with hw | hw
  · obtain ⟨p, xs, rfl, hp, hx⟩ := dp_lst hw
    have e := int_all hx
    subst e
    exact ⟨p, _, rfl, .inl (SqL.of (hid_le _ _ hp)), rfl, flat_int ns, by rw [inV_int, any_int]; exact q⟩
  · obtain ⟨p, xs, rfl, hp, hx⟩ := dp_tup hw
    have e := int_all hx
    subst e
    exact ⟨p, _, rfl, .inr (same_seqT hid_le hp), rfl, flat_int ns, by rw [inV_int, any_int]; exact q⟩
section
variable {X : Cx} {M : List Addr} {σ : L2.St} {H : Hp} {a b : Expr} {pos : Pos} {n : Int} {ns : List Int} {sq : PyData}
theorem seq_of {K : PySem.W.Frag} {H : Hp} {w : V} (hs : sq = .list (ns.map PyData.int) ∨ sq = .tuple (ns.map PyData.int)) (h : Dq K H w sq) : Dq K H w (.list (ns.map PyData.int)) ∨ Dq K H w (.tuple (ns.map PyData.int)) := by
  rcases hs with rfl | rfl
  · exact .inl h
  · exact .inr h
theorem xt_inS (hs : sq = .list (ns.map PyData.int) ∨ sq = .tuple (ns.map PyData.int)) (ha : XD X M σ H a (.int n)) (hb : XD X M σ H b sq) (hm : behindInMarks .In b = false := by rfl) : XT X σ H (.Compare a [.In] [b] pos) (decide (n ∈ ns)) :=
  xt_cmp op_in_seq ha hb (fun H1 v w s hv hw Q q => inI_R hv (seq_of hs hw) (q H1 (Same.refl _))) hm
theorem xd_inS (hs : sq = .list (ns.map PyData.int) ∨ sq = .tuple (ns.map PyData.int)) (ha : XD X M σ H a (.int n)) (hb : XD X M σ H b sq) (hm : behindInMarks .In b = false := by rfl) : XD X M σ H (.Compare a [.In] [b] pos) (.bool (decide (n ∈ ns))) :=
  xd_cmp op_in_seq ha hb (fun H1 v w s hv hw Q q => inI_R hv (seq_of hs hw) (q _ H1 (Same.refl _) (.bl _))) hm
end
end
/-! from K8F -/
section
variable {X : Cx} {M : List Addr} {σ : L2.St} {H : Hp} {a b e o : Expr} {pos p1 p2 p3 tpos : Pos} {xs : List V} {l : Addr} {D : Ends} {rest : List Stmt} {elt : Expr} {ifs : List Expr} {scope : Scope} {own : List (Str × Nat)} {ds ds2 : List PyData}
/-- o.append(e), whatever happens in e -/
theorem rb_appendE (ho : XV X σ H o (.ref l)) (h1 : H l = some (.lst xs)) (hz : xs.length < 100000) (he : ∀ H1, Same H H1 → RE X e σ H1 fun v H2 => H2 l = some (.lst xs) ∧ RB X rest D σ (upd H2 l (.lst (xs ++ [v]))))
    (hbase : attributeBase o "append" X.env (eval o X.env) = eval o X.env := by rfl)
    (hfew : ((backTo p2 (starEach [e] X.env)).all (fun x => !x.1) && (backToKw p2 (keywordEach [] X.env)).all (fun x => x.1.isSome) && decide ([e].length + ([] : List Keyword).length + (if ([] : List Keyword).isEmpty then 0 else 1) < 30)) = true := by rfl)
    (hline : (p1.endLine == p2.line) = true := by rfl) (hs : starEach [e] X.env = (false, eval e X.env) :: starEach [] X.env := by rfl) (hplain : (backTo p2 (starEach [] X.env)).any (·.1) = false := by rfl)
    (hsw : swapsWith (.Call (.Attribute o "append" p1) [e] [] p2) none pos.line X.env = pure false := by rfl) : RB X (.Expr (.Call (.Attribute o "append" p1) [e] [] p2) pos :: rest) D σ H :=
  rb_exprR ⟨_, pe_bm PySem.F.plainAttrs_list PySem.F.slot_list_append PySem.F.type_list_append mt_append re_ ra_ hbase hfew hline hs hplain,
    ho H (Same.refl H) _ fun H1 s1 => ⟨.inl ⟨rfl, xs, SqL.of (s1 _ _ h1)⟩, ra_1 (re_mono (he H1 s1) fun v H2 ⟨h2, q⟩ => ⟨l, xs, v, rfl, rfl, h2, Nat.lt_of_lt_of_le hz (by decide), q⟩) hs⟩⟩ hsw
end
/-! from P6G -/
section
variable {X : Cx} {M : List Addr} {σ : L2.St} {H : Hp} {a b c e e2 o lo : Expr} {C : Addr} {off off' : Int} {xs : List V} {d : PyData} {pos p1 p2 : Pos} {f : Addr} {fd : FuncData} {D : Ends} {rest : List Stmt} {Q : VK}
theorem rb_ifJ {k : Bool} {t : List Stmt} (J : Hp → Prop) (h : XT X σ H c k) (hT : k = true → ∀ H1, Same H H1 → RB X t { D with nx := fun σ' H' => σ' = σ ∧ J H' } σ H1) (hF : k = false → ∀ H1, Same H H1 → J H1) (hR : ∀ H1, J H1 → RB X rest D σ H1) : RB X (.If c t [] pos :: rest) D σ H :=
  rb_if h (fun e H1 s => rb_mono (hT e H1 s) (fun σ' H' j => by obtain ⟨e1, j⟩ := j; subst e1; exact hR H' j) (fun _ _ h => h) (fun _ _ h => h) (fun _ _ h => h)) fun e H1 s => rb_nil (hR H1 (hF e H1 s))
theorem re_cutLo (h : RE X a σ H fun v H1 => ∃ p, v = .ref p ∧ RE X lo σ H1 fun w H2 => ∃ n : Int, w = .int n ∧ H2 p = some (.lst xs) ∧ ∀ q, H2 q = none → Q (.ref q) (upd H2 q (.lst (cutV xs (some n) none)))) : RE X (.Subscript a (.Slice (some lo) none none p2) pos) σ H Q :=
  ⟨_, pe_slice sl_list re_ (po_some re_) po_none, re_mono h fun v H1 ⟨p, ev, h1⟩ => re_mono h1 fun w H2 ⟨n, ew, hp, q⟩ => ⟨n, ew, p, xs, ev, SqL.of hp, q⟩⟩
theorem re_cutHi {hi : Expr} (h : RE X a σ H fun v H1 => ∃ p, v = .ref p ∧ RE X hi σ H1 fun w H2 => ∃ n : Int, w = .int n ∧ H2 p = some (.lst xs) ∧ ∀ q, H2 q = none → Q (.ref q) (upd H2 q (.lst (cutV xs none (some n))))) : RE X (.Subscript a (.Slice none (some hi) none p2) pos) σ H Q :=
  ⟨_, pe_slice sl_list re_ po_none (po_some re_), re_mono h fun v H1 ⟨p, ev, h1⟩ => re_mono h1 fun w H2 ⟨n, ew, hp, q⟩ => ⟨n, ew, p, xs, ev, SqL.of hp, q⟩⟩
end
/-! from B8 -/
theorem eqv_nilL (ds : List PyData) : PyData.eqv (.list ds) (.list []) = decide (ds = []) := by
  cases ds with
  | nil => simp [PyData.eqv, PyData.eqvAll]
  | cons d ds => simp [PyData.eqv, PyData.eqvAll]
theorem shaped_nil : SeqAt.shaped (.list []) = true := by decide +kernel
/-! from B10 -/
theorem lay_strs : ∀ {ds : List PyData}, (∀ d ∈ ds, ∃ z : Str, d = .str z ∧ PyData.strOk z = true) → PyData.canLayAll0 ds = true ∧ PyData.depthAll ds = 0
  | [], _ => ⟨rfl, rfl⟩
  | d :: ds, h => by
    obtain ⟨z, rfl, hz⟩ := h d (List.mem_cons_self ..)
    obtain ⟨a, b⟩ := lay_strs (ds := ds) fun e he => h e (List.mem_cons_of_mem _ he)
    refine ⟨?_, ?_⟩
    · simp only [PyData.canLayAll0, PyData.canLay0, a, hz, Bool.and_self]
    · simp only [PyData.depthAll, PyData.depth, b]; rfl
theorem shaped_strs {ds : List PyData} (h : ∀ d ∈ ds, ∃ z : Str, d = .str z ∧ PyData.strOk z = true) : SeqAt.shaped (.list ds) = true := by
  obtain ⟨a, b⟩ := lay_strs h
  unfold SeqAt.shaped
  simp only [PyData.canLay0, PyData.depth, a, b]
  decide
theorem eqv_strs (ys : List Str) (h : ∀ d ∈ ys.map PyData.str, ∃ z : Str, d = .str z ∧ PyData.strOk z = true) : PyData.eqv (.list (ys.map PyData.str)) (.list (ys.map PyData.str)) = true := by
  refine SeqAt.eqv_refl _ ?_
  have := (lay_strs h).1
  simpa only [PyData.canLay0] using this
/-! from N11 -/
section
variable {X : Cx} {M : List Addr} {σ : L2.St} {H : Hp} {e a b c : Expr} {rest : List Stmt} {D : Ends} {p1 p2 p3 pos : Pos} {j : Nat}
theorem re_ifT {k : Expr} {Q : VK} (hc : XT X σ H k true) (ha : ∀ H1, Same H H1 → RE X a σ H1 Q) : RE X (.IfExp k a b pos) σ H Q := ⟨_, pe_ifExp rt_ re_ re_, hc H (Same.refl _) _ fun H2 s2 => iteT (ha H2 s2)⟩
theorem re_ifF {k : Expr} {Q : VK} (hc : XT X σ H k false) (hb : ∀ H1, Same H H1 → RE X b σ H1 Q) : RE X (.IfExp k a b pos) σ H Q := ⟨_, pe_ifExp rt_ re_ re_, hc H (Same.refl _) _ fun H2 s2 => iteF (hb H2 s2)⟩
end
/-! from LP -/
section
variable {X : Cx} {M : List Addr} {σ : L2.St} {H : Hp} {a b e : Expr} {pos p1 : Pos} {k : Bool} {Q : Bool → Hp → Prop}
theorem re_ifR {a b c : Expr} {Q : VK} (h : RT X c σ H fun k H1 => if k = true then RE X a σ H1 Q else RE X b σ H1 Q) : RE X (.IfExp c a b pos) σ H Q := ⟨_, pe_ifExp rt_ re_ re_, h⟩
end
end Zn

set_option Elab.async false
set_option linter.all false
set_option maxRecDepth 100000
set_option maxHeartbeats 8000000
namespace Zn
open PySem PySem.Spec PyProof.Rows L2 Dl
/-! k10: the law's lines, what they are for the program -/
def minL : List Str := ["0", "1", "-1", "60", "-60", "1440", "-1440", "30", "90", "1441", "5000", "-3000", "2880", "100000", "-100000"]
def dayL : List Str := ["0", "1", "-1", "2", "7", "-7", "60", "-60"]
def atL : List Str := ["00:00", "02:30", "23:59", "02:00", "12:00"]
inductive LineOf (nm : Str) (ms rs : List Str) : List Str → Str → Prop
  | read (m : Str) : m ∈ ms → LineOf nm ms rs [nm, "=", "read", m] "reading"
  | addm (m t : Str) : m ∈ ms → t ∈ minL → LineOf nm ms rs [nm, "=", "add", m, t] "moment"
  | cmpm (w m m2 : Str) : w ∈ ([("between" : Str), "before"] : List Str) → m ∈ ms → m2 ∈ ms → LineOf nm ms rs [nm, "=", w, m, m2] "number"
  | place (r t : Str) : r ∈ rs → t ∈ rulesL → LineOf nm ms rs [nm, "=", "place", r, t] "moment"
  | days (r t : Str) : r ∈ rs → t ∈ dayL → LineOf nm ms rs [nm, "=", "days", r, t] "reading"
  | att (r t : Str) : r ∈ rs → t ∈ atL → LineOf nm ms rs [nm, "=", "at", r, t] "reading"
  | addr (r t : Str) : r ∈ rs → t ∈ minL → LineOf nm ms rs [nm, "=", "add", r, t] "reading"
  | sing (w r : Str) : w ∈ ([("time" : Str), "day"] : List Str) → r ∈ rs → LineOf nm ms rs [nm, "=", w, r] "number"
  | cmpr (w r r2 : Str) : w ∈ ([("between" : Str), "before"] : List Str) → r ∈ rs → r2 ∈ rs → LineOf nm ms rs [nm, "=", w, r, r2] "number"
/-- the kind that a line's word gives, by the kind that it takes -/
def kindW (wd kd : Str) : Str := (givesL.lookup wd).getD kd
def minOk (t : Str) : Bool := match numV t 6 100000 with
  | some n => decide (n.natAbs ≤ 100000)
  | none => false
def dayOk (t : Str) : Bool := match numV t 2 60 with
  | some n => decide (n.natAbs ≤ 60)
  | none => false
theorem min_ok : ∀ t ∈ minL, minOk t = true := by decide +kernel
theorem day_ok : ∀ t ∈ dayL, dayOk t = true := by decide +kernel
theorem at_ok : ∀ t ∈ atL, (ttV t).isSome = true := by decide +kernel
/-- what the law's line is for the program -/
structure StepOk (ks : List Str) (kf : Str → Str) (l : List Str) (s : Stp) : Prop where
  st : stepV ks kf l = some s
  more : (s.wd = "add" ∨ s.wd = "days") → ∃ n : Int, s.more = .int n ∧ n.natAbs ≤ 1000000
theorem min_step {t : Str} (h : t ∈ minL) : ∃ n : Int, numV t 6 100000 = some n ∧ n.natAbs ≤ 100000 := by
  have := min_ok t h
  unfold minOk at this
  split at this
  · rename_i n e; exact ⟨n, e, of_decide_eq_true this⟩
  · cases this
theorem day_step {t : Str} (h : t ∈ dayL) : ∃ n : Int, numV t 2 60 = some n ∧ n.natAbs ≤ 60 := by
  have := day_ok t h
  unfold dayOk at this
  split at this
  · rename_i n e; exact ⟨n, e, of_decide_eq_true this⟩
  · cases this
theorem kget_of {ks : List Str} {kf : Str → Str} {x k : Str} (h : x ∈ ks ∧ kf x = k) : kget ks kf x = some k := by
  unfold kget
  rw [if_pos h.1, h.2]
section
variable {nm : Str} {ms rs ks : List Str} {kf : Str → Str}
theorem step_single {wd x k : Str} {l : List Str} (hn : nameB nm = true ∧ nm ∉ ks) (hx : x ∈ ks ∧ kf x = k) (h1 : takesL.lookup wd = some l) (h2 : k ∈ l) (h3 : wd ∈ singleL) : stepV ks kf [nm, "=", wd, x] = some ⟨nm, wd, x, .non⟩ := by
  show stepV2 ks kf nm "=" wd x [] = _
  unfold stepV2
  rw [if_pos ⟨by rw [hn.1, decide_eq_false hn.2]; rfl, rfl⟩, h1, kget_of hx]
  show (if decide (k ∈ l) = true then _ else none) = _
  rw [if_pos (decide_eq_true h2), if_pos h3]
  rfl
theorem step_two {wd x k t : Str} {l : List Str} {v : V} (hn : nameB nm = true ∧ nm ∉ ks) (hx : x ∈ ks ∧ kf x = k) (h1 : takesL.lookup wd = some l) (h2 : k ∈ l) (h3 : wd ∉ singleL) (hv : partV ks kf wd k t = v) (hne : v ≠ .non) : stepV ks kf [nm, "=", wd, x, t] = some ⟨nm, wd, x, v⟩ := by
  show stepV2 ks kf nm "=" wd x [t] = _
  unfold stepV2
  rw [if_pos ⟨by rw [hn.1, decide_eq_false hn.2]; rfl, rfl⟩, h1, kget_of hx]
  show (if decide (k ∈ l) = true then _ else none) = _
  rw [if_pos (decide_eq_true h2), if_neg h3]
  unfold stepM
  show (if partV ks kf wd (kf x) t = .non then none else some (⟨nm, wd, x, partV ks kf wd (kf x) t⟩ : Stp)) = _
  rw [hx.2, hv, if_neg hne]
theorem part_min {t k : Str} {n : Int} (h : numV t 6 100000 = some n) : partV ks kf "add" k t = .int n := by
  unfold partV
  rw [if_neg (by decide +kernel), if_pos rfl, h]
  rfl
theorem part_day {t k : Str} {n : Int} (h : numV t 2 60 = some n) : partV ks kf "days" k t = .int n := by
  unfold partV
  rw [if_neg (by decide +kernel), if_neg (by decide +kernel), if_pos rfl, h]
  rfl
theorem part_at {t k : Str} {n : Int} (h : ttV t = some n) : partV ks kf "at" k t = .int n := by
  unfold partV
  rw [if_neg (by decide +kernel), if_neg (by decide +kernel), if_neg (by decide +kernel), if_pos rfl, h]
  rfl
theorem part_place {t k : Str} (h : t ∈ rulesL) : partV ks kf "place" k t = .str t := by
  unfold partV
  rw [if_pos rfl, if_pos (show ruleB t = true from decide_eq_true h)]
theorem part_cmp {w t k : Str} (hw : w ∈ ([("between" : Str), "before"] : List Str)) (h : t ∈ ks ∧ kf t = k) : partV ks kf w k t = .str t := by
  have key : w ≠ "place" ∧ w ≠ "add" ∧ w ≠ "days" ∧ w ≠ "at" := by
    rcases List.mem_cons.mp hw with rfl | hw
    · decide +kernel
    · rw [List.mem_singleton.mp hw]; decide +kernel
  unfold partV
  rw [if_neg key.1, if_neg key.2.1, if_neg key.2.2.1, if_neg key.2.2.2, kget_of h, if_pos rfl]
/-- the law's line is a line of the program, and gives the kind that the law says -/
theorem line_step {l : List Str} {kd : Str} (h : LineOf nm ms rs l kd) (hn : nameB nm = true ∧ nm ∉ ks) (hm : ∀ m ∈ ms, m ∈ ks ∧ kf m = "moment") (hr : ∀ r ∈ rs, r ∈ ks ∧ kf r = "reading") :
    ∃ (wd x : Str) (rest : List Str) (v : V), l = nm :: "=" :: wd :: x :: rest ∧ StepOk ks kf l ⟨nm, wd, x, v⟩ ∧ x ∈ ks ∧ (kd = "number" ∧ kindW wd (kf x) ∈ ansL ∨ kd ≠ "number" ∧ kindW wd (kf x) = kd) := by
  have ne1 : ("read" : Str) ≠ "add" ∧ ("read" : Str) ≠ "days" := by decide +kernel
  cases h with
  | read m h1 =>
    refine ⟨"read", m, [], .non, rfl, ⟨step_single hn (hm m h1) (l := ["moment"]) (by decide +kernel) (by decide +kernel) (by decide +kernel), fun z => ?_⟩, (hm m h1).1, .inr ⟨by decide +kernel, by rw [(hm m h1).2]; decide +kernel⟩⟩
    exact (z.elim ne1.1 ne1.2).elim
  | addm m t h1 h2 =>
    obtain ⟨n, e, hz⟩ := min_step h2
    exact ⟨"add", m, [t], .int n, rfl, ⟨step_two hn (hm m h1) (l := ["moment", "reading"]) (by decide +kernel) (by decide +kernel) (by decide +kernel) (part_min e) (fun z => V.noConfusion z), fun _ => ⟨n, rfl, by omega⟩⟩, (hm m h1).1, .inr ⟨by decide +kernel, by rw [(hm m h1).2]; decide +kernel⟩⟩
  | cmpm w m m2 hw h1 h2 =>
    have facts : ∀ w ∈ ([("between" : Str), "before"] : List Str), takesL.lookup w = some ([("moment" : Str), "reading"] : List Str) ∧ w ∉ singleL ∧ kindW w "moment" ∈ ansL ∧ w ≠ "add" ∧ w ≠ "days" := by decide +kernel
    obtain ⟨f1, f2, f3, f4, f5⟩ := facts w hw
    exact ⟨w, m, [m2], .str m2, rfl, ⟨step_two hn (hm m h1) f1 (by decide +kernel) f2 (part_cmp hw (hm m2 h2)) (fun z => V.noConfusion z), fun z => (z.elim f4 f5).elim⟩, (hm m h1).1, .inl ⟨rfl, by rw [(hm m h1).2]; exact f3⟩⟩
  | place r t h1 h2 =>
    exact ⟨"place", r, [t], .str t, rfl, ⟨step_two hn (hr r h1) (l := ["reading"]) (by decide +kernel) (by decide +kernel) (by decide +kernel) (part_place h2) (fun z => V.noConfusion z), fun z => by revert z; show (("place" : Str) = "add" ∨ ("place" : Str) = "days") → _; intro z; exact absurd z (by decide +kernel)⟩, (hr r h1).1, .inr ⟨by decide +kernel, by rw [(hr r h1).2]; decide +kernel⟩⟩
  | days r t h1 h2 =>
    obtain ⟨n, e, hz⟩ := day_step h2
    exact ⟨"days", r, [t], .int n, rfl, ⟨step_two hn (hr r h1) (l := ["reading"]) (by decide +kernel) (by decide +kernel) (by decide +kernel) (part_day e) (fun z => V.noConfusion z), fun _ => ⟨n, rfl, by omega⟩⟩, (hr r h1).1, .inr ⟨by decide +kernel, by rw [(hr r h1).2]; decide +kernel⟩⟩
  | att r t h1 h2 =>
    obtain ⟨n, e⟩ := Option.isSome_iff_exists.mp (at_ok t h2)
    exact ⟨"at", r, [t], .int n, rfl, ⟨step_two hn (hr r h1) (l := ["reading"]) (by decide +kernel) (by decide +kernel) (by decide +kernel) (part_at e) (fun z => V.noConfusion z), fun z => absurd (show (("at" : Str) = "add" ∨ ("at" : Str) = "days") from z) (by decide +kernel)⟩, (hr r h1).1, .inr ⟨by decide +kernel, by rw [(hr r h1).2]; decide +kernel⟩⟩
  | addr r t h1 h2 =>
    obtain ⟨n, e, hz⟩ := min_step h2
    exact ⟨"add", r, [t], .int n, rfl, ⟨step_two hn (hr r h1) (l := ["moment", "reading"]) (by decide +kernel) (by decide +kernel) (by decide +kernel) (part_min e) (fun z => V.noConfusion z), fun _ => ⟨n, rfl, by omega⟩⟩, (hr r h1).1, .inr ⟨by decide +kernel, by rw [(hr r h1).2]; decide +kernel⟩⟩
  | sing w r hw h1 =>
    have facts : ∀ w ∈ ([("time" : Str), "day"] : List Str), takesL.lookup w = some ([("reading" : Str)] : List Str) ∧ w ∈ singleL ∧ kindW w "reading" ∈ ansL ∧ w ≠ "add" ∧ w ≠ "days" := by decide +kernel
    obtain ⟨f1, f2, f3, f4, f5⟩ := facts w hw
    exact ⟨w, r, [], .non, rfl, ⟨step_single hn (hr r h1) f1 (by decide +kernel) f2, fun z => (z.elim f4 f5).elim⟩, (hr r h1).1, .inl ⟨rfl, by rw [(hr r h1).2]; exact f3⟩⟩
  | cmpr w r r2 hw h1 h2 =>
    have facts : ∀ w ∈ ([("between" : Str), "before"] : List Str), takesL.lookup w = some ([("moment" : Str), "reading"] : List Str) ∧ w ∉ singleL ∧ kindW w "reading" ∈ ansL ∧ w ≠ "add" ∧ w ≠ "days" := by decide +kernel
    obtain ⟨f1, f2, f3, f4, f5⟩ := facts w hw
    exact ⟨w, r, [r2], .str r2, rfl, ⟨step_two hn (hr r h1) f1 (by decide +kernel) f2 (part_cmp hw (hr r2 h2)) (fun z => V.noConfusion z), fun z => (z.elim f4 f5).elim⟩, (hr r h1).1, .inl ⟨rfl, by rw [(hr r h1).2]; exact f3⟩⟩
end
end Zn

set_option Elab.async false
set_option linter.all false
set_option maxRecDepth 100000
set_option maxHeartbeats 8000000
namespace Zn
open PySem PySem.Spec PyProof.Rows L2 Dl
/-! k10: _law_line -/
abbrev sLLine : Stmt := top 41
/-- a word that the law makes: short, of signs that are no blank -/
def gwB (x : Str) : Bool := PyData.strOk x && (decide (x.length ≤ 9) && x.cps.toList.all fun c => !decide (c = 32) && !decide (c = 10))
theorem gw_strs {xs : List Str} (h : ∀ x ∈ xs, gwB x = true) : SeqAt.shaped (.list (xs.map PyData.str)) = true := shaped_strs fun d hd => by
  obtain ⟨x, hx, rfl⟩ := List.mem_map.mp hd
  have := h x hx
  unfold gwB at this
  rw [Bool.and_eq_true] at this
  exact ⟨x, rfl, this.1⟩
section
variable {X : Cx} {M : List Addr} {σ : L2.St} {H : Hp} {a b c e o : Expr} {es : List Expr} {pos p1 p2 p3 : Pos} {Q : VK} {ds : List PyData} {bx : Addr} {ws : List Str} {kd : Str}
/-- a[e], e draws -/
theorem re_ixD (hb : bx ∈ M) (hs : PlainIx e) (ha : XD X M σ H a (.list ds)) (h : ∀ H1, Same H H1 → RE X e σ H1 fun y H2 => SameB bx H1 H2 ∧ ∃ r : Int, y = .int r ∧ 0 ≤ r ∧ r.toNat < ds.length ∧ ∀ d u, ds[r.toNat]? = some d → Dq X.K (hid M H2) u d → Q u H2) : RE X (.Subscript a e pos) σ H Q :=
  ⟨_, pe_ix ix_list re_ re_ hs, ha.go fun v H1 s1 hv => re_mono (h H1 s1) fun y H2 ⟨sB, r, ey, r0, r1, q⟩ => by
    obtain ⟨p, xs, rfl, hp, hx⟩ := dp_lst (hv.up (sB.hid hb))
    obtain ⟨u, hu, hd⟩ := dpa_get hx (List.getElem?_eq_getElem r1)
    refine ⟨p, xs, r, u, rfl, ey, SqL.of (hid_le _ _ hp), ?_, q _ u (List.getElem?_eq_getElem r1) hd⟩
    obtain ⟨n, rfl⟩ : ∃ n : Nat, r = (n : Int) := ⟨r.toNat, by omega⟩
    exact atI_nat hu⟩
theorem dqa_strs {K : PySem.W.Frag} {H : Hp} : ∀ ws : List Str, DqAll K H (ws.map V.str) (ws.map PyData.str)
  | [] => .nil
  | w :: ws => .cons (.str w) (dqa_strs ws)
/-- [..], kd: words and a kind -/
theorem re_lineT {x1} (h : RA X es σ H fun vs H1 => ∃ ws : List Str, vs = ws.map V.str ∧ ws.length ≤ 1000 ∧ ∀ p t H2, Same H1 H2 → H1 p = none → H2 p = some (.lst (ws.map V.str)) → H1 t = none → H2 t = some (.tup [.ref p, .str kd]) → Q (.ref t) H2) {j} : RE X (.Tuple [.List es p1, .Constant (.str kd) j p2] x1 pos) σ H Q :=
  ⟨_, pe_tup ra_, ra_cons ⟨_, pe_lst ra_, ra_mono h fun vs H1 ⟨ws, e, hz, q⟩ => by
    subst e
    refine ⟨by rw [List.length_map]; exact Nat.le_trans hz (by decide), fun l hl => ra_1 (XV.go xv_str fun H2 s2 => ⟨by show 2 ≤ _; decide, fun t ht => ?_⟩)⟩
    have s1 : Same H1 (upd H1 l (.lst (ws.map V.str))) := same_new hl
    have e1 := s2 _ _ (show upd H1 l (.lst (ws.map V.str)) l = some (.lst (ws.map V.str)) from upd_same)
    have htl : l ≠ t := fun z => by rw [z, ht] at e1; cases e1
    exact q l t _ ((s1.trans s2).trans (same_new ht)) hl (by rw [upd_ne htl]; exact e1) ((s1.trans s2).free ht) upd_same⟩⟩
theorem re_lineC {x1} (h : XL X M σ H e (ws.map PyData.str)) (q : ∀ p t H2, Same H H2 → H p = none → H2 p = some (.lst (ws.map V.str)) → H t = none → H2 t = some (.tup [.ref p, .str kd]) → Q (.ref t) H2) {j} (hs : starEach [e, .Constant (.str kd) j p2] X.env = (false, eval e X.env) :: starEach [.Constant (.str kd) j p2] X.env := by rfl) : RE X (.Tuple [e, .Constant (.str kd) j p2] x1 pos) σ H Q :=
  ⟨_, pe_tup ra_, ra_cons (XL.go h fun l xs H1 s1 hl hl1 hx => ra_1 (XV.go xv_str fun H2 s2 => ⟨by show 2 ≤ _; decide, fun t ht => by
    have ex := strs_va hx
    subst ex
    have e1 := s2 _ _ hl1
    have htl : l ≠ t := fun z => by rw [z, ht] at e1; cases e1
    exact q l t _ ((s1.trans s2).trans (same_new ht)) hl (by rw [upd_ne htl]; exact e1) ((s1.trans s2).free ht) upd_same⟩)) hs⟩
theorem sameB_free {b x : Addr} {H0 H : Hp} (s : SameB b H0 H) (hb : H b ≠ none) (hx : H x = none) : H0 x = none := by
  cases e : H0 x with
  | none => rfl
  | some o =>
    have nb : x ≠ b := fun z => hb (by rw [← z]; exact hx)
    rw [s x o nb e] at hx
    cases hx
end
abbrev llN : List Str := ["_law_box_here", "_law_name", "_law_moments", "_law_readings", "_law_moment", "_law_reading", "_law_minutes", "_law_way", "_law_word"]
abbrev llP : List Str := ["_law_box_here", "_law_name", "_law_moments", "_law_readings"]
def spLLine (K : PySem.W.Frag) : Sp := fun vs H Q _ => ∃ (M : List Addr) (b : Addr) (n : Nat) (nm : Str) (vm vr : V) (ms rs : List Str), vs = [.ref b, .str nm, vm, vr] ∧ b ∈ M ∧ Live M H ∧ n ≤ 500000 ∧ BagAt H b n ∧ Dq K (hid M H) vm (.list (ms.map PyData.str)) ∧ Dq K (hid M H) vr (.list (rs.map PyData.str)) ∧ ms ≠ [] ∧ rs ≠ [] ∧ ms.length ≤ 100 ∧ rs.length ≤ 100 ∧ (∀ r ∈ rs, gwB r = true) ∧
  ∀ l kd p t H1, LineOf nm ms rs l kd → SameB b H H1 → BagAt H1 b (n + 8) → H p = none → H1 p = some (.lst (l.map V.str)) → H t = none → H1 t = some (.tup [.ref p, .str kd]) → Q (.ref t) H1
section
variable {P : Program} {w : World} {K : PySem.W.Frag} {mg : Str → Option Value} {base : Heap}
theorem scLLine : FnScope llN llP (defScope sLLine) := ⟨rfl, rfl, rfl, by decide +kernel, rfl, by decide +kernel, by decide +kernel⟩
theorem ok_lline {f fT : Addr} {fd fdT : FuncData} (T : Nm mg) (GT : FnOk P w K mg base CX0 1 fT fdT ["_law_box_here", "_law_many"] spTake) (FT : Df K mg "_law_take" sTake ["_law_box_here", "_law_many"] fT fdT) (F : Df K mg "_law_line" sLLine llP f fd) : FnOk P w K mg base CX0 2 f fd llP (spLLine K) := by
  refine F.F.ok scLLine (fun vs H Q E h => ?_) (fun cdv A outer s H vs Q E hr h => ?_)
  · obtain ⟨M, b, n, nm, vm, vr, ms, rs, rfl, _⟩ := h; rfl
  · obtain ⟨M, b, n, nm, vm, vr, ms, rs, rfl, hb, L, hn, hB, hm, hrd, mne, rne, ml, rl, hgr, q⟩ := h
    have mlen : (ms.map PyData.str).length = ms.length := List.length_map ..
    have rlen : (rs.map PyData.str).length = rs.length := List.length_map ..
    have mne' : ms.map PyData.str ≠ [] := fun z => mne (List.map_eq_nil_iff.mp z)
    have rne' : rs.map PyData.str ≠ [] := fun z => rne (List.map_eq_nil_iff.mp z)
    have rpos : 0 < rs.length := List.length_pos_iff.mpr rne
    -- _law_moment
    refine rb_setR 4 (re_pick (M := M) (ds := ms.map PyData.str) GT FT hr T.len hb (xd_name 2 rfl hm) (xd_name 2 rfl hm) (xv_name 0 rfl) hB mne' (by omega) fun d1 u1 H1 hd1 hu1 sB1 hB1 => ?_) scLLine.nd
    obtain ⟨m, hmm, rfl⟩ := List.mem_map.mp hd1
    have e1 := dp_str hu1
    subst e1
    have L1 : Live M H1 := sB1.live L hB1.some
    have hm1 := hm.up (sB1.hid hb)
    have hr1 := hrd.up (sB1.hid hb)
    -- _law_reading
    have ecat : (rs.map PyData.str ++ [PyData.str "now"]).length = rs.length + 1 := by rw [List.length_append, rlen]; rfl
    refine rb_setR 5 (re_ixD (M := M) (ds := rs.map PyData.str ++ [PyData.str "now"]) hb (fun _ _ => rfl) (XL.dd (xl_cat L1 (xd_name 3 rfl hr1) (xd_lst L1 (xa_cons xd_str xa_nil)) (by show (rs.map PyData.str).length + 1 ≤ 100000; omega)) L1) fun H2 s2 => re_take GT FT hr (xv_name 0 rfl) (XD.vint (M := M) ((xd_max (m := 1) (n := (rs.length : Int)) T.max (xa_cons xd_int (xa_cons ((xd_len T.len (xd_name 3 rfl (hr1.up (hid_mono s2)))).to (by rw [rlen])) xa_nil))).to (show PyData.int _ = .int rs.length by
      have : (if (rs.length : Int) > 1 then (rs.length : Int) else 1) = rs.length := by split <;> omega
      rw [this]))) (hB1.up s2 (Nat.le_refl _)) (fun r H3 r0 r1 sB3 hB3 => ⟨sB3, r, rfl, r0, by omega, fun d u hd hu => ?_⟩) (by omega) (by omega)) scLLine.nd
    obtain ⟨rd, hrr, rfl⟩ : ∃ x, x ∈ rs ∧ d = .str x := by
      rw [List.getElem?_append_left (by omega)] at hd
      obtain ⟨x, hx, rfl⟩ := List.mem_map.mp (List.mem_of_getElem? hd)
      exact ⟨x, hx, rfl⟩
    have e2 := dp_str hu
    subst e2
    have sB13 := (sB1.trans (.of s2)).trans sB3
    have L3 : Live M H3 := sB13.live L hB3.some
    -- _law_minutes_here
    refine rb_setL 6 (M := M) (xl_lst L3 (xa_cons xd_str (xa_cons xd_str (xa_cons xd_str (xa_cons xd_str (xa_cons xd_str (xa_cons xd_str (xa_cons xd_str (xa_cons xd_str (xa_cons xd_str (xa_cons xd_str (xa_cons xd_str (xa_cons xd_str (xa_cons xd_str xa_nil)))))))))))))) (fun g xs H4 s4 hg hg4 hx => ?_) scLLine.nd
    have L4 := L3.mono s4
    have hmin : Dq K (hid M H4) (.ref g) (.list ((minL.take 13).map PyData.str)) := .lst (by rw [hid_of (fun z => L3 g z hg)]; exact hg4) hx
    have hB4 := hB3.up s4 (Nat.le_refl _)
    refine rb_setR 6 (re_ixD (M := M) (ds := minL.map PyData.str) hb (fun _ _ => rfl) ((XL.dd (xl_cat L4 (xd_name 6 rfl hmin) (xd_lst L4 (xa_cons xd_str (xa_cons xd_str xa_nil))) (by decide)) L4).to rfl) fun H5 s5 => re_take GT FT hr (xv_name 0 rfl) xv_int (hB4.up s5 (Nat.le_refl _)) (fun r5 H6 r50 r51 sB6 hB6 => ⟨sB6, r5, rfl, r50, by show r5.toNat < 15; omega, fun d u hd hu => ?_⟩)) scLLine.nd
    obtain ⟨t, htt, rfl⟩ : ∃ x, x ∈ minL ∧ d = .str x := by
      obtain ⟨x, hx, rfl⟩ := List.mem_map.mp (List.mem_of_getElem? hd)
      exact ⟨x, hx, rfl⟩
    have e3 := dp_str hu
    subst e3
    have sB16 := ((sB13.trans (.of s4)).trans (.of s5)).trans sB6
    have L6 : Live M H6 := sB16.live L hB6.some
    have hm6 := hm.up (sB16.hid hb)
    have hr6 := hrd.up (sB16.hid hb)
    -- _law_way
    refine rb_setR 7 (re_ifT ((xt_neD (M := M) hr.units (xd_name 3 rfl hr6) (xd_lst L6 xa_nil) (gw_strs hgr) shaped_nil).to (by rw [eqv_nilL, decide_eq_false rne']; rfl)) fun H7 s7 => re_take GT FT hr (xv_name 0 rfl) xv_int (hB6.up s7 (Nat.le_refl _)) fun r7 H8 r70 r71 sB8 hB8 => ?_) scLLine.nd
    have sB18 := (sB16.trans (.of s7)).trans sB8
    have L8 : Live M H8 := sB18.live L hB8.some
    have hm8 := hm.up (sB18.hid hb)
    have hr8 := hrd.up (sB18.hid hb)
    have fin : ∀ l kd p t Hc Hz, LineOf nm ms rs l kd → SameB b H8 Hc → Same Hc Hz → BagAt Hc b (n + 8) → Hc p = none → Hz p = some (.lst (l.map V.str)) → Hc t = none → Hz t = some (.tup [.ref p, .str kd]) → Q (.ref t) Hz := fun l kd p t Hc Hz h1 h2 h3 h4 h5 h6 h7 h8 =>
      have sc := sB18.trans h2
      q l kd p t Hz h1 (sc.trans (.of h3)) (h4.up h3 (Nat.le_refl _)) (sameB_free sc h4.some h5) h6 (sameB_free sc h4.some h7) h8
    -- way 0
    refine rb_if (k := decide (r7 = 0)) (xt_eqI (M := M) (xv_name 7 rfl).int xd_int) (fun e Ha sa => ?_) (fun _ Ha sa => rb_nil ?_)
    · exact rb_retR (re_lineT (XA.go (M := M) (xa_cons (xv_name 1 rfl |>.dd (.str nm)) (xa_cons xd_str (xa_cons xd_str (xa_cons (xv_name 4 rfl |>.dd (.str m)) xa_nil)))) fun vs Hb sb hv => ⟨[nm, "=", "read", m], strs_va hv, (by show 4 ≤ 1000; decide), fun p9 t9 Hz sz h1 h2 h3 h4 => fin _ _ p9 t9 _ Hz (.read m hmm) (.of (sa.trans sb)) sz (hB8.up (sa.trans sb) (by omega)) h1 h2 h3 h4⟩))
    -- way 1
    refine rb_if (k := decide (r7 = 1)) (xt_eqI (M := M) (xv_name 7 rfl).int xd_int) (fun e Hb sb => ?_) (fun _ Hb sb => rb_nil ?_)
    · have s0 := sa.trans sb
      exact rb_retR (re_lineT (XA.go (M := M) (xa_cons (xv_name 1 rfl |>.dd (.str nm)) (xa_cons xd_str (xa_cons xd_str (xa_cons (xv_name 4 rfl |>.dd (.str m)) (xa_cons (xv_name 6 rfl |>.dd (.str t)) xa_nil))))) fun vs Hc sc hv => ⟨[nm, "=", "add", m, t], strs_va hv, (by show 5 ≤ 1000; decide), fun p9 t9 Hz sz h1 h2 h3 h4 => fin _ _ p9 t9 _ Hz (.addm m t hmm htt) (.of (s0.trans sc)) sz (hB8.up (s0.trans sc) (by omega)) h1 h2 h3 h4⟩))
    have sab := sa.trans sb
    -- ways 2, 3
    refine rb_if (k := decide (r7 ∈ ([2, 3] : List Int))) (xt_inS (M := M) (.inl rfl) (xv_name 7 rfl).int (xd_lst (ds := ([2, 3] : List Int).map PyData.int) (L8.mono sab) (xa_cons xd_int (xa_cons xd_int xa_nil)))) (fun e Hc sc => ?_) (fun _ Hc sc => rb_nil ?_)
    · have s0 := sab.trans sc
      have L0 := L8.mono s0
      obtain ⟨wd, hwd, hat⟩ : ∃ wd ∈ ([("between" : Str), "before"] : List Str), atI [PyData.str "between", PyData.str "before"] (r7 - 2) = some (.str wd) := by
        have := of_decide_eq_true e
        rcases List.mem_cons.mp this with rfl | this
        · exact ⟨"between", by simp, rfl⟩
        · rw [List.mem_singleton.mp this]
          exact ⟨"before", by simp, rfl⟩
      refine rb_setR 8 ⟨_, pe_lst ra_, ra_cons (XD.go (M := M) (xd_ixL (fun _ _ => rfl) (xd_lst L0 (xa_cons xd_str (xa_cons xd_str xa_nil))) (xd_sub (xv_name 7 rfl).int xd_int) hat) fun v1 Hd sd hv1 => ra_cons (XV.go (xv_name 4 rfl) fun He se => ra_1 (re_pick (M := M) (ds := ms.map PyData.str) (n := n + 1 + 1 + 1 + 1) GT FT hr T.len hb (xd_name 2 rfl (hm8.up (hid_mono ((s0.trans sd).trans se)))) (xd_name 2 rfl (hm8.up (hid_mono ((s0.trans sd).trans se)))) (xv_name 0 rfl) (hB8.up ((s0.trans sd).trans se) (Nat.le_refl _)) mne' (by omega) fun d9 u9 Hf hd9 hu9 sB9 hB9 => ?_)))⟩ scLLine.nd
      obtain ⟨m2, hmm2, rfl⟩ := List.mem_map.mp hd9
      have e9 := dp_str hu9
      have e1 := dp_str hv1
      subst e9 e1
      refine ⟨by show 3 ≤ _; decide, fun l hl => ?_⟩
      have sB0 : SameB b H8 Hf := (SameB.of ((s0.trans sd).trans se)).trans sB9
      have Lf := sB0.live L8 hB9.some
      have hlb : l ∉ M := fun z => Lf l z hl
      have sl : Same Hf (upd Hf l (.lst [.str wd, .str m, .str m2])) := same_new hl
      have hw8 : Dq K (hid M (upd Hf l (.lst [.str wd, .str m, .str m2]))) (.ref l) (.list ([wd, m, m2].map PyData.str)) := .lst (xs := [.str wd, .str m, .str m2]) (by rw [hid_of hlb]; exact upd_same) (dqa_strs [wd, m, m2])
      have Lg := Lf.mono sl
      exact rb_retR (re_lineC (M := M) (ws := [nm, "=", wd, m, m2]) (xl_cat Lg (xd_lst Lg (xa_cons (xv_name 1 rfl |>.dd (.str nm)) (xa_cons xd_str xa_nil))) (xd_name 8 rfl hw8) (by show 2 + 3 ≤ 100000; decide)) fun p9 t9 Hz sz h1 h2 h3 h4 => fin _ _ p9 t9 _ Hz (.cmpm wd m m2 hwd hmm hmm2) (sB0.trans (.of sl)) sz (hB9.up sl (by omega)) h1 h2 h3 h4)
    have sac := sab.trans sc
    -- ways 4, 5
    refine rb_if (k := decide (r7 ∈ ([4, 5] : List Int))) (xt_inS (M := M) (.inl rfl) (xv_name 7 rfl).int (xd_lst (ds := ([4, 5] : List Int).map PyData.int) (L8.mono sac) (xa_cons xd_int (xa_cons xd_int xa_nil)))) (fun e Hd sd => ?_) (fun _ Hd sd => rb_nil ?_)
    · have s0 := sac.trans sd
      exact rb_retR (re_lineT (ra_cons (XV.go (xv_name 1 rfl) fun He se => ra_cons (XV.go xv_str fun Hf sf => ra_cons (XV.go xv_str fun Hg sg => ra_cons (XV.go (xv_name 5 rfl) fun Hh sh => ra_1 (re_menuS GT FT hr (ss := rulesL) (xa_cons xd_str (xa_cons xd_str (xa_cons xd_str xa_nil))) (xv_name 0 rfl) (hB8.up ((((s0.trans se).trans sf).trans sg).trans sh) (Nat.le_refl _)) fun y hy Hi sBi hBi => ⟨[nm, "=", "place", rd, y], rfl, (by show 5 ≤ 1000; decide), fun p9 t9 Hz sz h1 h2 h3 h4 => fin _ _ p9 t9 _ Hz (.place rd y hrr hy) ((SameB.of ((((s0.trans se).trans sf).trans sg).trans sh)).trans sBi) sz (hBi.up (Same.refl _) (by omega)) h1 h2 h3 h4⟩)))))))
    have sad := sac.trans sd
    -- way 6
    refine rb_if (k := decide (r7 = 6)) (xt_eqI (M := M) (xv_name 7 rfl).int xd_int) (fun e He se => ?_) (fun _ He se => rb_nil ?_)
    · have s0 := sad.trans se
      exact rb_retR (re_lineT (ra_cons (XV.go (xv_name 1 rfl) fun He se => ra_cons (XV.go xv_str fun Hf sf => ra_cons (XV.go xv_str fun Hg sg => ra_cons (XV.go (xv_name 5 rfl) fun Hh sh => ra_1 (re_menuS GT FT hr (ss := dayL) (xa_cons xd_str (xa_cons xd_str (xa_cons xd_str (xa_cons xd_str (xa_cons xd_str (xa_cons xd_str (xa_cons xd_str (xa_cons xd_str xa_nil)))))))) (xv_name 0 rfl) (hB8.up ((((s0.trans se).trans sf).trans sg).trans sh) (Nat.le_refl _)) fun y hy Hi sBi hBi => ⟨[nm, "=", "days", rd, y], rfl, (by show 5 ≤ 1000; decide), fun p9 t9 Hz sz h1 h2 h3 h4 => fin _ _ p9 t9 _ Hz (.days rd y hrr hy) ((SameB.of ((((s0.trans se).trans sf).trans sg).trans sh)).trans sBi) sz (hBi.up (Same.refl _) (by omega)) h1 h2 h3 h4⟩)))))))
    have sae := sad.trans se
    -- way 7
    refine rb_if (k := decide (r7 = 7)) (xt_eqI (M := M) (xv_name 7 rfl).int xd_int) (fun e Hf sf => ?_) (fun _ Hf sf => rb_nil ?_)
    · have s0 := sae.trans sf
      refine rb_setR 8 (re_menuS GT FT hr (ss := atL) (xa_cons xd_str (xa_cons xd_str (xa_cons xd_str (xa_cons xd_str (xa_cons xd_str xa_nil))))) (xv_name 0 rfl) (hB8.up s0 (Nat.le_refl _)) fun y hy Hi sBi hBi => ?_) scLLine.nd
      have sB0 := (SameB.of s0).trans sBi
      have Li := sB0.live L8 hBi.some
      exact rb_retR (re_lineT (XA.go (M := M) (xa_cons (xv_name 1 rfl |>.dd (.str nm)) (xa_cons xd_str (xa_cons xd_str (xa_cons (xv_name 5 rfl |>.dd (.str rd)) (xa_cons (xv_name 8 rfl |>.dd (.str y)) xa_nil))))) fun vs Hc sc hv => ⟨[nm, "=", "at", rd, y], strs_va hv, (by show 5 ≤ 1000; decide), fun p9 t9 Hz sz h1 h2 h3 h4 => fin _ _ p9 t9 _ Hz (.att rd y hrr hy) (sB0.trans (.of sc)) sz (hBi.up sc (by omega)) h1 h2 h3 h4⟩))
    have saf := sae.trans sf
    -- way 8
    refine rb_if (k := decide (r7 = 8)) (xt_eqI (M := M) (xv_name 7 rfl).int xd_int) (fun e Hg sg => ?_) (fun _ Hg sg => rb_nil ?_)
    · have s0 := saf.trans sg
      exact rb_retR (re_lineT (XA.go (M := M) (xa_cons (xv_name 1 rfl |>.dd (.str nm)) (xa_cons xd_str (xa_cons xd_str (xa_cons (xv_name 5 rfl |>.dd (.str rd)) (xa_cons (xv_name 6 rfl |>.dd (.str t)) xa_nil))))) fun vs Hc sc hv => ⟨[nm, "=", "add", rd, t], strs_va hv, (by show 5 ≤ 1000; decide), fun p9 t9 Hz sz h1 h2 h3 h4 => fin _ _ p9 t9 _ Hz (.addr rd t hrr htt) (.of (s0.trans sc)) sz (hB8.up (s0.trans sc) (by omega)) h1 h2 h3 h4⟩))
    have sag := saf.trans sg
    -- way 9
    refine rb_if (k := decide (r7 = 9)) (xt_eqI (M := M) (xv_name 7 rfl).int xd_int) (fun e Hh sh => ?_) (fun _ Hh sh => rb_nil ?_)
    · have s0 := sag.trans sh
      exact rb_retR (re_lineT (ra_cons (XV.go (xv_name 1 rfl) fun He se => ra_cons (XV.go xv_str fun Hf sf => ra_cons (re_menuS GT FT hr (ss := [("time" : Str), "day"]) (xa_cons xd_str (xa_cons xd_str xa_nil)) (xv_name 0 rfl) (hB8.up ((s0.trans se).trans sf) (Nat.le_refl _)) fun y hy Hi sBi hBi => ra_1 (XV.go (xv_name 5 rfl) fun Hj sj => ⟨[nm, "=", y, rd], rfl, (by show 4 ≤ 1000; decide), fun p9 t9 Hz sz h1 h2 h3 h4 => fin _ _ p9 t9 _ Hz (.sing y rd hy hrr) (((SameB.of ((s0.trans se).trans sf)).trans sBi).trans (.of sj)) sz (hBi.up sj (by omega)) h1 h2 h3 h4⟩))))))
    have sah := sag.trans sh
    -- way 10
    refine rb_setR 8 ⟨_, pe_lst ra_, ra_cons (re_menuS GT FT hr (ss := [("between" : Str), "before"]) (xa_cons xd_str (xa_cons xd_str xa_nil)) (xv_name 0 rfl) (hB8.up sah (Nat.le_refl _)) fun wd hwd Hd sBd hBd => ra_cons (XV.go (xv_name 5 rfl) fun He se => ra_1 (re_pick (M := M) (ds := rs.map PyData.str) (n := n + 1 + 1 + 1 + 1 + 1) GT FT hr T.len hb (xd_name 3 rfl (hr8.up (((SameB.of sah).trans sBd).hid hb |>.trans (hid_mono se)))) (xd_name 3 rfl (hr8.up (((SameB.of sah).trans sBd).hid hb |>.trans (hid_mono se)))) (xv_name 0 rfl) (hBd.up se (Nat.le_refl _)) rne' (by omega) fun d9 u9 Hf hd9 hu9 sB9 hB9 => ?_)))⟩ scLLine.nd
    obtain ⟨m2, hmm2, rfl⟩ := List.mem_map.mp hd9
    have e9 := dp_str hu9
    subst e9
    refine ⟨by show 3 ≤ _; decide, fun l hl => ?_⟩
    have sB0 : SameB b H8 Hf := (((SameB.of sah).trans sBd).trans (.of se)).trans sB9
    have Lf := sB0.live L8 hB9.some
    have hlb : l ∉ M := fun z => Lf l z hl
    have sl : Same Hf (upd Hf l (.lst [.str wd, .str rd, .str m2])) := same_new hl
    have hw8 : Dq K (hid M (upd Hf l (.lst [.str wd, .str rd, .str m2]))) (.ref l) (.list ([wd, rd, m2].map PyData.str)) := .lst (xs := [.str wd, .str rd, .str m2]) (by rw [hid_of hlb]; exact upd_same) (dqa_strs [wd, rd, m2])
    have Lg := Lf.mono sl
    exact rb_retR (re_lineC (M := M) (ws := [nm, "=", wd, rd, m2]) (xl_cat Lg (xd_lst Lg (xa_cons (xv_name 1 rfl |>.dd (.str nm)) (xa_cons xd_str xa_nil))) (xd_name 8 rfl hw8) (by show 2 + 3 ≤ 100000; decide)) fun p9 t9 Hz sz h1 h2 h3 h4 => fin _ _ p9 t9 _ Hz (.cmpr wd rd m2 hwd hrr hmm2) (sB0.trans (.of sl)) sz (hB9.up sl (by omega)) h1 h2 h3 h4)
end
end Zn

set_option Elab.async false
set_option linter.all false
set_option maxRecDepth 100000
set_option maxHeartbeats 8000000
namespace Zn
open PySem PySem.Spec PyProof.Rows L2 Dl
/-! k10: the mathematics of the drawn programs -/
theorem stepV_form {ks : List Str} {kf : Str → Str} {ws : List Str} {s : Stp} (h : stepV ks kf ws = some s) : ∃ rest, ws = s.nm :: "=" :: s.wd :: s.x :: rest ∧ s.x ∈ ks ∧
    (rest = [] ∧ s.wd ∈ singleL ∧ s.more = .non ∨ ∃ t, rest = [t] ∧ s.wd ∉ singleL ∧ s.more = partV ks kf s.wd (kf s.x) t ∧ s.more ≠ .non) := by
  unfold stepV at h
  split at h
  · rename_i nm eq wd x rest
    unfold stepV2 at h
    split at h
    · rename_i h0
      split at h
      · cases h
      · rename_i l hl
        split at h
        · rename_i hm
          have hx : x ∈ ks := by
            unfold kget at hm
            by_cases c : x ∈ ks
            · exact c
            · rw [if_neg c] at hm; cases hm
          have e0 : eq = "=" := h0.2
          subst e0
          split at h
          · rename_i hs
            split at h
            · rename_i hr
              cases h
              exact ⟨_, rfl, hx, .inl ⟨hr, hs, rfl⟩⟩
            · cases h
          · rename_i hs
            unfold stepM at h
            split at h
            · rename_i t
              split at h
              · cases h
              · rename_i hp
                cases h
                exact ⟨_, rfl, hx, .inr ⟨t, rfl, hs, rfl, hp⟩⟩
            · cases h
        · cases h
    · cases h
  · cases h
theorem runK_app (rows more : List (List Str)) : ∀ k, k ≤ rows.length → runK (rows ++ more) k = runK rows k
  | 0, _ => rfl
  | k + 1, h => by
    show (runK (rows ++ more) k).bind _ = (runK rows k).bind _
    rw [runK_app rows more k (by omega), List.getElem?_append_left (by omega)]
theorem ins_new {ks : List Str} {x : Str} (h : x ∉ ks) : Bf.ins ks x = ks ++ [x] := by unfold Bf.ins; rw [if_neg h]
structure PInv (lines : List (List Str)) (ms rs ns : List Str) (U : Str → Prop) : Prop where
  ex : ∃ st, runK lines lines.length = some st ∧ (∀ m ∈ ms, m ∈ st.2.1 ∧ st.2.2 m = "moment") ∧ (∀ r ∈ rs, r ∈ st.2.1 ∧ st.2.2 r = "reading") ∧ (∀ n ∈ ns, n ∈ st.2.1 ∧ st.2.2 n ∈ ansL) ∧ (∀ x ∈ st.2.1, U x)
  gw : ∀ l ∈ lines, ∀ w ∈ l, gwB w = true
  gm : ∀ m ∈ ms, gwB m = true
  gr : ∀ m ∈ rs, gwB m = true
  gn : ∀ m ∈ ns, gwB m = true
  sh : ∀ l ∈ lines, l.length ≤ 5 ∧ ∃ nm rest, l = nm :: rest ∧ nm ≠ "return"
theorem gw_lits : ∀ w ∈ ((["=", "read", "add", "between", "before", "place", "days", "at", "time", "day"] : List Str) ++ (minL ++ (dayL ++ (atL ++ rulesL)))), gwB w = true := by decide +kernel
theorem line_gw {nm : Str} {ms rs l : List Str} {kd : Str} (h : LineOf nm ms rs l kd) (hn : gwB nm = true) (gm : ∀ m ∈ ms, gwB m = true) (gr : ∀ m ∈ rs, gwB m = true) : (∀ w ∈ l, gwB w = true) ∧ l.length ≤ 5 := by
  have lit : ∀ {w : Str}, w ∈ (["=", "read", "add", "between", "before", "place", "days", "at", "time", "day"] : List Str) → gwB w = true := fun h => gw_lits _ (List.mem_append_left _ h)
  have lmin : ∀ {w : Str}, w ∈ minL → gwB w = true := fun h => gw_lits _ (List.mem_append_right _ (List.mem_append_left _ h))
  have lday : ∀ {w : Str}, w ∈ dayL → gwB w = true := fun h => gw_lits _ (List.mem_append_right _ (List.mem_append_right _ (List.mem_append_left _ h)))
  have lat : ∀ {w : Str}, w ∈ atL → gwB w = true := fun h => gw_lits _ (List.mem_append_right _ (List.mem_append_right _ (List.mem_append_right _ (List.mem_append_left _ h))))
  have lru : ∀ {w : Str}, w ∈ rulesL → gwB w = true := fun h => gw_lits _ (List.mem_append_right _ (List.mem_append_right _ (List.mem_append_right _ (List.mem_append_right _ h))))
  have l5 : ∀ {a b c d e : Str}, gwB a = true → gwB b = true → gwB c = true → gwB d = true → gwB e = true → ∀ w ∈ [a, b, c, d, e], gwB w = true := fun ha hb hc hd he w hw => by
    simp only [List.mem_cons, List.not_mem_nil, or_false] at hw
    rcases hw with rfl | rfl | rfl | rfl | rfl <;> assumption
  have l4 : ∀ {a b c d : Str}, gwB a = true → gwB b = true → gwB c = true → gwB d = true → ∀ w ∈ [a, b, c, d], gwB w = true := fun ha hb hc hd w hw => by
    simp only [List.mem_cons, List.not_mem_nil, or_false] at hw
    rcases hw with rfl | rfl | rfl | rfl <;> assumption
  have geq : gwB "=" = true := lit (by simp)
  have cmp : ∀ {w : Str}, w ∈ ([("between" : Str), "before"] : List Str) → gwB w = true := fun h => by
    rcases List.mem_cons.mp h with rfl | h
    · exact lit (by simp)
    · rw [List.mem_singleton.mp h]; exact lit (by simp)
  have sing : ∀ {w : Str}, w ∈ ([("time" : Str), "day"] : List Str) → gwB w = true := fun h => by
    rcases List.mem_cons.mp h with rfl | h
    · exact lit (by simp)
    · rw [List.mem_singleton.mp h]; exact lit (by simp)
  cases h with
  | read m h1 => exact ⟨l4 hn geq (lit (by simp)) (gm m h1), by show 4 ≤ 5; decide⟩
  | addm m t h1 h2 => exact ⟨l5 hn geq (lit (by simp)) (gm m h1) (lmin h2), by show 5 ≤ 5; decide⟩
  | cmpm w m m2 hw h1 h2 => exact ⟨l5 hn geq (cmp hw) (gm m h1) (gm m2 h2), by show 5 ≤ 5; decide⟩
  | place r t h1 h2 => exact ⟨l5 hn geq (lit (by simp)) (gr r h1) (lru h2), by show 5 ≤ 5; decide⟩
  | days r t h1 h2 => exact ⟨l5 hn geq (lit (by simp)) (gr r h1) (lday h2), by show 5 ≤ 5; decide⟩
  | att r t h1 h2 => exact ⟨l5 hn geq (lit (by simp)) (gr r h1) (lat h2), by show 5 ≤ 5; decide⟩
  | addr r t h1 h2 => exact ⟨l5 hn geq (lit (by simp)) (gr r h1) (lmin h2), by show 5 ≤ 5; decide⟩
  | sing w r hw h1 => exact ⟨l4 hn geq (sing hw) (gr r h1), by show 4 ≤ 5; decide⟩
  | cmpr w r r2 hw h1 h2 => exact ⟨l5 hn geq (cmp hw) (gr r h1) (gr r2 h2), by show 5 ≤ 5; decide⟩
def addK (kd nm : Str) (ks : List Str) (k : Str) : List Str := if kd = k then ks ++ [nm] else ks
theorem line_kd {nm : Str} {ms rs l : List Str} {kd : Str} (h : LineOf nm ms rs l kd) : kd = "moment" ∨ kd = "reading" ∨ kd = "number" := by cases h <;> simp
theorem PInv.step {lines : List (List Str)} {ms rs ns l : List Str} {U V : Str → Prop} {nm kd : Str} (I : PInv lines ms rs ns U) (h : LineOf nm ms rs l kd) (hn : nameB nm = true) (hg : gwB nm = true) (hf : ¬U nm) (hr : nm ≠ "return") (hl : lines.length < 8) (hU : ∀ x, U x → V x) (hV : V nm) :
    PInv (lines ++ [l]) (addK kd nm ms "moment") (addK kd nm rs "reading") (addK kd nm ns "number") V := by
  obtain ⟨⟨st, e, hm, hrd, hnn, hu⟩, gw, gm, gr, gn, sh⟩ := I
  have fresh : nm ∉ st.2.1 := fun z => hf (hu nm z)
  obtain ⟨wd, x, rest, v, el, hst, hx, hk⟩ := line_step h ⟨hn, fresh⟩ hm hrd
  obtain ⟨g1, g2⟩ := line_gw h hg gm gr
  have e2 : runK (lines ++ [l]) (lines ++ [l]).length = some (st.1 ++ [⟨nm, wd, x, v⟩], st.2.1 ++ [nm], Bf.up st.2.2 nm (kindW wd (st.2.2 x))) := by
    rw [List.length_append, List.length_singleton]
    rw [runK_succ (st := st) (ws := l) (by rw [runK_app _ _ _ (Nat.le_refl _)]; exact e) (by rw [List.getElem?_append_right (Nat.le_refl _), Nat.sub_self]; rfl)]
    unfold stepSt
    rw [hst.st]
    show (if 8 < lines.length + 1 then none else _) = _
    rw [if_neg (by omega)]
    show some (_, Bf.ins st.2.1 nm, Bf.up st.2.2 nm (kindS st.2.2 _)) = _
    rw [ins_new fresh]
    rfl
  have up_ne : ∀ {z : Str}, z ∈ st.2.1 → Bf.up st.2.2 nm (kindW wd (st.2.2 x)) z = st.2.2 z := fun {z} hz => by
    show (if z = nm then _ else _) = _
    rw [if_neg fun q => fresh (by rw [← q]; exact hz)]
  have up_eq : Bf.up st.2.2 nm (kindW wd (st.2.2 x)) nm = kindW wd (st.2.2 x) := by
    show (if nm = nm then _ else _) = _
    rw [if_pos rfl]
  refine ⟨⟨_, e2, fun m hm' => ?_, fun m hm' => ?_, fun m hm' => ?_, fun z hz => ?_⟩, fun l' hl' => ?_, fun m hm' => ?_, fun m hm' => ?_, fun m hm' => ?_, fun l' hl' => ?_⟩
  · unfold addK at hm'
    split at hm'
    · rename_i c
      rcases List.mem_append.mp hm' with q | q
      · exact ⟨List.mem_append_left _ (hm m q).1, (up_ne (hm m q).1).trans (hm m q).2⟩
      · rw [List.mem_singleton.mp q]
        refine ⟨List.mem_append_right _ (List.mem_singleton.mpr rfl), up_eq.trans ?_⟩
        rcases hk with ⟨k1, _⟩ | ⟨_, k2⟩
        · rw [k1] at c; exact absurd c (by decide +kernel)
        · rw [k2, c]
    · exact ⟨List.mem_append_left _ (hm m hm').1, (up_ne (hm m hm').1).trans (hm m hm').2⟩
  · unfold addK at hm'
    split at hm'
    · rename_i c
      rcases List.mem_append.mp hm' with q | q
      · exact ⟨List.mem_append_left _ (hrd m q).1, (up_ne (hrd m q).1).trans (hrd m q).2⟩
      · rw [List.mem_singleton.mp q]
        refine ⟨List.mem_append_right _ (List.mem_singleton.mpr rfl), up_eq.trans ?_⟩
        rcases hk with ⟨k1, _⟩ | ⟨_, k2⟩
        · rw [k1] at c; exact absurd c (by decide +kernel)
        · rw [k2, c]
    · exact ⟨List.mem_append_left _ (hrd m hm').1, (up_ne (hrd m hm').1).trans (hrd m hm').2⟩
  · unfold addK at hm'
    split at hm'
    · rename_i c
      rcases List.mem_append.mp hm' with q | q
      · exact ⟨List.mem_append_left _ (hnn m q).1, by have z := (hnn m q).2; rw [← up_ne (hnn m q).1] at z; exact z⟩
      · rw [List.mem_singleton.mp q]
        refine ⟨List.mem_append_right _ (List.mem_singleton.mpr rfl), ?_⟩
        show Bf.up st.2.2 nm (kindW wd (st.2.2 x)) nm ∈ ansL
        rw [up_eq]
        rcases hk with ⟨_, k2⟩ | ⟨k1, _⟩
        · exact k2
        · exact absurd c k1
    · exact ⟨List.mem_append_left _ (hnn m hm').1, by have z := (hnn m hm').2; rw [← up_ne (hnn m hm').1] at z; exact z⟩
  · rcases List.mem_append.mp hz with q | q
    · exact hU z (hu z q)
    · rw [List.mem_singleton.mp q]; exact hV
  · rcases List.mem_append.mp hl' with q | q
    · exact gw l' q
    · rw [List.mem_singleton.mp q]; exact g1
  · unfold addK at hm'
    split at hm'
    · rcases List.mem_append.mp hm' with q | q
      · exact gm m q
      · rw [List.mem_singleton.mp q]; exact hg
    · exact gm m hm'
  · unfold addK at hm'
    split at hm'
    · rcases List.mem_append.mp hm' with q | q
      · exact gr m q
      · rw [List.mem_singleton.mp q]; exact hg
    · exact gr m hm'
  · unfold addK at hm'
    split at hm'
    · rcases List.mem_append.mp hm' with q | q
      · exact gn m q
      · rw [List.mem_singleton.mp q]; exact hg
    · exact gn m hm'
  · rcases List.mem_append.mp hl' with q | q
    · exact sh l' q
    · rw [List.mem_singleton.mp q]
      exact ⟨g2, nm, _, el, hr⟩
/-- the names before the loop -/
def base3 : List Str := ["now", "u", "r"]
def candB (j : Nat) : Str := (["start", "midnight", "first", "next1", "time", "fails", "read"] : List Str).getD j "x"
def candV (j : Nat) : Str := ("v" : Str) ++ Str.ofString (toString (j : Int))
def cand (j : Nat) : List Str := [candB j, candV j]
theorem cand_ok : ∀ j : Fin 7, ∀ c ∈ cand j.val, nameB c = true ∧ gwB c = true ∧ c ∉ base3 ∧ c ≠ "n" ∧ c ≠ "return" := by decide +kernel
theorem cand_ne : ∀ i : Fin 7, ∀ j : Fin 7, i ≠ j → ∀ c ∈ cand i.val, c ∉ cand j.val := by decide +kernel
def Uk (k : Nat) (x : Str) : Prop := x ∈ base3 ∨ ∃ j, j < k ∧ x ∈ cand j
theorem uk_fresh {k : Nat} (h : k < 7) {c : Str} (hc : c ∈ cand k) : ¬Uk k c := fun z => by
  rcases z with z | ⟨j, hj, z⟩
  · exact (cand_ok ⟨k, h⟩ c hc).2.2.1 z
  · exact cand_ne ⟨k, h⟩ ⟨j, by omega⟩ (fun q => by have := congrArg Fin.val q; simp at this; omega) c hc z
theorem uk_n {k : Nat} (h : k ≤ 7) : ¬Uk k "n" := fun z => by
  rcases z with z | ⟨j, hj, z⟩
  · exact absurd z (by decide +kernel)
  · exact (cand_ok ⟨j, by omega⟩ _ z).2.2.2.1 rfl
theorem pinv0 : PInv [] ["now"] [] [] (fun x => x = "now") := by
  refine ⟨⟨([], ["now"], fun _ => "moment"), rfl, fun m hm => ⟨hm, rfl⟩, fun _ h => by simp at h, fun _ h => by simp at h, fun x hx => by simpa using hx⟩, fun _ h => by simp at h, ?_, fun _ h => by simp at h, fun _ h => by simp at h, fun _ h => by simp at h⟩
  decide +kernel
theorem pinv1 : PInv [["r", "=", "read", "now"]] ["now"] ["r"] [] (Uk 0) := by
  have h := pinv0.step (V := Uk 0) (LineOf.read (nm := "r") (ms := ["now"]) (rs := []) "now" (by simp)) (by decide +kernel) (by decide +kernel) (by decide +kernel) (by decide +kernel) (by decide) (fun x hx => .inl (by rw [hx]; decide +kernel)) (.inl (by decide +kernel))
  have e4 : addK "reading" "r" [("now" : Str)] "moment" = [("now" : Str)] := by decide +kernel
  have e5 : addK "reading" "r" [] "reading" = [("r" : Str)] := by decide +kernel
  have e6 : addK "reading" "r" [] "number" = [] := by decide +kernel
  rw [e4, e5, e6] at h
  exact h
theorem pinv2 : PInv [["u", "=", "add", "now", "1440"], ["r", "=", "read", "u"]] ["now", "u"] ["r"] [] (Uk 0) := by
  have h := pinv0.step (V := fun x => x = "now" ∨ x = "u") (LineOf.addm (nm := "u") (ms := ["now"]) (rs := []) "now" "1440" (by simp) (by decide +kernel)) (by decide +kernel) (by decide +kernel) (by decide +kernel) (by decide +kernel) (by decide) (fun x hx => .inl hx) (.inr rfl)
  have e1 : addK "moment" "u" [("now" : Str)] "moment" = [("now" : Str), "u"] := by decide +kernel
  have e2 : addK "moment" "u" [] "reading" = [] := by decide +kernel
  have e3 : addK "moment" "u" [] "number" = [] := by decide +kernel
  rw [e1, e2, e3] at h
  have h2 := h.step (V := Uk 0) (LineOf.read (nm := "r") (ms := ["now", "u"]) (rs := []) "u" (by simp)) (by decide +kernel) (by decide +kernel) (by decide +kernel) (by decide +kernel) (by decide) (fun x hx => .inl (by rcases hx with rfl | rfl <;> decide +kernel)) (.inl (by decide +kernel))
  have e4 : addK "reading" "r" [("now" : Str), "u"] "moment" = [("now" : Str), "u"] := by decide +kernel
  have e5 : addK "reading" "r" [] "reading" = [("r" : Str)] := by decide +kernel
  have e6 : addK "reading" "r" [] "number" = [] := by decide +kernel
  rw [e4, e5, e6] at h2
  exact h2
end Zn

set_option Elab.async false
set_option linter.all false
set_option maxRecDepth 100000
set_option maxHeartbeats 8000000
namespace Zn
open PySem PySem.Spec PyProof.Rows L2 Dl
/-! k10: _law_program -/
abbrev sLProg : Stmt := top 42
def kN : List Str := ["moment", "reading", "number"]
def fN (mL rL nL : Addr) (k : Str) : V := if k = "moment" then .ref mL else if k = "reading" then .ref rL else .ref nL
theorem fN_m (mL rL nL : Addr) : fN mL rL nL "moment" = .ref mL := by unfold fN; rw [if_pos rfl]
theorem fN_r (mL rL nL : Addr) : fN mL rL nL "reading" = .ref rL := by unfold fN; rw [if_neg (by decide +kernel), if_pos rfl]
theorem fN_n (mL rL nL : Addr) : fN mL rL nL "number" = .ref nL := by unfold fN; rw [if_neg (by decide +kernel), if_neg (by decide +kernel)]
theorem rt_mono {X : Cx} {σ : L2.St} {H : Hp} {c : Expr} {Q Q' : Bool → Hp → Prop} (h : RT X c σ H Q) (k : ∀ b H1, Q b H1 → Q' b H1) : RT X c σ H Q' := by
  obtain ⟨t, ht, q⟩ := h
  exact ⟨fun σ H Q' => ∃ Q, t σ H Q ∧ ∀ b H1, Q b H1 → Q' b H1, ⟨fun pins s σ H Q' I ⟨Q, q, k⟩ => thn (ht.run pins s σ H Q I q) fun u s' ⟨H1, I1, q1⟩ => ⟨H1, I1, k u H1 q1⟩⟩, Q, q, k⟩
section
variable {X : Cx} {M : List Addr} {σ : L2.St} {H : Hp} {c : Expr} {Q : VK} {p1 p2 p3 p4 p5 p6 p7 p8 p9 pos : Pos} {j1 j2 j3 j4 j5 : Nat} {D : Ends} {rest t : List Stmt}
/-- an if that draws, without else: one promise behind it -/
theorem rb_ifD (J : L2.St → Hp → Prop) (h : RT X c σ H fun k H1 => if k = true then RB X t { D with nx := J } σ H1 else J σ H1) (hR : ∀ σ1 H1, J σ1 H1 → RB X rest D σ1 H1) : RB X (.If c t [] pos :: rest) D σ H :=
  rb_ifR (rt_mono h fun k H1 hk => by
    cases k with
    | true =>
      rw [if_pos rfl] at hk ⊢
      exact rb_mono hk (fun σ' H' j => hR σ' H' j) (fun _ _ h => h) (fun _ _ h => h) (fun _ _ h => h)
    | false => exact rb_nil (hR _ _ hk))
theorem re_names (q : ∀ nd mL rL nL H', Same H H' → H nd = none → H mL = none → H rL = none → H nL = none → nd ≠ mL → nd ≠ rL → nd ≠ nL → mL ≠ rL → mL ≠ nL → rL ≠ nL → DM H' nd kN (fN mL rL nL) → H' mL = some (.lst [.str "now"]) → H' rL = some (.lst [.str "r"]) → H' nL = some (.lst []) → Q (.ref nd) H') :
    RE X (.Dict [some (.Constant (.str "moment") j1 p1), some (.Constant (.str "reading") j2 p2), some (.Constant (.str "number") j3 p3)] [.List [.Constant (.str "now") j4 p4] p5, .List [.Constant (.str "r") j5 p6] p7, .List [] p8] p9) σ H Q := by
  refine ⟨_, pe_disp (pps_cons pe_str (pe_lst ra_) (pps_cons pe_str (pe_lst ra_) (pps_cons pe_str (pe_lst ra_) pps_nil))) rfl rfl (by simp) (by simp), fun nd hnd => ?_⟩
  refine ra_1 (XV.go xv_str fun H1 s1 => ⟨by show 1 ≤ _; decide, fun mL hmL => ?_⟩)
  refine ra_1 (XV.go xv_str fun H2 s2 => ⟨by show 1 ≤ _; decide, fun rL hrL => ?_⟩)
  refine ra_nil ⟨by show 0 ≤ _; decide, fun nL hnL => ?_⟩
  have h0 : upd H nd (.dK []) nd = some (.dK []) := upd_same
  have nm : nd ≠ mL := fun z => by rw [← z, s1 _ _ h0] at hmL; cases hmL
  have h1 : upd H1 mL (.lst [.str "now"]) nd = some (.dK []) := by rw [upd_ne nm]; exact s1 _ _ h0
  have h2 := s2 _ _ h1
  have nr : nd ≠ rL := fun z => by rw [← z, h2] at hrL; cases hrL
  have mr : mL ≠ rL := fun z => by rw [← z, s2 _ _ upd_same] at hrL; cases hrL
  have h3 : upd H2 rL (.lst [.str "r"]) nd = some (.dK []) := by rw [upd_ne nr]; exact h2
  have nn : nd ≠ nL := fun z => by rw [← z, h3] at hnL; cases hnL
  have mn : mL ≠ nL := fun z => by rw [← z, upd_ne mr, s2 _ _ upd_same] at hnL; cases hnL
  have rn : rL ≠ nL := fun z => by rw [← z, upd_same] at hnL; cases hnL
  have sA : Same H (upd H nd (.dK [])) := same_new hnd
  have sB := sA.trans s1
  have sC : Same H (upd H1 mL (.lst [.str "now"])) := sB.trans (same_new hmL)
  have sD := sC.trans s2
  have sE : Same H (upd H2 rL (.lst [.str "r"])) := sD.trans (same_new hrL)
  have sF : Same H (upd (upd H2 rL (.lst [.str "r"])) nL (.lst [])) := sE.trans (same_new hnL)
  refine ⟨by rw [upd_ne nn]; exact h3, [(.inr "moment", .ref mL), (.inr "reading", .ref rL), (.inr "number", .ref nL)], rfl, by show 3 ≤ 15; decide, ?_⟩
  refine q nd mL rL nL _ (same_upd sF hnd) hnd (sB.free hmL) (sD.free hrL) (sE.free hnL) nm nr nn mr mn rn ?_ ?_ ?_ ?_
  · unfold DM
    rw [upd_same]
    have e1 : ((Sum.inr ("moment" : Str) : Key) = Sum.inr ("reading" : Str)) = False := eq_false (by decide +kernel)
    have e2 : ((Sum.inr ("moment" : Str) : Key) = Sum.inr ("number" : Str)) = False := eq_false (by decide +kernel)
    have e3 : ((Sum.inr ("reading" : Str) : Key) = Sum.inr ("number" : Str)) = False := eq_false (by decide +kernel)
    simp [mergeK, putK, dmap, kN, fN_m, fN_r, fN_n, e1, e2, e3]
  · rw [upd_ne (Ne.symm nm), upd_ne mn, upd_ne mr]; exact s2 _ _ upd_same
  · rw [upd_ne (Ne.symm nr), upd_ne rn]; exact upd_same
  · rw [upd_ne (Ne.symm nn)]; exact upd_same
end
/-- addresses that are new -/
structure LF (H0 : Hp) (b nd mL rL nL LL : Addr) : Prop where
  b0 : H0 b ≠ none
  d0 : H0 nd = none
  m0 : H0 mL = none
  r0 : H0 rL = none
  n0 : H0 nL = none
  l0 : H0 LL = none
  dm : nd ≠ mL
  dr : nd ≠ rL
  dn : nd ≠ nL
  dl : nd ≠ LL
  mr : mL ≠ rL
  mn : mL ≠ nL
  ml : mL ≠ LL
  rn : rL ≠ nL
  rl : rL ≠ LL
  nl : nL ≠ LL
theorem LF.ne {H0 : Hp} {b nd mL rL nL LL x : Addr} (F : LF H0 b nd mL rL nL LL) (h : H0 x = none) : x ≠ b := fun z => F.b0 (by rw [← z]; exact h)
structure LS (K : PySem.W.Frag) (M0 : List Addr) (H0 : Hp) (b nd mL rL nL LL : Addr) (H : Hp) (n : Nat) (ms rs ns : List Str) (lines : List (List Str)) : Prop where
  s : SameB b H0 H
  L : Live (LL :: nL :: rL :: mL :: M0) H
  d : DM H nd kN (fN mL rL nL)
  m : H mL = some (.lst (ms.map V.str))
  r : H rL = some (.lst (rs.map V.str))
  nn : H nL = some (.lst (ns.map V.str))
  l : ∃ zs, H LL = some (.lst zs) ∧ DqAll K (hid (LL :: nL :: rL :: mL :: M0) H) zs (lines.map rowD)
  B : BagAt H b n
theorem LS.sb {K : PySem.W.Frag} {M0 : List Addr} {H0 H H' : Hp} {b nd mL rL nL LL : Addr} {n n' : Nat} {ms rs ns : List Str} {lines : List (List Str)} (S : LS K M0 H0 b nd mL rL nL LL H n ms rs ns lines) (F : LF H0 b nd mL rL nL LL) (hb : b ∈ M0) (s : SameB b H H') (B : BagAt H' b n') : LS K M0 H0 b nd mL rL nL LL H' n' ms rs ns lines := by
  have hb4 : b ∈ LL :: nL :: rL :: mL :: M0 := by simp [hb]
  obtain ⟨zs, h1, h2⟩ := S.l
  exact ⟨S.s.trans s, s.live S.L B.some, s _ _ (F.ne F.d0) S.d, s _ _ (F.ne F.m0) S.m, s _ _ (F.ne F.r0) S.r, s _ _ (F.ne F.n0) S.nn, ⟨zs, s _ _ (F.ne F.l0) h1, h2.up (s.hid hb4)⟩, B⟩
theorem LS.up {K : PySem.W.Frag} {M0 : List Addr} {H0 H H' : Hp} {b nd mL rL nL LL : Addr} {n : Nat} {ms rs ns : List Str} {lines : List (List Str)} (S : LS K M0 H0 b nd mL rL nL LL H n ms rs ns lines) (F : LF H0 b nd mL rL nL LL) (hb : b ∈ M0) (s : Same H H') : LS K M0 H0 b nd mL rL nL LL H' n ms rs ns lines := S.sb F hb (.of s) (S.B.up s (Nat.le_refl _))
/-- the list of a kind -/
def adr (mL rL nL : Addr) (kd : Str) : Addr := if kd = "moment" then mL else if kd = "reading" then rL else nL
def lsk (ms rs ns : List Str) (kd : Str) : List Str := if kd = "moment" then ms else if kd = "reading" then rs else ns
theorem kd_ne : (("reading" : Str) = "moment") = False ∧ (("number" : Str) = "moment") = False ∧ (("number" : Str) = "reading") = False ∧ (("moment" : Str) = "reading") = False ∧ (("moment" : Str) = "number") = False ∧ (("reading" : Str) = "number") = False := by
  refine ⟨eq_false ?_, eq_false ?_, eq_false ?_, eq_false ?_, eq_false ?_, eq_false ?_⟩ <;> decide +kernel
theorem LS.at_ {K : PySem.W.Frag} {M0 : List Addr} {H0 H : Hp} {b nd mL rL nL LL : Addr} {n : Nat} {ms rs ns : List Str} {lines : List (List Str)} (S : LS K M0 H0 b nd mL rL nL LL H n ms rs ns lines) {kd : Str} (hk : kd = "moment" ∨ kd = "reading" ∨ kd = "number") :
    H (adr mL rL nL kd) = some (.lst ((lsk ms rs ns kd).map V.str)) ∧ fN mL rL nL kd = .ref (adr mL rL nL kd) ∧ kd ∈ kN ∧ adr mL rL nL kd ∈ LL :: nL :: rL :: mL :: M0 := by
  obtain ⟨e1, e2, e3, e4, e5, e6⟩ := kd_ne
  rcases hk with rfl | rfl | rfl <;> simp only [adr, lsk, fN, kN, e1, e2, e3, e4, e5, e6, if_true, if_false]
  · exact ⟨S.m, trivial, by simp, by simp⟩
  · exact ⟨S.r, trivial, by simp, by simp⟩
  · exact ⟨S.nn, trivial, by simp, by simp⟩
/-- a name is put to its kind -/
theorem LS.put {K : PySem.W.Frag} {M0 : List Addr} {H0 H : Hp} {b nd mL rL nL LL : Addr} {n : Nat} {ms rs ns : List Str} {lines : List (List Str)} (S : LS K M0 H0 b nd mL rL nL LL H n ms rs ns lines) (F : LF H0 b nd mL rL nL LL) {kd nm : Str} (hk : kd = "moment" ∨ kd = "reading" ∨ kd = "number") :
    LS K M0 H0 b nd mL rL nL LL (upd H (adr mL rL nL kd) (.lst ((lsk ms rs ns kd).map V.str ++ [.str nm]))) n (addK kd nm ms "moment") (addK kd nm rs "reading") (addK kd nm ns "number") lines := by
  obtain ⟨e1, e2, e3, e4, e5, e6⟩ := kd_ne
  obtain ⟨zs, h1, h2⟩ := S.l
  have hB : ∀ {p : Addr} {o : HO}, H0 p = none → BagAt (upd H p o) b n := fun {p o} hp => by
    obtain ⟨g, m, c, e, r⟩ := S.B
    exact ⟨g, m, c, by rw [upd_ne (Ne.symm (F.ne hp))]; exact e, r⟩
  have hS : ∀ {p : Addr} {o : HO}, H0 p = none → SameB b H0 (upd H p o) := fun {p o} hp x u n e => by rw [upd_ne (ne_of_none e hp)]; exact S.s x u n e
  rcases hk with rfl | rfl | rfl <;> simp only [adr, lsk, addK, e1, e2, e3, e4, e5, e6, if_true, if_false]
  · exact ⟨hS F.m0, S.L.upd, by unfold DM; rw [upd_ne F.dm]; exact S.d, by rw [upd_same, List.map_append]; rfl, by rw [upd_ne (Ne.symm F.mr)]; exact S.r, by rw [upd_ne (Ne.symm F.mn)]; exact S.nn, ⟨zs, by rw [upd_ne (Ne.symm F.ml)]; exact h1, by rw [hid_upd_mem (by simp)]; exact h2⟩, hB F.m0⟩
  · exact ⟨hS F.r0, S.L.upd, by unfold DM; rw [upd_ne F.dr]; exact S.d, by rw [upd_ne F.mr]; exact S.m, by rw [upd_same, List.map_append]; rfl, by rw [upd_ne (Ne.symm F.rn)]; exact S.nn, ⟨zs, by rw [upd_ne (Ne.symm F.rl)]; exact h1, by rw [hid_upd_mem (by simp)]; exact h2⟩, hB F.r0⟩
  · exact ⟨hS F.n0, S.L.upd, by unfold DM; rw [upd_ne F.dn]; exact S.d, by rw [upd_ne F.mn]; exact S.m, by rw [upd_ne F.rn]; exact S.r, by rw [upd_same, List.map_append]; rfl, ⟨zs, by rw [upd_ne (Ne.symm F.nl)]; exact h1, by rw [hid_upd_mem (by simp)]; exact h2⟩, hB F.n0⟩
/-- a line is put to the lines -/
theorem LS.line {K : PySem.W.Frag} {M0 : List Addr} {H0 H H1 : Hp} {b nd mL rL nL LL : Addr} {n : Nat} {ms rs ns l : List Str} {lines : List (List Str)} {zs : List V} {v : V} (S : LS K M0 H0 b nd mL rL nL LL H n ms rs ns lines) (F : LF H0 b nd mL rL nL LL) (hb : b ∈ M0) (h1 : H LL = some (.lst zs)) (h2 : DqAll K (hid (LL :: nL :: rL :: mL :: M0) H) zs (lines.map rowD)) (s : Same H H1) (hv : Dq K (hid (LL :: nL :: rL :: mL :: M0) H1) v (rowD l)) :
    LS K M0 H0 b nd mL rL nL LL (upd H1 LL (.lst (zs ++ [v]))) n ms rs ns (lines ++ [l]) := by
  have S1 := S.up F hb s
  refine ⟨fun x u n e => by rw [upd_ne (ne_of_none e F.l0)]; exact S1.s x u n e, S1.L.upd, by unfold DM; rw [upd_ne F.dl]; exact S1.d, by rw [upd_ne F.ml]; exact S1.m, by rw [upd_ne F.rl]; exact S1.r, by rw [upd_ne F.nl]; exact S1.nn, ⟨zs ++ [v], upd_same, ?_⟩, ?_⟩
  · rw [hid_upd_mem (by simp), List.map_append]
    exact dpa_app (h2.up (hid_mono s)) (.cons hv .nil)
  · obtain ⟨g, m, c, e, r⟩ := S1.B
    exact ⟨g, m, c, by rw [upd_ne (Ne.symm (F.ne F.l0))]; exact e, r⟩
end Zn

set_option Elab.async false
set_option linter.all false
set_option maxRecDepth 100000
set_option maxHeartbeats 8000000
namespace Zn
open PySem PySem.Spec PyProof.Rows L2 Dl
/-! k10: _law_program -/
structure LP (K : PySem.W.Frag) (M0 : List Addr) (H0 : Hp) (b nd mL rL nL : Addr) (H : Hp) (n : Nat) (ms rs ns : List Str) : Prop where
  s : SameB b H0 H
  L : Live (nL :: rL :: mL :: M0) H
  d : DM H nd kN (fN mL rL nL)
  m : H mL = some (.lst (ms.map V.str))
  r : H rL = some (.lst (rs.map V.str))
  nn : H nL = some (.lst (ns.map V.str))
  B : BagAt H b n
  b0 : H0 b ≠ none
  d0 : H0 nd = none
  m0 : H0 mL = none
  r0 : H0 rL = none
  n0 : H0 nL = none
  dm : nd ≠ mL
  dr : nd ≠ rL
  dn : nd ≠ nL
  mr : mL ≠ rL
  mn : mL ≠ nL
  rn : rL ≠ nL
theorem LP.new {K : PySem.W.Frag} {M0 : List Addr} {H0 H : Hp} {b nd mL rL nL LL : Addr} {n : Nat} {ms rs ns : List Str} {lines : List (List Str)} {vs : List V} (S : LP K M0 H0 b nd mL rL nL H n ms rs ns) (h : H LL = none) (hv : DqAll K (hid (nL :: rL :: mL :: M0) H) vs (lines.map rowD)) :
    LF H0 b nd mL rL nL LL ∧ LS K M0 H0 b nd mL rL nL LL (upd H LL (.lst vs)) n ms rs ns lines := by
  have sn : Same H (upd H LL (.lst vs)) := same_new h
  have f : ∀ {x : Addr} {o : HO}, H x = some o → x ≠ LL := fun {x o} e z => by rw [z, h] at e; cases e
  have L0 : H0 LL = none := sameB_free S.s S.B.some h
  refine ⟨⟨S.b0, S.d0, S.m0, S.r0, S.n0, L0, S.dm, S.dr, S.dn, f S.d, S.mr, S.mn, f S.m, S.rn, f S.r, f S.nn⟩, S.s.trans (.of sn), live_new S.L sn (by rw [upd_same]; simp), sn _ _ S.d, sn _ _ S.m, sn _ _ S.r, sn _ _ S.nn, ⟨vs, upd_same, hv.up (hid_step h sn)⟩, S.B.up sn (Nat.le_refl _)⟩
theorem LS.pre {K : PySem.W.Frag} {M0 : List Addr} {H0 H : Hp} {b nd mL rL nL LL : Addr} {n : Nat} {ms rs ns : List Str} {lines : List (List Str)} (S : LS K M0 H0 b nd mL rL nL LL H n ms rs ns lines) (F : LF H0 b nd mL rL nL LL) : LP K M0 H0 b nd mL rL nL H n ms rs ns :=
  ⟨S.s, fun x hx => S.L x (List.mem_cons_of_mem _ hx), S.d, S.m, S.r, S.nn, S.B, F.b0, F.d0, F.m0, F.r0, F.n0, F.dm, F.dr, F.dn, F.mr, F.mn, F.rn⟩
theorem LP.up {K : PySem.W.Frag} {M0 : List Addr} {H0 H H' : Hp} {b nd mL rL nL : Addr} {n : Nat} {ms rs ns : List Str} (S : LP K M0 H0 b nd mL rL nL H n ms rs ns) (s : Same H H') : LP K M0 H0 b nd mL rL nL H' n ms rs ns :=
  ⟨S.s.trans (.of s), S.L.mono s, s _ _ S.d, s _ _ S.m, s _ _ S.r, s _ _ S.nn, S.B.up s (Nat.le_refl _), S.b0, S.d0, S.m0, S.r0, S.n0, S.dm, S.dr, S.dn, S.mr, S.mn, S.rn⟩
def boundsL : List (Str × Str) := [("00:00", "23:59"), ("00:00", "23:59"), ("02:00", "02:00"), ("00:00", "01:00"), ("23:00", "23:59")]
structure Drawn (b0 b1 : Str) (lines : List (List Str)) (told : List Str) : Prop where
  bd : (b0, b1) ∈ boundsL
  st : ∃ st, runK lines lines.length = some st ∧ (∀ n ∈ told, n ∈ st.2.1 ∧ st.2.2 n ∈ ansL) ∧ ∀ x ∈ st.2.1, x ≠ "zz" ∧ x ≠ ""
  gw : ∀ l ∈ lines, ∀ w ∈ l, gwB w = true
  sh : ∀ l ∈ lines, l.length ≤ 5 ∧ ∃ nm rest, l = nm :: rest ∧ nm ≠ "return"
  gt : ∀ n ∈ told, gwB n = true
  t1 : 1 ≤ told.length
  t4 : told.length ≤ 4
  l1 : 1 ≤ lines.length
  l8 : lines.length ≤ 8
def drawD (b0 b1 : Str) (lines : List (List Str)) (told : List Str) : PyData := .tuple [.tuple [.str b0, .str b1], .list (lines.map rowD), .list (told.map PyData.str)]
abbrev lpN : List Str := ["_law_box_here", "_law_most_lines", "_law_names", "_law_lines", "_law_k", "_law_name", "_law_line_here", "_law_kind", "_law_last", "_law_ends", "_law_told_here", "_law_bounds"]
abbrev lpP : List Str := ["_law_box_here", "_law_most_lines"]
def spLProg (K : PySem.W.Frag) : Sp := fun vs H Q _ => ∃ (M : List Addr) (b : Addr) (n : Nat), vs = [.ref b, .int 8] ∧ b ∈ M ∧ Live M H ∧ n ≤ 400000 ∧ BagAt H b n ∧
  ∀ b0 b1 lines told v H1, Drawn b0 b1 lines told → SameB b H H1 → BagAt H1 b (n + 200) → Dq K (hid M H1) v (drawD b0 b1 lines told) → Q v H1
section
variable {X : Cx} {M : List Addr} {σ : L2.St} {H : Hp} {a b : Expr} {pos : Pos}
theorem xd_addS {i j : Str} (ha : XV X σ H a (.str i)) (hb : XV X σ H b (.str j)) (hl : i.length + j.length ≤ 100000) : XD X M σ H (.BinOp a .Add b pos) (.str (i ++ j)) := fun H1 s Q q =>
  re_addS (ha H1 s _ fun H2 s2 => ⟨i, rfl, hb H2 (s.trans s2) _ fun H3 s3 => ⟨j, rfl, hl, q _ H3 (s2.trans s3) (.str _)⟩⟩)
end
section
variable {X : Cx} {M : List Addr} {σ : L2.St} {H : Hp} {o i : Expr} {pos : Pos} {W : Addr} {ks : List Str} {f : Str → V} {x : Str} {v : V}
theorem xv_dgetV (hu : X.A.units + 1 < cLine) (ho : XV X σ H o (.ref W)) (hk : XD X M σ H i (.str x)) (hW : DM H W ks f) (hx : x ∈ ks) (e : f x = v) (hs : NoSl i := by exact fun _ _ => rfl) : XV X σ H (.Subscript o i pos) v := e ▸ xv_dget hu ho hk hW hx hs
end
theorem line_head {nm : Str} {ms rs l : List Str} {kd : Str} (h : LineOf nm ms rs l kd) : ∃ rest, l = nm :: rest := by cases h <;> exact ⟨_, rfl⟩
theorem addK_sub {kd nm k x : Str} {ks : List Str} (h : x ∈ ks) : x ∈ addK kd nm ks k := by
  unfold addK
  split
  · exact List.mem_append_left _ h
  · exact h
theorem addK_ne {kd nm k : Str} {ks : List Str} (h : ks ≠ []) : addK kd nm ks k ≠ [] := by
  unfold addK
  split
  · simp
  · exact h
theorem addK_len (kd nm k : Str) (ks : List Str) : (addK kd nm ks k).length ≤ ks.length + 1 := by
  unfold addK
  split
  · rw [List.length_append]; exact Nat.le_refl _
  · omega
theorem cutV_to (l : List Str) (n : Nat) : cutV (l.map V.str) none (some (n : Int)) = (l.take n).map V.str := by
  unfold cutV
  rw [HT.sIx_none, HT.sIx_nat, List.drop_zero, Nat.sub_zero, List.length_map, List.map_take]
  rcases Nat.le_total n l.length with h | h
  · rw [Nat.min_eq_left h]
  · rw [Nat.min_eq_right h, List.take_of_length_le (by rw [List.length_map]; exact Nat.le_refl _), List.take_of_length_le (by rw [List.length_map]; exact h)]
theorem cut_last (ns : List Str) (h : ns ≠ []) : ∃ x, x ∈ ns ∧ Dl.cutD (ns.map PyData.str) (some (-1)) none = [PyData.str x] := by
  rcases List.eq_nil_or_concat ns with z | ⟨i, x, z⟩
  · exact absurd z h
  · rw [List.concat_eq_append] at z
    refine ⟨x, by rw [z]; simp, ?_⟩
    unfold Dl.cutD
    have hl : (ns.map PyData.str).length = i.length + 1 := by rw [List.length_map, z, List.length_append, List.length_singleton]
    have e : HT.sIx (ns.map PyData.str).length 0 (some (-1)) = i.length := by rw [hl]; unfold HT.sIx; simp <;> omega
    rw [HT.sIx_none, e, hl, z, List.map_append, Nat.add_sub_cancel_left]
    have e2 : i.length = (i.map PyData.str).length := (List.length_map ..).symm
    rw [e2, List.drop_left]
    rfl
section
variable {X : Cx} {σ : L2.St} {H : Hp} {a b : Expr} {pos : Pos} {Q : VK}
theorem re_cmpGt (h : RE X a σ H fun x H1 => ∃ i : Int, x = .int i ∧ RE X b σ H1 fun y H2 => ∃ j : Int, y = .int j ∧ Q (.bl (decide (i > j))) H2) (hm : behindInMarks .Gt b = false := by rfl) : RE X (.Compare a [.Gt] [b] pos) σ H Q :=
  ⟨_, pe_cmpR op_gt re_ re_ hm, re_mono h fun x H1 ⟨i, ei, h1⟩ => re_mono h1 fun y H2 ⟨j, ej, q⟩ => ⟨i, j, ei, ej, q⟩⟩
end
theorem atI_end {α : Type} (xs : List α) (x : α) : atI (xs ++ [x]) (-1) = some x := by
  unfold atI
  have e : ixN (xs ++ [x]).length (-1) = some xs.length := by
    unfold ixN
    rw [if_neg (by decide), if_pos (by rw [List.length_append, List.length_singleton]; omega), List.length_append, List.length_singleton]
    congr 1
    omega
  rw [e]
  simp
theorem odd_base : ∀ x ∈ base3, x ≠ "zz" ∧ x ≠ "" := by decide +kernel
theorem odd_cand : ∀ j : Fin 7, ∀ x ∈ cand j.val, x ≠ "zz" ∧ x ≠ "" := by decide +kernel
theorem uk_odd {x : Str} (h : Uk 7 x ∨ x = "n") : x ≠ "zz" ∧ x ≠ "" := by
  rcases h with (h | ⟨j, hj, h⟩) | h
  · exact odd_base x h
  · exact odd_cand ⟨j, hj⟩ x h
  · rw [h]; decide +kernel
theorem cand_at : ∀ j : Nat, j < 7 → atI [PyData.str "start", .str "midnight", .str "first", .str "next1", .str "time", .str "fails", .str "read"] (j : Int) = some (.str (candB j))
  | 0, _ => rfl
  | 1, _ => rfl
  | 2, _ => rfl
  | 3, _ => rfl
  | 4, _ => rfl
  | 5, _ => rfl
  | 6, _ => rfl
  | _ + 7, h => by omega
theorem candV_len : ∀ j : Fin 7, (Str.ofString (toString ((j.val : Nat) : Int))).length ≤ 100 ∧ ((j.val : Nat) : Int).natAbs.log2 < 1920 := by decide +kernel
section
variable {P : Program} {w : World} {K : PySem.W.Frag} {mg : Str → Option Value} {base : Heap}
theorem scLProg : FnScope lpN lpP (defScope sLProg) := ⟨rfl, rfl, rfl, by decide +kernel, rfl, by decide +kernel, by decide +kernel⟩
theorem ok_lprog {f fT fL : Addr} {fd fdT fdL : FuncData} (T : Nm mg) (GT : FnOk P w K mg base CX0 1 fT fdT ["_law_box_here", "_law_many"] spTake) (FT : Df K mg "_law_take" sTake ["_law_box_here", "_law_many"] fT fdT) (GL : FnOk P w K mg base CX0 2 fL fdL llP (spLLine K)) (FL : Df K mg "_law_line" sLLine llP fL fdL)
    (F : Df K mg "_law_program" sLProg lpP f fd) : FnOk P w K mg base CX0 3 f fd lpP (spLProg K) := by
  refine F.F.ok scLProg (fun vs H Q E h => ?_) (fun cdv A outer s H0 vs Q E hr h => ?_)
  · obtain ⟨M, b, n, rfl, _⟩ := h; rfl
  · obtain ⟨M, b, n, rfl, hb, L, hn, hB, q⟩ := h
    have hr1 := hr.mono (show 1 ≤ 2 by decide)
    have hu := Nat.lt_of_le_of_lt (Nat.add_le_add_left (show 1 ≤ 64 by decide) _) hr.units
    refine rb_parR 2 3 (ra_cons (re_names fun nd mL rL nL H1 s1 d0 m0 r0 n0 dm dr dn mr mn rn hd hm hrr hnn => ra_1 ?_)) scLProg.nd
    have S0 : LP K M H0 b nd mL rL nL H1 n ["now"] ["r"] [] := ⟨.of s1, fun x hx => by
      simp only [List.mem_cons] at hx
      rcases hx with rfl | rfl | rfl | hx
      · rw [hnn]; simp
      · rw [hrr]; simp
      · rw [hm]; simp
      · exact (L.mono s1) x hx, hd, hm, hrr, hnn, hB.up s1 (Nat.le_refl _), hB.some, d0, m0, r0, n0, dm, dr, dn, mr, mn, rn⟩
    refine ⟨_, pe_lst ra_, XA.go (M := nL :: rL :: mL :: M) (xa_cons (xd_lst S0.L (xa_cons xd_str (xa_cons xd_str (xa_cons xd_str (xa_cons xd_str xa_nil))))) xa_nil) fun vs1 H2 s2 hvs => ⟨by rw [dpa_len hvs]; decide, fun LL hLL => ⟨_, _, rfl, ?_⟩⟩⟩
    obtain ⟨F1, S1⟩ := (S0.up s2).new (lines := [["r", "=", "read", "now"]]) hLL hvs
    generalize upd H2 LL (.lst vs1) = H3 at S1
    -- the first draw
    refine rb_ifD (fun σ' H' => ∃ LL ms lines, σ' = [some (.ref b), some (.int 8), some (.ref nd), some (.ref LL), none, none, none, none, none, none, none, none] ∧ LF H0 b nd mL rL nL LL ∧ LS K M H0 b nd mL rL nL LL H' (n + 1) ms ["r"] [] lines ∧ PInv lines ms ["r"] [] (Uk 0) ∧ 1 ≤ lines.length ∧ lines.length ≤ 2 ∧ ms.length ≤ 2 ∧ ("now" : Str) ∈ ms)
      (rt_eqI (re_take GT FT hr1 (xv_name 0 rfl) xv_int S1.B (fun r Ha r0 r1 sB hB2 => ⟨r, rfl, XV.go xv_int fun Hb sb => ⟨0, rfl, ?_⟩⟩))) (fun σ1 H4 w => ?_)
    · have S2 := (S1.sb F1 hb sB hB2).up F1 hb sb
      by_cases c : r = 0
      · rw [decide_eq_true c, if_pos rfl]
        have P2 := S2.pre F1
        refine rb_setR 3 ⟨_, pe_lst ra_, XA.go (M := nL :: rL :: mL :: M) (xa_cons (xd_lst P2.L (xa_cons xd_str (xa_cons xd_str (xa_cons xd_str (xa_cons xd_str (xa_cons xd_str xa_nil)))))) (xa_cons (xd_lst P2.L (xa_cons xd_str (xa_cons xd_str (xa_cons xd_str (xa_cons xd_str xa_nil))))) xa_nil)) fun vs2 Hc sc hvs2 => ⟨by rw [dpa_len hvs2]; decide, fun L2a hL2 => ?_⟩⟩ scLProg.nd
        obtain ⟨F2, S3⟩ := (P2.up sc).new (lines := [["u", "=", "add", "now", "1440"], ["r", "=", "read", "u"]]) hL2 hvs2
        generalize upd Hc L2a (.lst vs2) = Hd at S3
        obtain ⟨a1, a2, a3, a4⟩ := S3.at_ (kd := "moment") (.inl rfl)
        refine rb_append (M := L2a :: nL :: rL :: mL :: M) (l := mL) (d := .str "u") (by simp) (xv_dgetV (M := []) hu (xv_name 2 rfl) xd_str S3.d a3 (fN_m ..)) S3.m xd_str (by decide) fun v He se hv => rb_nil ?_
        have ev := dp_str hv
        subst ev
        have S4 := (S3.up F2 hb se).put F2 (kd := "moment") (nm := "u") (.inl rfl)
        obtain ⟨e1, e2, e3, e4, e5, e6⟩ := kd_ne
        simp only [adr, lsk, addK, e4, e5, if_true, if_false] at S4
        exact ⟨L2a, ["now", "u"], _, rfl, F2, S4, pinv2, by decide, by decide, by decide, by simp⟩
      · rw [decide_eq_false c, if_neg (by simp)]
        exact ⟨LL, ["now"], _, rfl, F1, S2, pinv1, by decide, by decide, by decide, by simp⟩
    · obtain ⟨LL, ms0, ls0, rfl, F1, S1, I1, l1, l2, lm, hnow0⟩ := w
      obtain ⟨zs0, hz1, hz2⟩ := S1.l
      have hzl : zs0.length = ls0.length := by rw [dpa_len hz2, List.length_map]
      refine rb_range T.rng (re_take (many := 8 - (ls0.length : Int)) GT FT hr1 (xv_name 0 rfl) (XD.vint (M := []) ((xd_sub (xv_name 1 rfl).int (xv_lenS T.len (xv_name 3 rfl) (SqL.of hz1)).int).to (by rw [hzl]))) S1.B (fun r Ha r0 r1 sB hB2 => ⟨r.toNat, by congr 1; omega, by omega,
        fun k σ' H' => ∃ ms rs ns ls a4 a5 a6 a7, σ' = [some (.ref b), some (.int 8), some (.ref nd), some (.ref LL), a4, a5, a6, a7, none, none, none, none] ∧ LS K M H0 b nd mL rL nL LL H' (n + 2 + 10 * k) ms rs ns ls ∧ PInv ls ms rs ns (Uk k) ∧ ls.length = ls0.length + k ∧ ("now" : Str) ∈ ms ∧ rs ≠ [] ∧ ms.length ≤ 2 + k ∧ rs.length ≤ 1 + k ∧ ns.length ≤ k,
        ⟨ms0, _, _, ls0, none, none, none, none, rfl, S1.sb F1 hb sB hB2, I1, rfl, hnow0, by simp, by omega, by simp, by simp⟩, fun k σ' H' hk w => ?step, fun σ' H' w => ?done⟩) (by omega) (by omega))
      case step =>
        obtain ⟨ms, rs, ns, ls, a4, a5, a6, a7, rfl, S, I, hl, hnow, rne, ml, rl, nl⟩ := w
        have hk7 : k < 7 := by omega
        refine rg_name 4 ?_ scLProg.nd
        refine rb_set 5 (M := []) (d := .str (candB k)) (xd_ixL (fun _ _ => rfl) (xd_lst Live.nil (xa_cons xd_str (xa_cons xd_str (xa_cons xd_str (xa_cons xd_str (xa_cons xd_str (xa_cons xd_str (xa_cons xd_str xa_nil)))))))) (xv_name 4 rfl).int (cand_at k hk7)) (fun v H1 s1 hv => ?_) scLProg.nd
        have ev := dp_str hv
        subst ev
        have S2 := S.up F1 hb s1
        obtain ⟨cl1, cl2⟩ := candV_len ⟨k, hk7⟩
        refine rb_setR 5 (re_menuS GT FT hr1 (ss := [candB k, candV k, candV k]) (xa_cons ((xv_name 5 rfl).dd (.str _)) (xa_cons (xd_addS xv_str (XD.vstr (M := []) (xd_strI T.str (xv_name 4 rfl).int cl2)) (Nat.le_trans (Nat.add_le_add_left cl1 1) (by decide))) (xa_cons (xd_addS xv_str (XD.vstr (M := []) (xd_strI T.str (xv_name 4 rfl).int cl2)) (Nat.le_trans (Nat.add_le_add_left cl1 1) (by decide))) xa_nil))) (xv_name 0 rfl) S2.B (fun y hy H2 sB2 hB3 => ?_) (hz := by show 3 ≤ 1000; decide)) scLProg.nd
        have hyc : y ∈ cand k := by
          simp only [List.mem_cons, List.not_mem_nil, or_false] at hy
          unfold cand
          rcases hy with rfl | rfl | rfl <;> simp
        obtain ⟨c1, c2, c3, c4, c5⟩ := cand_ok ⟨k, hk7⟩ y hyc
        have S3 := S2.sb F1 hb sB2 hB3
        refine rb_asgR (re_call GL hr FL.g FL.F.kp FL.b (ra_cons (XV.go (xv_name 0 rfl) fun Hb sb => ra_cons (XV.go (xv_name 5 rfl) fun Hc sc => ra_cons (XV.go (xv_dgetV (M := []) hu (xv_name 2 rfl) xd_str ((S3.d.up sb).up sc) (by simp [kN]) (fN_m ..)) fun Hd sd => ra_1 (XV.go (xv_dgetV (M := []) hu (xv_name 2 rfl) xd_str (((S3.d.up sb).up sc).up sd) (by simp [kN]) (fN_r ..)) fun He se => ?call))))))
        have s25 := ((sb.trans sc).trans sd).trans se
        have S4 := S3.up F1 hb s25
        refine ⟨[b], b, _, y, .ref mL, .ref rL, ms, rs, rfl, by simp, fun x hx => by rw [List.mem_singleton.mp hx]; exact S4.B.some, by omega, S4.B, .lst (by rw [hid_of (by simpa using F1.ne F1.m0)]; exact S4.m) (dqa_strs ms), .lst (by rw [hid_of (by simpa using F1.ne F1.r0)]; exact S4.r) (dqa_strs rs), fun z => by rw [z] at hnow; simp at hnow, rne, by omega, by omega, I.gr, fun l kd p t Hf hline sBf hBf hp hpf ht htf => ?_⟩
        have S5 := S4.sb F1 hb sBf hBf
        have hkd := line_kd hline
        refine rg_tup (xs := [.ref p, .str kd]) (SqT.of htf) (rgs_cons (rg_name 6 (rgs_cons (rg_name 7 (rgs_nil ?_) scLProg.nd)) scLProg.nd))
        have pn : ∀ {x : Addr} {o : HO}, He x = some o → p ≠ x := fun {x o} e z => by rw [z, e] at hp; cases hp
        obtain ⟨zs, hzs1, hzs2⟩ := S5.l
        obtain ⟨zs4, hzs4, _⟩ := S4.l
        have hpM : p ∉ LL :: nL :: rL :: mL :: M := fun z => S4.L p z hp
        have hpd : Dq K (hid (LL :: nL :: rL :: mL :: M) Hf) (.ref p) (rowD l) := .lst (by rw [hid_of hpM]; exact hpf) (dqa_strs l)
        obtain ⟨lrest, el⟩ := line_head hline
        refine rb_append (M := LL :: nL :: rL :: mL :: M) (l := LL) (d := rowD l) (List.mem_cons_self ..) (xv_name 3 rfl) hzs1 (xd_name 6 rfl hpd) (by rw [dpa_len hzs2, List.length_map]; omega) fun v8 Hg sg hv8 => ?_
        have S6 := S5.line F1 hb hzs1 hzs2 sg hv8
        have hpd6 : Dq K (hid (LL :: nL :: rL :: mL :: M) (upd Hg LL (.lst (zs ++ [v8])))) (.ref p) (rowD l) := by rw [hid_upd_mem (by simp)]; exact hpd.up (hid_mono sg)
        generalize upd Hg LL (.lst (zs ++ [v8])) = Hh at S6 hpd6
        obtain ⟨a1, a2, a3, a4⟩ := S6.at_ hkd
        refine rb_append (M := LL :: nL :: rL :: mL :: M) (l := adr mL rL nL kd) (d := .str y) a4 (xv_dgetV (M := []) hu (xv_name 2 rfl) (xd_name 7 rfl (.str kd)) S6.d a3 a2) a1 (xd_ixL (fun _ _ => rfl) (xd_name 6 rfl hpd6) xd_int (by rw [el]; exact atI_nat (j := 0) rfl)) (by
          rw [List.length_map]
          unfold lsk
          split
          · omega
          · split <;> omega) fun v9 Hi si hv9 => rb_nil ?_
        have e9 := dp_str hv9
        subst e9
        have S7 := (S6.up F1 hb si).put F1 (nm := y) hkd
        refine ⟨_, _, _, _, _, _, _, _, rfl, S7.sb F1 hb (.of (Same.refl _)) (S7.B.up (Same.refl _) (by omega)), I.step hline c1 c2 (uk_fresh hk7 hyc) c5 (by omega) (fun x hx => hx.imp id fun ⟨j, hj, hm⟩ => ⟨j, by omega, hm⟩) (.inr ⟨k, by omega, hyc⟩), by rw [List.length_append, List.length_singleton, hl]; omega, addK_sub hnow, addK_ne rne, Nat.le_trans (addK_len ..) (by omega), Nat.le_trans (addK_len ..) (by omega), Nat.le_trans (addK_len ..) (by omega)⟩
      case done =>
        obtain ⟨ms, rs, ns, ls, a4, a5, a6, a7, rfl, S, I, hl, hnow, rne, ml, rl, nl⟩ := w
        have hl8 : ls.length < 8 := by omega
        have hu6 : r.toNat ≤ 6 := by omega
        -- the last moment
        obtain ⟨mi, mlast, em⟩ : ∃ i x, ms = i ++ [x] := by
          rcases List.eq_nil_or_concat ms with z | ⟨i, x, z⟩
          · rw [z] at hnow; simp at hnow
          · exact ⟨i, x, by rw [z, List.concat_eq_append]⟩
        obtain ⟨ri, rlast, er⟩ : ∃ i x, rs = i ++ [x] := by
          rcases List.eq_nil_or_concat rs with z | ⟨i, x, z⟩
          · exact absurd z rne
          · exact ⟨i, x, by rw [z, List.concat_eq_append]⟩
        have hml : mlast ∈ ms := by rw [em]; simp
        have hrl : rlast ∈ rs := by rw [er]; simp
        have atm : atI (ms.map V.str) (-1) = some (.str mlast) := by rw [em, List.map_append]; exact atI_end _ _
        have atr : atI (rs.map V.str) (-1) = some (.str rlast) := by rw [er, List.map_append]; exact atI_end _ _
        refine rb_setR 8 (XV.go (xv_ixS (fun _ _ => rfl) (xv_dgetV (M := []) hu (xv_name 2 rfl) xd_str S.d (by simp [kN]) (fN_m ..)) (SqL.of S.m) (XD.vint (M := []) (xd_neg xd_int)) atm) fun Hb sb => ?_) scLProg.nd
        have S2 := S.up F1 hb sb
        -- the ends
        refine rb_setL 9 (M := LL :: nL :: rL :: mL :: M) (xl_lst S2.L (xa_cons (xd_lst S2.L (xa_cons xd_str (xa_cons xd_str (xa_cons xd_str (xa_cons ((xv_ixS (fun _ _ => rfl) (xv_dgetV (M := []) hu (xv_name 2 rfl) xd_str S2.d (by simp [kN]) (fN_r ..)) (SqL.of S2.r) (XD.vint (M := []) (xd_neg xd_int)) atr).dd (.str rlast)) xa_nil))))) (xa_cons (xd_lst S2.L (xa_cons xd_str (xa_cons xd_str (xa_cons xd_str (xa_cons xd_str (xa_cons ((xv_name 8 rfl).dd (.str mlast)) xa_nil)))))) xa_nil))) (fun g xs H4 s4 hg hg4 hx => ?_) scLProg.nd
        have S4 := S2.up F1 hb s4
        have hends : Dq K (hid (LL :: nL :: rL :: mL :: M) H4) (.ref g) (.list [rowD ["n", "=", "time", rlast], rowD ["n", "=", "between", "now", mlast]]) := .lst (by rw [hid_of (fun z => S2.L g z hg)]; exact hg4) hx
        obtain ⟨zs, hzs1, hzs2⟩ := S4.l
        have hb4 : b ∈ LL :: nL :: rL :: mL :: M := by simp [hb]
        -- the last line
        refine rb_appendE (l := LL) (xv_name 3 rfl) hzs1 (by rw [dpa_len hzs2, List.length_map]; omega) fun H5 s5 => re_ixD (M := LL :: nL :: rL :: mL :: M) hb4 (fun _ _ => rfl) (xd_name 9 rfl (hends.up (hid_mono s5))) fun H6 s6 => ?_
        have S6 := S4.up F1 hb (s5.trans s6)
        refine re_Ty call_int1 (ra_1 (re_cmpGt (re_take GT FT hr1 (xv_name 0 rfl) xv_int S6.B (fun r3 H7 r30 r31 sB7 hB7 => ⟨r3, rfl, XV.go xv_int fun H8 s8 => ?_⟩)))) T.int (by decide +kernel)
        have S8 := (S6.sb F1 hb sB7 hB7).up F1 hb s8
        refine ⟨0, rfl, .inr ⟨decide (r3 > 0), rfl, sB7.trans (.of s8), _, rfl, by split <;> decide, by show _ < 2; split <;> decide, fun d u hd hu8 => ?_⟩⟩
        obtain ⟨lz, rfl, hline⟩ : ∃ lz, d = rowD lz ∧ LineOf "n" ms rs lz "number" := by
          split at hd
          · cases hd
            exact ⟨_, rfl, .cmpm "between" "now" mlast (by simp) hnow hml⟩
          · cases hd
            exact ⟨_, rfl, .sing "time" rlast (by simp) hrl⟩
        have sB48 : SameB b H4 H8 := ((SameB.of (s5.trans s6)).trans sB7).trans (.of s8)
        have hz8 : H8 LL = some (.lst zs) := sB48 _ _ (F1.ne F1.l0) hzs1
        refine ⟨hz8, ?_⟩
        have S9 := S8.line F1 hb hz8 (hzs2.up (sB48.hid hb4)) (Same.refl _) hu8
        have I9 := I.step (V := fun x => Uk 7 x ∨ x = "n") hline (by decide +kernel) (by decide +kernel) (uk_n (by omega)) (by decide +kernel) hl8 (fun x hx => .inl (hx.imp id fun ⟨j, hj, hm⟩ => ⟨j, by omega, hm⟩)) (.inr rfl)
        have ens : addK "number" "n" ns "number" = ns ++ [("n" : Str)] := by unfold addK; rw [if_pos rfl]
        rw [ens] at I9
        generalize upd H8 LL (.lst (zs ++ [u])) = H9 at S9
        -- told
        have nM : ∀ {x : Addr}, H0 x = none → x ∉ M := fun {x} hx z => L x z hx
        have hnsD : ∀ {H : Hp} {n'}, LS K M H0 b nd mL rL nL LL H n' ms rs ns (ls ++ [lz]) → Dq K (hid M H) (.ref nL) (.list (ns.map PyData.str)) := fun {H n'} S => .lst (by rw [hid_of (nM F1.n0)]; exact S.nn) (dqa_strs ns)
        have LM : ∀ {H : Hp} {n'}, LS K M H0 b nd mL rL nL LL H n' ms rs ns (ls ++ [lz]) → Live M H := fun {H n'} S => S.s.live L S.B.some
        refine rb_setR 10 (re_cutHi (xs := ([("n" : Str)] ++ ns ++ [("n" : Str)]).map V.str) (XL.go (M := M) (xl_cat (ds := (((["n"] : List Str) ++ ns)).map PyData.str) (LM S9) ((XL.dd (xl_cat (LM S9) (xd_lst (LM S9) (xa_cons xd_str xa_nil)) ((xv_dgetV (M := []) hu (xv_name 2 rfl) xd_str S9.d (by simp [kN]) (fN_n ..)).dd (hnsD S9)) (by rw [List.length_map]; show 1 + ns.length ≤ _; omega)) (LM S9)).to (by rw [List.map_append]; rfl)) (xd_lst (LM S9) (xa_cons xd_str xa_nil)) (by rw [List.length_map, List.length_append]; show 1 + ns.length + 1 ≤ _; omega)) fun p xs Ha sa hp hpa hx => ⟨p, rfl, re_bin op_add (XV.go xv_int fun Hb sb => re_take GT FT hr1 (xv_name 0 rfl) xv_int ((S9.up F1 hb sa).up F1 hb sb).B (fun r4 Hc r40 r41 sBc hBc => ⟨1, r4, rfl, rfl, 1 + r4, rfl, ?told0, fun tq htq => ?told1⟩))⟩)) scLProg.nd
        case told0 =>
          have ex := strs_va (ss := [("n" : Str)] ++ ns ++ [("n" : Str)]) (by rw [List.map_append]; exact hx)
          rw [← ex]
          have hpb : p ≠ b := fun z => by rw [z] at hp; exact S9.B.some hp
          exact sBc _ _ hpb (sb _ _ hpa)
        have Sc := ((S9.up F1 hb sa).up F1 hb sb).sb F1 hb sBc hBc
        obtain ⟨n4, rfl⟩ : ∃ n4 : Nat, r4 = (n4 : Int) := ⟨r4.toNat, by omega⟩
        rw [show (1 : Int) + (n4 : Int) = ((1 + n4 : Nat) : Int) by rw [Int.natCast_add]; rfl, cutV_to]
        have t1len : (([("n" : Str)] ++ ns ++ [("n" : Str)]).take (1 + n4)).length ≤ 4 ∧ 1 ≤ (([("n" : Str)] ++ ns ++ [("n" : Str)]).take (1 + n4)).length := by
          rw [List.length_take, List.length_append, List.length_append, List.length_singleton]
          omega
        have t1mem : ∀ x ∈ ([("n" : Str)] ++ ns ++ [("n" : Str)]).take (1 + n4), x ∈ ns ++ [("n" : Str)] := fun x hx => by
          have := List.mem_of_mem_take hx
          simp only [List.mem_append, List.mem_singleton] at this ⊢
          rcases this with (h | h) | h
          · exact .inr h
          · exact .inl h
          · exact .inr h
        generalize ([("n" : Str)] ++ ns ++ [("n" : Str)]).take (1 + n4) = t1 at t1len t1mem
        have Sd := Sc.up F1 hb (same_new (o := .lst (t1.map V.str)) htq)
        have htd : Dq K (hid M (upd Hc tq (.lst (t1.map V.str)))) (.ref tq) (.list (t1.map PyData.str)) := .lst (by rw [hid_of (fun z => LM Sc tq z htq)]; exact upd_same) (dqa_strs t1)
        generalize upd Hc tq (.lst (t1.map V.str)) = Hd at Sd htd
        have hnd := hnsD Sd
        have t1e : (t1.map PyData.str).length = t1.length := List.length_map ..
        have nse : (ns.map PyData.str).length = ns.length := List.length_map ..
        refine rb_setR 10 (re_ixD (M := M) hb (fun _ _ => rfl) (xd_lst (LM Sd) (xa_cons (xd_name 10 rfl htd) (xa_cons (XL.dd (xl_rev (LM Sd) (xd_name 10 rfl htd)) (LM Sd)) (xa_cons (XL.dd (xl_cat (LM Sd) (XL.dd (xl_cut (LM Sd) ((xv_dgetV (M := []) hu (xv_name 2 rfl) xd_str Sd.d (by simp [kN]) (fN_n ..)).dd hnd) (xo_some (M := M) (xd_neg xd_int)) xo_none) (LM Sd)) (XL.dd (xl_cut (LM Sd) (xd_name 10 rfl htd) (xo_some (M := M) xd_int) xo_none) (LM Sd)) ?clen) (LM Sd)) xa_nil)))) fun He se => re_mulR (re_take GT FT hr1 (xv_name 0 rfl) xv_int (Sd.up F1 hb se).B (fun r5 Hf r50 r51 sBf hBf => ⟨r5, rfl, ?mul⟩))) scLProg.nd
        case clen =>
          rw [cut1, List.length_drop, t1e]
          have : (Dl.cutD (ns.map PyData.str) (some (-1)) none).length ≤ ns.length := by
            unfold Dl.cutD
            rw [List.length_take, List.length_drop, nse]
            omega
          omega
        case mul =>
          have Sf := (Sd.up F1 hb se).sb F1 hb sBf hBf
          refine XD.go (M := M) (xd_intB T.int (xd_neD hr.units ((xv_dgetV (M := []) hu (xv_name 2 rfl) xd_str Sf.d (by simp [kN]) (fN_n ..)).dd (hnsD Sf)) (xd_lst (LM Sf) xa_nil) (gw_strs I.gn) shaped_nil)) fun v6 Hg sg hv6 => ⟨_, dp_int hv6, by split <;> decide, sBf.trans (.of sg), _, rfl, ?_, ?_, fun d2 u2 hd2 hu2 => ?_⟩
          · split <;> omega
          · show _ < 3
            split <;> omega
          have Sg := Sf.up F1 hb sg
          obtain ⟨t2, rfl, t2a, t2b, t2m⟩ : ∃ t2 : List Str, d2 = .list (t2.map PyData.str) ∧ 1 ≤ t2.length ∧ t2.length ≤ 4 ∧ ∀ x ∈ t2, x ∈ ns ++ [("n" : Str)] := by
            rw [eqv_nilL] at hd2
            by_cases c : ns = []
            · rw [decide_eq_true (by rw [c]; rfl)] at hd2
              have e0 : (r5 * (if (!true) = true then 1 else 0)).toNat = 0 := by simp
              rw [e0] at hd2
              cases hd2
              exact ⟨t1, rfl, t1len.2, t1len.1, t1mem⟩
            · rw [decide_eq_false (fun z => c (List.map_eq_nil_iff.mp z))] at hd2
              have e0 : (r5 * (if (!false) = true then 1 else 0)).toNat = r5.toNat := by simp
              rw [e0] at hd2
              have h3 : r5.toNat = 0 ∨ r5.toNat = 1 ∨ r5.toNat = 2 := by omega
              rcases h3 with h | h | h
              · rw [h] at hd2
                cases hd2
                exact ⟨t1, rfl, t1len.2, t1len.1, t1mem⟩
              · rw [h] at hd2
                cases hd2
                exact ⟨t1.reverse, by rw [List.map_reverse], by rw [List.length_reverse]; exact t1len.2, by rw [List.length_reverse]; exact t1len.1, fun x hx => t1mem x (List.mem_reverse.mp hx)⟩
              · rw [h] at hd2
                cases hd2
                obtain ⟨x, hx, ec⟩ := cut_last ns c
                refine ⟨x :: t1.drop 1, by rw [ec, cut1, List.map_cons, List.map_drop]; rfl, by rw [List.length_cons]; omega, by rw [List.length_cons, List.length_drop]; omega, fun y hy => ?_⟩
                rcases List.mem_cons.mp hy with rfl | hy
                · exact List.mem_append_left _ hx
                · exact t1mem y (List.mem_of_mem_drop hy)
          -- bounds
          refine rb_setL 11 (M := M) (xl_lst (LM Sg) (xa_cons (xd_tup (LM Sg) (xa_cons xd_str (xa_cons xd_str xa_nil))) (xa_cons (xd_tup (LM Sg) (xa_cons xd_str (xa_cons xd_str xa_nil))) (xa_cons (xd_tup (LM Sg) (xa_cons xd_str (xa_cons xd_str xa_nil))) (xa_cons (xd_tup (LM Sg) (xa_cons xd_str (xa_cons xd_str xa_nil))) (xa_cons (xd_tup (LM Sg) (xa_cons xd_str (xa_cons xd_str xa_nil))) xa_nil)))))) (fun g2 xs2 Hh sh hg2 hg22 hx2 => ?_) scLProg.nd
          have Sh := Sg.up F1 hb sh
          have hbd : Dq K (hid M Hh) (.ref g2) (.list (boundsL.map fun p => PyData.tuple [.str p.1, .str p.2])) := .lst (by rw [hid_of (fun z => LM Sg g2 z hg2)]; exact hg22) hx2
          refine rb_retR ⟨_, pe_tup ra_, ra_cons (re_ixD (M := M) hb (fun _ _ => rfl) (xd_name 11 rfl hbd) fun Hi si => re_take GT FT hr1 (xv_name 0 rfl) xv_int (Sh.up F1 hb si).B (fun r7 Hj r70 r71 sBj hBj => ⟨sBj, r7, rfl, r70, by show _ < 5; omega, fun d3 u3 hd3 hu3 => ?_⟩))⟩
          obtain ⟨⟨b0, b1⟩, hbm, rfl⟩ := List.mem_map.mp (List.mem_of_getElem? hd3)
          have Sj := (Sh.up F1 hb si).sb F1 hb sBj hBj
          refine ra_cons (XV.go (xv_name 3 rfl) fun Hk sk => ra_1 (XV.go (xv_name 10 rfl) fun Hl sl => ⟨by show 3 ≤ _; decide, fun tt htt => ?_⟩))
          have skl := sk.trans sl
          have Sl := Sj.up F1 hb skl
          have sT : Same Hl (upd Hl tt (.tup [u3, .ref LL, u2])) := same_new htt
          have Sz := Sl.up F1 hb sT
          have htM : tt ∉ M := fun z => LM Sl tt z htt
          obtain ⟨zz, hzz1, hzz2⟩ := Sz.l
          have hlD : Dq K (hid M (upd Hl tt (.tup [u3, .ref LL, u2]))) (.ref LL) (.list ((ls ++ [lz]).map rowD)) := .lst (by rw [hid_of (nM F1.l0)]; exact hzz1) (hzz2.up (((hid_weak.trans hid_weak).trans hid_weak).trans hid_weak))
          have hu2' := hu2.up ((hid_mono (M := M) sh).trans ((hid_mono (M := M) si).trans ((sBj.hid hb).trans (hid_mono (M := M) (skl.trans sT)))))
          refine q b0 b1 (ls ++ [lz]) t2 _ _ ⟨hbm, ?_, I9.gw, I9.sh, ?_, t2a, t2b, by rw [List.length_append, List.length_singleton]; omega, by rw [List.length_append, List.length_singleton]; omega⟩ Sz.s (Sz.B.up (Same.refl _) (by omega)) (.tup (xs := [u3, .ref LL, u2]) (SqT.of (by rw [hid_of htM]; exact upd_same)) (.cons (hu3.up (hid_mono (skl.trans sT))) (.cons hlD (.cons hu2' .nil))))
          · obtain ⟨st, e1, _, _, e4, e5⟩ := I9.ex
            exact ⟨st, e1, fun n hn => e4 n (t2m n hn), fun x hx => uk_odd (e5 x hx)⟩
          · exact fun n hn => I9.gn n (t2m n hn)
end
end Zn

set_option Elab.async false
set_option linter.all false
set_option maxRecDepth 100000
set_option maxHeartbeats 8000000
namespace Zn
open PySem PySem.Spec PyProof.Rows L2 Dl
/-! k10: _law_text, and what the program reads of it -/
abbrev sLText : Stmt := top 43
def pageOf (b0 b1 : Str) (lines : List (List Str)) (told : List Str) : Str :=
  Txt.join "\n" (("start " ++ b0 ++ " " ++ b1) :: (lines.map fun l => Txt.join " " l) ++ ["return " ++ Txt.join " " told])
theorem join_mem (y : Str) : ∀ (ps : List Str) (c : Nat), c ∈ (Str.join y ps).cps.toList → c ∈ y.cps.toList ∨ ∃ p ∈ ps, c ∈ p.cps.toList
  | [], c, h => by
    have : (Str.join y []).cps.toList = [] := rfl
    rw [this] at h
    cases h
  | [p], c, h => .inr ⟨p, by simp, h⟩
  | x :: z :: r, c, h => by
    have e : (Str.join y (x :: z :: r)).cps.toList = x.cps.toList ++ (y.cps.toList ++ (Str.join y (z :: r)).cps.toList) := by
      show TL.tl (x ++ y ++ Str.join y (z :: r)) = _
      rw [TL.tl_append, TL.tl_append, List.append_assoc]
    rw [e] at h
    rcases List.mem_append.mp h with h | h
    · exact .inr ⟨x, by simp, h⟩
    · rcases List.mem_append.mp h with h | h
      · exact .inl h
      · rcases join_mem y (z :: r) c h with h | ⟨p, hp, hc⟩
        · exact .inl h
        · exact .inr ⟨p, List.mem_cons_of_mem _ hp, hc⟩
theorem join_len (y : Str) (m : Nat) : ∀ (ps : List Str), (∀ p ∈ ps, p.length ≤ m) → (Str.join y ps).length ≤ ps.length * (m + y.length)
  | [], _ => Nat.zero_le _
  | [p], h => by
    have := h p (by simp)
    show p.length ≤ _
    simp only [List.length_singleton, Nat.one_mul]
    omega
  | x :: z :: r, h => by
    have ih := join_len y m (z :: r) fun p hp => h p (List.mem_cons_of_mem _ hp)
    have hx := h x (by simp)
    have e : (Str.join y (x :: z :: r)).length = x.length + (y.length + (Str.join y (z :: r)).length) := by
      rw [TL.len_tl, TL.len_tl x, TL.len_tl y, TL.len_tl (Str.join y (z :: r))]
      show (TL.tl (x ++ y ++ Str.join y (z :: r))).length = _
      rw [TL.tl_append, TL.tl_append, List.length_append, List.length_append]
      omega
    rw [e, List.length_cons, Nat.succ_mul]
    omega
theorem gw_len {w : Str} (h : gwB w = true) : w.length ≤ 9 := by
  unfold gwB at h
  rw [Bool.and_eq_true, Bool.and_eq_true] at h
  exact of_decide_eq_true h.2.1
theorem gw_no {w : Str} (h : gwB w = true) : 32 ∉ w.cps.toList ∧ 10 ∉ w.cps.toList := by
  unfold gwB at h
  rw [Bool.and_eq_true, Bool.and_eq_true, List.all_eq_true] at h
  refine ⟨fun z => ?_, fun z => ?_⟩
  · have := h.2.2 _ z
    simp at this
  · have := h.2.2 _ z
    simp at this
theorem sp_tl : (" " : Str).cps.toList = [32] := by decide +kernel
theorem nl_tl : ("\n" : Str).cps.toList = [10] := by decide +kernel
theorem split_line {ws : List Str} (hne : ws ≠ []) (h : ∀ w ∈ ws, gwB w = true) : Txt.split (Txt.join " " ws) " " = ws :=
  TL.split_join (s := 32) (S := []) sp_tl (by decide +kernel) hne fun p hp => (gw_no (h p hp)).1
theorem line_no {ws : List Str} (h : ∀ w ∈ ws, gwB w = true) : 10 ∉ (Txt.join " " ws).cps.toList := fun z => by
  rw [TL.join_eq] at z
  rcases join_mem _ _ _ z with z | ⟨p, hp, z⟩
  · rw [sp_tl] at z; simp at z
  · exact (gw_no (h p hp)).2 z
theorem start_join (b0 b1 : Str) : ("start " ++ b0 ++ " " ++ b1 : Str) = Txt.join " " ["start", b0, b1] := by
  rw [TL.join_eq]
  have e : ("start " : Str) = ("start" : Str) ++ (" " : Str) := by decide +kernel
  show ("start " ++ b0 ++ " " ++ b1 : Str) = ("start" : Str) ++ " " ++ (b0 ++ " " ++ b1)
  refine TL.ext_tl ?_
  rw [e]
  simp only [TL.tl_append, List.append_assoc]
theorem ret_join {told : List Str} (h : told ≠ []) : ("return " ++ Txt.join " " told : Str) = Txt.join " " ("return" :: told) := by
  rw [TL.join_eq, TL.join_eq]
  have e : ("return " : Str) = ("return" : Str) ++ (" " : Str) := by decide +kernel
  cases told with
  | nil => exact absurd rfl h
  | cons t ts =>
    show ("return " ++ Str.join " " (t :: ts) : Str) = ("return" : Str) ++ " " ++ Str.join " " (t :: ts)
    rw [e]
theorem bd_ok : ∀ p ∈ boundsL, gwB p.1 = true ∧ gwB p.2 = true ∧ (startV ["start", p.1, p.2]).isSome = true := by decide +kernel
theorem page_rows {b0 b1 : Str} {lines : List (List Str)} {told : List Str} (D : Drawn b0 b1 lines told) : Txt.split (pageOf b0 b1 lines told) "\n" = Txt.join " " [("start" : Str), b0, b1] :: ((lines.map fun l => Txt.join " " l) ++ [Txt.join " " (("return" : Str) :: told)]) ∧ rowsOf (pageOf b0 b1 lines told) = [("start" : Str), b0, b1] :: (lines ++ [("return" : Str) :: told]) := by
  have tne : told ≠ [] := fun z => by have := D.t1; rw [z] at this; simp at this
  obtain ⟨g0, g1, _⟩ := bd_ok _ D.bd
  have gs : ∀ w ∈ [("start" : Str), b0, b1], gwB w = true := fun w hw => by
    simp only [List.mem_cons, List.not_mem_nil, or_false] at hw
    rcases hw with rfl | rfl | rfl
    · decide +kernel
    · exact g0
    · exact g1
  have gr : ∀ w ∈ ("return" : Str) :: told, gwB w = true := fun w hw => by
    rcases List.mem_cons.mp hw with rfl | hw
    · decide +kernel
    · exact D.gt w hw
  have e1 : Txt.split (pageOf b0 b1 lines told) "\n" = Txt.join " " [("start" : Str), b0, b1] :: ((lines.map fun l => Txt.join " " l) ++ [Txt.join " " (("return" : Str) :: told)]) := by
    unfold pageOf
    rw [start_join, ret_join tne]
    refine TL.split_join (s := 10) (S := []) nl_tl (by decide +kernel) (by simp) fun p hp => ?_
    simp only [List.cons_append, List.mem_cons, List.mem_append, List.mem_map, List.not_mem_nil, or_false] at hp
    rcases hp with rfl | ⟨l, hl, rfl⟩ | rfl
    · exact line_no gs
    · exact line_no (D.gw l hl)
    · exact line_no gr
  refine ⟨e1, ?_⟩
  unfold rowsOf
  rw [e1, List.map_cons, List.map_append, List.map_map, split_line (by simp) gs, List.map_singleton, split_line (by simp) gr]
  congr 2
  refine (List.map_congr_left fun l hl => ?_).trans (List.map_id _)
  obtain ⟨_, nm, rest, e, _⟩ := D.sh l hl
  exact split_line (by rw [e]; simp) (D.gw l hl)
end Zn

set_option Elab.async false
set_option linter.all false
set_option maxRecDepth 100000
set_option maxHeartbeats 8000000
namespace Zn
open PySem PySem.Spec PyProof.Rows L2 Dl
/-! k10: the page made a program -/
def stOf (lines : List (List Str)) : St3 := (runK lines lines.length).getD ([], [], fun _ => "")
def loOf (b0 b1 : Str) : Int × Int := (startV ["start", b0, b1]).getD (0, 0)
def pgOf (b0 b1 : Str) (lines : List (List Str)) (told : List Str) : Pg := ⟨pageOf b0 b1 lines told, (loOf b0 b1).1, (loOf b0 b1).2, (stOf lines).2.1, (stOf lines).2.2, (stOf lines).1, told⟩
theorem Drawn.run {b0 b1 : Str} {lines : List (List Str)} {told : List Str} (D : Drawn b0 b1 lines told) : runK lines lines.length = some (stOf lines) ∧ ∀ n ∈ told, n ∈ (stOf lines).2.1 ∧ (stOf lines).2.2 n ∈ ansL := by
  obtain ⟨st, e, h, _⟩ := D.st
  have e2 : stOf lines = st := by unfold stOf; rw [e]; rfl
  rw [e2]
  exact ⟨e, h⟩
theorem Drawn.odd {b0 b1 : Str} {lines : List (List Str)} {told : List Str} (D : Drawn b0 b1 lines told) : ("zz" : Str) ∉ (stOf lines).2.1 ∧ ("" : Str) ∉ (stOf lines).2.1 := by
  obtain ⟨st, e, _, h⟩ := D.st
  have e2 : stOf lines = st := by unfold stOf; rw [e]; rfl
  rw [e2]
  exact ⟨fun z => (h _ z).1 rfl, fun z => (h _ z).2 rfl⟩
theorem Drawn.start {b0 b1 : Str} {lines : List (List Str)} {told : List Str} (D : Drawn b0 b1 lines told) : startV ["start", b0, b1] = some (loOf b0 b1) := by
  obtain ⟨_, _, h⟩ := bd_ok _ D.bd
  obtain ⟨p, e⟩ := Option.isSome_iff_exists.mp h
  unfold loOf
  rw [e]
  rfl
theorem Drawn.tne {b0 b1 : Str} {lines : List (List Str)} {told : List Str} (D : Drawn b0 b1 lines told) : told ≠ [] := fun z => by have := D.t1; rw [z] at this; simp at this
theorem take_ret {lines : List (List Str)} {told : List Str} (h : ∀ l ∈ lines, l.length ≤ 5 ∧ ∃ nm rest, l = nm :: rest ∧ nm ≠ "return") : (lines ++ [("return" : Str) :: told]).takeWhile (fun r => !decide (r.head? = some ("return" : Str))) = lines := by
  induction lines with
  | nil => rfl
  | cons l ls ih =>
    obtain ⟨_, nm, rest, e, hn⟩ := h l (List.mem_cons_self ..)
    rw [List.cons_append, List.takeWhile_cons, ih fun l' hl' => h l' (List.mem_cons_of_mem _ hl')]
    have : (l.head? = some ("return" : Str)) = False := eq_false (by rw [e]; intro z; exact hn (Option.some.inj z))
    simp [this]
theorem page_steps {b0 b1 : Str} {lines : List (List Str)} {told : List Str} (D : Drawn b0 b1 lines told) : stepRows (rowsOf (pageOf b0 b1 lines told)) = lines := by
  rw [(page_rows D).2]
  unfold stepRows
  rw [List.drop_one, List.tail_cons]
  exact take_ret D.sh
theorem page_good {b0 b1 : Str} {lines : List (List Str)} {told : List Str} (D : Drawn b0 b1 lines told) : GoodRows (rowsOf (pageOf b0 b1 lines told)) := by
  rw [(page_rows D).2]
  obtain ⟨g0, g1, _⟩ := bd_ok _ D.bd
  refine ⟨by rw [List.length_cons, List.length_append, List.length_singleton]; have := D.l8; omega, fun r hr => ?_⟩
  have gl : ∀ {w : Str}, gwB w = true → w.length ≤ 1000 := fun h => by have := gw_len h; omega
  simp only [List.mem_cons, List.mem_append, List.not_mem_nil, or_false] at hr
  rcases hr with rfl | hr | rfl
  · refine ⟨by simp, by show 3 ≤ 1000; decide, fun w hw => gl ?_⟩
    simp only [List.mem_cons, List.not_mem_nil, or_false] at hw
    rcases hw with rfl | rfl | rfl
    · decide +kernel
    · exact g0
    · exact g1
  · obtain ⟨h5, nm, rest, e, _⟩ := D.sh r hr
    exact ⟨by rw [e]; simp, by omega, fun w hw => gl (D.gw r hr w hw)⟩
  · refine ⟨by simp, by rw [List.length_cons]; have := D.t4; omega, fun w hw => gl ?_⟩
    rcases List.mem_cons.mp hw with rfl | hw
    · decide +kernel
    · exact D.gt w hw
theorem join_len' {ws : List Str} (h : ∀ w ∈ ws, gwB w = true) : (Txt.join " " ws).length ≤ ws.length * 10 := by
  rw [TL.join_eq]
  exact join_len " " 9 ws fun w hw => gw_len (h w hw)
theorem page_lens {b0 b1 : Str} {lines : List (List Str)} {told : List Str} (D : Drawn b0 b1 lines told) : (∀ l ∈ Txt.split (pageOf b0 b1 lines told) "\n", l.length ≤ 50) ∧ (pageOf b0 b1 lines told).length ≤ 1000 := by
  obtain ⟨g0, g1, _⟩ := bd_ok _ D.bd
  have key : ∀ p ∈ Txt.join " " [("start" : Str), b0, b1] :: ((lines.map fun l => Txt.join " " l) ++ [Txt.join " " (("return" : Str) :: told)]), p.length ≤ 50 := fun p hp => by
    simp only [List.mem_cons, List.mem_append, List.mem_map, List.not_mem_nil, or_false] at hp
    rcases hp with rfl | ⟨l, hl, rfl⟩ | rfl
    · exact Nat.le_trans (join_len' fun w hw => by
        simp only [List.mem_cons, List.not_mem_nil, or_false] at hw
        rcases hw with rfl | rfl | rfl
        · decide +kernel
        · exact g0
        · exact g1) (by show 3 * 10 ≤ 50; decide)
    · exact Nat.le_trans (join_len' (D.gw l hl)) (by have := (D.sh l hl).1; omega)
    · exact Nat.le_trans (join_len' fun w hw => by
        rcases List.mem_cons.mp hw with rfl | hw
        · decide +kernel
        · exact D.gt w hw) (by rw [List.length_cons]; have := D.t4; omega)
  refine ⟨by rw [(page_rows D).1]; exact key, ?_⟩
  unfold pageOf
  rw [start_join, ret_join D.tne, TL.join_eq]
  refine Nat.le_trans (join_len "\n" 50 _ key) ?_
  rw [List.cons_append, List.length_cons, List.length_append, List.length_map, List.length_singleton]
  have h1 : ("\n" : Str).length = 1 := by decide +kernel
  rw [h1]
  have := D.l8
  omega
theorem page_ans {b0 b1 : Str} {lines : List (List Str)} {told : List Str} (D : Drawn b0 b1 lines told) : (rowsOf (pageOf b0 b1 lines told))[(stOf lines).1.length + 1]? = some (("return" : Str) :: told) ∧ ansB (stOf lines).2.1 (stOf lines).2.2 (("return" : Str) :: told) = true ∧ ¬(stOf lines).1.length + 1 + 1 < (rowsOf (pageOf b0 b1 lines told)).length := by
  obtain ⟨e, h⟩ := D.run
  have hl := (run_len _ e).1
  rw [(page_rows D).2, hl]
  refine ⟨?_, ?_, ?_⟩
  · rw [List.getElem?_cons_succ, List.getElem?_append_right (Nat.le_refl _), Nat.sub_self]
    rfl
  · unfold ansB
    rw [List.drop_one, List.tail_cons, Bool.and_eq_true, Bool.and_eq_true, List.all_eq_true]
    have := D.t1
    have := D.t4
    refine ⟨⟨decide_eq_true (by omega), decide_eq_true (by omega)⟩, fun n hn => ?_⟩
    obtain ⟨h1, h2⟩ := h n hn
    unfold kget
    rw [if_pos h1]
    exact decide_eq_true h2
  · rw [List.length_cons, List.length_append, List.length_singleton]
    omega
/-- all that making a program wants -/
structure PMk (P : Program) (w : World) (K : PySem.W.Frag) (mg : Str → Option Value) (base : Heap) (C CL f : Addr) (fd : FuncData) : Prop where
  Z : PgT K mg C
  mkk : Mk K C f
  G : FnOk P w K mg base (L2.CX P w) 6 f fd ["self", "text"] (spPgInit K C CL)
  b : Binds K fd ["self", "text"] []
  kb : KBn K fd ["self", "text"] 1 ["text"] (fun us ws => us ++ ws) (fun vs zs => vs ++ zs)
section
variable {X : Cx} {M : List Addr} {σ : L2.St} {H : Hp} {e : Expr} {pos p1 kp : Pos} {C CL f : Addr} {fd : FuncData} {b0 b1 : Str} {lines : List (List Str)} {told : List Str}
theorem pg_spec {K : PySem.W.Frag} {H0 : Hp} {y dx : Addr} {Q : VK} {E : XK} (D : Drawn b0 b1 lines told) (L : Live M H0) (hy : H0 y = none) (hdx : H0 dx = none) (hne : dx ≠ y) (q : ∀ H1, Same H0 H1 → PgAt K C (hid M H1) y (pgOf b0 b1 lines told) → Q .non H1) :
    spPgInit K C CL [.ref y, .str (pageOf b0 b1 lines told)] (upd (upd H0 dx (.own y)) y (.ins C dx [])) Q E := by
  obtain ⟨e, h⟩ := D.run
  obtain ⟨a1, a2, a3⟩ := page_ans D
  obtain ⟨l1, l2⟩ := page_lens D
  have es := page_steps D
  refine ⟨M, H0, y, dx, _, _, _, rfl, rfl, hy, hdx, hne, L, (page_rows D).2, page_good D, ⟨by omega, fun l hl => by have := l1 l hl; omega⟩, fun z => ?_, fun lo hi hs => ⟨fun k st ws h1 h2 h3 => ?_, fun st hst => ?_⟩⟩
  · rw [D.start] at z; cases z
  · rw [es] at h1 h2
    have hk : k < lines.length := (List.getElem?_eq_some_iff.mp h2).1
    have := runK_succ h1 h2
    rw [h3] at this
    have up : ∀ n, k + 1 ≤ n → runK lines n = none := fun n => by
      induction n with
      | zero => intro z; omega
      | succ n ih =>
        intro z
        by_cases c : k + 1 ≤ n
        · show (runK lines n).bind _ = none
          rw [ih c]
          rfl
        · rw [show n = k by omega]
          exact this
    rw [up lines.length hk] at e
    cases e
  · rw [es, e] at hst
    cases hst
    rw [D.start] at hs
    have e3 : loOf b0 b1 = (lo, hi) := Option.some.inj hs
    refine ⟨fun z => ?_, fun r h1 h2 h3 => absurd h3 a3, fun r h1 h2 h3 H1 s1 hp => q H1 s1 ?_⟩
    · rw [z _ a1] at a2; cases a2
    · rw [a1] at h1
      cases h1
      unfold pgOf
      rw [e3]
      exact hp
/-- Program(e) -/
theorem re_pg {Q : VK} (W : PMk X.prog X.w X.K X.mg X.base C CL f fd) (hr : Room 7 X.A) (D : Drawn b0 b1 lines told) (L : Live M H) (he : XV X σ H e (.str (pageOf b0 b1 lines told))) (q : ∀ y H1, Same H H1 → H y = none → PgAt X.K C (hid M H1) y (pgOf b0 b1 lines told) → Q (.ref y) H1) (hg : Gl X "Program" := by rfl)
    (hst : starEach [e] X.env = (false, eval e X.env) :: starEach [] X.env := by rfl) (hpl : (backTo pos (starEach [] X.env)).any (·.1) = false := by rfl) : RE X (.Call (.Name "Program" p1) [e] [] pos) σ H Q :=
  re_make W.mkk (fn0 W.G) hr W.Z.mgC W.b .nil (ra_1 (XV.go he fun H1 s1 y dx hy hdx hne => pg_spec D (L.mono s1) hy hdx hne fun H2 s2 hp => ⟨rfl, q y H2 (s1.trans s2) (s1.free hy) hp⟩) hst) hg (by decide) hst hpl
end
end Zn

set_option Elab.async false
set_option linter.all false
set_option maxRecDepth 100000
set_option maxHeartbeats 8000000
namespace Zn
open PySem PySem.Spec PyProof.Rows L2 Dl
/-! k11: the first wrong line, as the program and as the law find it -/
abbrev goodN (ks : List Str) (nm eq : Str) : Prop := (nameB nm && !decide (nm ∈ ks)) = true ∧ eq = "="
def lawK4 (ks : List Str) (kf : Str → Str) (wd x : Str) : Option Str :=
  if wd = "read" then (if kget ks kf x = some ("moment" : Str) then some ("reading" : Str) else none)
  else if wd = "time" ∨ wd = "day" then (if kget ks kf x = some ("reading" : Str) then some ("number" : Str) else none) else none
def lawK5 (ks : List Str) (kf : Str → Str) (wd x t : Str) : Option Str :=
  if wd = "between" ∨ wd = "before" then (if memO (kget ks kf x) ["moment", "reading"] = true ∧ kget ks kf t = kget ks kf x then (if wd = "between" then some ("number" : Str) else some ("truth" : Str)) else none)
  else if wd = "add" then (if memO (kget ks kf x) ["moment", "reading"] = true ∧ (numV t 6 100000).isSome = true then kget ks kf x else none)
  else if kget ks kf x = some ("reading" : Str) then
    (if wd = "place" then (if ruleB t = true then some ("moment" : Str) else none) else if wd = "days" then (if (numV t 2 60).isSome = true then some ("reading" : Str) else none) else if wd = "at" then (if (ttV t).isSome = true then some ("reading" : Str) else none) else none)
  else none
def lawKind (ks : List Str) (kf : Str → Str) (ws : List Str) : Option Str := match ws with
  | [nm, eq, wd, x] => if goodN ks nm eq then lawK4 ks kf wd x else none
  | [nm, eq, wd, x, t] => if goodN ks nm eq then lawK5 ks kf wd x t else none
  | _ => none
theorem kget_mem {ks : List Str} {kf : Str → Str} {x k : Str} (h : kget ks kf x = some k) : kf x = k := by
  unfold kget at h
  split at h
  · exact Option.some.inj h
  · cases h
theorem memO_one {o : Option Str} {k : Str} : memO o [k] = true ↔ o = some k := by
  cases o with
  | none => simp [memO]
  | some s => simp [memO]
theorem memO_kf {ks : List Str} {kf : Str → Str} {x : Str} {l : List Str} (h : memO (kget ks kf x) l = true) : kget ks kf x = some (kf x) := by
  unfold kget at h ⊢
  split
  · rfl
  · rename_i c; rw [if_neg c] at h; cases h
theorem optIV_non {o : Option Int} : optIV o = V.non ↔ o.isSome = false := by cases o <;> simp [optIV]
theorem step_bad {ks : List Str} {kf : Str → Str} {nm eq wd x : Str} {rest : List Str} (h : ¬goodN ks nm eq) : stepV ks kf (nm :: eq :: wd :: x :: rest) = none := by
  show stepV2 ks kf nm eq wd x rest = none
  unfold stepV2
  rw [if_neg h]
theorem step_non {ks : List Str} {kf : Str → Str} {nm eq wd x : Str} {rest : List Str} (h : takesL.lookup wd = none) : stepV ks kf (nm :: eq :: wd :: x :: rest) = none := by
  show stepV2 ks kf nm eq wd x rest = none
  unfold stepV2
  split
  · rw [h]
  · rfl
theorem step_l {ks : List Str} {kf : Str → Str} {nm eq wd x : Str} {rest l : List Str} (g : goodN ks nm eq) (h : takesL.lookup wd = some l) : stepV ks kf (nm :: eq :: wd :: x :: rest) = if memO (kget ks kf x) l = true then (if wd ∈ singleL then (if rest = [] then some ⟨nm, wd, x, .non⟩ else none) else stepM ks kf nm wd x rest) else none := by
  show stepV2 ks kf nm eq wd x rest = _
  unfold stepV2
  rw [if_pos g, h]
theorem takes_none {wd : Str} (h : takesL.lookup wd = none) : wd ≠ "read" ∧ wd ≠ "place" ∧ wd ≠ "add" ∧ wd ≠ "days" ∧ wd ≠ "at" ∧ wd ≠ "time" ∧ wd ≠ "day" ∧ wd ≠ "between" ∧ wd ≠ "before" := by
  have key : ∀ p ∈ takesL, wd ≠ p.1 := by
    intro p hp e
    have : ∀ q ∈ takesL, takesL.lookup q.1 ≠ none := by decide +kernel
    exact this p hp (by rw [← e]; exact h)
  exact ⟨key ("read", ["moment"]) (by decide +kernel), key ("place", ["reading"]) (by decide +kernel), key ("add", ["moment", "reading"]) (by decide +kernel), key ("days", ["reading"]) (by decide +kernel), key ("at", ["reading"]) (by decide +kernel), key ("time", ["reading"]) (by decide +kernel), key ("day", ["reading"]) (by decide +kernel), key ("between", ["moment", "reading"]) (by decide +kernel), key ("before", ["moment", "reading"]) (by decide +kernel)⟩
theorem takes_some {wd : Str} {l : List Str} (h : takesL.lookup wd = some l) : wd = "read" ∨ wd = "place" ∨ wd = "add" ∨ wd = "days" ∨ wd = "at" ∨ wd = "time" ∨ wd = "day" ∨ wd = "between" ∨ wd = "before" := by
  have key : ∀ (m : List (Str × List Str)), m.lookup wd = some l → ∃ p ∈ m, wd = p.1 := fun m => by
    induction m with
    | nil => intro h; cases h
    | cons p m ih =>
      intro h
      obtain ⟨y, u⟩ := p
      rw [List.lookup_cons] at h
      split at h
      · rename_i e
        exact ⟨_, List.mem_cons_self .., by simpa using e⟩
      · obtain ⟨p, hp, e⟩ := ih h
        exact ⟨p, List.mem_cons_of_mem _ hp, e⟩
  obtain ⟨p, hp, e⟩ := key _ h
  rw [e]
  have : ∀ q ∈ takesL, q.1 = "read" ∨ q.1 = "place" ∨ q.1 = "add" ∨ q.1 = "days" ∨ q.1 = "at" ∨ q.1 = "time" ∨ q.1 = "day" ∨ q.1 = "between" ∨ q.1 = "before" := by decide +kernel
  exact this p hp
theorem stepM_many {ks : List Str} {kf : Str → Str} {nm wd x a b : Str} {r : List Str} : stepM ks kf nm wd x (a :: b :: r) = none := rfl
theorem wne_read_place : (("read" : Str) = "place") = False := eq_false (by decide +kernel)
theorem wne_read_add : (("read" : Str) = "add") = False := eq_false (by decide +kernel)
theorem wne_read_days : (("read" : Str) = "days") = False := eq_false (by decide +kernel)
theorem wne_read_at : (("read" : Str) = "at") = False := eq_false (by decide +kernel)
theorem wne_read_time : (("read" : Str) = "time") = False := eq_false (by decide +kernel)
theorem wne_read_day : (("read" : Str) = "day") = False := eq_false (by decide +kernel)
theorem wne_read_between : (("read" : Str) = "between") = False := eq_false (by decide +kernel)
theorem wne_read_before : (("read" : Str) = "before") = False := eq_false (by decide +kernel)
theorem wne_place_read : (("place" : Str) = "read") = False := eq_false (by decide +kernel)
theorem wne_place_add : (("place" : Str) = "add") = False := eq_false (by decide +kernel)
theorem wne_place_days : (("place" : Str) = "days") = False := eq_false (by decide +kernel)
theorem wne_place_at : (("place" : Str) = "at") = False := eq_false (by decide +kernel)
theorem wne_place_time : (("place" : Str) = "time") = False := eq_false (by decide +kernel)
theorem wne_place_day : (("place" : Str) = "day") = False := eq_false (by decide +kernel)
theorem wne_place_between : (("place" : Str) = "between") = False := eq_false (by decide +kernel)
theorem wne_place_before : (("place" : Str) = "before") = False := eq_false (by decide +kernel)
theorem wne_add_read : (("add" : Str) = "read") = False := eq_false (by decide +kernel)
theorem wne_add_place : (("add" : Str) = "place") = False := eq_false (by decide +kernel)
theorem wne_add_days : (("add" : Str) = "days") = False := eq_false (by decide +kernel)
theorem wne_add_at : (("add" : Str) = "at") = False := eq_false (by decide +kernel)
theorem wne_add_time : (("add" : Str) = "time") = False := eq_false (by decide +kernel)
theorem wne_add_day : (("add" : Str) = "day") = False := eq_false (by decide +kernel)
theorem wne_add_between : (("add" : Str) = "between") = False := eq_false (by decide +kernel)
theorem wne_add_before : (("add" : Str) = "before") = False := eq_false (by decide +kernel)
theorem wne_days_read : (("days" : Str) = "read") = False := eq_false (by decide +kernel)
theorem wne_days_place : (("days" : Str) = "place") = False := eq_false (by decide +kernel)
theorem wne_days_add : (("days" : Str) = "add") = False := eq_false (by decide +kernel)
theorem wne_days_at : (("days" : Str) = "at") = False := eq_false (by decide +kernel)
theorem wne_days_time : (("days" : Str) = "time") = False := eq_false (by decide +kernel)
theorem wne_days_day : (("days" : Str) = "day") = False := eq_false (by decide +kernel)
theorem wne_days_between : (("days" : Str) = "between") = False := eq_false (by decide +kernel)
theorem wne_days_before : (("days" : Str) = "before") = False := eq_false (by decide +kernel)
theorem wne_at_read : (("at" : Str) = "read") = False := eq_false (by decide +kernel)
theorem wne_at_place : (("at" : Str) = "place") = False := eq_false (by decide +kernel)
theorem wne_at_add : (("at" : Str) = "add") = False := eq_false (by decide +kernel)
theorem wne_at_days : (("at" : Str) = "days") = False := eq_false (by decide +kernel)
theorem wne_at_time : (("at" : Str) = "time") = False := eq_false (by decide +kernel)
theorem wne_at_day : (("at" : Str) = "day") = False := eq_false (by decide +kernel)
theorem wne_at_between : (("at" : Str) = "between") = False := eq_false (by decide +kernel)
theorem wne_at_before : (("at" : Str) = "before") = False := eq_false (by decide +kernel)
theorem wne_time_read : (("time" : Str) = "read") = False := eq_false (by decide +kernel)
theorem wne_time_place : (("time" : Str) = "place") = False := eq_false (by decide +kernel)
theorem wne_time_add : (("time" : Str) = "add") = False := eq_false (by decide +kernel)
theorem wne_time_days : (("time" : Str) = "days") = False := eq_false (by decide +kernel)
theorem wne_time_at : (("time" : Str) = "at") = False := eq_false (by decide +kernel)
theorem wne_time_day : (("time" : Str) = "day") = False := eq_false (by decide +kernel)
theorem wne_time_between : (("time" : Str) = "between") = False := eq_false (by decide +kernel)
theorem wne_time_before : (("time" : Str) = "before") = False := eq_false (by decide +kernel)
theorem wne_day_read : (("day" : Str) = "read") = False := eq_false (by decide +kernel)
theorem wne_day_place : (("day" : Str) = "place") = False := eq_false (by decide +kernel)
theorem wne_day_add : (("day" : Str) = "add") = False := eq_false (by decide +kernel)
theorem wne_day_days : (("day" : Str) = "days") = False := eq_false (by decide +kernel)
theorem wne_day_at : (("day" : Str) = "at") = False := eq_false (by decide +kernel)
theorem wne_day_time : (("day" : Str) = "time") = False := eq_false (by decide +kernel)
theorem wne_day_between : (("day" : Str) = "between") = False := eq_false (by decide +kernel)
theorem wne_day_before : (("day" : Str) = "before") = False := eq_false (by decide +kernel)
theorem wne_between_read : (("between" : Str) = "read") = False := eq_false (by decide +kernel)
theorem wne_between_place : (("between" : Str) = "place") = False := eq_false (by decide +kernel)
theorem wne_between_add : (("between" : Str) = "add") = False := eq_false (by decide +kernel)
theorem wne_between_days : (("between" : Str) = "days") = False := eq_false (by decide +kernel)
theorem wne_between_at : (("between" : Str) = "at") = False := eq_false (by decide +kernel)
theorem wne_between_time : (("between" : Str) = "time") = False := eq_false (by decide +kernel)
theorem wne_between_day : (("between" : Str) = "day") = False := eq_false (by decide +kernel)
theorem wne_between_before : (("between" : Str) = "before") = False := eq_false (by decide +kernel)
theorem wne_before_read : (("before" : Str) = "read") = False := eq_false (by decide +kernel)
theorem wne_before_place : (("before" : Str) = "place") = False := eq_false (by decide +kernel)
theorem wne_before_add : (("before" : Str) = "add") = False := eq_false (by decide +kernel)
theorem wne_before_days : (("before" : Str) = "days") = False := eq_false (by decide +kernel)
theorem wne_before_at : (("before" : Str) = "at") = False := eq_false (by decide +kernel)
theorem wne_before_time : (("before" : Str) = "time") = False := eq_false (by decide +kernel)
theorem wne_before_day : (("before" : Str) = "day") = False := eq_false (by decide +kernel)
theorem wne_before_between : (("before" : Str) = "between") = False := eq_false (by decide +kernel)
theorem gv_read : givesL.lookup ("read" : Str) = some ("reading" : Str) := by decide +kernel
theorem gv_place : givesL.lookup ("place" : Str) = some ("moment" : Str) := by decide +kernel
theorem gv_add : givesL.lookup ("add" : Str) = none := by decide +kernel
theorem gv_days : givesL.lookup ("days" : Str) = none := by decide +kernel
theorem gv_at : givesL.lookup ("at" : Str) = none := by decide +kernel
theorem gv_time : givesL.lookup ("time" : Str) = some ("number" : Str) := by decide +kernel
theorem gv_day : givesL.lookup ("day" : Str) = some ("number" : Str) := by decide +kernel
theorem gv_between : givesL.lookup ("between" : Str) = some ("number" : Str) := by decide +kernel
theorem gv_before : givesL.lookup ("before" : Str) = some ("truth" : Str) := by decide +kernel
theorem step5 {ks : List Str} {kf : Str → Str} {nm eq wd x t : Str} {l : List Str} (g : goodN ks nm eq) (h : takesL.lookup wd = some l) (ns : wd ∉ singleL) : (stepV ks kf [nm, eq, wd, x, t]).map (kindS kf) = if memO (kget ks kf x) l = true then (if partV ks kf wd (kf x) t = V.non then none else some ((givesL.lookup wd).getD (kf x))) else none := by
  rw [step_l g h, if_neg ns]
  show Option.map (kindS kf) (if _ then (if partV ks kf wd (kf x) t = V.non then none else some (⟨nm, wd, x, partV ks kf wd (kf x) t⟩ : Stp)) else none) = _
  split
  · split <;> rfl
  · rfl
theorem step5s {ks : List Str} {kf : Str → Str} {nm eq wd x t : Str} {l : List Str} (g : goodN ks nm eq) (h : takesL.lookup wd = some l) (ns : wd ∈ singleL) : (stepV ks kf [nm, eq, wd, x, t]).map (kindS kf) = none := by
  rw [step_l g h, if_pos ns, if_neg (show ¬([t] = ([] : List Str)) by simp)]
  split <;> rfl
theorem part_cmpV {ks : List Str} {kf : Str → Str} {w x t : Str} (hw : w = "between" ∨ w = "before") (hx : kget ks kf x = some (kf x)) : (partV ks kf w (kf x) t = V.non) = ¬(kget ks kf t = kget ks kf x) := by
  have key : w ≠ "place" ∧ w ≠ "add" ∧ w ≠ "days" ∧ w ≠ "at" := by
    rcases hw with rfl | rfl <;> decide +kernel
  unfold partV
  rw [if_neg key.1, if_neg key.2.1, if_neg key.2.2.1, if_neg key.2.2.2, hx]
  split
  · rename_i e; simp [e]
  · rename_i e; simp [e]
theorem step_kind (ks : List Str) (kf : Str → Str) (ws : List Str) : (stepV ks kf ws).map (kindS kf) = lawKind ks kf ws := by
  match ws with
  | [] => rfl
  | [_] => rfl
  | [_, _] => rfl
  | [_, _, _] => rfl
  | nm :: eq :: wd :: x :: a :: b :: r =>
    show _ = none
    by_cases g : goodN ks nm eq
    · cases h : takesL.lookup wd with
      | none => rw [step_non h]; rfl
      | some l =>
        rw [step_l g h, stepM_many, if_neg (show ¬(a :: b :: r = []) by simp)]
        split <;> (try split) <;> rfl
    · rw [step_bad g]; rfl
  | [nm, eq, wd, x] =>
    show _ = if goodN ks nm eq then lawK4 ks kf wd x else none
    by_cases g : goodN ks nm eq
    · rw [if_pos g]
      cases h : takesL.lookup wd with
      | none =>
        obtain ⟨h1, _, _, _, _, h6, h7, _⟩ := takes_none h
        unfold lawK4
        rw [step_non h, if_neg h1, if_neg (show ¬(wd = "time" ∨ wd = "day") from fun z => z.elim h6 h7)]
        rfl
      | some l =>
        rw [step_l g h]
        have one : ∀ {k : Str}, (memO (kget ks kf x) [k] = true) = (kget ks kf x = some k) := fun {k} => propext memO_one
        have mul : ∀ {w : Str}, wd = w → w ∉ singleL → w ≠ "read" ∧ w ≠ "time" ∧ w ≠ "day" → Option.map (kindS kf) (if memO (kget ks kf x) l = true then (if wd ∈ singleL then (if ([] : List Str) = [] then some (⟨nm, wd, x, .non⟩ : Stp) else none) else stepM ks kf nm wd x []) else none) = lawK4 ks kf wd x := fun {w} e ns hn => by
          subst e
          unfold lawK4
          rw [if_neg ns, if_neg hn.1, if_neg (show ¬(wd = "time" ∨ wd = "day") from fun z => z.elim hn.2.1 hn.2.2)]
          split <;> rfl
        rcases takes_some h with e | e | e | e | e | e | e | e | e
        · subst e
          have el : l = [("moment" : Str)] := Option.some.inj (h.symm.trans (show takesL.lookup ("read" : Str) = some ([("moment" : Str)] : List Str) by decide +kernel))
          subst el
          unfold lawK4
          rw [if_pos (show ("read" : Str) ∈ singleL by decide +kernel), if_pos rfl, if_pos rfl]
          simp only [one]
          split
          · show some (kindS kf _) = _
            congr 1
          · rfl
        · exact mul e (by decide +kernel) (by decide +kernel)
        · exact mul e (by decide +kernel) (by decide +kernel)
        · exact mul e (by decide +kernel) (by decide +kernel)
        · exact mul e (by decide +kernel) (by decide +kernel)
        · subst e
          have el : l = [("reading" : Str)] := Option.some.inj (h.symm.trans (show takesL.lookup ("time" : Str) = some ([("reading" : Str)] : List Str) by decide +kernel))
          subst el
          unfold lawK4
          rw [if_pos (show ("time" : Str) ∈ singleL by decide +kernel), if_pos rfl, if_neg (show ¬("time" : Str) = "read" by decide +kernel), if_pos (show ("time" : Str) = "time" ∨ ("time" : Str) = "day" from .inl rfl)]
          simp only [one]
          split
          · show some (kindS kf _) = _
            congr 1
          · rfl
        · subst e
          have el : l = [("reading" : Str)] := Option.some.inj (h.symm.trans (show takesL.lookup ("day" : Str) = some ([("reading" : Str)] : List Str) by decide +kernel))
          subst el
          unfold lawK4
          rw [if_pos (show ("day" : Str) ∈ singleL by decide +kernel), if_pos rfl, if_neg (show ¬("day" : Str) = "read" by decide +kernel), if_pos (show ("day" : Str) = "time" ∨ ("day" : Str) = "day" from .inr rfl)]
          simp only [one]
          split
          · show some (kindS kf _) = _
            congr 1
          · rfl
        · exact mul e (by decide +kernel) (by decide +kernel)
        · exact mul e (by decide +kernel) (by decide +kernel)
    · rw [step_bad g, if_neg g]; rfl
  | [nm, eq, wd, x, t] =>
    show _ = if goodN ks nm eq then lawK5 ks kf wd x t else none
    by_cases g : goodN ks nm eq
    · rw [if_pos g]
      have one : ∀ {k : Str}, (memO (kget ks kf x) [k] = true) = (kget ks kf x = some k) := fun {k} => propext memO_one
      have nob : ∀ {w : Str}, w ≠ "between" → w ≠ "before" → ¬(w = "between" ∨ w = "before") := fun h1 h2 z => z.elim h1 h2
      cases h : takesL.lookup wd with
      | none =>
        obtain ⟨_, h2, h3, h4, h5, _, _, h8, h9⟩ := takes_none h
        rw [step_non h]
        unfold lawK5
        rw [if_neg (nob h8 h9), if_neg h3, if_neg h2, if_neg h4, if_neg h5]
        split <;> rfl
      | some l =>
        have single : ∀ {w : Str}, wd = w → w ∈ singleL → w ≠ "between" ∧ w ≠ "before" ∧ w ≠ "add" ∧ w ≠ "place" ∧ w ≠ "days" ∧ w ≠ "at" → (stepV ks kf [nm, eq, wd, x, t]).map (kindS kf) = lawK5 ks kf wd x t := fun {w} e hs hn => by
          subst e
          rw [step5s g h hs]
          unfold lawK5
          rw [if_neg (nob hn.1 hn.2.1), if_neg hn.2.2.1, if_neg hn.2.2.2.1, if_neg hn.2.2.2.2.1, if_neg hn.2.2.2.2.2]
          split <;> rfl
        rcases takes_some h with e | e | e | e | e | e | e | e | e
        · exact single e (by decide +kernel) (by decide +kernel)
        · subst e
          have el : l = [("reading" : Str)] := Option.some.inj (h.symm.trans (show takesL.lookup ("place" : Str) = some ([("reading" : Str)] : List Str) by decide +kernel))
          subst el
          rw [step5 g h (by decide +kernel)]
          unfold lawK5 partV
          simp only [wne_place_read, wne_place_add, wne_place_days, wne_place_at, wne_place_time, wne_place_day, wne_place_between, wne_place_before, gv_place, if_false, if_true, or_false, false_or, or_self, one]
          by_cases k : kget ks kf x = some ("reading" : Str)
          · by_cases c : ruleB t = true <;> simp [k, c]
          · simp [k]
        · subst e
          have el : l = [("moment" : Str), ("reading" : Str)] := Option.some.inj (h.symm.trans (show takesL.lookup ("add" : Str) = some ([("moment" : Str), ("reading" : Str)] : List Str) by decide +kernel))
          subst el
          rw [step5 g h (by decide +kernel)]
          unfold lawK5 partV
          simp only [wne_add_read, wne_add_place, wne_add_days, wne_add_at, wne_add_time, wne_add_day, wne_add_between, wne_add_before, gv_add, if_false, if_true, or_false, false_or, or_self]
          by_cases c : memO (kget ks kf x) [("moment" : Str), "reading"] = true
          · have ek := memO_kf c
            rw [if_pos c]
            cases hv : numV t 6 100000 with
            | none => simp [optIV]
            | some n =>
              rw [if_neg (show ¬(optIV (some n) = V.non) from fun z => V.noConfusion z), if_pos ⟨c, rfl⟩, ek]
              rfl
          · rw [if_neg c, if_neg (fun z => c z.1)]
        · subst e
          have el : l = [("reading" : Str)] := Option.some.inj (h.symm.trans (show takesL.lookup ("days" : Str) = some ([("reading" : Str)] : List Str) by decide +kernel))
          subst el
          rw [step5 g h (by decide +kernel)]
          unfold lawK5 partV
          simp only [wne_days_read, wne_days_place, wne_days_add, wne_days_at, wne_days_time, wne_days_day, wne_days_between, wne_days_before, gv_days, if_false, if_true, or_false, false_or, or_self, one]
          by_cases k : kget ks kf x = some ("reading" : Str)
          · have ek := kget_mem k
            rw [if_pos k, if_pos k]
            cases hv : numV t 2 60 with
            | none => simp [optIV]
            | some n =>
              rw [if_neg (show ¬(optIV (some n) = V.non) from fun z => V.noConfusion z), if_pos (show (some n).isSome = true from rfl), ek]
              rfl
          · rw [if_neg k, if_neg k]
        · subst e
          have el : l = [("reading" : Str)] := Option.some.inj (h.symm.trans (show takesL.lookup ("at" : Str) = some ([("reading" : Str)] : List Str) by decide +kernel))
          subst el
          rw [step5 g h (by decide +kernel)]
          unfold lawK5 partV
          simp only [wne_at_read, wne_at_place, wne_at_add, wne_at_days, wne_at_time, wne_at_day, wne_at_between, wne_at_before, gv_at, if_false, if_true, or_false, false_or, or_self, one]
          by_cases k : kget ks kf x = some ("reading" : Str)
          · have ek := kget_mem k
            rw [if_pos k, if_pos k]
            cases hv : ttV t with
            | none => simp [optIV]
            | some n =>
              rw [if_neg (show ¬(optIV (some n) = V.non) from fun z => V.noConfusion z), if_pos (show (some n).isSome = true from rfl), ek]
              rfl
          · rw [if_neg k, if_neg k]
        · exact single e (by decide +kernel) (by decide +kernel)
        · exact single e (by decide +kernel) (by decide +kernel)
        · subst e
          have el : l = [("moment" : Str), ("reading" : Str)] := Option.some.inj (h.symm.trans (show takesL.lookup ("between" : Str) = some ([("moment" : Str), ("reading" : Str)] : List Str) by decide +kernel))
          subst el
          rw [step5 g h (by decide +kernel)]
          by_cases c : memO (kget ks kf x) [("moment" : Str), "reading"] = true
          · have ek := memO_kf c
            rw [if_pos c]
            unfold lawK5
            simp only [part_cmpV (show ("between" : Str) = "between" ∨ ("between" : Str) = "before" from .inl rfl) ek, wne_between_read, wne_between_place, wne_between_add, wne_between_days, wne_between_at, wne_between_time, wne_between_day, wne_between_before, gv_between, if_false, if_true, or_false, false_or, or_self]
            by_cases k : kget ks kf t = kget ks kf x
            · rw [if_neg (fun z => z k), if_pos ⟨c, k⟩]
              rfl
            · rw [if_pos k, if_neg (fun z => k z.2)]
          · unfold lawK5
            rw [if_neg c, if_pos (show ("between" : Str) = "between" ∨ ("between" : Str) = "before" from .inl rfl), if_neg (fun z => c z.1)]
        · subst e
          have el : l = [("moment" : Str), ("reading" : Str)] := Option.some.inj (h.symm.trans (show takesL.lookup ("before" : Str) = some ([("moment" : Str), ("reading" : Str)] : List Str) by decide +kernel))
          subst el
          rw [step5 g h (by decide +kernel)]
          by_cases c : memO (kget ks kf x) [("moment" : Str), "reading"] = true
          · have ek := memO_kf c
            rw [if_pos c]
            unfold lawK5
            simp only [part_cmpV (show ("before" : Str) = "between" ∨ ("before" : Str) = "before" from .inr rfl) ek, wne_before_read, wne_before_place, wne_before_add, wne_before_days, wne_before_at, wne_before_time, wne_before_day, wne_before_between, gv_before, if_false, if_true, or_false, false_or, or_self]
            by_cases k : kget ks kf t = kget ks kf x
            · rw [if_neg (fun z => z k), if_pos ⟨c, k⟩]
              rfl
            · rw [if_pos k, if_neg (fun z => k z.2)]
          · unfold lawK5
            rw [if_neg c, if_pos (show ("before" : Str) = "between" ∨ ("before" : Str) = "before" from .inr rfl), if_neg (fun z => c z.1)]
    · rw [step_bad g, if_neg g]; rfl
end Zn

set_option Elab.async false
set_option linter.all false
set_option maxRecDepth 100000
set_option maxHeartbeats 8000000
namespace Zn
open PySem PySem.Spec PyProof.Rows L2 Dl
/-! k11: the first wrong line -/
def goW : Nat → List (List Str) → List Str → (Str → Str) → Option Nat
  | n, [], _, _ => some n
  | n, ws :: rest, ks, kf => if ws.head? = some ("return" : Str) then (if ansB ks kf ws = true then (if rest = [] then none else some (n + 1)) else some n)
    else match lawKind ks kf ws with
      | none => some n
      | some k => if 8 < n then some n else goW (n + 1) rest (Bf.ins ks (ws.headD "")) (Bf.up kf (ws.headD "") k)
def wrongW (rows : List (List Str)) : Option Nat := match rows with
  | [] => some 0
  | r0 :: rest => if startV r0 = none then some 0 else goW 1 rest ["now"] fun _ => "moment"
theorem goW_step {n : Nat} {ws : List Str} {rest : List (List Str)} {st st' : St3} (hr : ¬ws.head? = some ("return" : Str)) (h : stepSt n st ws = some st') : goW (n + 1) (ws :: rest) st.2.1 st.2.2 = goW (n + 2) rest st'.2.1 st'.2.2 := by
  unfold stepSt at h
  split at h
  · cases h
  · rename_i s hs
    split at h
    · cases h
    · rename_i hn
      cases h
      have ek : lawKind st.2.1 st.2.2 ws = some (kindS st.2.2 s) := by rw [← step_kind, hs]; rfl
      obtain ⟨r, e, _⟩ := stepV_form hs
      have eh : ws.headD "" = s.nm := by rw [e]; rfl
      show (if ws.head? = some ("return" : Str) then _ else match lawKind st.2.1 st.2.2 ws with
        | none => some (n + 1)
        | some k => if 8 < n + 1 then some (n + 1) else goW (n + 1 + 1) rest (Bf.ins st.2.1 (ws.headD "")) (Bf.up st.2.2 (ws.headD "") k)) = _
      rw [if_neg hr, ek, eh]
      show (if 8 < n + 1 then _ else _) = _
      rw [if_neg hn]
theorem goW_bad {n : Nat} {ws : List Str} {rest : List (List Str)} {st : St3} (hr : ¬ws.head? = some ("return" : Str)) (h : stepSt n st ws = none) : goW (n + 1) (ws :: rest) st.2.1 st.2.2 = some (n + 1) := by
  show (if ws.head? = some ("return" : Str) then _ else match lawKind st.2.1 st.2.2 ws with
        | none => some (n + 1)
        | some k => if 8 < n + 1 then some (n + 1) else goW (n + 1 + 1) rest (Bf.ins st.2.1 (ws.headD "")) (Bf.up st.2.2 (ws.headD "") k)) = _
  rw [if_neg hr]
  unfold stepSt at h
  split at h
  · rename_i hs
    have ek : lawKind st.2.1 st.2.2 ws = none := by rw [← step_kind, hs]; rfl
    rw [ek]
  · rename_i s hs
    have ek : lawKind st.2.1 st.2.2 ws = some (kindS st.2.2 s) := by rw [← step_kind, hs]; rfl
    split at h
    · rename_i hn
      rw [ek]
      show (if 8 < n + 1 then _ else _) = _
      rw [if_pos hn]
    · cases h
theorem tw_get {rows : List (List Str)} {k : Nat} {ws : List Str} (h : (rows.takeWhile fun r => !decide (r.head? = some ("return" : Str)))[k]? = some ws) : rows[k]? = some ws ∧ ¬ws.head? = some ("return" : Str) := by
  induction rows generalizing k with
  | nil => simp at h
  | cons r rs ih =>
    rw [List.takeWhile_cons] at h
    split at h
    · rename_i hr
      cases k with
      | zero =>
        have e : r = ws := by simpa using h
        subst e
        exact ⟨rfl, by simpa using hr⟩
      | succ k =>
        rw [List.getElem?_cons_succ] at h ⊢
        exact ih h
    · simp at h
theorem tw_end (rows : List (List Str)) : rows[(rows.takeWhile fun r => !decide (r.head? = some ("return" : Str))).length]? = none ∨ ∃ ws, rows[(rows.takeWhile fun r => !decide (r.head? = some ("return" : Str))).length]? = some ws ∧ ws.head? = some ("return" : Str) := by
  induction rows with
  | nil => exact .inl rfl
  | cons r rs ih =>
    rw [List.takeWhile_cons]
    split
    · rw [List.length_cons, List.getElem?_cons_succ]
      exact ih
    · rename_i hr
      exact .inr ⟨r, rfl, by simpa using hr⟩
theorem goW_run {rows : List (List Str)} : ∀ (k : Nat) {st : St3}, runK (rows.takeWhile fun r => !decide (r.head? = some ("return" : Str))) k = some st → goW 1 rows ["now"] (fun _ => "moment") = goW (k + 1) (rows.drop k) st.2.1 st.2.2
  | 0, st, h => by cases h; rfl
  | k + 1, st, h => by
    generalize hsr : (rows.takeWhile fun r => !decide (r.head? = some ("return" : Str))) = sr at h
    cases e : runK sr k with
    | none =>
      have : runK sr (k + 1) = none := by show (runK sr k).bind _ = _; rw [e]; rfl
      rw [this] at h; cases h
    | some s0 =>
      cases hl : sr[k]? with
      | none =>
        have : runK sr (k + 1) = none := by show (runK sr k).bind _ = _; rw [e, Option.bind_some, hl]; rfl
        rw [this] at h; cases h
      | some ws =>
        have hl' := hl
        rw [← hsr] at hl' e
        obtain ⟨h1, h2⟩ := tw_get hl'
        rw [goW_run k e]
        rw [hsr] at e
        rw [runK_succ e hl] at h
        have hk : k < rows.length := (List.getElem?_eq_some_iff.mp h1).1
        have ed : rows.drop k = ws :: rows.drop (k + 1) := by
          rw [List.drop_eq_getElem_cons hk]
          congr 1
          exact (List.getElem?_eq_some_iff.mp h1).2
        rw [ed, goW_step h2 h]
end Zn

set_option Elab.async false
set_option linter.all false
set_option maxRecDepth 100000
set_option maxHeartbeats 8000000
namespace Zn
open PySem PySem.Spec PyProof.Rows L2 Dl
/-! k11: Program(text) by the first wrong line -/
theorem goW_ret {n : Nat} {ws : List Str} {rest : List (List Str)} {ks : List Str} {kf : Str → Str} (h : ws.head? = some ("return" : Str)) : goW n (ws :: rest) ks kf = if ansB ks kf ws = true then (if rest = [] then none else some (n + 1)) else some n := by
  show (if ws.head? = some ("return" : Str) then _ else _) = _
  rw [if_pos h]
theorem drop_get {α : Type} {l : List α} {n : Nat} {x : α} (h : l[n]? = some x) : l.drop n = x :: l.drop (n + 1) := by
  have hn := (List.getElem?_eq_some_iff.mp h).1
  rw [List.drop_eq_getElem_cons hn]
  congr 1
  exact (List.getElem?_eq_some_iff.mp h).2
theorem ansB_head {ks : List Str} {kf : Str → Str} {a b : List Str} (h : a.drop 1 = b.drop 1) : ansB ks kf a = ansB ks kf b := by
  unfold ansB
  rw [h]
theorem pg_spec11 {K : PySem.W.Frag} {H0 : Hp} {y dx C CL : Addr} {Q : VK} {E : XK} {M : List Addr} {x : Str} {r0 : List Str} {rs : List (List Str)} (er : rowsOf x = r0 :: rs) (hg : GoodRows (rowsOf x)) (hl : x.length ≤ 10000 ∧ ∀ l ∈ Txt.split x "\n", l.length ≤ 10000) (L : Live M H0) (hy : H0 y = none) (hdx : H0 dx = none) (hne : dx ≠ y)
    (hE : ∀ i, wrongW (rowsOf x) = some i → OutF E CL "index" (.int (i : Int)) H0) (hQ : wrongW (rowsOf x) = none → ∀ H1, Same H0 H1 → Q .non H1) :
    spPgInit K C CL [.ref y, .str x] (upd (upd H0 dx (.own y)) y (.ins C dx [])) Q E := by
  have esr : stepRows (rowsOf x) = rs.takeWhile fun r => !decide (r.head? = some ("return" : Str)) := by
    rw [er]
    rfl
  refine ⟨M, H0, y, dx, x, r0, rs, rfl, rfl, hy, hdx, hne, L, er, hg, hl, fun z => ?_, fun lo hi hs => ?_⟩
  · have := hE 0 (by rw [er]; show (if startV r0 = none then _ else _) = _; rw [if_pos z])
    exact this
  · have ew : wrongW (rowsOf x) = goW 1 rs ["now"] fun _ => "moment" := by
      rw [er]
      show (if startV r0 = none then _ else _) = _
      rw [if_neg (by rw [hs]; simp)]
    rw [esr]
    refine ⟨fun k st ws h1 h2 h3 => ?_, fun st hst => ?_⟩
    · refine hE (k + 1) ?_
      obtain ⟨g1, g2⟩ := tw_get h2
      rw [ew, goW_run k h1, drop_get g1, goW_bad g2 h3]
    · have hn := (run_len _ hst).1
      have eg := ew.trans (goW_run _ hst)
      rw [← hn] at eg
      have te := tw_end rs
      rw [← hn] at te
      have eget : (rowsOf x)[st.1.length + 1]? = rs[st.1.length]? := by rw [er, List.getElem?_cons_succ]
      have elen : (rowsOf x).length = rs.length + 1 := by rw [er, List.length_cons]
      refine ⟨fun hno => hE _ ?_, fun r h1 h2 h3 => hE _ ?_, fun r h1 h2 h3 H1 s1 _ => hQ ?_ H1 s1⟩
      · rcases te with e | ⟨ws, e, hr⟩
        · rw [eg, List.drop_eq_nil_of_le (List.getElem?_eq_none_iff.mp e)]
          rfl
        · rw [eg, drop_get e, goW_ret hr, if_neg (by rw [hno ws (eget.trans e)]; simp)]
      · rw [eget] at h1
        rcases te with e | ⟨ws, e, hr⟩
        · rw [e] at h1; cases h1
        · rw [e] at h1
          cases h1
          rw [eg, drop_get e, goW_ret hr, if_pos h2, if_neg (fun z => by
            have := List.drop_eq_nil_iff.mp z
            omega)]
      · rw [eget] at h1
        rcases te with e | ⟨ws, e, hr⟩
        · rw [e] at h1; cases h1
        · rw [e] at h1
          cases h1
          rw [eg, drop_get e, goW_ret hr, if_pos h2, if_pos (List.drop_eq_nil_of_le (by omega))]
end Zn

set_option Elab.async false
set_option linter.all false
set_option maxRecDepth 100000
set_option maxHeartbeats 8000000
namespace Zn
open PySem PySem.Spec PyProof.Rows L2 Dl
/-! from N8 -/
def bothS : Str := "abcdefghijklmnopqrstuvwxyz0123456789"
theorem both_eq : bothS.cps.toList = lets ++ digs := by decide +kernel
section
variable {P : Program} {w : World} {K : PySem.W.Frag} {mg : Str → Option Value} {base : Heap} {C : Addr}
theorem fm_out (x : List Nat) : x.filterMap (fun c => if c ∈ bothS.cps.toList then (none : Option PyData) else some (.str (sg c))) = [] ↔ (x.all fun c => decide (c ∈ lets) || decide (c ∈ digs)) = true := by
  rw [List.all_eq_true]
  constructor
  · intro h c hc
    refine Classical.byContradiction fun n => ?_
    have n2 : ¬ c ∈ bothS.cps.toList := fun z => n (by
      rw [both_eq] at z
      rcases List.mem_append.mp z with z | z
      · rw [decide_eq_true z]; rfl
      · rw [decide_eq_true z]; exact Bool.or_true _)
    have m : PyData.str (sg c) ∈ x.filterMap (fun c => if c ∈ bothS.cps.toList then (none : Option PyData) else some (.str (sg c))) := List.mem_filterMap.mpr ⟨c, hc, if_neg n2⟩
    rw [h] at m
    simp at m
  · intro h
    refine List.filterMap_eq_nil_iff.mpr fun c hc => if_pos ?_
    have z := h c hc
    rw [both_eq]
    rw [Bool.or_eq_true, decide_eq_true_eq, decide_eq_true_eq] at z
    exact List.mem_append.mpr z
end
/-! from N9 -/
theorem shaped_nil0 : SeqAt.shaped (.list []) = true := by decide +kernel
theorem ok_sg {x : Str} {c : Nat} (h : PyData.strOk x = true) (hc : c ∈ x.cps.toList) : PyData.strOk (sg c) = true := by
  unfold PyData.strOk at *
  rw [← Array.all_toList, List.all_eq_true] at h
  have := h c hc
  simpa [sg] using this
theorem strs_in {x : Str} {y : List Nat} (h : PyData.strOk x = true) : ∀ d ∈ x.cps.toList.filterMap (fun c => if c ∈ y then (none : Option PyData) else some (.str (sg c))), ∃ z : Str, d = .str z ∧ PyData.strOk z = true := fun d hd => by
  obtain ⟨c, m, e⟩ := List.mem_filterMap.mp hd
  split at e
  · cases e
  · exact ⟨sg c, (Option.some.inj e).symm, ok_sg h m⟩
/-! from N10 -/
theorem sg_colon {m : Nat} : decide (sg m = (":" : Str)) = decide (m = 58) := by
  by_cases z : m = 58
  · subst z; decide +kernel
  · rw [decide_eq_false z, decide_eq_false fun y => z (by
      have y2 : sg m = sg 58 := y
      unfold sg at y2
      injection y2 with y3
      simpa using y3)]
theorem fm_dig (l : List Nat) : l.filterMap (fun c => if c ∈ digS.cps.toList then (none : Option PyData) else some (.str (sg c))) = [] ↔ (l.all fun c => decide (c ∈ digs)) = true := by
  rw [List.all_eq_true, List.filterMap_eq_nil_iff]
  constructor
  · intro h c hc
    have z := h c hc
    by_cases y : c ∈ digS.cps.toList
    · exact decide_eq_true y
    · rw [if_neg y] at z; cases z
  · intro h c hc
    exact if_pos (of_decide_eq_true (h c hc))
theorem ok_four {a b m d e : Nat} (h : PyData.strOk ⟨#[a, b, m, d, e]⟩ = true) : PyData.strOk ⟨#[a, b, d, e]⟩ = true := by
  unfold PyData.strOk at *
  rw [← Array.all_toList] at *
  simp only [List.all_cons, Bool.and_eq_true, List.all_nil] at *
  exact ⟨h.1, h.2.1, h.2.2.2.1, h.2.2.2.2.1, trivial⟩
/-! from B7 -/
section
variable {X : Cx} {M : List Addr} {σ : L2.St} {H : Hp} {o i a b : Expr} {pos : Pos} {W : Addr} {ks : List Str} {f : Str → V} {x y : Str}
theorem xt_din (hu : X.A.units + 1 < cLine) (hk : XD X M σ H i (.str x)) (ho : XV X σ H o (.ref W)) (hW : DM H W ks f) (hm : behindInMarks .In o = false := by rfl) : XT X σ H (.Compare i [.In] [o] pos) (decide (x ∈ ks)) := fun H1 s Q q =>
  ⟨_, pt_cmp (pc_din hu re_ re_) hm, hk H1 s _ fun y H2 s2 hy => ho H2 (s.trans s2) _ fun H3 s3 => by
    rw [dp_str hy]
    refine ⟨W, _, rfl, ((hW.up s).up (s2.trans s3)).gets, _, rfl, ?_⟩
    by_cases m : x ∈ ks
    · rw [decide_eq_true m] at q
      rw [if_pos m]
      exact q H3 (s2.trans s3)
    · rw [decide_eq_false m] at q
      rw [if_neg m]
      exact q H3 (s2.trans s3)⟩
end
end Zn

set_option Elab.async false
set_option linter.all false
set_option maxRecDepth 100000
set_option maxHeartbeats 8000000
namespace Zn
open PySem PySem.Spec PyProof.Rows L2 Dl
/-! k11: _law_is_name -/
abbrev sLName : Stmt := top 44
def RLName (ds : List PyData) (d : PyData) : Prop := ∃ x : Str, ds = [.str x] ∧ x.length ≤ 1000 ∧ PyData.strOk x = true ∧ d = .bool (nameB x)
section
variable {P : Program} {w : World} {K : PySem.W.Frag} {mg : Str → Option Value} {base : Heap}
theorem scLName : FnScope ["_law_word", "_law_sign"] ["_law_word"] (defScope sLName) := ⟨rfl, rfl, rfl, by decide +kernel, rfl, by decide +kernel, by decide +kernel⟩
theorem ok_lname {f : Addr} {fd : FuncData} (T : Nm mg) (F : Df K mg "_law_is_name" sLName ["_law_word"] f fd) : FnOk P w K mg base CX0 1 f fd ["_law_word"] (spR K RLName) := by
  refine F.F.ok scLName (fun vs H Q E h => ?_) (fun cdv A outer s H vs Q E hr h => ?_)
  · obtain ⟨M, ds, d, L, hd, ⟨x, rfl, _⟩, q⟩ := h
    exact dpa_len hd
  · obtain ⟨M, ds, d, L, hd, ⟨x, rfl, hz, hok, rfl⟩, q⟩ := h
    cases hd with
    | cons h1 hd =>
      cases hd
      have e1 := dp_str h1
      subst e1
      have fin : ∀ {b : Bool} {H1 : Hp}, b = nameB x → Same H H1 → Q (.bl b) H1 := fun {b H1} e s => by rw [e]; exact q _ H1 s (.bl _)
      by_cases hl : (decide ((1 : Int) ≤ x.length) && decide ((x.length : Int) ≤ 8)) = true
      · obtain ⟨c0, cs, hcs⟩ : ∃ c0 cs, x.cps.toList = c0 :: cs := by
          cases z : x.cps.toList with
          | nil =>
            have hz0 : x.length = 0 := by show x.cps.size = 0; rw [← Array.length_toList, z]; rfl
            rw [Bool.and_eq_true] at hl
            have := of_decide_eq_true hl.1
            omega
          | cons c0 cs => exact ⟨c0, cs, rfl⟩
        refine rb_if (k := !decide (c0 ∈ lets)) (XT.to (xt_or2 (k1 := false) (k2 := !decide (c0 ∈ lets)) ((xt_not (xt_chainI (M := []) op_le op_le xd_int (xd_lenStr T.len (xd_name 0 rfl (.str x)) (by omega)) xd_int)).to (by rw [hl]; rfl)) fun _ => xt_notInSg (M := []) (c := c0) (x := letS) (xd_ixS (c := c0) (fun _ _ => rfl) (xd_name 0 rfl (.str x)) xd_int (by omega) (by rw [hcs]; unfold atI ixN; simp)) xd_str) rfl) (fun ek H1 s1 => ?_) (fun ek H1 s1 => rb_nil ?_)
        · have e0 : false = nameB x := by
            unfold nameB
            rw [hcs]
            show false = (_ && (decide (c0 ∈ lets) && _))
            have z : decide (c0 ∈ lets) = false := by simpa using ek
            rw [z, Bool.false_and, Bool.and_false]
          exact rb_ret (M := []) xd_bl fun v2 H2 s2 hv2 => by rw [dp_bl hv2]; exact fin e0 (s1.trans s2)
        · have z : decide (c0 ∈ lets) = true := by simpa using ek
          refine rb_ret (M := []) (d := .bool (decide (x.cps.toList.filterMap (fun c => if c ∈ bothS.cps.toList then (none : Option PyData) else some (.str (sg c))) = []))) ((xd_eqD hr.units (XL.dd (xl_compS (own := [("_law_sign", 1)]) (fun c => if c ∈ bothS.cps.toList then (none : Option PyData) else some (.str (sg c))) Live.nil scLName.nd (xd_name 0 rfl (.str x))
            (blkOk_by (own := [("_law_sign", 1)]) (N := ["_law_word", "_law_sign"]) (sc := defScope sLName) (by decide +kernel)) (by omega) (fun p c H2 hc hp s2 Lp => ?comp)) Live.nil) (xd_lst Live.nil xa_nil) (shaped_strs (strs_in hok)) shaped_nil0).to (by rw [eqv_nilL])) fun v3 H3 s3 hv3 => ?_
          case comp =>
            intro s0 H0 C0 cl fp
            refine rg_name 1 ⟨rfl, bt_one (k := !decide (c ∈ bothS.cps.toList)) (fun s0 H0 C0 cl fp => xt_notInSg (M := []) (x := bothS) (xd_name 1 rfl (.str _)) xd_str) fun H4 s4 => ⟨s4, ?_⟩⟩ scLName.nd
            by_cases m : c ∈ bothS.cps.toList
            · exact .inr ⟨by rw [decide_eq_true m]; rfl, if_pos m⟩
            · exact .inl ⟨by rw [decide_eq_false m]; rfl, _, if_neg m, fun s0 H0 C0 cl fp => XV.go (xv_name 1 rfl) fun H5 s5 => ⟨s5, .str (sg c)⟩⟩
          rw [dp_bl hv3]
          refine fin ?_ (s1.trans s3)
          have e3 : nameB x = (x.cps.toList.all fun c => decide (c ∈ lets) || decide (c ∈ digs)) := by
            unfold nameB
            rw [hl, Bool.true_and]
            conv => lhs; rw [hcs]
            show (decide (c0 ∈ lets) && _) = _
            rw [z, Bool.true_and, hcs]
          rw [e3]
          by_cases y : (x.cps.toList.all fun c => decide (c ∈ lets) || decide (c ∈ digs)) = true
          · rw [y, decide_eq_true ((fm_out _).mpr y)]
          · rw [Bool.not_eq_true] at y
            rw [y, decide_eq_false fun z2 => by rw [(fm_out _).mp z2] at y; cases y]
      · have hl2 : (decide ((1 : Int) ≤ x.length) && decide ((x.length : Int) ≤ 8)) = false := by simpa using hl
        have e0 : false = nameB x := by unfold nameB; rw [hl2]; rfl
        refine rb_ifT ((xt_or2 (k1 := true) (k2 := true) ((xt_not (xt_chainI (M := []) op_le op_le xd_int (xd_lenStr T.len (xd_name 0 rfl (.str x)) (by omega)) xd_int)).to (by rw [hl2]; rfl)) fun z => absurd z (by decide)).to rfl) fun H1 s1 => ?_
        exact rb_ret (M := []) xd_bl fun v2 H2 s2 hv2 => by rw [dp_bl hv2]; exact fin e0 (s1.trans s2)
end
end Zn

set_option Elab.async false
set_option linter.all false
set_option maxRecDepth 100000
set_option maxHeartbeats 8000000
namespace Zn
open PySem PySem.Spec PyProof.Rows L2 Dl
/-! k11: _law_is_number -/
abbrev sLNum : Stmt := top 45
theorem cutS_to (x : Str) (b : Nat) : (cutS x none (some (b : Int))).cps.toList = x.cps.toList.take b := by
  unfold cutS
  show (x.cps.toList.drop _).take _ = _
  rw [HT.sIx_none, HT.sIx_nat, List.drop_zero, Nat.sub_zero]
  have hx : x.length = x.cps.toList.length := TL.len_tl x
  rw [hx]
  by_cases h : b ≤ x.cps.toList.length
  · rw [Nat.min_eq_left h]
  · rw [Nat.min_eq_right (by omega), List.take_length, List.take_of_length_le (by omega)]
theorem cutS_from (x : Str) (a : Nat) : (cutS x (some (a : Int)) none).cps.toList = x.cps.toList.drop a := by
  unfold cutS
  show (x.cps.toList.drop _).take _ = _
  rw [HT.sIx_none, HT.sIx_nat]
  have hx : x.length = x.cps.toList.length := TL.len_tl x
  rw [hx]
  by_cases h : a ≤ x.cps.toList.length
  · rw [Nat.min_eq_left h]
    exact List.take_of_length_le (by simp)
  · rw [Nat.min_eq_right (by omega), List.drop_length, List.drop_of_length_le (by omega)]
    simp
theorem str_tl {x y : Str} : x = y ↔ x.cps.toList = y.cps.toList := ⟨fun h => by rw [h], fun h => TL.ext_tl h⟩
theorem minus_tl : ("-" : Str).cps.toList = [45] := by decide +kernel
theorem empty_tl : ("" : Str).cps.toList = [] := by decide +kernel
theorem zero_tl : ("0" : Str).cps.toList = [48] := by decide +kernel
theorem fold_ge : ∀ (cs : List Nat) (acc : Nat), acc * 10 ^ cs.length ≤ cs.foldl (fun acc c => acc * 10 + (c - 48)) acc
  | [], acc => by simp
  | c :: cs, acc => by
    rw [List.foldl_cons, List.length_cons, Nat.pow_succ]
    refine Nat.le_trans ?_ (fold_ge cs _)
    rw [Nat.mul_comm (10 ^ cs.length) 10, ← Nat.mul_assoc]
    exact Nat.mul_le_mul_right _ (Nat.le_add_right _ _)
theorem bareL_cons {c : Nat} {t : List Nat} (h : c ≠ 45) : bareL (c :: t) = c :: t := by
  unfold bareL
  split
  · rename_i q; cases q; exact absurd rfl h
  · rfl
theorem numI_abs {x : Str} (h1 : bareL x.cps.toList ≠ []) (h2 : (bareL x.cps.toList).all digB = true) (hl : x.length ≤ 4300) : (numI x).natAbs = PySem.NumText.digitsVal (bareL x.cps.toList) := by
  cases e : x.cps.toList with
  | nil => rw [e] at h1; exact absurd rfl h1
  | cons c t =>
    rw [e] at h1 h2
    by_cases g : c = 45
    · subst g
      have h1 : t ≠ [] := h1
      have h2 : t.all digB = true := h2
      unfold numI
      rw [PySem.intText_neg e (fun y hy => dig_bnd (List.all_eq_true.mp h2 y hy)) h1 hl]
      show (-((PySem.NumText.digitsVal t : Nat) : Int)).natAbs = PySem.NumText.digitsVal t
      omega
    · rw [bareL_cons g] at h2 ⊢
      unfold numI
      rw [PySem.intText_digits (fun y hy => by rw [e] at hy; exact dig_bnd (List.all_eq_true.mp h2 y hy)) (by rw [e]; simp) hl, e]
      rfl
def numLaw (x : Str) (most : Int) : Bool := (decide (bareL x.cps.toList ≠ []) && ((bareL x.cps.toList).all digB && decide ((bareL x.cps.toList).length ≤ 6))) && ((!decide ((bareL x.cps.toList).head? = some 48) || decide (x = "0")) && decide ((PySem.NumText.digitsVal (bareL x.cps.toList) : Int) ≤ most))
theorem num_law {x : Str} {dg most : Int} (hdm : (dg = 6 ∧ most = 100000) ∨ (dg = 2 ∧ most = 60)) (hl : x.length ≤ 4300) : (numV x dg most).isSome = numLaw x most := by
  have e1 : (numV x dg most).isSome = (numB x dg && decide ((numI x).natAbs ≤ most.natAbs)) := by
    unfold numV
    cases numB x dg with
    | false => rfl
    | true =>
      rw [if_pos rfl, Bool.true_and]
      by_cases h : (numI x).natAbs ≤ most.natAbs
      · rw [if_pos h, decide_eq_true h]; rfl
      · rw [if_neg h, decide_eq_false h]; rfl
  rw [e1]
  unfold numB numLaw
  by_cases h1 : bareL x.cps.toList = []
  · rw [h1]; simp
  cases h2 : (bareL x.cps.toList).all digB with
  | false => simp
  | true =>
    have ha := numI_abs h1 h2 hl
    rw [ha]
    obtain ⟨c, t, e⟩ : ∃ c t, bareL x.cps.toList = c :: t := by
      cases e : bareL x.cps.toList with
      | nil => exact absurd e h1
      | cons c t => exact ⟨c, t, rfl⟩
    rw [e]
    rw [e] at h2
    have hc := dig_bnd (List.all_eq_true.mp h2 c (by simp))
    cases h0 : (!decide ((c :: t).head? = some 48) || decide (x = "0")) with
    | false => simp
    | true =>
      have hv : PySem.NumText.digitsVal (c :: t) = t.foldl (fun acc c => acc * 10 + (c - 48)) (0 * 10 + (c - 48)) := rfl
      have hge := fold_ge t (0 * 10 + (c - 48))
      rw [← hv] at hge
      have hone : c ≠ 48 ∨ t = [] := by
        rw [Bool.or_eq_true] at h0
        rcases h0 with h0 | h0
        · left
          simpa using h0
        · right
          have hx := of_decide_eq_true h0
          rw [hx, zero_tl, bareL_cons (by decide)] at e
          exact (List.cons.inj e).2.symm
      have hlen : (c :: t).length = t.length + 1 := rfl
      rw [hlen]
      simp only [Bool.true_and, Bool.and_true, ne_eq, List.cons_ne_nil, not_false_eq_true, decide_true]
      rcases hdm with ⟨rfl, rfl⟩ | ⟨rfl, rfl⟩
      · by_cases z : t.length + 1 ≤ 6
        · rw [decide_eq_true z, decide_eq_true (show (1 : Int) ≤ ((t.length + 1 : Nat) : Int) by omega), decide_eq_true (show ((t.length + 1 : Nat) : Int) ≤ 6 by omega), Bool.true_and, Bool.true_and, Bool.true_and]
          have : (PySem.NumText.digitsVal (c :: t) ≤ (100000 : Int).natAbs) ↔ ((PySem.NumText.digitsVal (c :: t) : Nat) : Int) ≤ 100000 := by
            have : (100000 : Int).natAbs = 100000 := rfl
            omega
          exact decide_eq_decide.mpr this
        · rw [decide_eq_false z, decide_eq_false (show ¬((t.length + 1 : Nat) : Int) ≤ 6 by omega)]
          simp
      · have h60 : (60 : Int).natAbs = 60 := rfl
        by_cases z : t.length + 1 ≤ 2
        · rw [decide_eq_true (show t.length + 1 ≤ 6 by omega), decide_eq_true (show (1 : Int) ≤ ((t.length + 1 : Nat) : Int) by omega), decide_eq_true (show ((t.length + 1 : Nat) : Int) ≤ 2 by omega), Bool.true_and, Bool.true_and, Bool.true_and]
          have : (PySem.NumText.digitsVal (c :: t) ≤ (60 : Int).natAbs) ↔ ((PySem.NumText.digitsVal (c :: t) : Nat) : Int) ≤ 60 := by omega
          exact decide_eq_decide.mpr this
        · have hp : 10 ^ 2 ≤ 10 ^ t.length := Nat.pow_le_pow_right (by decide) (by omega)
          have hb : 1 * 10 ^ t.length ≤ PySem.NumText.digitsVal (c :: t) := Nat.le_trans (Nat.mul_le_mul_right _ (by
            rcases hone with h | h
            · omega
            · rw [h] at z; simp at z)) hge
          rw [decide_eq_false (show ¬((t.length + 1 : Nat) : Int) ≤ 2 by omega), decide_eq_false (show ¬((PySem.NumText.digitsVal (c :: t) : Nat) : Int) ≤ 60 by omega)]
          simp
def RLNum (ds : List PyData) (d : PyData) : Prop := ∃ (x : Str) (dg most : Int), ds = [.str x, .int most] ∧ x.length ≤ 1000 ∧ PyData.strOk x = true ∧ ((dg = 6 ∧ most = 100000) ∨ (dg = 2 ∧ most = 60)) ∧ d = .bool (numV x dg most).isSome
theorem ok_sub {x y : Str} (h : PyData.strOk x = true) (hs : ∀ c ∈ y.cps.toList, c ∈ x.cps.toList) : PyData.strOk y = true := by
  unfold PyData.strOk at *
  rw [← Array.all_toList, List.all_eq_true] at *
  exact fun c hc => h c (hs c hc)
theorem bare_mem {l : List Nat} {c : Nat} (h : c ∈ bareL l) : c ∈ l := by
  unfold bareL at h
  split at h
  · exact List.mem_cons_of_mem _ h
  · exact h
section
variable {P : Program} {w : World} {K : PySem.W.Frag} {mg : Str → Option Value} {base : Heap}
abbrev lnN : List Str := ["_law_word", "_law_most", "_law_plain", "_law_sign"]
theorem scLNum : FnScope lnN ["_law_word", "_law_most"] (defScope sLNum) := ⟨rfl, rfl, rfl, by decide +kernel, rfl, by decide +kernel, by decide +kernel⟩
theorem ok_lnum {f : Addr} {fd : FuncData} (T : Nm mg) (F : Df K mg "_law_is_number" sLNum ["_law_word", "_law_most"] f fd) : FnOk P w K mg base CX0 1 f fd ["_law_word", "_law_most"] (spR K RLNum) := by
  refine F.F.ok scLNum (fun vs H Q E h => ?_) (fun cdv A outer s H vs Q E hr h => ?_)
  · obtain ⟨M, ds, d, L, hd, ⟨x, dg, most, rfl, _⟩, q⟩ := h
    exact dpa_len hd
  · obtain ⟨M, ds, d, L, hd, ⟨x, dg, most, rfl, hz, hok, hdm, rfl⟩, q⟩ := h
    cases hd with
    | cons h1 hd => cases hd with
      | cons h2 hd =>
        cases hd
        have e1 := dp_str h1
        have e2 := dp_int h2
        subst e1 e2
        rw [num_law hdm (by omega)] at q
        have fin : ∀ {b : Bool} {H1 : Hp}, b = numLaw x most → Same H H1 → Q (.bl b) H1 := fun {b H1} e s => by rw [e]; exact q _ H1 s (.bl _)
        have hxl : x.length = x.cps.toList.length := TL.len_tl x
        -- _law_plain
        obtain ⟨pl, epl, hpl⟩ : ∃ pl : Str, pl.cps.toList = bareL x.cps.toList ∧ (if decide (cutS x none (some ((1 : Nat) : Int)) = "-") = true then cutS x (some ((1 : Nat) : Int)) none else x) = pl := by
          refine ⟨_, ?_, rfl⟩
          split
          · rename_i g
            have g' := str_tl.mp (of_decide_eq_true g)
            rw [cutS_to, minus_tl] at g'
            rw [cutS_from]
            cases e : x.cps.toList with
            | nil => rw [e] at g'; cases g'
            | cons c t =>
              rw [e] at g'
              have : c = 45 := (List.cons.inj g').1
              subst this
              rfl
          · rename_i g
            have g' : ¬ x.cps.toList.take 1 = [45] := fun z => g (decide_eq_true (str_tl.mpr (by rw [cutS_to, minus_tl]; exact z)))
            cases e : x.cps.toList with
            | nil => rfl
            | cons c t => rw [bareL_cons fun z => g' (by rw [e, z]; rfl)]
        have hpl2 : pl.length ≤ x.length := by
          rw [TL.len_tl pl, hxl]
          show pl.cps.toList.length ≤ _
          rw [epl]
          unfold bareL
          split
          · rename_i t e; rw [e]; simp
          · exact Nat.le_refl _
        have hpl3 : pl.length = (bareL x.cps.toList).length := by rw [TL.len_tl pl]; exact congrArg List.length epl
        have hokp : PyData.strOk pl = true := ok_sub hok fun c hc => by rw [epl] at hc; exact bare_mem hc
        refine rb_set 2 (M := []) (d := .str pl) (fun H1 s1 Q1 q1 => ?_) (fun v H1 s1 hv => ?_) scLNum.nd
        · cases g : decide (cutS x none (some ((1 : Nat) : Int)) = "-") with
          | true =>
            rw [g, if_pos rfl] at hpl
            exact xd_ifT (XT.to (xt_eqSV (XD.vstr (M := []) (xd_cutS (xd_name 0 rfl (.str x)) xo_none (xo_some (M := []) (n := ((1 : Nat) : Int)) xd_int) (by omega))) xv_str) g) ((xd_cutS (xd_name 0 rfl (.str x)) (xo_some (M := []) (n := ((1 : Nat) : Int)) xd_int) xo_none (by omega)).to (by rw [hpl])) H1 (Same.refl _) Q1 q1
          | false =>
            rw [g, if_neg (by decide)] at hpl
            subst hpl
            exact xd_ifF (XT.to (xt_eqSV (XD.vstr (M := []) (xd_cutS (xd_name 0 rfl (.str _)) xo_none (xo_some (M := []) (n := ((1 : Nat) : Int)) xd_int) (by omega))) xv_str) g) (xd_name 0 rfl (.str _)) H1 (Same.refl _) Q1 q1
        have ev := dp_str hv
        subst ev
        refine rb_if (k := decide (bareL x.cps.toList = []) || (!((bareL x.cps.toList).all digB) || decide (¬(bareL x.cps.toList).length ≤ 6))) (xt_or3 (XT.to (xt_eqSV (xv_name 2 rfl) xv_str) (decide_eq_decide.mpr (str_tl.trans (by rw [epl, empty_tl])))) (fun _ => XT.to (xt_neD (M := []) hr.units (XL.dd (xl_compS (own := [("_law_sign", 3)]) (fun c => if c ∈ digS.cps.toList then (none : Option PyData) else some (.str (sg c))) Live.nil scLNum.nd (xd_name 2 rfl (.str _)) (blkOk_by (own := [("_law_sign", 3)]) (N := lnN) (sc := defScope sLNum) (by decide +kernel)) (by omega) (fun p c H3 hc hp s3 Lp => ?comp)) Live.nil) (xd_lst Live.nil xa_nil) (shaped_strs (strs_in hokp)) shaped_nil0) (by
            rw [eqv_nilL, epl]
            congr 1
            have z := fm_dig (bareL x.cps.toList)
            have e : ((bareL x.cps.toList).all fun c => decide (c ∈ digs)) = (bareL x.cps.toList).all digB := rfl
            rw [e] at z
            by_cases y : (bareL x.cps.toList).all digB = true
            · rw [y, decide_eq_true (z.mpr y)]
            · rw [Bool.not_eq_true] at y
              rw [y, decide_eq_false fun z2 => by rw [z.mp z2] at y; cases y])) fun _ _ => XT.to (xt_cmpI (M := []) op_gt (xd_lenStr T.len (xd_name 2 rfl (.str _)) (by omega)) xd_int) (by rw [hpl3]; exact decide_eq_decide.mpr (by omega))) (fun e H2 s2 => ?_) (fun e H2 s2 => rb_nil ?_)
        case comp =>
          intro s0 H0 C0 cl fp
          refine rg_name 3 ⟨rfl, bt_one (k := !decide (c ∈ digS.cps.toList)) (fun s0 H0 C0 cl fp => xt_notInSg (M := []) (x := digS) (xd_name 3 rfl (.str _)) xd_str) fun H4 s4 => ⟨s4, ?_⟩⟩ scLNum.nd
          by_cases mm : c ∈ digS.cps.toList
          · exact .inr ⟨by rw [decide_eq_true mm]; rfl, if_pos mm⟩
          · exact .inl ⟨by rw [decide_eq_false mm]; rfl, _, if_neg mm, fun s0 H0 C0 cl fp => XV.go (xv_name 3 rfl) fun H5 s5 => ⟨s5, .str (sg c)⟩⟩
        · have e0 : false = numLaw x most := by
            unfold numLaw
            rw [Bool.or_eq_true, Bool.or_eq_true] at e
            rcases e with e | e | e
            · rw [decide_eq_false (fun z => z (of_decide_eq_true e))]; rfl
            · rw [Bool.not_eq_true'] at e; rw [e]; simp
            · rw [decide_eq_false (of_decide_eq_true e)]; simp
          exact rb_ret (M := []) xd_bl fun v3 H3 s3 hv3 => by rw [dp_bl hv3]; exact fin e0 ((s1.trans s2).trans s3)
        rw [Bool.or_eq_false_iff, Bool.or_eq_false_iff, Bool.not_eq_false', decide_eq_false_iff_not, decide_eq_false_iff_not, Decidable.not_not] at e
        obtain ⟨g1, g2, g3⟩ := e
        obtain ⟨c, t, ect⟩ : ∃ c t, bareL x.cps.toList = c :: t := by
          cases e : bareL x.cps.toList with
          | nil => exact absurd e g1
          | cons c t => exact ⟨c, t, rfl⟩
        refine rb_if (k := decide (c = 48) && !decide (x = "0")) (xt_and2 (XT.to (xt_eqSV (XD.vstr (M := []) (xd_ixS (n := 0) (c := c) (fun _ _ => rfl) (xd_name 2 rfl (.str _)) xd_int (by omega) (by rw [epl, ect]; exact atI_nat (j := 0) rfl))) xv_str) (sg_zero c)) fun _ => xt_neS (M := []) (xd_name 0 rfl (.str x)) xd_str) (fun e H3 s3 => ?_) (fun e H3 s3 => rb_nil ?_)
        · have e0 : false = numLaw x most := by
            unfold numLaw
            rw [Bool.and_eq_true] at e
            have h3 : (!decide ((bareL x.cps.toList).head? = some 48) || decide (x = "0")) = false := by
              rw [ect]
              have a := of_decide_eq_true e.1
              have b := e.2
              rw [Bool.not_eq_true'] at b
              rw [b, a]
              simp
            rw [h3]; simp
          exact rb_ret (M := []) xd_bl fun v4 H4 s4 hv4 => by rw [dp_bl hv4]; exact fin e0 (((s1.trans s2).trans s3).trans s4)
        have hd : PySem.intText? pl = some ((PySem.NumText.digitsVal (bareL x.cps.toList) : Nat) : Int) := by
          rw [PySem.intText_digits (fun y hy => by rw [epl] at hy; exact dig_bnd (List.all_eq_true.mp g2 y hy)) (by rw [epl]; exact g1) (by omega), epl]
        refine rb_ret (M := []) (xd_cmpI op_le (xd_intS T.int (xd_name 2 rfl (.str _)) hd (by rw [hpl3]; omega)) (xv_name 1 rfl).int) fun v4 H4 s4 hv4 => ?_
        rw [dp_bl hv4]
        refine fin ?_ (((s1.trans s2).trans s3).trans s4)
        unfold numLaw
        have h3 : (!decide ((bareL x.cps.toList).head? = some 48) || decide (x = "0")) = true := by
          rw [ect]
          rw [Bool.and_eq_false_iff] at e
          rcases e with e | e
          · have a := of_decide_eq_false e
            simp [a]
          · rw [Bool.not_eq_false'] at e
            rw [e]; simp
        rw [h3, g2, decide_eq_true g1, decide_eq_true g3]
        rfl
end
end Zn

set_option Elab.async false
set_option linter.all false
set_option maxRecDepth 100000
set_option maxHeartbeats 8000000
namespace Zn
open PySem PySem.Spec PyProof.Rows L2 Dl
/-! k11: _law_time_of, _law_is_start -/
abbrev sLTime : Stmt := top 46
abbrev sLStart : Stmt := top 47
def wOk (w : Str) : Prop := w.length ≤ 1000 ∧ PyData.strOk w = true
def RLTime (ds : List PyData) (d : PyData) : Prop := ∃ x : Str, ds = [.str x] ∧ wOk x ∧ d = optI (ttV x)
def RLStart (ds : List PyData) (d : PyData) : Prop := ∃ ws : List Str, ds = [rowD ws] ∧ ws.length ≤ 1000 ∧ (∀ w ∈ ws, wOk w) ∧ d = .bool (startV ws).isSome
theorem isN_optI (o : Option Int) : isN (optI o) = o.isNone := by cases o <;> rfl
section
variable {X : Cx} {M : List Addr} {σ : L2.St} {H : Hp} {a : Expr} {d : PyData} {pos p1 : Pos}
theorem xd_notNone {j} (ha : XD X M σ H a d) (hm : behindInMarks .IsNot (.Constant .none j p1) = false := by rfl) : XD X M σ H (.Compare a [.IsNot] [.Constant .none j p1] pos) (.bool (!isN d)) :=
  xd_cmp op_notN ha xd_non (fun H1 v w s hv hw Q q => ⟨dp_non hw, by rw [dec_non hv]; exact q _ H1 (Same.refl _) (.bl _)⟩) hm
end
section
variable {P : Program} {w : World} {K : PySem.W.Frag} {mg : Str → Option Value} {base : Heap}
abbrev ltmN : List Str := ["_law_word", "_law_found", "_law_sign"]
theorem scLTime : FnScope ltmN ["_law_word"] (defScope sLTime) := ⟨rfl, rfl, rfl, by decide +kernel, rfl, by decide +kernel, by decide +kernel⟩
theorem ok_ltime {f : Addr} {fd : FuncData} (T : Nm mg) (F : Df K mg "_law_time_of" sLTime ["_law_word"] f fd) : FnOk P w K mg base CX0 1 f fd ["_law_word"] (spR K RLTime) := by
  refine F.F.ok scLTime (fun vs H Q E h => ?_) (fun cdv A outer s H vs Q E hr h => ?_)
  · obtain ⟨M, ds, d, L, hd, ⟨x, rfl, _⟩, q⟩ := h
    exact dpa_len hd
  · obtain ⟨M, ds, d, L, hd, ⟨x, rfl, ⟨hz, hok⟩, rfl⟩, q⟩ := h
    cases hd with
    | cons h1 hd =>
    cases hd
    have e1 := dp_str h1
    subst e1
    by_cases h5 : x.length = 5
    · obtain ⟨a, b, m, d, e, rfl⟩ := five h5
      have hcut : ∀ {Hx : Hp} {p1 p2 p3 p4 p5 p6 p7 p8 p9 : Pos} {j1 j2 : Nat}, XD (cxOf CX0 P w K mg base ltmN "_law_time_of" (defScope sLTime) f cdv A outer s H E).nox [] [some (.str ⟨#[a, b, m, d, e]⟩), none, none] Hx (.BinOp (.Subscript (.Name "_law_word" p1) (.Slice none (some (.Constant (.int 2) j1 p2)) none p3) p4) .Add (.Subscript (.Name "_law_word" p5) (.Slice (some (.Constant (.int 3) j2 p6)) none none p7) p8) p9) (.str ⟨#[a, b, d, e]⟩) :=
          (Dl.xd_addS (xd_cutS (xd_name 0 rfl (.str ⟨#[a, b, m, d, e]⟩)) xo_none (xo_some (M := []) xd_int) (by show 5 ≤ 100000; decide)) (xd_cutS (xd_name 0 rfl (.str ⟨#[a, b, m, d, e]⟩)) (xo_some (M := []) xd_int) xo_none (by show 5 ≤ 100000; decide)) (by show 2 + 2 ≤ 100000; decide)).to rfl
      refine rb_if (k := !decide (m = 58) || !([a, b, d, e].all fun c => decide (c ∈ digs))) (XT.to (xt_or3 (k1 := false) (k2 := !decide (m = 58)) (k3 := !([a, b, d, e].all fun c => decide (c ∈ digs))) (XT.to (xt_neI (M := []) (xd_lenStr T.len (xd_name 0 rfl (.str _)) (by omega)) xd_int) rfl) (fun _ => XT.to (xt_neS (M := []) (x := sg m) (y := ":") (xd_ixS (c := m) (fun _ _ => rfl) (xd_name 0 rfl (.str _)) xd_int (by omega) rfl) xd_str) (by rw [sg_colon])) (fun _ _ => XT.to (xt_neD (M := []) hr.units (XL.dd (xl_compS (own := [("_law_sign", 2)]) (x := ⟨#[a, b, d, e]⟩) (fun c => if c ∈ digS.cps.toList then (none : Option PyData) else some (.str (sg c))) Live.nil scLTime.nd hcut
            (blkOk_by (own := [("_law_sign", 2)]) (N := ltmN) (sc := defScope sLTime) (by decide +kernel)) (by show 4 ≤ 100000; decide) (fun p c H2 hc hp s2 Lp => ?comp)) Live.nil) (xd_lst Live.nil xa_nil) (shaped_strs (strs_in (ok_four hok))) shaped_nil0) (by
              rw [eqv_nilL]
              congr 1
              by_cases y : ([a, b, d, e].all fun c => decide (c ∈ digs)) = true
              · rw [y, decide_eq_true ((fm_dig _).mpr y)]
              · rw [Bool.not_eq_true] at y
                rw [y, decide_eq_false fun z2 => by rw [(fm_dig _).mp z2] at y; cases y]))) (Bool.false_or _)) (fun ek H1 s1 => ?_) (fun ek H1 s1 => rb_nil ?_)
      case comp =>
        intro s0 H0 C0 cl fp
        refine rg_name 2 ⟨rfl, bt_one (k := !decide (c ∈ digS.cps.toList)) (fun s0 H0 C0 cl fp => xt_notInSg (M := []) (x := digS) (xd_name 2 rfl (.str _)) xd_str) fun H4 s4 => ⟨s4, ?_⟩⟩ scLTime.nd
        by_cases mm : c ∈ digS.cps.toList
        · exact .inr ⟨by rw [decide_eq_true mm]; rfl, if_pos mm⟩
        · exact .inl ⟨by rw [decide_eq_false mm]; rfl, _, if_neg mm, fun s0 H0 C0 cl fp => XV.go (xv_name 2 rfl) fun H5 s5 => ⟨s5, .str (sg c)⟩⟩
      · have e0 : ttV ⟨#[a, b, m, d, e]⟩ = none := by
          show (if m = 58 ∧ (a ∈ digs ∧ b ∈ digs ∧ d ∈ digs ∧ e ∈ digs) ∧ _ then some _ else none) = none
          rw [if_neg fun y => ?_]
          obtain ⟨y0, ⟨y1, y2, y3, y4⟩, _⟩ := y
          simp [y0, y1, y2, y3, y4] at ek
        rw [e0] at q
        exact rb_ret (M := M) xd_non fun v2 H2 s2 hv2 => q v2 H2 (s1.trans s2) hv2
      · have dg : m = 58 ∧ a ∈ digs ∧ b ∈ digs ∧ d ∈ digs ∧ e ∈ digs := by simpa using ek
        obtain ⟨em, da, db, dd', de⟩ := dg
        have i0 : ∀ {σ' : L2.St} {Hx : Hp} {p1 p2 p3 p4 p5 p6 : Pos} {j : Nat}, σ'[0]? = some (some (.str ⟨#[a, b, m, d, e]⟩)) → XD (cxOf CX0 P w K mg base ltmN "_law_time_of" (defScope sLTime) f cdv A outer s H E).nox [] σ' Hx (.Call (.Name "int" p1) [.Subscript (.Name "_law_word" p2) (.Slice none (some (.Constant (.int 2) j p3)) none p4) p5] [] p6) (.int (num2 a b)) := fun hs => xd_intS T.int (xd_cutS (xd_name 0 hs (.str _)) xo_none (xo_some (M := []) xd_int) (by show 5 ≤ 100000; decide)) (by rw [cut_lo]; exact int_two da db) (by show 2 ≤ 640; decide)
        have i1 : ∀ {σ' : L2.St} {Hx : Hp} {p1 p2 p3 p4 p5 p6 : Pos} {j : Nat}, σ'[0]? = some (some (.str ⟨#[a, b, m, d, e]⟩)) → XD (cxOf CX0 P w K mg base ltmN "_law_time_of" (defScope sLTime) f cdv A outer s H E).nox [] σ' Hx (.Call (.Name "int" p1) [.Subscript (.Name "_law_word" p2) (.Slice (some (.Constant (.int 3) j p3)) none none p4) p5] [] p6) (.int (num2 d e)) := fun hs => xd_intS T.int (xd_cutS (xd_name 0 hs (.str _)) (xo_some (M := []) xd_int) xo_none (by show 5 ≤ 100000; decide)) (by rw [cut_hi]; exact int_two dd' de) (by show 2 ≤ 640; decide)
        refine rb_set (M := []) (d := .int (60 * num2 a b + num2 d e)) 1 (xd_add (xd_mul xd_int (i0 rfl) (.inl ⟨by decide, by decide⟩)) (i1 rfl)) (fun v3 H3 s3 hv3 => ?_) scLTime.nd
        have ev := dp_int hv3
        subst ev
        have e0 : ttV ⟨#[a, b, m, d, e]⟩ = if num2 a b < 24 ∧ num2 d e < 60 then some (num2 a b * 60 + num2 d e) else none := by
          show (if m = 58 ∧ (a ∈ digs ∧ b ∈ digs ∧ d ∈ digs ∧ e ∈ digs) ∧ (num2 a b < 24 ∧ num2 d e < 60) then some _ else none) = _
          by_cases z : num2 a b < 24 ∧ num2 d e < 60
          · rw [if_pos ⟨em, ⟨da, db, dd', de⟩, z⟩, if_pos z]
          · rw [if_neg fun y => z y.2.2, if_neg z]
        rw [e0] at q
        by_cases z : num2 a b < 24 ∧ num2 d e < 60
        · rw [if_pos z, Int.mul_comm] at q
          refine rb_ret (M := M) (xd_ifT (XT.to (k := decide (num2 a b < 24) && decide (num2 d e < 60)) (xt_and2 (xt_cmpI op_lt (i0 rfl) xd_int) fun _ => xt_cmpI op_lt (i1 rfl) xd_int) (by rw [decide_eq_true z.1, decide_eq_true z.2]; rfl)) (xv_name 1 rfl).int) fun v4 H4 s4 hv4 => q v4 H4 ((s1.trans s3).trans s4) hv4
        · rw [if_neg z] at q
          refine rb_ret (M := M) (xd_ifF (XT.to (k := decide (num2 a b < 24) && decide (num2 d e < 60)) (xt_and2 (xt_cmpI op_lt (i0 rfl) xd_int) fun _ => xt_cmpI op_lt (i1 rfl) xd_int) (by
            rcases Classical.not_and_iff_not_or_not.mp z with z | z
            · rw [decide_eq_false z]; rfl
            · rw [decide_eq_false z]; exact Bool.and_false _)) xd_non) fun v4 H4 s4 hv4 => q v4 H4 ((s1.trans s3).trans s4) hv4
    · have e0 : ttV x = none := by
        unfold ttV
        split
        · rename_i a b c d e hx
          exact absurd (by show x.cps.size = 5; rw [← Array.length_toList, hx]; rfl) h5
        · rfl
      rw [e0] at q
      refine rb_ifT (xt_or3T1 (XT.to (xt_neI (M := []) (xd_lenStr T.len (xd_name 0 rfl (.str _)) (by omega)) xd_int) (by rw [decide_eq_false fun z => h5 (by omega)]; rfl))) fun H1 s1 => ?_
      exact rb_ret (M := M) xd_non fun v2 H2 s2 hv2 => q v2 H2 (s1.trans s2) hv2
abbrev lisN : List Str := ["_law_words", "_law_low", "_law_high"]
theorem scLStart : FnScope lisN ["_law_words"] (defScope sLStart) := ⟨rfl, rfl, rfl, by decide +kernel, rfl, by decide +kernel, by decide +kernel⟩
theorem ok_lstart {fT f : Addr} {fdT fd : FuncData} (T : Nm mg) (GT : FnOk P w K mg base CX0 1 fT fdT ["_law_word"] (spR K RLTime)) (FT : Df K mg "_law_time_of" sLTime ["_law_word"] fT fdT) (F : Df K mg "_law_is_start" sLStart ["_law_words"] f fd) : FnOk P w K mg base CX0 2 f fd ["_law_words"] (spR K RLStart) := by
  refine F.F.ok scLStart (fun vs H Q E h => ?_) (fun cdv A outer s H vs Q E hr h => ?_)
  · obtain ⟨M, ds, d, L, hd, ⟨ws, rfl, _⟩, q⟩ := h
    exact dpa_len hd
  · obtain ⟨M, ds, d, L, hd, ⟨ws, rfl, hwl, hok, rfl⟩, q⟩ := h
    cases hd with
    | cons h1 hd =>
    cases hd
    have h1 : Dq K (hid M H) _ (.list (ws.map PyData.str)) := h1
    have hll : (ws.map PyData.str).length = ws.length := List.length_map ..
    have fin : ∀ {b : Bool} {v : V} {H1 : Hp}, b = (startV ws).isSome → Dq K (hid M H1) v (.bool b) → Same H H1 → Q v H1 := fun {b v H1} e hv s => q v H1 s (by rw [← e]; exact hv)
    by_cases h3 : ws.length = 3
    · obtain ⟨a, b, c, rfl⟩ : ∃ a b c, ws = [a, b, c] := by
        match ws, h3 with
        | [a, b, c], _ => exact ⟨a, b, c, rfl⟩
      refine rb_if (k := !decide (a = "start")) ((xt_or2 (k1 := false) (XT.to (xt_neI (M := M) (xd_len T.len (xd_name 0 rfl h1)) xd_int) rfl) (fun _ => xt_neS (M := M) (xd_ixL (fun _ _ => rfl) (xd_name 0 rfl h1) xd_int (atI_nat (j := 0) rfl)) xd_str)).to (Bool.false_or _)) (fun e H1 s1 => ?_) (fun e H1 s1 => rb_nil ?_)
      · have ea : ¬a = "start" := by simpa using e
        exact rb_ret (M := M) xd_bl fun v2 H2 s2 hv2 => fin (by rw [startV3, if_neg ea]; rfl) hv2 (s1.trans s2)
      · have ea : a = "start" := by simpa using e
        have h11 := h1.up (hid_mono (M := M) s1)
        have L1 := L.mono s1
        refine rb_par 1 2 (M := M) (xa_cons (xd_call L1 GT hr FT.g FT.F.kp FT.b (xa_cons (xd_ixL (fun _ _ => rfl) (xd_name 0 rfl h11) xd_int (atI_nat (j := 1) rfl)) xa_nil) ⟨b, rfl, hok b (by simp), rfl⟩) (xa_cons (xd_call L1 GT hr FT.g FT.F.kp FT.b (xa_cons (xd_ixL (fun _ _ => rfl) (xd_name 0 rfl h11) xd_int (atI_nat (j := 2) rfl)) xa_nil) ⟨c, rfl, hok c (by simp), rfl⟩) xa_nil)) (fun va vb H2 s2 hva hvb => ?_) scLStart.nd
        refine rb_ret (M := M) (d := .bool (startV [a, b, c]).isSome) ?_ fun v3 H3 s3 hv3 => fin rfl hv3 ((s1.trans s2).trans s3)
        rw [startV3, if_pos ea]
        cases e1 : ttV b with
        | none =>
          rw [e1] at hva
          exact XD.to (xd_andF (XD.to (xd_notNone (xd_name 1 rfl hva)) rfl)) rfl
        | some l =>
          rw [e1] at hva
          cases e2 : ttV c with
          | none =>
            rw [e2] at hvb
            exact XD.to (xd_andT (XD.to (xd_notNone (xd_name 1 rfl hva)) rfl) (xd_andF (XD.to (xd_notNone (xd_name 2 rfl hvb)) rfl))) rfl
          | some h =>
            rw [e2] at hvb
            refine XD.to (xd_andT (XD.to (xd_notNone (xd_name 1 rfl hva)) rfl) (xd_andT (XD.to (xd_notNone (xd_name 2 rfl hvb)) rfl) (xd_one (xd_cmpI op_le (xd_name 1 rfl hva) (xd_name 2 rfl hvb))))) ?_
            show PyData.bool (decide (l ≤ h)) = .bool (Option.isSome (if l ≤ h then some (l, h) else none))
            by_cases z : l ≤ h
            · rw [if_pos z, decide_eq_true z]; rfl
            · rw [if_neg z, decide_eq_false z]; rfl
    · have e0 : false = (startV ws).isSome := by
        unfold startV
        split
        · exact absurd rfl h3
        · rfl
      refine rb_ifT ((xt_or2 (k1 := true) (k2 := true) (XT.to (xt_neI (M := M) (xd_len T.len (xd_name 0 rfl h1)) xd_int) (by rw [hll, decide_eq_false fun z => h3 (by omega)]; rfl)) (fun z => absurd z (by decide))).to rfl) fun H1 s1 => ?_
      exact rb_ret (M := M) xd_bl fun v2 H2 s2 hv2 => fin e0 hv2 (s1.trans s2)
end
end Zn

set_option Elab.async false
set_option linter.all false
set_option maxRecDepth 100000
set_option maxHeartbeats 8000000
namespace Zn
open PySem PySem.Spec PyProof.Rows L2 Dl
/-! k11: _law_kind_due -/
abbrev sLKd : Stmt := top 48
theorem dq_opt {K : PySem.W.Frag} {H : Hp} (ov : Option Str) : Dq K H (optV ov) (optSD ov) := by
  cases ov with
  | none => exact .non
  | some s => exact .str s
theorem dq_optV {K : PySem.W.Frag} {H : Hp} {v : V} {ov : Option Str} (h : Dq K H v (optSD ov)) : v = optV ov := by
  cases ov with
  | none => exact dp_non h
  | some s => exact dp_str h
theorem scal_opt (o1 o2 : Option Str) : scal (optV o1) (optV o2) = true := by cases o1 <;> cases o2 <;> rfl
theorem dec_opt (o1 o2 : Option Str) : decide (optV o1 = optV o2) = decide (o1 = o2) := decide_eq_decide.mpr ⟨fun z => by
  cases o1 with
  | none => cases o2 with
    | none => rfl
    | some b => cases z
  | some a => cases o2 with
    | none => cases z
    | some b => rw [V.str.inj z], fun z => by rw [z]⟩
section
variable {X : Cx} {M : List Addr} {σ : L2.St} {H : Hp} {o e e2 a b c : Expr} {x y : Str} {ks l : List Str} {f : Str → V} {W : Addr} {ov o1 o2 : Option Str} {n : Int} {ns : List Int} {d d1 d2 d3 : PyData} {pos p1 p2 q1 q2 q3 : Pos} {Q : VK} {u : V}
theorem xt_notInI (ha : XD X M σ H a (.int n)) (hb : XD X M σ H b (.list (ns.map PyData.int))) (hm : behindInMarks .NotIn b = false := by rfl) : XT X σ H (.Compare a [.NotIn] [b] pos) (!decide (n ∈ ns)) :=
  xt_cmp op_notIn_seq ha hb (fun H1 v w s hv hw Q q => by
    rw [dp_int hv]
    obtain ⟨p, xs, rfl, hp, hx⟩ := dp_lst hw
    have e := int_all hx
    subst e
    exact ⟨p, _, rfl, .inl (SqL.of (hid_le _ _ hp)), rfl, flat_int ns, by rw [inV_int, any_int]; exact q H1 (Same.refl _)⟩) hm
theorem xt_eqOO (ha : XV X σ H a (optV o1)) (hb : XV X σ H b (optV o2)) : XT X σ H (.Compare a [.Eq] [b] pos) (decide (o1 = o2)) :=
  xt_cmp (M := []) op_eq (ha.dd (dq_opt _)) (hb.dd (dq_opt _)) fun H1 v w s hv hw Q q => by
    rw [dq_optV hv, dq_optV hw]
    exact ⟨scal_opt _ _, by rw [dec_opt]; exact q H1 (Same.refl _)⟩
theorem xd_eqOO (ha : XV X σ H a (optV o1)) (hb : XV X σ H b (optV o2)) : XD X M σ H (.Compare a [.Eq] [b] pos) (.bool (decide (o1 = o2))) :=
  xd_cmp op_eq (ha.dd (dq_opt _)) (hb.dd (dq_opt _)) fun H1 v w s hv hw Q q => by
    rw [dq_optV hv, dq_optV hw]
    exact ⟨scal_opt _ _, by rw [dec_opt]; exact q _ H1 (Same.refl _) (.bl _)⟩
theorem xt_neOO (ha : XV X σ H a (optV o1)) (hb : XV X σ H b (optV o2)) : XT X σ H (.Compare a [.NotEq] [b] pos) (!decide (o1 = o2)) :=
  xt_cmp (M := []) op_ne (ha.dd (dq_opt _)) (hb.dd (dq_opt _)) fun H1 v w s hv hw Q q => by
    rw [dq_optV hv, dq_optV hw]
    exact ⟨scal_opt _ _, by rw [dec_opt]; exact q H1 (Same.refl _)⟩
theorem xt_inLO (ha : XV X σ H a (optV ov)) (hb : XL X [] σ H b (l.map PyData.str)) (hm : behindInMarks .In b = false := by rfl) : XT X σ H (.Compare a [.In] [b] pos) (memO ov l) := fun H1 s Q q =>
  ⟨_, pt_cmpR op_in_seq re_ re_ hm, ha H1 s _ fun H2 s2 => hb H2 (s.trans s2) _ fun p xs H3 s3 hp hp1 hx => ⟨p, _, rfl, .inl (SqL.of hp1), flat_opt ov, by rw [strs_va hx]; exact flat_strs l, by
    rw [strs_va hx, inV_opt]
    exact ⟨_, rfl, q H3 (s2.trans s3)⟩⟩⟩
theorem xd_inLO (ha : XV X σ H a (optV ov)) (hb : XL X [] σ H b (l.map PyData.str)) (hm : behindInMarks .In b = false := by rfl) : XD X M σ H (.Compare a [.In] [b] pos) (.bool (memO ov l)) := fun H1 s Q q =>
  ⟨_, pe_cmpR op_in_seq re_ re_ hm, ha H1 s _ fun H2 s2 => hb H2 (s.trans s2) _ fun p xs H3 s3 hp hp1 hx => ⟨p, _, rfl, .inl (SqL.of hp1), flat_opt ov, by rw [strs_va hx]; exact flat_strs l, by
    rw [strs_va hx, inV_opt]
    exact q _ H3 (s2.trans s3) (.bl _)⟩⟩
theorem xt_or4 {k1 k2 k3 k4 : Bool} {a b c e : Expr} (h1 : XT X σ H a k1) (h2 : k1 = false → XT X σ H b k2) (h3 : k1 = false → k2 = false → XT X σ H c k3) (h4 : k1 = false → k2 = false → k3 = false → XT X σ H e k4) : XT X σ H (.BoolOp .Or [a, b, c, e] pos) (k1 || (k2 || (k3 || k4))) := by
  cases k1 with
  | true => exact (xw_orT h1).t
  | false =>
    cases k2 with
    | true => exact (xw_orF h1 (xw_orT (h2 rfl))).t
    | false =>
      cases k3 with
      | true => exact (xw_orF h1 (xw_orF (h2 rfl) (xw_orT (h3 rfl rfl)))).t
      | false => exact (xw_orF h1 (xw_orF (h2 rfl) (xw_orF (h3 rfl rfl) (xw_or1 (h4 rfl rfl rfl))))).t
/-- {k1: a, k2: b}, truths -/
theorem re_disp2 {k1 k2 : Str} {b1 b2 : Bool} {j1 j2 : Nat} (ha : XD X M σ H a (.bool b1)) (hb : XD X M σ H b (.bool b2)) (ne : k1 ≠ k2) (q : ∀ p H', Same H H' → H p = none → DM H' p [k1, k2] (fun z => if z = k1 then .bl b1 else .bl b2) → Q (.ref p) H') :
    RE X (.Dict [some (.Constant (.str k1) j1 q1), some (.Constant (.str k2) j2 q2)] [a, b] pos) σ H Q :=
  ⟨_, pe_disp (pps_cons pe_str re_ (pps_cons pe_str re_ pps_nil)) rfl rfl (by simp) (by simp), fun p hp => ha _ (same_new hp) _ fun v H2 s2 hv => hb H2 ((same_new hp).trans s2) _ fun u H3 s3 hu => by
    have h3p : H3 p = some (.dK []) := s3 _ _ (s2 _ _ upd_same)
    refine ⟨h3p, [(.inr k1, .bl b1), (.inr k2, .bl b2)], by rw [dp_bl hv, dp_bl hu]; rfl, by simp, ?_⟩
    refine q p _ (same_upd (((same_new hp).trans s2).trans s3) hp) hp ?_
    unfold DM
    rw [upd_same]
    have e1 : ((Sum.inr k1 : L2.Key) = Sum.inr k2) = False := eq_false fun z => ne (Sum.inr.inj z)
    have e2 : (k2 = k1) = False := eq_false fun z => ne z.symm
    have e3 : (k1 = k2) = False := eq_false fun z => ne z
    simp [mergeK, putK, dmap, e1, e2, e3]⟩
/-- d.get(k, u) -/
theorem xv_dgetD (hu : X.A.units + 1 < cLine) (ho : XV X σ H o (.ref W)) (hk : XV X σ H e (.str x)) (hf : XV X σ H e2 u) (hW : DM H W ks f) (mm : M2 X o "get" p1 e e2 p2) : XV X σ H (.Call (.Attribute o "get" p1) [e, e2] [] p2) (if x ∈ ks then f x else u) := fun H1 s Q q =>
  ⟨_, pe_dget2 hu re_ re_ re_ mm, ho H1 s _ fun H2 s2 => ⟨W, rfl, .inl ⟨_, .inl ((hW.up s).up s2)⟩, hk H2 (s.trans s2) _ fun H3 s3 => hf H3 ((s.trans s2).trans s3) _ fun H4 s4 => by
    refine ⟨_, (((hW.up s).up (s2.trans s3)).up s4).gets, ?_⟩
    by_cases m : x ∈ ks
    · rw [if_pos m] at q ⊢
      exact q H4 ((s2.trans s3).trans s4)
    · rw [if_neg m] at q ⊢
      exact q H4 ((s2.trans s3).trans s4)⟩⟩
/-- {k1: a, k2: b, k3: c}.get(e) -/
theorem xd_get3 {k1 k2 k3 k : Str} {j1 j2 j3 : Nat} (hu : X.A.units + 1 < cLine) (L : Live M H) (ha : ∀ p H1, Same H H1 → Live (p :: M) H1 → XD X (p :: M) σ H1 a d1) (hb : ∀ p H1, Same H H1 → Live (p :: M) H1 → XD X (p :: M) σ H1 b d2) (hc : ∀ p H1, Same H H1 → Live (p :: M) H1 → XD X (p :: M) σ H1 c d3) (hk : XV X σ H e (.str k)) (n12 : k1 ≠ k2) (n13 : k1 ≠ k3) (n23 : k2 ≠ k3)
    (mm : M1 X (.Dict [some (.Constant (.str k1) j1 q1), some (.Constant (.str k2) j2 q2), some (.Constant (.str k3) j3 q3)] [a, b, c] pos) "get" p1 e p2) :
    XD X M σ H (.Call (.Attribute (.Dict [some (.Constant (.str k1) j1 q1), some (.Constant (.str k2) j2 q2), some (.Constant (.str k3) j3 q3)] [a, b, c] pos) "get" p1) [e] [] p2) (if k = k1 then d1 else if k = k2 then d2 else if k = k3 then d3 else .none) := fun H1 s1 Q q =>
  ⟨_, pe_dget1 hu (pe_disp (pps_cons pe_str re_ (pps_cons pe_str re_ (pps_cons pe_str re_ pps_nil))) rfl rfl (by simp) (by simp)) re_ mm, fun p hp => by
    have hp0 : H p = none := s1.free hp
    have sA : Same H (upd H1 p (.dK [])) := s1.trans (same_new hp)
    have LA : ∀ {Hx : Hp}, Same (upd H1 p (.dK [])) Hx → Live (p :: M) Hx := fun sx z hz => by
      rcases List.mem_cons.mp hz with rfl | hz
      · rw [sx _ _ upd_same]; simp
      · exact L.mono (sA.trans sx) z hz
    refine ha p _ sA (LA (Same.refl _)) _ (Same.refl _) _ fun v1 H2 s2 hv1 => hb p H2 (sA.trans s2) (LA s2) _ (Same.refl _) _ fun v2 H3 s3 hv2 => hc p H3 ((sA.trans s2).trans s3) (LA (s2.trans s3)) _ (Same.refl _) _ fun v3 H4 s4 hv3 => ?_
    have s24 := (s2.trans s3).trans s4
    have h4p : H4 p = some (.dK []) := s24 _ _ upd_same
    refine ⟨h4p, [(.inr k1, v1), (.inr k2, v2), (.inr k3, v3)], rfl, by simp, p, rfl, .inl ⟨_, .inl upd_same⟩, ?_⟩
    have sx : Same H1 (upd H4 p (.dK (mergeK [] [(.inr k1, v1), (.inr k2, v2), (.inr k3, v3)]))) := same_upd ((same_new hp).trans s24) hp
    refine hk _ (s1.trans sx) _ fun H5 s5 => ?_
    have em : mergeK [] [((Sum.inr k1 : L2.Key), v1), (.inr k2, v2), (.inr k3, v3)] = [(.inr k1, v1), (.inr k2, v2), (.inr k3, v3)] := by
      have e1 : ((Sum.inr k1 : L2.Key) = Sum.inr k2) = False := eq_false fun z => n12 (Sum.inr.inj z)
      have e2 : ((Sum.inr k1 : L2.Key) = Sum.inr k3) = False := eq_false fun z => n13 (Sum.inr.inj z)
      have e3 : ((Sum.inr k2 : L2.Key) = Sum.inr k3) = False := eq_false fun z => n23 (Sum.inr.inj z)
      have f1 : (k1 = k2) = False := eq_false n12
      have f2 : (k1 = k3) = False := eq_false n13
      have f3 : (k2 = k3) = False := eq_false n23
      simp [mergeK, putK, e1, e2, e3, f1, f2, f3]
    have hup : ∀ {v : V} {d : PyData} {Hy : Hp}, Dq X.K (hid (p :: M) Hy) v d → Same Hy H4 → Dq X.K (hid M H5) v d := fun {v d Hy} hv sy => by
      have h1 : Dq X.K (hid (p :: M) H4) v d := hv.up (hid_mono sy)
      rw [← hid_cons_upd (p := p) (M := M) (o := .dK (mergeK [] [(.inr k1, v1), (.inr k2, v2), (.inr k3, v3)]))] at h1
      exact (h1.up hid_weak).up (hid_mono s5)
    have g1 := hup hv1 (s3.trans s4)
    have g2 := hup hv2 s4
    have g3 := hup hv3 (Same.refl _)
    have h5 := s5 _ _ (show upd H4 p (.dK (mergeK [] [(.inr k1, v1), (.inr k2, v2), (.inr k3, v3)])) p = some (.dK _) from upd_same)
    rw [em] at h5
    refine ⟨_, DGet.k (k := .inr k) h5, q _ H5 (sx.trans s5) ?_⟩
    by_cases z1 : k = k1
    · subst z1
      rw [valV_pos rfl, if_pos rfl]
      exact g1
    rw [valV_neg (fun z => z1 (Sum.inr.inj z).symm), if_neg z1]
    by_cases z2 : k = k2
    · subst z2
      rw [valV_pos rfl, if_pos rfl]
      exact g2
    rw [valV_neg (fun z => z2 (Sum.inr.inj z).symm), if_neg z2]
    by_cases z3 : k = k3
    · subst z3
      rw [valV_pos rfl, if_pos rfl]
      exact g3
    rw [valV_neg (fun z => z3 (Sum.inr.inj z).symm), if_neg z3]
    exact .non⟩
end
def found4 (wd : Str) : Option (Str × Str) := if wd = "read" then some ("moment", "reading") else if wd = "time" then some ("reading", "number") else if wd = "day" then some ("reading", "number") else none
def foundD : Option (Str × Str) → PyData
  | none => .none
  | some p => .tuple [.str p.1, .str p.2]
theorem foundD_eq (wd : Str) : (if wd = "read" then PyData.tuple [.str "moment", .str "reading"] else if wd = "time" then .tuple [.str "reading", .str "number"] else if wd = "day" then .tuple [.str "reading", .str "number"] else .none) = foundD (found4 wd) := by
  unfold found4
  split
  · rfl
  · split
    · rfl
    · split <;> rfl
theorem lawK4_found (ks : List Str) (kf : Str → Str) (wd x : Str) : lawK4 ks kf wd x = (found4 wd).bind fun p => if some p.1 = kget ks kf x then some p.2 else none := by
  unfold lawK4 found4
  have sw : ∀ p : Str, (some p = kget ks kf x) = (kget ks kf x = some p) := fun p => propext eq_comm
  by_cases h1 : wd = "read"
  · rw [if_pos h1, if_pos h1, Option.bind_some]
    simp only [sw]
  rw [if_neg h1, if_neg h1]
  by_cases h2 : wd = "time"
  · rw [if_pos (.inl h2), if_pos h2, Option.bind_some]
    simp only [sw]
  rw [if_neg h2]
  by_cases h3 : wd = "day"
  · rw [if_pos (.inr h3), if_pos h3, Option.bind_some]
    simp only [sw]
  rw [if_neg h3, if_neg (fun z => z.elim h2 h3)]
  rfl
theorem lawKind_len {ks : List Str} {kf : Str → Str} {ws : List Str} (h : ¬ws.length = 4) (h5 : ¬ws.length = 5) : lawKind ks kf ws = none := by
  unfold lawKind
  split
  · exact absurd rfl h
  · exact absurd rfl h5
  · rfl
def wd5 (wd t : Str) : Bool := if wd = "place" then ruleB t else if wd = "days" then (numV t 2 60).isSome else if wd = "at" then (ttV t).isSome else false
def spLKd (K : PySem.W.Frag) : Sp := fun vs H Q _ => ∃ (M : List Addr) (vw : V) (kd : Addr) (ws ks : List Str) (kf : Str → Str), vs = [vw, .ref kd] ∧ Live M H ∧ Dq K (hid M H) vw (rowD ws) ∧ DM H kd ks (fk kf) ∧ ws ≠ [] ∧ ws.length ≤ 1000 ∧ (∀ w ∈ ws, wOk w) ∧ ∀ H1, Same H H1 → Q (optV (lawKind ks kf ws)) H1
section
variable {P : Program} {w : World} {K : PySem.W.Frag} {mg : Str → Option Value} {base : Heap}
abbrev lkN : List Str := ["_law_words", "_law_kinds", "_law_word", "_law_kind", "_law_found", "_law_suits", "_law_good"]
theorem scLKd : FnScope lkN ["_law_words", "_law_kinds"] (defScope sLKd) := ⟨rfl, rfl, rfl, by decide +kernel, rfl, by decide +kernel, by decide +kernel⟩
theorem ok_lkd {fN fM fT f : Addr} {gN gM gT fd : FuncData} (T : Nm mg) (GN : FnOk P w K mg base CX0 1 fN gN ["_law_word"] (spR K RLName)) (FN : Df K mg "_law_is_name" sLName ["_law_word"] fN gN)
    (GM : FnOk P w K mg base CX0 1 fM gM ["_law_word", "_law_most"] (spR K RLNum)) (FM : Df K mg "_law_is_number" sLNum ["_law_word", "_law_most"] fM gM)
    (GT : FnOk P w K mg base CX0 1 fT gT ["_law_word"] (spR K RLTime)) (FT : Df K mg "_law_time_of" sLTime ["_law_word"] fT gT)
    (F : Df K mg "_law_kind_due" sLKd ["_law_words", "_law_kinds"] f fd) : FnOk P w K mg base CX0 2 f fd ["_law_words", "_law_kinds"] (spLKd K) := by
  refine F.F.ok scLKd (fun vs H Q E h => ?_) (fun cdv A outer s H vs Q E hr h => ?_)
  · obtain ⟨M, vw, kd, ws, ks, kf, rfl, _⟩ := h; rfl
  · obtain ⟨M, vw, kd, ws, ks, kf, rfl, L, hw, hd, hne, hwl, hok, q⟩ := h
    have hu := Nat.lt_of_le_of_lt (Nat.add_le_add_left (show 1 ≤ 64 by decide) _) hr.units
    have hw : Dq K (hid M H) vw (.list (ws.map PyData.str)) := hw
    have hll : (ws.map PyData.str).length = ws.length := List.length_map ..
    have fin : ∀ {o : Option Str} {v : V} {Hx Hy : Hp}, o = lawKind ks kf ws → Dq K Hy v (optSD o) → Same H Hx → Q v Hx := fun {o v Hx Hy} e hv s => by rw [dq_optV hv, e]; exact q Hx s
    by_cases hlen : ws.length = 4 ∨ ws.length = 5
    case neg =>
      have e0 : none = lawKind ks kf ws := (lawKind_len (fun z => hlen (.inl z)) (fun z => hlen (.inr z))).symm
      refine rb_ifT (XT.to (xt_or4 (k1 := true) (k2 := true) (k3 := true) (k4 := true) (XT.to (xt_notInI (M := M) (ns := [4, 5]) (xd_len T.len (xd_name 0 rfl hw)) (xd_lst L (xa_cons xd_int (xa_cons xd_int xa_nil)))) (by
        rw [hll, decide_eq_false fun z => ?_]
        · rfl
        · simp only [List.mem_cons, List.not_mem_nil, or_false] at z
          exact hlen (z.imp (fun z => by omega) fun z => by omega))) (fun z => by cases z) (fun z => by cases z) (fun z => by cases z)) rfl) fun H1 s1 => ?_
      exact rb_ret (M := M) xd_non fun v H2 s2 hv => fin e0 hv (s1.trans s2)
    case pos =>
      obtain ⟨w0, w1, w2, w3, rest, rfl, hrest⟩ : ∃ w0 w1 w2 w3 rest, ws = w0 :: w1 :: w2 :: w3 :: rest ∧ (rest = [] ∨ ∃ t, rest = [t]) := by
        match ws, hlen with
        | [a, b, c, d], _ => exact ⟨a, b, c, d, [], rfl, .inl rfl⟩
        | [a, b, c, d, t], _ => exact ⟨a, b, c, d, [t], rfl, .inr ⟨t, rfl⟩⟩
      have hw0 := hok w0 (by simp)
      refine rb_if (k := !decide (goodN ks w0 w1)) (XT.to (xt_or4 (k1 := false) (k2 := !decide (w1 = "=")) (k3 := !nameB w0) (k4 := decide (w0 ∈ ks)) (XT.to (xt_notInI (M := M) (ns := [4, 5]) (xd_len T.len (xd_name 0 rfl hw)) (xd_lst L (xa_cons xd_int (xa_cons xd_int xa_nil)))) (by
          rw [hll, decide_eq_true ?_]
          · rfl
          · simp only [List.mem_cons, List.not_mem_nil, or_false]
            exact hlen.imp (fun z => by omega) fun z => by omega))
        (fun _ => xt_neS (M := M) (xd_ixL (fun _ _ => rfl) (xd_name 0 rfl hw) xd_int (atI_nat (j := 1) rfl)) xd_str)
        (fun _ _ => xt_not (xt_val (M := M) (xd_call L GN (hr.mono (by decide)) FN.g FN.F.kp FN.b (xa_cons (xd_ixL (fun _ _ => rfl) (xd_name 0 rfl hw) xd_int (atI_nat (j := 0) rfl)) xa_nil) ⟨w0, rfl, hw0.1, hw0.2, rfl⟩)))
        (fun _ _ _ => xt_din (M := M) hu (xd_ixL (fun _ _ => rfl) (xd_name 0 rfl hw) xd_int (atI_nat (j := 0) rfl)) (xv_name 1 rfl) hd)) (by
          unfold goodN
          cases nameB w0 <;> cases (show Bool from decide (w0 ∈ ks)) <;> by_cases c1 : w1 = "=" <;> by_cases c2 : w0 ∈ ks <;> simp_all)) (fun e H1 s1 => ?_) (fun e H1 s1 => rb_nil ?_)
      · have eb : ¬goodN ks w0 w1 := of_decide_eq_false (by rw [Bool.not_eq_true'] at e; exact e)
        have e0 : none = lawKind ks kf (w0 :: w1 :: w2 :: w3 :: rest) := by
          rcases hrest with rfl | ⟨t, rfl⟩
          · show none = if goodN ks w0 w1 then _ else none
            rw [if_neg eb]
          · show none = if goodN ks w0 w1 then _ else none
            rw [if_neg eb]
        exact rb_ret (M := M) xd_non fun v H2 s2 hv => fin e0 hv (s1.trans s2)
      have eg : goodN ks w0 w1 := of_decide_eq_true (by rw [Bool.not_eq_false'] at e; exact e)
      have hw1 := hw.up (hid_mono (M := M) s1)
      have hd1 := hd.up s1
      refine rb_par 2 3 (M := M) (d1 := .str w2) (d2 := optSD (kget ks kf w3)) (xa_cons (xd_ixL (fun _ _ => rfl) (xd_name 0 rfl hw1) xd_int (atI_nat (j := 2) rfl)) (xa_cons ((xv_dgetO hu (xv_name 1 rfl) (xd_ixL (M := M) (fun _ _ => rfl) (xd_name 0 rfl hw1) xd_int (atI_nat (j := 3) rfl)).vstr hd1 ⟨rfl, rfl, rfl, rfl⟩).dd (dq_opt _)) xa_nil)) (fun va vb H2 s2 hva hvb => ?_) scLKd.nd
      have ea := dp_str hva
      have eb := dq_optV hvb
      subst ea eb
      have s02 := s1.trans s2
      have hw2 := hw.up (hid_mono (M := M) s02)
      have L2' := L.mono s02
      have hd2 := hd.up s02
      rcases hrest with rfl | ⟨t, rfl⟩
      · -- four words
        have ek : lawKind ks kf [w0, w1, w2, w3] = lawK4 ks kf w2 w3 := by
          show (if goodN ks w0 w1 then _ else none) = _
          rw [if_pos eg]
        refine rb_ifT (XT.to (xt_eqI (M := M) (xd_len T.len (xd_name 0 rfl hw2)) xd_int) rfl) fun H3 s3 => ?_
        have L3 := L2'.mono s3
        refine rb_set 4 (M := M) (d := foundD (found4 w2)) ((xd_get3 hu L3 (fun p H4 s4 Lp => xd_tup Lp (xa_cons xd_str (xa_cons xd_str xa_nil))) (fun p H4 s4 Lp => xd_tup Lp (xa_cons xd_str (xa_cons xd_str xa_nil))) (fun p H4 s4 Lp => xd_tup Lp (xa_cons xd_str (xa_cons xd_str xa_nil))) (xv_name 2 rfl) (by decide +kernel) (by decide +kernel) (by decide +kernel) ⟨rfl, rfl, rfl, rfl⟩).to (foundD_eq w2)) (fun v4 H4 s4 hv4 => ?_) scLKd.nd
        have s04 := (s02.trans s3).trans s4
        rw [ek, lawK4_found] at q
        have fin' : ∀ {o : Option Str} {v : V} {Hx Hy : Hp}, o = ((found4 w2).bind fun p => if some p.1 = kget ks kf w3 then some p.2 else none) → Dq K Hy v (optSD o) → Same H Hx → Q v Hx := fun {o v Hx Hy} e hv s => by rw [dq_optV hv, e]; exact q Hx s
        cases ef : found4 w2 with
        | none =>
          rw [ef] at hv4 fin'
          refine rb_ret (M := M) (d := optSD none) (xd_ifF (XT.to (xt_and2 (k1 := false) (k2 := false) (XT.to (xt_notNone (xd_name 4 rfl hv4)) rfl) (fun z => by cases z)) rfl) xd_non) fun v5 H5 s5 hv5 => fin' rfl hv5 (s04.trans s5)
        | some p =>
          rw [ef] at hv4 fin'
          have hv4 : Dq K (hid M H4) v4 (.tuple [.str p.1, .str p.2]) := hv4
          by_cases z : some p.1 = kget ks kf w3
          · refine rb_ret (M := M) (d := optSD (some p.2)) (xd_ifT (XT.to (xt_and2 (k1 := true) (k2 := true) (XT.to (xt_notNone (xd_name 4 rfl hv4)) rfl) (fun _ => XT.to (xt_eqOO (o1 := some p.1) (xd_ixT (M := M) (fun _ _ => rfl) (xd_name 4 rfl hv4) xd_int (atI_nat (j := 0) rfl)).vstr (xv_name 3 rfl)) (decide_eq_true z))) rfl) (xd_ixT (fun _ _ => rfl) (xd_name 4 rfl hv4) xd_int (atI_nat (j := 1) rfl))) fun v5 H5 s5 hv5 => fin' (by rw [Option.bind_some, if_pos z]) hv5 (s04.trans s5)
          · refine rb_ret (M := M) (d := optSD none) (xd_ifF (XT.to (xt_and2 (k1 := true) (k2 := false) (XT.to (xt_notNone (xd_name 4 rfl hv4)) rfl) (fun _ => XT.to (xt_eqOO (o1 := some p.1) (xd_ixT (M := M) (fun _ _ => rfl) (xd_name 4 rfl hv4) xd_int (atI_nat (j := 0) rfl)).vstr (xv_name 3 rfl)) (decide_eq_false z))) rfl) xd_non) fun v5 H5 s5 hv5 => fin' (by rw [Option.bind_some, if_neg z]) hv5 (s04.trans s5)
      · -- five words
        have ht := hok t (by simp)
        have ek : lawKind ks kf [w0, w1, w2, w3, t] = lawK5 ks kf w2 w3 t := by
          show (if goodN ks w0 w1 then _ else none) = _
          rw [if_pos eg]
        rw [ek] at q
        have fin' : ∀ {o : Option Str} {v : V} {Hx Hy : Hp}, o = lawK5 ks kf w2 w3 t → Dq K Hy v (optSD o) → Same H Hx → Q v Hx := fun {o v Hx Hy} e hv s => by rw [dq_optV hv, e]; exact q Hx s
        refine rb_ifF (XT.to (xt_eqI (M := M) (xd_len T.len (xd_name 0 rfl hw2)) xd_int) rfl) fun H3 s3 => ?_
        have s03 := s02.trans s3
        have L3 := L.mono s03
        have mr : ∀ {σ' : L2.St} {Hx : Hp} {p1 p2 p3 : Pos} {j1 j2 : Nat}, Live [] Hx → XL (cxOf CX0 P w K mg base lkN "_law_kind_due" (defScope sLKd) f cdv A outer s H E).nox [] σ' Hx (.List [.Constant (.str "moment") j1 p1, .Constant (.str "reading") j2 p2] p3) (([("moment" : Str), "reading"]).map PyData.str) := fun L => xl_lst L (xa_cons xd_str (xa_cons xd_str xa_nil))
        refine rb_if (k := memO (some w2) ["between", "before"]) (xt_inLO (ov := some w2) (xv_name 2 rfl) (xl_lst Live.nil (xa_cons xd_str (xa_cons xd_str xa_nil)))) (fun e H4 s4 => ?_) (fun e H4 s4 => rb_nil ?_)
        · have s04 := s03.trans s4
          have hw4 := hw.up (hid_mono (M := M) s04)
          have hbb : w2 = "between" ∨ w2 = "before" := by
            have z : decide (w2 ∈ ([("between" : Str), "before"])) = true := e
            simpa using of_decide_eq_true z
          refine rb_set 5 (M := M) (d := .bool (memO (kget ks kf w3) ["moment", "reading"] && decide (kget ks kf t = kget ks kf w3))) (xd_and2 (xd_inLO (xv_name 3 rfl) (mr Live.nil)) fun _ => xd_eqOO (xv_dgetO hu (xv_name 1 rfl) (xd_ixL (M := M) (fun _ _ => rfl) (xd_name 0 rfl hw4) xd_int (atI_nat (j := 4) rfl)).vstr (hd.up s04) ⟨rfl, rfl, rfl, rfl⟩) (xv_name 3 rfl)) (fun v5 H5 s5 hv5 => ?_) scLKd.nd
          have s05 := s04.trans s5
          by_cases z : (memO (kget ks kf w3) ["moment", "reading"] && decide (kget ks kf t = kget ks kf w3)) = true
          · rw [z] at hv5
            have z' : memO (kget ks kf w3) ["moment", "reading"] = true ∧ kget ks kf t = kget ks kf w3 := by
              rw [Bool.and_eq_true] at z
              exact ⟨z.1, of_decide_eq_true z.2⟩
            by_cases y : w2 = "between"
            · refine rb_ret (M := M) (d := optSD (some "number")) (xd_ifF (XT.to (xt_not (xt_val (M := M) (xd_name 5 rfl hv5))) rfl) (xd_ifT (XT.to (xt_eqSV (xv_name 2 rfl) xv_str) (decide_eq_true y)) xd_str)) fun v6 H6 s6 hv6 => fin' ?_ hv6 (s05.trans s6)
              unfold lawK5
              rw [if_pos hbb, if_pos z', if_pos y]
            · refine rb_ret (M := M) (d := optSD (some "truth")) (xd_ifF (XT.to (xt_not (xt_val (M := M) (xd_name 5 rfl hv5))) rfl) (xd_ifF (XT.to (xt_eqSV (xv_name 2 rfl) xv_str) (decide_eq_false y)) xd_str)) fun v6 H6 s6 hv6 => fin' ?_ hv6 (s05.trans s6)
              unfold lawK5
              rw [if_pos hbb, if_pos z', if_neg y]
          · have z2 : (memO (kget ks kf w3) ["moment", "reading"] && decide (kget ks kf t = kget ks kf w3)) = false := by simpa using z
            rw [z2] at hv5
            refine rb_ret (M := M) (d := optSD none) (xd_ifT (XT.to (xt_not (xt_val (M := M) (xd_name 5 rfl hv5))) rfl) xd_non) fun v6 H6 s6 hv6 => fin' ?_ hv6 (s05.trans s6)
            unfold lawK5
            rw [if_pos hbb, if_neg]
            rintro ⟨a, b⟩
            rw [a, decide_eq_true b] at z2
            cases z2
        have hbb : ¬(w2 = "between" ∨ w2 = "before") := fun z => by
          have z3 : decide (w2 ∈ ([("between" : Str), "before"])) = false := e
          have := of_decide_eq_false z3
          exact this (by simpa using z)
        have s04 := s03.trans s4
        have hw4 := hw.up (hid_mono (M := M) s04)
        refine rb_if (k := decide (w2 = "add")) (xt_eqSV (xv_name 2 rfl) xv_str) (fun e H5 s5 => ?_) (fun e H5 s5 => rb_nil ?_)
        · have ea := of_decide_eq_true e
          have s05 := s04.trans s5
          have hw5 := hw.up (hid_mono (M := M) s05)
          have L5 := L.mono s05
          refine rb_ret (M := M) (d := optSD (lawK5 ks kf w2 w3 t)) ?_ fun v6 H6 s6 hv6 => fin' rfl hv6 (s05.trans s6)
          by_cases z : (memO (kget ks kf w3) ["moment", "reading"] && (numV t 6 100000).isSome) = true
          · have e1 : lawK5 ks kf w2 w3 t = kget ks kf w3 := by
              unfold lawK5
              rw [if_neg hbb, if_pos ea, if_pos (by rw [Bool.and_eq_true] at z; exact z)]
            rw [e1]
            exact xd_ifT (XT.to (xt_and2 (xt_inLO (xv_name 3 rfl) (mr Live.nil)) fun _ => xt_val (M := M) (xd_call L5 GM (hr.mono (by decide)) FM.g FM.F.kp FM.b (xa_cons (xd_ixL (fun _ _ => rfl) (xd_name 0 rfl hw5) xd_int (atI_nat (j := 4) rfl)) (xa_cons xd_int xa_nil)) ⟨t, 6, 100000, rfl, ht.1, ht.2, .inl ⟨rfl, rfl⟩, rfl⟩)) z) ((xv_name 3 rfl).dd (dq_opt _))
          · have z2 : (memO (kget ks kf w3) ["moment", "reading"] && (numV t 6 100000).isSome) = false := by simpa using z
            have e1 : lawK5 ks kf w2 w3 t = none := by
              unfold lawK5
              rw [if_neg hbb, if_pos ea, if_neg (by rw [Bool.and_eq_true] at z; exact z)]
            rw [e1]
            exact xd_ifF (XT.to (xt_and2 (xt_inLO (xv_name 3 rfl) (mr Live.nil)) fun _ => xt_val (M := M) (xd_call L5 GM (hr.mono (by decide)) FM.g FM.F.kp FM.b (xa_cons (xd_ixL (fun _ _ => rfl) (xd_name 0 rfl hw5) xd_int (atI_nat (j := 4) rfl)) (xa_cons xd_int xa_nil)) ⟨t, 6, 100000, rfl, ht.1, ht.2, .inl ⟨rfl, rfl⟩, rfl⟩)) z2) xd_non
        have hna := of_decide_eq_false e
        have s05 := s04.trans s5
        refine rb_if (k := !decide (kget ks kf w3 = some ("reading" : Str))) (xt_neOO (xv_name 3 rfl) (o2 := some "reading") xv_str) (fun e H6 s6 => ?_) (fun e H6 s6 => rb_nil ?_)
        · have en : ¬kget ks kf w3 = some ("reading" : Str) := by simpa using e
          refine rb_ret (M := M) (d := optSD none) xd_non fun v7 H7 s7 hv7 => fin' ?_ hv7 ((s05.trans s6).trans s7)
          unfold lawK5
          rw [if_neg hbb, if_neg hna, if_neg en]
        have er : kget ks kf w3 = some ("reading" : Str) := by simpa using e
        have s06 := s05.trans s6
        have hw6 := hw.up (hid_mono (M := M) s06)
        have L6 := L.mono s06
        have eK : lawK5 ks kf w2 w3 t = if wd5 w2 t = true then (if w2 = "place" then some ("moment" : Str) else some ("reading" : Str)) else none := by
          unfold lawK5 wd5
          rw [if_neg hbb, if_neg hna, if_pos er]
          by_cases y1 : w2 = "place"
          · rw [if_pos y1, if_pos y1, if_pos y1]
          rw [if_neg y1, if_neg y1, if_neg y1]
          by_cases y2 : w2 = "days"
          · rw [if_pos y2, if_pos y2]
          rw [if_neg y2, if_neg y2]
          by_cases y3 : w2 = "at"
          · rw [if_pos y3, if_pos y3]
          rw [if_neg y3, if_neg y3]
          rfl
        have k12 : ("place" : Str) ≠ "days" := by decide +kernel
        have k13 : ("at" : Str) ≠ "place" := by decide +kernel
        have k23 : ("at" : Str) ≠ "days" := by decide +kernel
        refine rb_setR 6 (re_disp2 (M := M) (b1 := ruleB t) (b2 := (numV t 2 60).isSome) (xd_inLO (ov := some t) (l := rulesL) (xd_ixL (M := M) (fun _ _ => rfl) (xd_name 0 rfl hw6) xd_int (atI_nat (j := 4) rfl)).vstr (xl_lst Live.nil (xa_cons xd_str (xa_cons xd_str (xa_cons xd_str xa_nil))) (by decide +kernel))) (xd_call L6 GM (hr.mono (by decide)) FM.g FM.F.kp FM.b (xa_cons (xd_ixL (fun _ _ => rfl) (xd_name 0 rfl hw6) xd_int (atI_nat (j := 4) rfl)) (xa_cons xd_int xa_nil)) ⟨t, 2, 60, rfl, ht.1, ht.2, .inr ⟨rfl, rfl⟩, rfl⟩) k12 fun g H7 s7 hg hG => ?_) scLKd.nd
        have s07 := s06.trans s7
        have hw7 := hw.up (hid_mono (M := M) s07)
        have L7 := L.mono s07
        have hg0 : H g = none := s06.free hg
        refine rb_dput (M := M) (W := g) (x := "at") (d := .bool (!isN (optI (ttV t)))) hu (xd_notNone (xd_call L7 GT (hr.mono (by decide)) FT.g FT.F.kp FT.b (xa_cons (xd_ixL (fun _ _ => rfl) (xd_name 0 rfl hw7) xd_int (atI_nat (j := 4) rfl)) xa_nil) ⟨t, rfl, ht, rfl⟩)) (xv_name 6 rfl) xd_str hG (by show 2 < 100000; decide) fun v8 H8 s8 hv8 => ?_
        have ev8 := dp_bl hv8
        subst ev8
        have eins : Bf.ins ([("place" : Str), "days"]) "at" = [("place" : Str), "days", "at"] := by decide +kernel
        rw [eins]
        have s09 : Same H (upd H8 g (.dK (dmap [("place" : Str), "days", "at"] (Bf.up (fun z => if z = ("place" : Str) then V.bl (ruleB t) else .bl (numV t 2 60).isSome) "at" (.bl (!isN (optI (ttV t)))))))) := same_upd (s07.trans s8) hg0
        have hG9 : DM (upd H8 g (.dK (dmap [("place" : Str), "days", "at"] (Bf.up (fun z => if z = ("place" : Str) then V.bl (ruleB t) else .bl (numV t 2 60).isSome) "at" (.bl (!isN (optI (ttV t)))))))) g [("place" : Str), "days", "at"] (Bf.up (fun z => if z = ("place" : Str) then V.bl (ruleB t) else .bl (numV t 2 60).isSome) "at" (.bl (!isN (optI (ttV t))))) := upd_same
        generalize upd H8 g (.dK (dmap [("place" : Str), "days", "at"] (Bf.up (fun z => if z = ("place" : Str) then V.bl (ruleB t) else .bl (numV t 2 60).isSome) "at" (.bl (!isN (optI (ttV t))))))) = H9 at s09 hG9
        have eg5 : (if w2 ∈ [("place" : Str), "days", "at"] then Bf.up (fun z => if z = ("place" : Str) then V.bl (ruleB t) else .bl (numV t 2 60).isSome) "at" (.bl (!isN (optI (ttV t)))) w2 else .bl false) = .bl (wd5 w2 t) := by
          unfold wd5 Bf.up
          by_cases y1 : w2 = "place"
          · subst y1
            rw [if_pos (by decide +kernel), if_pos rfl, if_neg (Ne.symm k13)]
            exact if_pos rfl
          by_cases y2 : w2 = "days"
          · subst y2
            rw [if_pos (by decide +kernel), if_neg y1, if_pos rfl, if_neg (Ne.symm k23)]
            exact if_neg y1
          by_cases y3 : w2 = "at"
          · subst y3
            rw [if_pos (by decide +kernel), if_neg y1, if_neg y2, if_pos rfl, if_pos rfl, isN_optI]
            cases ttV t <;> rfl
          · rw [if_neg (by simp [y1, y2, y3]), if_neg y1, if_neg y2, if_neg y3]
        have gd : ∀ {p1 p2 p3 p4 p5 : Pos} {j : Nat}, M2 (cxOf CX0 P w K mg base lkN "_law_kind_due" (defScope sLKd) f cdv A outer s H E).nox (.Name "_law_good" p1) "get" p2 (.Name "_law_word" p3) (.Constant (.bool false) j p4) p5 → XD (cxOf CX0 P w K mg base lkN "_law_kind_due" (defScope sLKd) f cdv A outer s H E).nox M [some vw, some (.ref kd), some (.str w2), some (optV (kget ks kf w3)), none, none, some (.ref g)] H9 (.Call (.Attribute (.Name "_law_good" p1) "get" p2) [.Name "_law_word" p3, .Constant (.bool false) j p4] [] p5) (.bool (wd5 w2 t)) := fun {p1 p2 p3 p4 p5 j} mm => XV.dd (by
          have := xv_dgetD (X := (cxOf CX0 P w K mg base lkN "_law_kind_due" (defScope sLKd) f cdv A outer s H E).nox) (σ := [some vw, some (.ref kd), some (.str w2), some (optV (kget ks kf w3)), none, none, some (.ref g)]) (H := H9) (o := .Name "_law_good" p1) (e := .Name "_law_word" p3) (e2 := .Constant (.bool false) j p4) (p1 := p2) (p2 := p5) hu (xv_name 6 rfl) (xv_name 2 rfl) ((xd_bl (M := [])).vbl) hG9 mm
          rw [eg5] at this
          exact this) (.bl _)
        rw [eK] at fin'
        by_cases z : wd5 w2 t = true
        · rw [if_pos z] at fin'
          by_cases y : w2 = "place"
          · rw [if_pos y] at fin'
            exact rb_ret (M := M) (d := optSD (some "moment")) (xd_ifF (XT.to (xt_not (xt_val (M := M) (gd ⟨rfl, rfl, rfl, rfl⟩))) (by rw [z]; rfl)) (xd_ifT (XT.to (xt_eqSV (xv_name 2 rfl) xv_str) (decide_eq_true y)) xd_str)) fun v7 Ha sa hva => fin' rfl hva (s09.trans sa)
          · rw [if_neg y] at fin'
            exact rb_ret (M := M) (d := optSD (some "reading")) (xd_ifF (XT.to (xt_not (xt_val (M := M) (gd ⟨rfl, rfl, rfl, rfl⟩))) (by rw [z]; rfl)) (xd_ifF (XT.to (xt_eqSV (xv_name 2 rfl) xv_str) (decide_eq_false y)) xd_str)) fun v7 Ha sa hva => fin' rfl hva (s09.trans sa)
        · have z2 : wd5 w2 t = false := by simpa using z
          rw [if_neg z] at fin'
          exact rb_ret (M := M) (d := optSD none) (xd_ifT (XT.to (xt_not (xt_val (M := M) (gd ⟨rfl, rfl, rfl, rfl⟩))) (by rw [z2]; rfl)) xd_non) fun v7 Ha sa hva => fin' rfl hva (s09.trans sa)
end
end Zn

set_option Elab.async false
set_option linter.all false
set_option maxRecDepth 100000
set_option maxHeartbeats 8000000
namespace Zn
open PySem PySem.Spec PyProof.Rows L2 Dl
/-! k11: _law_wrong -/
abbrev sLWrong : Stmt := top 49
def optND : Option Nat → PyData
  | none => .none
  | some i => .int (i : Int)
def RLWrong (ds : List PyData) (d : PyData) : Prop := ∃ rows : List (List Str), ds = [.list (rows.map rowD)] ∧ rows ≠ [] ∧ rows.length ≤ 1000 ∧ (∀ r ∈ rows, r ≠ [] ∧ r.length ≤ 1000 ∧ ∀ w ∈ r, wOk w) ∧ d = optND (wrongW rows)
def goodF (ks : List Str) (kf : Str → Str) : PyData → Option PyData
  | .str n => if memO (kget ks kf n) ansL = true then some (.str n) else none
  | _ => none
theorem goodF_map (ks : List Str) (kf : Str → Str) : ∀ ws : List Str, (ws.map PyData.str).filterMap (goodF ks kf) = (ws.filter fun n => memO (kget ks kf n) ansL).map PyData.str
  | [] => rfl
  | w :: ws => by
    rw [List.map_cons, List.filterMap_cons, List.filter_cons, goodF_map ks kf ws]
    have e : goodF ks kf (.str w) = if memO (kget ks kf w) ansL = true then some (PyData.str w) else none := rfl
    rw [e]
    by_cases h : memO (kget ks kf w) ansL = true
    · rw [if_pos h, if_pos h]; rfl
    · rw [if_neg h, if_neg h]
theorem ans_good {ks : List Str} {kf : Str → Str} {ws : List Str} : ansB ks kf ws = ((decide ((1 : Int) ≤ (((ws.drop 1).filter fun n => memO (kget ks kf n) ansL).length : Int)) && decide ((((ws.drop 1).filter fun n => memO (kget ks kf n) ansL).length : Int) ≤ 4)) && decide (((ws.drop 1).filter fun n => memO (kget ks kf n) ansL).length = (ws.drop 1).length)) := by
  unfold ansB
  by_cases h : ((ws.drop 1).filter fun n => memO (kget ks kf n) ansL).length = (ws.drop 1).length
  · rw [h, decide_eq_true rfl, Bool.and_true]
    have : ((ws.drop 1).all fun n => memO (kget ks kf n) ansL) = true := List.all_eq_true.mpr (List.length_filter_eq_length_iff.mp h)
    rw [this, Bool.and_true]
  · rw [decide_eq_false h, Bool.and_false]
    have : ((ws.drop 1).all fun n => memO (kget ks kf n) ansL) = false := by
      rw [Bool.eq_false_iff]
      exact fun z => h (List.length_filter_eq_length_iff.mpr (List.all_eq_true.mp z))
    rw [this, Bool.and_false]
section
variable {X : Cx} {σ : L2.St} {H : Hp} {k v : Str} {pos q1 q2 : Pos} {j1 j2 : Nat} {Q : VK}
theorem re_disp1 (q : ∀ p H', Same H H' → H p = none → DM H' p [k] (fk fun _ => v) → Q (.ref p) H') : RE X (.Dict [some (.Constant (.str k) j1 q1)] [.Constant (.str v) j2 q2] pos) σ H Q :=
  ⟨_, pe_disp (pps_cons pe_str pe_str pps_nil) rfl rfl (by simp) (by simp), fun kd hkd => ⟨upd_same, [(.inr k, .str v)], rfl, by show 1 ≤ 15; decide, q kd _ (same_dict hkd) hkd upd_same⟩⟩
end
section
variable {P : Program} {w : World} {K : PySem.W.Frag} {mg : Str → Option Value} {base : Heap}
abbrev lwN : List Str := ["_law_rows", "_law_kinds", "_law_ended", "_law_at", "_law_words", "_law_good", "_law_kind", "_law_name"]
theorem scLWrong : FnScope lwN ["_law_rows"] (defScope sLWrong) := ⟨rfl, rfl, rfl, by decide +kernel, rfl, by decide +kernel, by decide +kernel⟩
theorem ok_lwrong {fS fK f : Addr} {gS gK fd : FuncData} (T : Nm mg) (GS : FnOk P w K mg base CX0 2 fS gS ["_law_words"] (spR K RLStart)) (FS : Df K mg "_law_is_start" sLStart ["_law_words"] fS gS)
    (GK : FnOk P w K mg base CX0 2 fK gK ["_law_words", "_law_kinds"] (spLKd K)) (FK : Df K mg "_law_kind_due" sLKd ["_law_words", "_law_kinds"] fK gK)
    (F : Df K mg "_law_wrong" sLWrong ["_law_rows"] f fd) : FnOk P w K mg base CX0 3 f fd ["_law_rows"] (spR K RLWrong) := by
  refine F.F.ok scLWrong (fun vs H Q E h => ?_) (fun cdv A outer s H vs Q E hr h => ?_)
  · obtain ⟨M, ds, d, L, hd, ⟨rows, rfl, _⟩, q⟩ := h
    exact dpa_len hd
  · obtain ⟨M, ds, d, L, hd, ⟨rows, rfl, hne, hrl, hg, rfl⟩, q⟩ := h
    cases hd with
    | @cons vr _ _ _ h1 hd =>
    cases hd
    have hu := Nat.lt_of_le_of_lt (Nat.add_le_add_left (show 1 ≤ 64 by decide) _) hr.units
    obtain ⟨r0, rs, rfl⟩ : ∃ r0 rs, rows = r0 :: rs := by
      cases rows with
      | nil => exact absurd rfl hne
      | cons r0 rs => exact ⟨r0, rs, rfl⟩
    obtain ⟨g1, g2, g3⟩ := hg r0 (by simp)
    have h1 : Dq K (hid M H) vr (.list ((r0 :: rs).map rowD)) := h1
    have fin : ∀ {o : Option Nat} {v : V} {Hx Hy : Hp}, o = wrongW (r0 :: rs) → Dq K Hy v (optND o) → Same H Hx → Q v Hx := fun {o v Hx Hy} e hv s => by
      refine q v Hx s ?_
      rw [← e]
      cases o with
      | none => rw [dp_non hv]; exact .non
      | some i => rw [dp_int hv]; exact .int _
    refine rb_if (k := !(startV r0).isSome) (xt_not (xt_val (M := M) (xd_call L GS hr FS.g FS.F.kp FS.b (xa_cons (xd_ixL (fun _ _ => rfl) (xd_name 0 rfl h1) xd_int (atI_nat (j := 0) rfl)) xa_nil) ⟨r0, rfl, g2, g3, rfl⟩))) (fun e H1 s1 => ?_) (fun e H1 s1 => rb_nil ?_)
    · have e0 : startV r0 = none := by
        rw [Bool.not_eq_true'] at e
        cases z : startV r0 with
        | none => rfl
        | some p => rw [z] at e; cases e
      exact rb_ret (M := M) (d := optND (some 0)) xd_int fun v H2 s2 hv => fin (by show some 0 = if startV r0 = none then _ else _; rw [if_pos e0]) hv (s1.trans s2)
    have e0 : wrongW (r0 :: rs) = goW 1 rs ["now"] fun _ => "moment" := by
      show (if startV r0 = none then _ else _) = _
      rw [if_neg]
      intro z
      rw [z] at e
      cases e
    refine rb_asgR ⟨_, pe_tup ra_, ra_cons (re_disp1 fun kd H2 s2 hkd hD2 => ra_1 (XV.go (xd_bl (M := [])).vbl fun H3 s3 => ⟨by show 2 ≤ _; decide, fun t ht => ?_⟩))⟩
    refine rg_tup (xs := [.ref kd, .bl false]) (SqT.of upd_same) (rgs_cons (rg_name 1 (rgs_cons (rg_name 2 (rgs_nil ?_) scLWrong.nd)) scLWrong.nd))
    have s4 : Same H3 (upd H3 t (.tup [.ref kd, .bl false])) := same_new ht
    have sH4 : Same H (upd H3 t (.tup [.ref kd, .bl false])) := ((s1.trans s2).trans s3).trans s4
    have hD4 : DM (upd H3 t (.tup [.ref kd, .bl false])) kd ["now"] (fk fun _ => "moment") := (hD2.up s3).up s4
    show RB _ _ _ _ (upd H3 t (.tup [.ref kd, .bl false]))
    generalize upd H3 t (.tup [.ref kd, .bl false]) = H4 at sH4 hD4
    have hk0 : H kd = none := s1.free hkd
    have h14 : Dq K (hid (kd :: M) H4) vr (.list ((r0 :: rs).map rowD)) := h1.up (hid_step hk0 sH4)
    have L4 : Live (kd :: M) H4 := fun b hb => by
      rcases List.mem_cons.mp hb with z | hb
      · rw [z]
        have := hD4
        unfold DM at this
        rw [this]; simp
      · exact L.mono sH4 b hb
    have hrows : ∀ k ws, ((r0 :: rs).map rowD)[k]? = some (rowD ws) → (r0 :: rs)[k]? = some ws := fun k ws hk => by
      rw [List.getElem?_map] at hk
      cases z : (r0 :: rs)[k]? with
      | none => rw [z] at hk; cases hk
      | some r =>
        rw [z] at hk
        have : rowD r = rowD ws := Option.some.inj hk
        have : r.map PyData.str = ws.map PyData.str := PyData.list.inj this
        rw [List.map_inj_right (fun a b h => PyData.str.inj h)] at this
        rw [this]
    refine rb_enum (M := kd :: M) T.enu (xd_name 0 rfl h14) fun H5 s5 => ⟨fun k σ' H' => ∃ (ks : List Str) (kf : Str → Str) (b : Bool) (u3 u4 u5 u6 u7 : Option V), σ' = [some vr, some (.ref kd), some (.bl b), u3, u4, u5, u6, u7] ∧ Same (hid (kd :: M) H5) (hid (kd :: M) H') ∧ Same H H' ∧ DM H' kd ks (fk kf) ∧ ks.length ≤ k + 1 ∧
        (b = false → wrongW (r0 :: rs) = goW (max k 1) ((r0 :: rs).drop (max k 1)) ks kf) ∧ (b = true → 1 ≤ k ∧ wrongW (r0 :: rs) = if (r0 :: rs).drop k = [] then none else some k),
      ⟨["now"], fun _ => "moment", false, none, none, none, none, none, rfl, Same.refl _, sH4.trans s5, hD4.up s5, Nat.le_refl _, fun _ => e0, fun z => by cases z⟩, fun k σ' H' w => by obtain ⟨_, _, _, _, _, _, _, _, _, z, _⟩ := w; exact z, fun k d hd σ' H' Tt x w hT hx => ?step, fun σ' H' w => ?done⟩
    case done =>
      obtain ⟨ks, kf, b, u3, u4, u5, u6, u7, rfl, sM, sH, hD, hkl, hA, hB⟩ := w
      have hlen : ((r0 :: rs).map rowD).length = (r0 :: rs).length := List.length_map ..
      have hpos : 1 ≤ (r0 :: rs).length := by rw [List.length_cons]; omega
      rw [hlen] at hA hB
      have h16 : Dq K (hid (kd :: M) H') vr (.list ((r0 :: rs).map rowD)) := (h14.up (hid_mono s5)).up sM
      cases b with
      | true =>
        have e1 := (hB rfl).2
        rw [if_pos List.drop_length] at e1
        exact rb_ret (M := []) (d := optND none) (xd_ifT (XT.to (xt_val (M := []) (xd_name 2 rfl (.bl true))) rfl) xd_non) fun v H6 s6 hv => fin e1.symm hv (sH.trans s6)
      | false =>
        have e1 := hA rfl
        rw [Nat.max_eq_left hpos, List.drop_length] at e1
        exact rb_ret (M := kd :: M) (d := optND (some (r0 :: rs).length)) (xd_ifF (XT.to (xt_val (M := []) (xd_name 2 rfl (.bl false))) rfl) (XD.to (xd_len T.len (xd_name 0 rfl h16)) (by rw [hlen]; rfl))) fun v H6 s6 hv => fin e1.symm hv (sH.trans s6)
    case step =>
      obtain ⟨ks, kf, b, u3, u4, u5, u6, u7, rfl, sM, sH, hD, hkl, hA, hB⟩ := w
      obtain ⟨ws, hws, rfl⟩ : ∃ ws, (r0 :: rs)[k]? = some ws ∧ d = rowD ws := by
        rw [List.getElem?_map] at hd
        cases z : (r0 :: rs)[k]? with
        | none => rw [z] at hd; cases hd
        | some r => rw [z] at hd; exact ⟨r, rfl, (Option.some.inj hd).symm⟩
      obtain ⟨w1, w2, w3⟩ := hg ws (List.mem_of_getElem? hws)
      have hk : k < (r0 :: rs).length := (List.getElem?_eq_some_iff.mp hws).1
      have sT : Same H' (upd H' Tt (.tup [.int (k : Nat), x])) := same_new hT
      refine rg_tup (xs := [.int (k : Nat), x]) (SqT.of upd_same) (rgs_cons (rg_name 3 (rgs_cons (rg_name 4 (rgs_nil ?_) scLWrong.nd)) scLWrong.nd))
      have kdT : kd ≠ Tt := fun z => by
        have := hD
        unfold DM at this
        rw [z, hT] at this
        cases this
      have LM : Live (kd :: M) H' := fun b hb => by
        rcases List.mem_cons.mp hb with z | hb
        · rw [z]
          have := hD
          unfold DM at this
          rw [this]; simp
        · exact L.mono sH b hb
      have hTM : Tt ∉ kd :: M := fun z => LM Tt z hT
      have sM6 : Same (hid (kd :: M) H5) (hid (kd :: M) (upd H' Tt (.tup [.int (k : Nat), x]))) := sM.trans (hid_mono sT)
      have hx6 : Dq K (hid (kd :: M) (upd H' Tt (.tup [.int (k : Nat), x]))) x (rowD ws) := hx.up (hid_mono sT)
      have sH6 : Same H (upd H' Tt (.tup [.int (k : Nat), x])) := sH.trans sT
      have hD6 : DM (upd H' Tt (.tup [.int (k : Nat), x])) kd ks (fk kf) := hD.up sT
      have L6 : Live (kd :: M) (upd H' Tt (.tup [.int (k : Nat), x])) := LM.mono sT
      show RB _ _ _ _ (upd H' Tt (.tup [.int (k : Nat), x]))
      generalize upd H' Tt (.tup [.int (k : Nat), x]) = H6 at sM6 hx6 sH6 hD6 L6
      have hx6 : Dq K (hid (kd :: M) H6) x (.list (ws.map PyData.str)) := hx6
      refine rb_if (k := decide (0 < k)) (XT.to (xt_cmpI (M := []) op_gt (xv_name 3 rfl).int xd_int) (decide_eq_decide.mpr (by omega))) (fun e7 H7 s7 => ?_) (fun e7 H7 s7 => rb_nil (rb_nil ?_))
      case refine_2 =>
        have k0 : k = 0 := by have := of_decide_eq_false e7; omega
        subst k0
        refine ⟨ks, kf, b, _, _, u5, u6, u7, rfl, sM6.trans (hid_mono s7), sH6.trans s7, hD6.up s7, by omega, hA, fun z => ?_⟩
        have := (hB z).1
        omega
      have k1 := of_decide_eq_true e7
      have emax : max k 1 = k := Nat.max_eq_left k1
      have emax2 : max (k + 1) 1 = k + 1 := Nat.max_eq_left (by omega)
      rw [emax] at hA
      have edrop : (r0 :: rs).drop k = ws :: (r0 :: rs).drop (k + 1) := drop_get hws
      have sH7 := sH6.trans s7
      cases b with
      | true =>
        refine rb_ifT (XT.to (xt_val (M := []) (xd_name 2 rfl (.bl true))) rfl) fun H8 s8 => ?_
        have e1 := (hB rfl).2
        rw [if_neg (by rw [edrop]; simp)] at e1
        exact rb_ret (M := []) (d := optND (some k)) (xv_name 3 rfl).int fun v H9 s9 hv => fin e1.symm hv ((sH7.trans s8).trans s9)
      | false =>
        have hA := hA rfl
        rw [edrop] at hA
        refine rb_ifF (XT.to (xt_val (M := []) (xd_name 2 rfl (.bl false))) rfl) fun H8 s8 => ?_
        have s68 := s7.trans s8
        have hx8 := hx6.up (hid_mono (M := kd :: M) s68)
        have hD8 := hD6.up s68
        have L8 := L6.mono s68
        have sH8 := sH6.trans s68
        have sM8 := sM6.trans (hid_mono (M := kd :: M) s68)
        obtain ⟨w0, wr, rfl⟩ : ∃ w0 wr, ws = w0 :: wr := by
          cases ws with
          | nil => exact absurd rfl w1
          | cons w0 wr => exact ⟨w0, wr, rfl⟩
        have hll : ((w0 :: wr).map PyData.str).length = wr.length + 1 := by rw [List.length_map]; rfl
        refine rb_if (k := decide (w0 = "return")) (xt_eqSV (xd_ixL (M := kd :: M) (fun _ _ => rfl) (xd_name 4 rfl hx8) xd_int (atI_nat (j := 0) rfl)).vstr xv_str) (fun e9 H9 s9 => ?_) (fun e9 H9 s9 => ?_)
        · -- return
          have ew := of_decide_eq_true e9
          subst ew
          have hx9 := hx8.up (hid_mono (M := kd :: M) s9)
          have L9 := L8.mono s9
          have hD9 := hD8.up s9
          refine rb_setC0 (M := kd :: M) (own := [("_law_name", 7)]) 5 (goodF ks kf) L9 scLWrong.nd (XL.dd (XL.to (xl_cut L9 (xd_name 4 rfl hx9) (xo_some (M := kd :: M) xd_int) xo_none) (by rw [cut1, ← List.map_drop])) L9) (blkOk_by (own := [("_law_name", 7)]) (N := lwN) (sc := defScope sLWrong) (by decide +kernel)) (by rw [List.length_map]; show wr.length ≤ _; have : wr.length + 1 ≤ 1000 := w2; omega) (fun p d v Hb hdm hp sb Lp hv => ?comp) (fun g xs Ha sa hg0 hga hxa => ?_)
          case comp =>
            obtain ⟨n, _, rfl⟩ := List.mem_map.mp hdm
            have ev := dp_str hv
            subst ev
            intro s0 H0 C0 cl fp
            refine rg_name 7 ⟨rfl, bt_one (k := memO (kget ks kf n) ansL) (fun s0 H0 C0 cl fp => xt_inLO (xv_dgetO hu (xv_name 1 rfl) (xv_name 7 rfl) (hD9.up sb) ⟨rfl, rfl, rfl, rfl⟩) (xl_lst Live.nil (xa_cons xd_str (xa_cons xd_str xa_nil)) (by decide +kernel))) fun Hc sc => ⟨sc, ?_⟩⟩ scLWrong.nd
            by_cases m : memO (kget ks kf n) ansL = true
            · exact .inl ⟨m, .str n, if_pos m, fun s0 H0 C0 cl fp => XV.go (xv_name 7 rfl) fun H5 s5 => ⟨s5, .str n⟩⟩
            · exact .inr ⟨by simpa using m, if_neg m⟩
          rw [goodF_map] at hxa
          have hga' : Dq K (hid (kd :: M) Ha) (.ref g) (.list (((wr.filter fun n => memO (kget ks kf n) ansL)).map PyData.str)) := .lst (by rw [hid_of (fun z => L9 g z hg0)]; exact hga) hxa
          have hgl : ((wr.filter fun n => memO (kget ks kf n) ansL).map PyData.str).length = (wr.filter fun n => memO (kget ks kf n) ansL).length := List.length_map ..
          have sa9 := s9.trans sa
          have hxa9 := hx8.up (hid_mono (M := kd :: M) sa9)
          refine rb_if (k := !ansB ks kf ("return" :: wr)) (XT.to (xt_or2 (xt_not (XT.to (xt_chainI (M := kd :: M) op_le op_le xd_int (xd_len T.len (xd_name 5 rfl hga')) xd_int) (by rw [hgl]))) fun _ => xt_neI (M := kd :: M) (xd_len T.len (xd_name 5 rfl hga')) (xd_sub (xd_len T.len (xd_name 4 rfl hxa9)) xd_int)) (by
            rw [ans_good, hgl, hll]
            show _ = !((_ && _) && decide ((wr.filter _).length = wr.length))
            have : decide (((wr.filter fun n => memO (kget ks kf n) ansL).length : Int) = ((wr.length + 1 : Nat) : Int) - 1) = decide ((wr.filter fun n => memO (kget ks kf n) ansL).length = wr.length) := decide_eq_decide.mpr (by omega)
            rw [this, ← Bool.not_and]
            rfl)) (fun ea Hb sb => ?_) (fun ea Hb sb => rb_nil ?_)
          · have ea' : ansB ks kf ("return" :: wr) = false := by simpa using ea
            rw [goW_ret rfl, ea', if_neg (by decide)] at hA
            exact rb_ret (M := []) (d := optND (some k)) (xv_name 3 rfl).int fun v Hc sc hv => fin hA.symm hv ((sH8.trans (sa9.trans sb)).trans sc)
          · have ea' : ansB ks kf ("return" :: wr) = true := by simpa using ea
            rw [goW_ret rfl, ea', if_pos rfl] at hA
            have sb9 := sa9.trans sb
            refine rb_setV 2 (xd_bl (M := [])).vbl (fun Hc sc => rb_nil (rb_nil (rb_nil ?_))) scLWrong.nd
            have sc9 := sb9.trans sc
            exact ⟨ks, kf, true, _, _, _, _, _, rfl, sM8.trans (hid_mono sc9), sH8.trans sc9, hD8.up sc9, by omega, fun z => (by cases z), fun _ => ⟨by omega, hA⟩⟩
        · have ew := of_decide_eq_false e9
          have hx9 := hx8.up (hid_mono (M := kd :: M) s9)
          have L9 := L8.mono s9
          have hD9 := hD8.up s9
          have hnr : ¬(w0 :: wr).head? = some ("return" : Str) := fun z => ew (Option.some.inj z)
          have hA2 : wrongW (r0 :: rs) = match lawKind ks kf (w0 :: wr) with
              | none => some k
              | some kk => if 8 < k then some k else goW (k + 1) ((r0 :: rs).drop (k + 1)) (Bf.ins ks w0) (Bf.up kf w0 kk) := by
            rw [hA]
            show (if (w0 :: wr).head? = some ("return" : Str) then _ else _) = _
            rw [if_neg hnr]
            rfl
          refine rb_setR 6 (re_call GK hr FK.g FK.F.kp FK.b (ra_cons (XV.go (xv_name 4 rfl) fun Ha sa => ra_1 (XV.go (xv_name 1 rfl) fun Hb sb => ⟨kd :: M, x, kd, w0 :: wr, ks, kf, rfl, L9.mono (sa.trans sb), hx9.up (hid_mono (sa.trans sb)), hD9.up (sa.trans sb), by simp, w2, w3, fun Hc sc => ?_⟩)))) scLWrong.nd
          have s9c := ((s9.trans sa).trans sb).trans sc
          have hxc := hx8.up (hid_mono (M := kd :: M) s9c)
          refine rb_if (k := decide (lawKind ks kf (w0 :: wr) = none) || decide (8 < k)) (xt_or2 (XT.to (xt_isNoneV (xv_name 6 rfl)) (by cases lawKind ks kf (w0 :: wr) <;> rfl)) fun _ => XT.to (xt_cmpI (M := []) op_gt (xv_name 3 rfl).int xd_int) (decide_eq_decide.mpr (by omega))) (fun ed Hd sd => ?_) (fun ed Hd sd => rb_nil ?_)
          · have e1 : wrongW (r0 :: rs) = some k := by
              rw [hA2]
              rw [Bool.or_eq_true, decide_eq_true_eq, decide_eq_true_eq] at ed
              cases z : lawKind ks kf (w0 :: wr) with
              | none => rfl
              | some kk =>
                rcases ed with ed | ed
                · rw [z] at ed; cases ed
                · exact if_pos ed
            exact rb_ret (M := []) (d := optND (some k)) (xv_name 3 rfl).int fun v He se hv => fin e1.symm hv ((sH8.trans (s9c.trans sd)).trans se)
          · rw [Bool.or_eq_false_iff, decide_eq_false_iff_not, decide_eq_false_iff_not] at ed
            obtain ⟨kk, hkk⟩ : ∃ kk, lawKind ks kf (w0 :: wr) = some kk := by
              cases z : lawKind ks kf (w0 :: wr) with
              | none => exact absurd z ed.1
              | some kk => exact ⟨kk, rfl⟩
            rw [hkk] at hA2
            have hA3 : wrongW (r0 :: rs) = goW (k + 1) ((r0 :: rs).drop (k + 1)) (Bf.ins ks w0) (Bf.up kf w0 kk) := by
              rw [hA2]
              exact if_neg ed.2
            have s9d := s9c.trans sd
            have hxd := hx8.up (hid_mono (M := kd :: M) s9d)
            have hDd := hD8.up s9d
            rw [hkk]
            refine rb_dput (M := kd :: M) (W := kd) (x := w0) (d := .str kk) hu ((xv_name 6 rfl).dd (.str kk)) (xv_name 1 rfl) (xd_ixL (fun _ _ => rfl) (xd_name 4 rfl hxd) xd_int (atI_nat (j := 0) rfl)) hDd (by rw [List.length_cons] at hrl hk; omega) fun ve He se hve => ?_
            have eve := dp_str hve
            subst eve
            have eput : Bf.up (fk kf) w0 (V.str kk) = fk (Bf.up kf w0 kk) := fk_up kf w0 kk
            rw [eput]
            have hins : (Bf.ins ks w0).length ≤ k + 1 + 1 := by
              unfold Bf.ins
              split
              · omega
              · rw [List.length_append]; show ks.length + 1 ≤ _; omega
            refine rb_nil (rb_nil (rb_nil ⟨Bf.ins ks w0, Bf.up kf w0 kk, false, _, _, _, _, _, rfl, ?_, same_upd (sH8.trans (s9d.trans se)) hk0, upd_same, hins, fun _ => ?_, fun z => by cases z⟩))
            · rw [hid_cons_upd]
              exact sM8.trans (hid_mono (s9d.trans se))
            · rw [emax2]
              exact hA3
end
end Zn

set_option Elab.async false
set_option linter.all false
set_option maxRecDepth 100000
set_option maxHeartbeats 8000000
namespace Zn
open PySem PySem.Spec PyProof.Rows L2 Dl
/-! k11: Program of anything; _law_told -/
abbrev sLTold : Stmt := top 50
/-- two promises of one def -/
theorem fnOk_or {P : Program} {w : World} {K : PySem.W.Frag} {mg : Str → Option Value} {base : Heap} {cx : CXT} {k : Nat} {f : Addr} {fd : FuncData} {ps : List Str} {sp1 sp2 : Sp} (F1 : FnOk P w K mg base cx k f fd ps sp1) (F2 : FnOk P w K mg base cx k f fd ps sp2) :
    FnOk P w K mg base cx k f fd ps (fun vs H Q E => sp1 vs H Q E ∨ sp2 vs H Q E) :=
  ⟨fun vs H Q E h => h.elim (F1.len vs H Q E) (F2.len vs H Q E), fun A outer s H args us vs Q E hr he hb hv h => h.elim (F1.run A outer s H args us vs Q E hr he hb hv) (F2.run A outer s H args us vs Q E hr he hb hv)⟩
section
variable {X : Cx} {cx : CXT} {j : Nat} {f C : Addr} {fd : FuncData} {ps : List Str} {sp : Sp} {Er : XK} {τ : L2.St} {G : Hp} {z : Shared} {pn : List (Addr × Obj)} {ws : List V} {R : VK}
/-- a new object whose making may raise, at one state -/
theorem made_at {as : List Value} (mk : Mk X.K C f) (F : FnOk X.prog X.w X.K X.mg X.base cx j f fd ps sp) (room : Room (j + 1) X.A) (bd : Binds X.K fd ps []) (out : PassesAt cx X τ Er) (J : Inv X pn τ G z) (rel : Vals ws as)
    (go : ∀ y dx, G y = none → G dx = none → dx ≠ y → sp (.ref y :: ws) (upd (upd G dx (.own y)) y (.ins C dx [])) (fun v H2 => v = .non ∧ R (.ref y) H2) Er) : wpAny (model X.prog X.w) X.A (call (.ref C) as) (EP X pn τ R) X.xe z := by
  have g0 := go (z.heap.objs.size + 1) z.heap.objs.size (J.hok.fresh (Nat.le_succ _)) (J.hok.fresh (Nat.le_refl _)) (Nat.ne_of_lt (Nat.lt_succ_self _))
  have J2 := Inv.made (C := C) J
  have rel2 : Vals (V.ref (z.heap.objs.size + 1) :: ws) (Value.ref (z.heap.objs.size + 1) :: as) := .cons rfl rel
  have len := rel2.length
  rw [F.len _ _ _ _ g0] at len
  have bd2 := bd _ (Value.ref (z.heap.objs.size + 1) :: as) J2.kIn (by rw [List.append_nil]; exact len.symm)
  rw [List.append_nil] at bd2
  have body := F.run _ X.stack _ _ ⟨Value.ref (z.heap.objs.size + 1) :: as, []⟩ _ _ _ Er (room.make C as []) (J2.env0.make C as []) bd2 rel2 g0
  refine wpAny_call (make_map (f := f) J.kIn mk.makes mk.init (beq_iff_eq.mp mk.fn) (codeAny_mono body fun r s' h2 => ?_))
  match r, h2 with
  | .error e, h2 => exact out pn _ _ e s' J2 h2
  | .ok (.ret u), h2 =>
    obtain ⟨v, G', J3, rv, ev, q3⟩ := J2.after h2
    subst ev
    exact ⟨rv, V.ref (z.heap.objs.size + 1), G', J3, rfl, q3⟩
  | .ok .next, h2 => exact False.elim h2
  | .ok .brk, h2 => exact False.elim h2
  | .ok .cont, h2 => exact False.elim h2
end
section
variable {X : Cx} {M : List Addr} {σ : L2.St} {H : Hp} {e a b : Expr} {es : List Expr} {x : Str} {pos p1 p2 p3 : Pos} {Q : VK} {k : Nat} {f C : Addr} {fd : FuncData} {ps : List Str} {sp : Sp} {W : WX} {D : Ends} {rest : List Stmt}
/-- C(e, ..), which may raise -/
theorem re_makeX (mk : Mk X.K C f) (F : FnOk X.prog X.w X.K X.mg X.base (L2.CX X.prog X.w) k f fd ps sp) (hr : Room (k + 1) X.A) (tk : Takes X W) (hm : X.mg x = some (.ref C)) (hb : Binds X.K fd ps [])
    (ha : RA X (e :: es) σ H fun vs H1 => ∀ y dx, H1 y = none → H1 dx = none → dx ≠ y → sp (.ref y :: vs) (upd (upd H1 dx (.own y)) y (.ins C dx [])) (fun v H2 => v = .non ∧ Q (.ref y) H2) (fun cls d H2 => W cls d σ H2)) (hg : Gl X x := by rfl)
    (hdb : (x == ("__debug__" : Str)) = false := by decide) (he : starEach (e :: es) X.env = (false, eval e X.env) :: starEach es X.env := by rfl) (hpl : (backTo pos (starEach es X.env)).any (·.1) = false := by rfl) : RE X (.Call (.Name x p1) (e :: es) [] pos) σ H Q := by
  refine ⟨fun σ' H' Q' => σ' = σ ∧ RA X (e :: es) σ' H' fun vs H1 => ∀ y dx, H1 y = none → H1 dx = none → dx ≠ y → sp (.ref y :: vs) (upd (upd H1 dx (.own y)) y (.ins C dx [])) (fun v H2 => v = .non ∧ Q' (.ref y) H2) (fun cls d H2 => W cls d σ H2), ⟨fun pins s σ' H' Q' I hh => ?_⟩, rfl, ha⟩
  obtain ⟨es1, h⟩ := hh
  subst es1
  refine wpAny_Call_Name_kw (ld_glob I hg hm ?_ hdb)
  refine PySem.W.callWith_K (h₀ := X.base) I.ok.mod.kin mk.kp (thn (ra_.run pos pins s _ H' _ I h) fun us s1 w1 => ?_) he hpl
  obtain ⟨vs, H1, I1, r, q⟩ := w1
  exact ⟨I1.kIn, made_at mk F hr hb (passAt tk _) I1 r q⟩
/-- a new list of these things is what comes -/
def FinL (Q : VK) (H : Hp) (xs : List V) : Prop := ∀ p H2, Same H H2 → H p = none → H2 p = some (.lst xs) → Q (.ref p) H2
theorem FinL.up {Q : VK} {H H1 : Hp} {xs : List V} (h : FinL Q H xs) (s : Same H H1) : FinL Q H1 xs := fun p H2 s2 hp e => h p H2 (s.trans s2) (s.free hp) e
theorem rb_retLL (h : RA X es σ H fun vs H1 => vs.length ≤ 1000 ∧ FinL D.rt H1 vs) : RB X (.Return (some (.List es p2)) p3 :: rest) D σ H :=
  rb_retR ⟨_, pe_lst ra_, ra_mono h fun vs H1 ⟨hz, q⟩ => ⟨Nat.le_trans hz (by decide), fun p hp => q p _ (same_new hp) hp upd_same⟩⟩
/-- [k, v] != [k, v], v the same -/
theorem op_neS2 (hu : X.A.units + 64 < cLine) : OpR X (compareOp .NotEq) (fun x y H Q => ∃ a b k v, x = .ref a ∧ y = .ref b ∧ H a = some (.lst [.str k, v]) ∧ H b = some (.lst [.str k, v]) ∧ (flatB v = true ∨ ∃ c, v = .ref c) ∧ Q (.bl false) H) := by
  intro pins s σ H x y v u Q I rx ry h
  obtain ⟨a, b, k, t, rfl, rfl, ha, hb, ht, q⟩ := h
  cases rx; cases ry
  obtain ⟨us, r1, p1, _⟩ := I.list (SqL.of (K := X.K) ha)
  obtain ⟨ws, r2, p2, _⟩ := I.list (SqL.of (K := X.K) hb)
  cases r1 with
  | cons h1 t1 => cases t1 with
    | cons h2 t1 =>
      cases t1
      cases r2 with
      | cons h3 t2 => cases t2 with
        | cons h4 t2 =>
          cases t2
          refine SeqAt.RcNeAt.lists p1.isList p2.isList rfl (by omega) (e := fun _ => true) (fun j j1 j2 => ?_) X.prog X.w _ _ ⟨.bl false, H, I, rfl, q⟩
          match j, j1, j2 with
          | 0, _, _ => exact eqAt_same h1 h3 rfl
          | 1, _, _ =>
            rcases ht with ht | ⟨c, rfl⟩
            · exact eqAt_same h2 h4 ht
            · cases h2; cases h4
              exact SeqAt.EqAt.same _
          | j + 2, j1, _ => exact absurd j1 (by simp)
end
def GoodTx (x : Str) : Prop := (∃ r0 rs, rowsOf x = r0 :: rs) ∧ GoodRows (rowsOf x) ∧ (x.length ≤ 10000 ∧ ∀ l ∈ Txt.split x "\n", l.length ≤ 10000)
section
variable {P : Program} {w : World} {K : PySem.W.Frag} {mg : Str → Option Value} {base : Heap} {C CL CT : Addr}
def spPgBad (K : PySem.W.Frag) (C CT : Addr) : Sp := fun vs H Q E => ∃ (y : Addr) (v : V) (T : String), vs = [.ref y, v] ∧ Th K H v T ∧ T ≠ "str" ∧ OutF E CT "value" v H
theorem ok_pgBad {f fX : Addr} {fd fdX : FuncData} (T : Nm mg) (Y : XCls P w K mg base "InvalidText" "value" CT fX fdX) (F : Fun K "__init__" "Program.__init__" sPgInit f fd) : FnOk P w K mg base (L2.CX P w) 6 f fd ["self", "text"] (spPgBad K C CT) := by
  refine F.okX scPgInit (fun vs H Q E h => ?_) (fun cdv A outer s H vs Q E hr h => ?_)
  · obtain ⟨y, v, T', rfl, _⟩ := h; rfl
  · obtain ⟨y, v, T', rfl, ht, hn, q⟩ := h
    have hr2 := hr.mono (show 2 ≤ 5 by decide)
    have tk : Takes (cxOf (L2.CX P w) P w K mg base piN "Program.__init__" (defScope sPgInit) f cdv A outer s H E) (fun cls d _ H => E cls d H) := takes_of rfl rfl rfl rfl
    show RB (cxOf (L2.CX P w) P w K mg base piN "Program.__init__" (defScope sPgInit) f cdv A outer s H E) (defBody sPgInit) _ _ H
    refine rb_ifT (XT.to (xt_not (xt_val (M := []) (k := false) (xd_isTy (by rw [kt_str ht.t, decide_eq_false hn]) T.isi T.str (by decide +kernel) (xv_name 1 rfl) ht.ty))) rfl) fun H1 s1 => ?_
    exact rb_raise Y hr2 tk (XV.go (xv_name 1 rfl) fun H2 s2 d H3 s3 e => q d H3 ((s1.trans s2).trans s3) e)
def spPg11 (K : PySem.W.Frag) (C CL CT : Addr) : Sp := fun vs H Q E => spPgInit K C CL vs H Q E ∨ spPgBad K C CT vs H Q E
/-- Program as a law's function uses it -/
structure PM11 (P : Program) (w : World) (K : PySem.W.Frag) (mg : Str → Option Value) (base : Heap) (C CL CT f : Addr) (fd : FuncData) : Prop where
  mkk : Mk K C f
  G : FnOk P w K mg base (L2.CX P w) 6 f fd ["self", "text"] (spPg11 K C CL CT)
  b : Binds K fd ["self", "text"] []
  g : mg "Program" = some (.ref C)
def spLTold (K : PySem.W.Frag) : Sp := fun vs H Q _ => ∃ (v : V) (T : String), vs = [v] ∧ Th K H v T ∧ (∀ x, v = .str x → GoodTx x ∧ (∀ i, wrongW (rowsOf x) = some i → FinL Q H [.str "line", .int (i : Int)]) ∧ (wrongW (rowsOf x) = none → FinL Q H [.str "told"])) ∧ (T ≠ "str" → FinL Q H [.str "text", v])
abbrev ltoN : List Str := ["_law_text_here", "e"]
theorem scLTold : FnScope ltoN ["_law_text_here"] (defScope sLTold) := ⟨rfl, rfl, rfl, by decide +kernel, rfl, by decide +kernel, by decide +kernel⟩
theorem ok_ltold {fM fX fY f : Addr} {gM gX gY fd : FuncData} (W : PM11 P w K mg base C CL CT fM gM) (YT : XCls P w K mg base "InvalidText" "value" CT fX gX) (YL : XCls P w K mg base "InvalidLine" "index" CL fY gY) (eLT : PySem.W.exmOne K (.ref CL) (.ref CT) = some false)
    (F : Df K mg "_law_told" sLTold ["_law_text_here"] f fd) : FnOk P w K mg base CX0 8 f fd ["_law_text_here"] (spLTold K) := by
  refine F.F.ok scLTold (fun vs H Q E h => ?_) (fun cdv A outer s H vs Q E hr h => ?_)
  · obtain ⟨v, T', rfl, _⟩ := h; rfl
  · obtain ⟨v, T', rfl, ht, q1, q2⟩ := h
    show RB (cxOf CX0 P w K mg base ltoN "_law_told" (defScope sLTold) f cdv A outer s H E).nox (defBody sLTold) _ [some v, none] H
    have tk0 : Takes (cxOf CX0 P w K mg base ltoN "_law_told" (defScope sLTold) f cdv A outer s H E).nox (fun _ _ _ _ => False) := fun u s' ⟨_, _, _, _, _, _, _, _, _, _, _, _, _, _, _, _, w⟩ => w.elim
    refine rb_tryAs (Wout := fun _ _ _ _ => False) 1 scLTold.nd tk0 (Cls.cons (c := .ref CT) ⟨rfl, rfl, .inl YT.mgC⟩ (Cls.cons (c := .ref CL) ⟨rfl, rfl, .inl YL.mgC⟩ Cls.nil)) fun pn xe tk po => ?_
    generalize hW : wManyAs _ _ _ _ _ = W' at tk
    have hT : FinL Q H [.str "text", v] → ∀ {Hx : Hp}, Same H Hx → OutF (fun cls d H2 => W' cls d [some v, none] H2) CT "value" v Hx := by
      intro fin Hx sx d H1 s1 e
      rw [← hW]
      exact ⟨true, YT.te, fun _ a ha ob pn z hf => rb_retLL (ra_cons (XV.go xv_str fun H2 s2 => ra_1 (XV.go (xv_xf YT.xf YT.no z hf rfl (xv_name 1 rfl) (s2 _ _ e) rfl) fun H3 s3 => ⟨by show 2 ≤ 1000; decide, fin.up (((sx.trans s1).trans s2).trans s3)⟩))), fun z => absurd z (by decide)⟩
    have hL : ∀ {i : Nat}, FinL Q H [.str "line", .int (i : Int)] → ∀ {Hx : Hp}, Same H Hx → OutF (fun cls d H2 => W' cls d [some v, none] H2) CL "index" (.int (i : Int)) Hx := by
      intro i fin Hx sx d H1 s1 e
      rw [← hW]
      exact ⟨false, eLT, fun z => absurd z (by decide), fun _ => ⟨true, YL.te, fun _ a ha ob pn z hf => rb_retLL (ra_cons (XV.go xv_str fun H2 s2 => ra_1 (XV.go (xv_xf YL.xf YL.no z hf rfl (xv_name 1 rfl) (s2 _ _ e) rfl) fun H3 s3 => ⟨by show 2 ≤ 1000; decide, fin.up (((sx.trans s1).trans s2).trans s3)⟩))), fun z => absurd z (by decide)⟩⟩
    refine rb_exprR (re_makeX W.mkk W.G hr tk W.g W.b (ra_1 (XV.go (xv_name 0 rfl) fun H1 s1 y dx hy hdx hne => ?_)))
    have hy1 : upd H1 dx (.own y) y = none := by rw [upd_ne (Ne.symm hne)]; exact hy
    have s2 : Same H1 (upd (upd H1 dx (.own y)) y (.ins C dx [])) := (same_new hdx).trans (same_new hy1)
    by_cases c : T' = "str"
    · obtain ⟨x, rfl⟩ := ht.l c
      obtain ⟨⟨⟨r0, rs, er⟩, hg, hl⟩, k1, k2⟩ := q1 x rfl
      refine .inl (pg_spec11 er hg hl (M := []) Live.nil hy hdx hne (fun i hi => hL (k1 i hi) s1) fun hn H2 s2 => ⟨rfl, rb_nil ?_⟩)
      exact rb_retLL (ra_1 (XV.go xv_str fun H3 s3 => ⟨by show 1 ≤ 1000; decide, (k2 hn).up ((s1.trans s2).trans s3)⟩))
    · exact .inr ⟨y, v, T', rfl, ht.up (s1.trans s2), c, hT (q2 c) (s1.trans s2)⟩
end
end Zn

set_option Elab.async false
set_option linter.all false
set_option maxRecDepth 100000
set_option maxHeartbeats 8000000
namespace Zn
open PySem PySem.Spec PyProof.Rows L2 Dl
/-! from K8E -/
section
variable {X : Cx} {M : List Addr} {σ : L2.St} {H : Hp} {a b e o hi : Expr} {pos p1 p2 : Pos} {xs : List V} {l : Addr} {Q : VK}
/-- o.pop(e) -/
theorem re_pop (ho : XV X σ H o (.ref l)) (h1 : H l = some (.lst xs)) (hz : xs.length ≤ 100000) (hi : ∀ H1, Same H H1 → RE X e σ H1 fun v H2 => ∃ r : Nat, v = .int (r : Int) ∧ H2 l = some (.lst xs) ∧ ∃ y, xs[r]? = some y ∧ Q y (upd H2 l (.lst (xs.eraseIdx r))))
    (hbase : attributeBase o "pop" X.env (eval o X.env) = eval o X.env := by rfl)
    (hfew : ((backTo p2 (starEach [e] X.env)).all (fun x => !x.1) && (backToKw p2 (keywordEach [] X.env)).all (fun x => x.1.isSome) && decide ([e].length + ([] : List Keyword).length + (if ([] : List Keyword).isEmpty then 0 else 1) < 30)) = true := by rfl)
    (hline : (p1.endLine == p2.line) = true := by rfl) (hs : starEach [e] X.env = (false, eval e X.env) :: starEach [] X.env := by rfl) (hplain : (backTo p2 (starEach [] X.env)).any (·.1) = false := by rfl) : RE X (.Call (.Attribute o "pop" p1) [e] [] p2) σ H Q :=
  ⟨_, pe_bm PySem.F.plainAttrs_list PySem.F.slot_list_pop PySem.F.type_list_pop mt_popAt re_ ra_ hbase hfew hline hs hplain,
    ho H (Same.refl H) _ fun H1 s1 => ⟨.inl ⟨rfl, xs, SqL.of (s1 _ _ h1)⟩, ra_1 (re_mono (hi H1 s1) fun v H2 ⟨r, ev, h2, y, hy, q⟩ => by
      have hr : r < xs.length := (List.getElem?_eq_some_iff.mp hy).1
      have b1 : (100000 : Int) < 2 ^ 63 := by decide
      refine ⟨l, xs, r, r, y, rfl, by rw [ev], h2, by omega, by omega, ?_, hy, q⟩
      unfold seqIndex?
      simp
      omega) hs⟩⟩
end
/-! from OZ -/
section
variable {X : Cx} {M : List Addr} {σ : L2.St} {H H' : Hp} {e a b c o elt tg iter : Expr} {ifs : List Expr} {scope : Scope} {own : List (Str × Nat)} {ds ds2 : List PyData} {pos p1 p2 p3 tpos : Pos} {D : Ends} {rest : List Stmt} {v : V}
/-- o.insert(i, e) -/
theorem rb_insert {l : Addr} {xs : List V} {n : Nat} {x y : Expr} (ho : XV X σ H o (.ref l)) (h1 : H l = some (.lst xs)) (hz : xs.length < 100000) (hn : n ≤ 100000) (hx : XV X σ H x (.int (n : Int))) (hy : ∀ H1, Same H H1 → RE X y σ H1 fun v H2 => H2 l = some (.lst xs) ∧ RB X rest D σ (upd H2 l (.lst (xs.take n ++ [v] ++ xs.drop n))))
    (hbase : attributeBase o "insert" X.env (eval o X.env) = eval o X.env := by rfl)
    (hfew : ((backTo p2 (starEach [x, y] X.env)).all (fun x => !x.1) && (backToKw p2 (keywordEach [] X.env)).all (fun x => x.1.isSome) && decide ([x, y].length + ([] : List Keyword).length + (if ([] : List Keyword).isEmpty then 0 else 1) < 30)) = true := by rfl)
    (hline : (p1.endLine == p2.line) = true := by rfl) (hs : starEach [x, y] X.env = (false, eval x X.env) :: starEach [y] X.env := by rfl) (hs2 : starEach [y] X.env = (false, eval y X.env) :: starEach [] X.env := by rfl) (hplain : (backTo p2 (starEach [y] X.env)).any (·.1) = false := by rfl)
    (hsw : swapsWith (.Call (.Attribute o "insert" p1) [x, y] [] p2) none pos.line X.env = pure false := by rfl) : RB X (.Expr (.Call (.Attribute o "insert" p1) [x, y] [] p2) pos :: rest) D σ H :=
  rb_exprR ⟨_, pe_bm PySem.F.plainAttrs_list PySem.F.slot_list_insert PySem.F.type_list_insert mt_insert re_ ra_ hbase hfew hline hs hplain,
    ho H (Same.refl H) _ fun H1 s1 => ⟨.inl ⟨rfl, xs, SqL.of (s1 _ _ h1)⟩, ra_cons (hx H1 s1 _ fun H2 s2 => ra_1 (re_mono (hy H2 (s1.trans s2)) fun v H3 ⟨h2, q⟩ => ⟨l, xs, (n : Int), v, rfl, rfl, h2, Nat.lt_of_lt_of_le hz (by decide), Int.natCast_nonneg _, Int.lt_of_le_of_lt (Int.ofNat_le.mpr hn) (by decide), by rw [Int.toNat_natCast]; exact q⟩) hs2) hs⟩⟩ hsw
end
/-! from C1 -/
section
variable {X : Cx} {M : List Addr} {σ : L2.St} {H : Hp} {e : Expr} {pos : Pos} {D : Ends} {rest : List Stmt}
theorem rb_forV {tg : Expr} {body : List Stmt} (h : RE X e σ H fun v H1 => ∃ a xs, v = .ref a ∧ SqL X.K H1 a xs ∧ ∃ Pv : Nat → L2.St → Hp → Prop, Pv 0 σ H1 ∧ (∀ k σ' H', Pv k σ' H' → SqL X.K H' a xs) ∧
      (∀ k x, xs[k]? = some x → ∀ σ' H', Pv k σ' H' → RG X tg x σ' H' fun σ2 H2 => RB X body { D with nx := Pv (k + 1), ct := Pv (k + 1), bk := RB X rest D } σ2 H2) ∧ ∀ σ' H', Pv xs.length σ' H' → RB X rest D σ' H')
    (hp : PassesOwn (model X.prog X.w) X.A X.env X.xe := by exact PassesOwn.never) (hc : X.calm = true := by rfl) (hs : ∀ x, foldedSetIterable e X.env x = pure x := by intro _; rfl) : RB X (.For tg e body [] pos :: rest) D σ H :=
  ⟨_, pss_cons (ps_for hp hc (pi_list re_) rg_ rb_ hs) rb_, re_mono h fun v H1 ⟨a, xs, ev, hS, Pv, h0, hk, hst, hd⟩ =>
    ⟨a, ev, ⟨xs, hS⟩, for_list (xs := xs) Pv h0 (fun i σ' H' _ p => hk i σ' H' p) (fun i x σ' H' hi p => hst i x hi σ' H' p) hd⟩⟩
end
section
variable {P : Program} {w : World} {K : PySem.W.Frag} {mg : Str → Option Value} {base : Heap}
theorem th_lst {K : PySem.W.Frag} {H : Hp} {a : Addr} {xs : List V} (e : H a = some (.lst xs)) : Th K H (.ref a) "list" := ⟨fun _ s => .base (.lst (s _ _ e)), by decide, fun _ z => V.noConfusion z, fun z => absurd z (by decide), fun _ z => V.noConfusion z, fun z => absurd z (by decide)⟩
end
/-! from C2 -/
theorem th_dq {K : PySem.W.Frag} {M : List Addr} {H : Hp} {v : V} {d : PyData} (h : Dq K (hid M H) v d) : Th K H v (tyN d) := by
  cases h with
  | non => exact ⟨fun _ _ => .base .non, by decide, fun _ z => V.noConfusion z, fun z => absurd z (by decide), fun _ z => V.noConfusion z, fun z => absurd z (by decide)⟩
  | bl b => exact (show Th K H (.bl b) "bool" from ⟨fun _ _ => .base (.bl _), by decide, fun _ z => V.noConfusion z, fun z => absurd z (by decide), fun _ z => V.noConfusion z, fun z => absurd z (by decide)⟩)
  | int i => exact th_int
  | str x => exact th_str
  | lst e _ => exact th_lst (hid_le _ _ e)
  | tup e a =>
    have h0 : Dq K (hid M H) (.ref _) (.tuple _) := .tup e a
    exact (show Th K H (.ref _) "tuple" from ⟨fun _ s => ty_dq ((h0.up hid_le).up s), by decide, fun _ z => V.noConfusion z, fun z => absurd z (by decide), fun _ z => V.noConfusion z, fun z => absurd z (by decide)⟩)
end Zn

set_option Elab.async false
set_option linter.all false
set_option maxRecDepth 100000
set_option maxHeartbeats 8000000
namespace Zn
open PySem PySem.Spec PyProof.Rows L2 Dl
/-! k11: rows of words and how they are bent -/
def rsum (r : List Str) : Nat := (r.map fun w => w.length + 1).sum
def RowG (n : Nat) (r : List Str) : Prop := r ≠ [] ∧ rsum r ≤ 50 + 10 * n ∧ ∀ w ∈ r, PyData.strOk w = true
structure GR (n : Nat) (rs : List (List Str)) : Prop where
  len : rs.length ≤ 10 + n
  ne : rs ≠ []
  row : ∀ r ∈ rs, RowG n r
theorem RowG.up {n m : Nat} {r : List Str} (h : RowG n r) (hm : n ≤ m) : RowG m r := ⟨h.1, by have := h.2.1; omega, h.2.2⟩
theorem GR.up {n m : Nat} {rs : List (List Str)} (g : GR n rs) (hm : n ≤ m) : GR m rs := ⟨by have := g.len; omega, g.ne, fun r hr => (g.row r hr).up hm⟩
theorem GR.set {n i : Nat} {rs : List (List Str)} {r : List Str} (g : GR n rs) (hr : RowG (n + 1) r) : GR (n + 1) (rs.set i r) := by
  refine ⟨by rw [List.length_set]; have := g.len; omega, fun z => g.ne ?_, fun r' h => ?_⟩
  · have := congrArg List.length z
    rw [List.length_set] at this
    exact List.length_eq_zero_iff.mp this
  · rcases List.mem_or_eq_of_mem_set h with h | h
    · exact (g.row r' h).up (by omega)
    · rw [h]; exact hr
theorem GR.sub {n : Nat} {rs rs' : List (List Str)} (g : GR n rs) (h : ∀ r ∈ rs', r ∈ rs) (hl : rs'.length ≤ rs.length + 1) (hn : rs' ≠ []) : GR (n + 1) rs' := ⟨by have := g.len; omega, hn, fun r hr => (g.row r (h r hr)).up (by omega)⟩
theorem rsum_app (a b : List Str) : rsum (a ++ b) = rsum a + rsum b := by
  unfold rsum
  rw [List.map_append, List.sum_append]
theorem rsum_cons (w : Str) (r : List Str) : rsum (w :: r) = w.length + 1 + rsum r := by
  unfold rsum
  rw [List.map_cons, List.sum_cons]
theorem rsum_set : ∀ (r : List Str) (i : Nat) (w w' : Str), r[i]? = some w → rsum (r.set i w') + (w.length + 1) = rsum r + (w'.length + 1)
  | [], _, _, _, h => by simp at h
  | x :: r, 0, w, w', h => by
    have : x = w := by simpa using h
    subst this
    rw [List.set_cons_zero, rsum_cons, rsum_cons]
    omega
  | x :: r, i + 1, w, w', h => by
    rw [List.set_cons_succ, rsum_cons, rsum_cons]
    have := rsum_set r i w w' (by simpa using h)
    omega
theorem rsum_erase : ∀ (r : List Str) (i : Nat), rsum (r.eraseIdx i) ≤ rsum r
  | [], _ => Nat.le_refl _
  | x :: r, 0 => by rw [List.eraseIdx_cons_zero, rsum_cons]; omega
  | x :: r, i + 1 => by
    rw [List.eraseIdx_cons_succ, rsum_cons, rsum_cons]
    have := rsum_erase r i
    omega
theorem rsum_len (r : List Str) : r.length ≤ rsum r := by
  induction r with
  | nil => exact Nat.le_refl _
  | cons w r ih => rw [rsum_cons, List.length_cons]; omega
theorem rsum_mem {r : List Str} {w : Str} (h : w ∈ r) : w.length + 1 ≤ rsum r := by
  induction r with
  | nil => cases h
  | cons x r ih =>
    rw [rsum_cons]
    rcases List.mem_cons.mp h with e | h
    · rw [e]; omega
    · have := ih h; omega
theorem row_set {n i : Nat} {r : List Str} {w w' : Str} (g : RowG n r) (hi : r[i]? = some w) (ok : PyData.strOk w' = true) (hl : w'.length ≤ w.length + 9) : RowG (n + 1) (r.set i w') := by
  refine ⟨fun z => g.1 ?_, ?_, fun x hx => ?_⟩
  · have := congrArg List.length z
    rw [List.length_set] at this
    exact List.length_eq_zero_iff.mp this
  · have := rsum_set r i w w' hi
    have := g.2.1
    omega
  · rcases List.mem_or_eq_of_mem_set hx with h | h
    · exact g.2.2 x h
    · rw [h]; exact ok
theorem row_ins {n i : Nat} {r : List Str} {w : Str} (g : RowG n r) (ok : PyData.strOk w = true) (hl : w.length ≤ 9) : RowG (n + 1) (r.take i ++ [w] ++ r.drop i) := by
  refine ⟨by simp, ?_, fun x hx => ?_⟩
  · have e : rsum r = rsum (r.take i) + rsum (r.drop i) := by rw [← rsum_app, List.take_append_drop]
    have e2 : rsum [w] = w.length + 1 := by rw [rsum_cons]; rfl
    rw [rsum_app, rsum_app, e2]
    have := g.2.1
    omega
  · simp only [List.mem_append, List.mem_singleton] at hx
    rcases hx with (hx | rfl) | hx
    · exact g.2.2 x (List.mem_of_mem_take hx)
    · exact ok
    · exact g.2.2 x (List.mem_of_mem_drop hx)
theorem row_erase {n i : Nat} {r : List Str} (g : RowG n r) (h : 1 < r.length) : RowG (n + 1) (r.eraseIdx i) := by
  refine ⟨fun z => ?_, ?_, fun x hx => g.2.2 x (List.mem_of_mem_eraseIdx hx)⟩
  · have := congrArg List.length z
    rw [List.length_eraseIdx] at this
    simp at this
    split at this <;> omega
  · have := rsum_erase r i
    have := g.2.1
    omega
def oddL : List Str := ["", "now", "r", "zz", "100001", "-0", "07", "61", "ahead", "next", "24:00", "2:30", "=", "n", "read", "A", "+5", "--5"]
theorem odd_all : ∀ w ∈ oddL, PyData.strOk w = true ∧ w.length ≤ 9 := by decide +kernel
def sgnS : Str := " :=-0aZ\n+_"
theorem sgn_all : ∀ c ∈ sgnS.cps.toList, PyData.strOk (sg c) = true := by decide +kernel
/-- a word with a sign put in -/
def putIn (w : Str) (k : Nat) (c : Nat) : Str := cutS w none (some (k : Int)) ++ sg c ++ cutS w (some (k : Int)) none
theorem put_tl (w : Str) (k c : Nat) : (putIn w k c).cps.toList = w.cps.toList.take k ++ [c] ++ w.cps.toList.drop k := by
  unfold putIn
  show TL.tl _ = _
  rw [TL.tl_append, TL.tl_append]
  show (cutS w none (some (k : Int))).cps.toList ++ [c] ++ (cutS w (some (k : Int)) none).cps.toList = _
  rw [cutS_to, cutS_from]
theorem put_len (w : Str) (k c : Nat) : (putIn w k c).length = w.length + 1 := by
  rw [TL.len_tl, TL.len_tl w]
  show (putIn w k c).cps.toList.length = w.cps.toList.length + 1
  rw [put_tl, List.length_append, List.length_append, List.length_take, List.length_drop, List.length_singleton]
  omega
theorem strOk_all {x : Str} : PyData.strOk x = true ↔ ∀ c ∈ x.cps.toList, PyData.strOk (sg c) = true := by
  unfold PyData.strOk
  simp only [← Array.all_toList, List.all_eq_true]
  constructor
  · intro h c hc d hd
    have : d = c := by simpa [sg] using hd
    rw [this]; exact h c hc
  · intro h c hc
    exact h c hc c (by simp [sg])
theorem put_ok {w : Str} {k c : Nat} (h : PyData.strOk w = true) (hc : c ∈ sgnS.cps.toList) : PyData.strOk (putIn w k c) = true := by
  rw [strOk_all] at h ⊢
  intro d hd
  rw [put_tl] at hd
  simp only [List.mem_append, List.mem_singleton] at hd
  rcases hd with (hd | rfl) | hd
  · exact h d (List.mem_of_mem_take hd)
  · exact sgn_all d hc
  · exact h d (List.mem_of_mem_drop hd)
/-! ### rows at addresses of their own -/
def RowsAt (Hx : Hp) (p : Addr) (as : List Addr) (rs : List (List Str)) : Prop := Hx p = some (.lst (as.map V.ref)) ∧ as.length = rs.length ∧ ∀ (j : Nat) (a : Addr) (r : List Str), as[j]? = some a → rs[j]? = some r → Hx a = some (.lst (r.map V.str))
section
variable {Hx Hy : Hp} {p b g : Addr} {as : List Addr} {rs : List (List Str)} {i j : Nat} {r r' : List Str}
theorem RowsAt.keep (R : RowsAt Hx p as rs) (s : ∀ x o, (x = p ∨ x ∈ as) → Hx x = some o → Hy x = some o) : RowsAt Hy p as rs :=
  ⟨s _ _ (.inl rfl) R.1, R.2.1, fun j a r h1 h2 => s _ _ (.inr (List.mem_of_getElem? h1)) (R.2.2 j a r h1 h2)⟩
theorem RowsAt.up (R : RowsAt Hx p as rs) (s : Same Hx Hy) : RowsAt Hy p as rs := R.keep fun x o _ e => s x o e
theorem RowsAt.sameB (R : RowsAt Hx p as rs) (s : SameB b Hx Hy) (hp : p ≠ b) (ha : ∀ a ∈ as, a ≠ b) : RowsAt Hy p as rs := R.keep fun x o h e => s x o (h.elim (fun z => by rw [z]; exact hp) (ha x)) e
theorem RowsAt.put (R : RowsAt Hx p as rs) (nd : as.Nodup) (hp : p ∉ as) (hi : as[i]? = some g) : RowsAt (upd Hx g (.lst (r'.map V.str))) p as (rs.set i r') := by
  have hg := List.mem_of_getElem? hi
  have hil : i < as.length := (List.getElem?_eq_some_iff.mp hi).1
  refine ⟨?_, by rw [List.length_set]; exact R.2.1, fun j a r h1 h2 => ?_⟩
  · rw [upd_ne (fun z => hp (by rw [z]; exact hg))]
    exact R.1
  · by_cases c : i = j
    · subst c
      rw [hi] at h1
      cases h1
      rw [List.getElem?_set_self (by rw [← R.2.1]; exact hil)] at h2
      cases h2
      exact upd_same
    · rw [List.getElem?_set_ne c] at h2
      have na : a ≠ g := fun z => c ((List.getElem?_inj hil nd).mp (by rw [hi, h1, z]))
      rw [upd_ne na]
      exact R.2.2 j a r h1 h2
theorem RowsAt.swap {a c : Addr} {r2 : List Str} (R : RowsAt Hx p as rs) (hi : as[i]? = some a) (hj : as[j]? = some c) (ri : rs[i]? = some r) (rj : rs[j]? = some r2) (hy : Hy p = some (.lst (((as.set i c).set j a).map V.ref))) (hk : ∀ x ∈ as, ∀ o, Hx x = some o → Hy x = some o) : RowsAt Hy p ((as.set i c).set j a) ((rs.set i r2).set j r) := by
  have hil : i < as.length := (List.getElem?_eq_some_iff.mp hi).1
  have hjl : j < as.length := (List.getElem?_eq_some_iff.mp hj).1
  refine ⟨hy, by rw [List.length_set, List.length_set, List.length_set, List.length_set]; exact R.2.1, fun k x q h1 h2 => ?_⟩
  by_cases kj : j = k
  · subst kj
    rw [List.getElem?_set_self (by rw [List.length_set]; exact hjl)] at h1
    rw [List.getElem?_set_self (by rw [List.length_set, ← R.2.1]; exact hjl)] at h2
    cases h1; cases h2
    exact hk _ (List.mem_of_getElem? hi) _ (R.2.2 i _ _ hi ri)
  · rw [List.getElem?_set_ne kj] at h1 h2
    by_cases ki : i = k
    · subst ki
      rw [List.getElem?_set_self hil] at h1
      rw [List.getElem?_set_self (by rw [← R.2.1]; exact hil)] at h2
      cases h1; cases h2
      exact hk _ (List.mem_of_getElem? hj) _ (R.2.2 j _ _ hj rj)
    · rw [List.getElem?_set_ne ki] at h1 h2
      exact hk _ (List.mem_of_getElem? h1) _ (R.2.2 k _ _ h1 h2)
theorem dqa_rows {K : PySem.W.Frag} {G : Hp} : ∀ (as : List Addr) (rs : List (List Str)), as.length = rs.length → (∀ (j : Nat) (a : Addr) (r : List Str), as[j]? = some a → rs[j]? = some r → G a = some (.lst (r.map V.str))) → DqAll K G (as.map V.ref) (rs.map rowD)
  | [], [], _, _ => .nil
  | [], _ :: _, h, _ => by simp at h
  | _ :: _, [], h, _ => by simp at h
  | a :: as, r :: rs, h, k => .cons (.lst (k 0 a r rfl rfl) (dqa_strs r)) (dqa_rows as rs (by simpa using h) fun j a' r' h1 h2 => k (j + 1) a' r' (by simpa using h1) (by simpa using h2))
theorem RowsAt.dq {K : PySem.W.Frag} {M : List Addr} (R : RowsAt Hx p as rs) (hp : p ∉ M) (ha : ∀ a ∈ as, a ∉ M) : Dq K (hid M Hx) (.ref p) (.list (rs.map rowD)) :=
  .lst (by rw [hid_of hp]; exact R.1) (dqa_rows as rs R.2.1 fun j a r h1 h2 => by rw [hid_of (ha a (List.mem_of_getElem? h1))]; exact R.2.2 j a r h1 h2)
end
section
variable {X : Cx} {M : List Addr} {σ : L2.St} {H : Hp} {e a o ie elt tg iter : Expr} {scope : Scope} {own : List (Str × Nat)} {x : Str} {pos p1 p2 : Pos} {Q : VK} {D : Ends} {rest : List Stmt} {rows : List (List Str)}
/-- "text"[e], e draws -/
theorem re_ixStr (hs : PlainIx e) (ha : XV X σ H a (.str x)) (hz : x.length ≤ 100000) (h : ∀ H1, Same H H1 → RE X e σ H1 fun y H2 => ∃ r : Nat, y = .int (r : Int) ∧ r < x.length ∧ ∀ c, x.cps.toList[r]? = some c → Q (.str (sg c)) H2) : RE X (.Subscript a e pos) σ H Q :=
  ⟨_, pe_ix ix_str re_ re_ hs, ha.go fun H1 s1 => re_mono (h H1 s1) fun y H2 ⟨r, ey, hr, q⟩ => by
    have hr' : r < x.cps.toList.length := by have : x.length = x.cps.toList.length := TL.len_tl x; omega
    exact ⟨x, r, _, rfl, ey, small_sz hz, atI_nat (List.getElem?_eq_getElem hr'), q _ (List.getElem?_eq_getElem hr')⟩⟩
/-- o[i] as a target -/
theorem rg_sub {l : Addr} {xs : List V} {n : Int} {j : Nat} {v : V} {Q' : L2.St → Hp → Prop} (hl : H l = some (.lst xs)) (ho : XV X σ H o (.ref l)) (hi : XV X σ H ie (.int n)) (hj : ixN xs.length n = some j) (k : ∀ H1, Same H H1 → Q' σ (upd H1 l (.lst (xs.set j v))))
    (hg : PG X (.Subscript o ie p1) (gSub (RE X o) (RE X ie) rSetL) := by exact pg_sub re_ re_ set_list) : RG X (.Subscript o ie p1) v σ H Q' :=
  ⟨_, hg, ho H (Same.refl H) _ fun H2 s2 => hi H2 s2 _ fun H3 s3 => ⟨l, xs, n, j, rfl, rfl, (s2.trans s3) _ _ hl, hj, k H3 (s2.trans s3)⟩⟩
/-- x = [elt for tg in rows], each a new list of the row's words -/
theorem rb_setCL (i : Nat) {py spos : Pos} (L : Live M H) (hN : X.N.Nodup) (hit : XD X M σ H iter (.list (rows.map rowD))) (ok : BlkOk X.N X.env.scope scope own) (hz : rows.length ≤ 100000)
    (hst : ∀ p r v H1, r ∈ rows → H p = none → Same H H1 → Live (p :: M) H1 → Dq X.K (hid (p :: M) H1) v (rowD r) → BG X scope tg v (wipe σ (own.map (·.2))) H1 fun σ2 H2 => wipe σ2 (own.map (·.2)) = wipe σ (own.map (·.2)) ∧ H2 = H1 ∧
      BE X scope elt σ2 H1 fun y H4 => ∃ g, y = .ref g ∧ Same H1 H4 ∧ H1 g = none ∧ H4 g = some (.lst (r.map V.str)))
    (q : ∀ p as H2, Same H H2 → H p = none → (∀ a ∈ as, H a = none) → as.Nodup → p ∉ as → RowsAt H2 p as rows → RB X rest D (σ.set i (some (.ref p))) H2)
    (hi : X.N[i]? = some x := by rfl) (hx : X.env.scope.names.lookup x = some .local := by rfl) (hsw : swapsWith (.ListComp elt [⟨tg, iter, [], 0⟩] scope pos) (some (.Name x py)) spos.line X.env = pure true := by exact sw_true rfl rfl rfl rfl)
    (hc : X.calm = true := by rfl) (hs : ∀ x, foldedSetIterable iter X.env x = pure x := by intro _; rfl) : RB X (.Assign [.Name x py] (.ListComp elt [⟨tg, iter, [], 0⟩] scope pos) spos :: rest) D σ H := by
  refine ⟨_, pss_cons (ps_setLc (own := own) hc hN hi hx hsw (pi_list re_) ok (fun _ _ _ _ _ => bg_) (fun _ _ _ _ _ => bt_) (fun _ _ _ _ _ => be_) hs) rb_, hit H (Same.refl H) _ fun v H2 s2 hv => ?_⟩
  obtain ⟨a, xs, rfl, ha, hx2⟩ := dp_lst hv
  have L2' : Live M H2 := L.mono s2
  refine ⟨a, rfl, ⟨xs, SqL.of (hid_le _ _ ha)⟩, fun p hp => ?_⟩
  have hp0 : H p = none := s2.free hp
  have hlen : xs.length = rows.length := by rw [dpa_len hx2, List.length_map]
  refine lc_list (xs := xs) (a := a) (fun i H' => Same H2 H' ∧ ∃ as : List Addr, as.length = min i rows.length ∧ H' p = some (.lst (as.map V.ref)) ∧ as.Nodup ∧ p ∉ as ∧ (∀ a ∈ as, H2 a = none) ∧ ∀ (j : Nat) (a : Addr) (r : List Str), as[j]? = some a → rows[j]? = some r → H' a = some (.lst (r.map V.str)))
    ⟨same_new hp, [], by simp, upd_same, List.nodup_nil, by simp, by simp, fun j a r h1 _ => by simp at h1⟩ (fun i H' _ w => SqL.of (w.1 _ _ (hid_le _ _ ha))) (fun i x H' hi w => ?_) (fun H' w => ?_)
  · obtain ⟨sH, as, hal, hacc, nd, hpa, hfr, hrow⟩ := w
    obtain ⟨d, hd1, hd2⟩ := dpa_get' hx2 hi
    obtain ⟨r, hr, rfl⟩ : ∃ r, rows[i]? = some r ∧ d = rowD r := by
      rw [List.getElem?_map] at hd1
      cases z : rows[i]? with
      | none => rw [z] at hd1; cases hd1
      | some r => rw [z] at hd1; exact ⟨r, rfl, (Option.some.inj hd1).symm⟩
    have hil : i < rows.length := (List.getElem?_eq_some_iff.mp hr).1
    have hal' : as.length = i := by rw [hal]; omega
    have Lp : Live (p :: M) H' := fun b hb => by
      rcases List.mem_cons.mp hb with z | hb
      · subst z; rw [hacc]; simp
      · exact L2'.mono sH b hb
    have kx : Dq X.K (hid (p :: M) H') x (rowD r) := hd2.up (hid_step hp sH)
    refine bg_mono (hst p r x H' (List.mem_of_getElem? hr) hp0 (s2.trans sH) Lp kx) fun σ2 Ha ⟨hw, eh, hbe⟩ => ⟨hw, ?_⟩
    subst eh
    refine bt_nil (iteT (be_mono hbe fun y Hc w1 => ?_))
    obtain ⟨g, rfl, sc, hg0, hg1⟩ := w1
    have gp : g ≠ p := fun z => by rw [z, hacc] at hg0; cases hg0
    have ga : g ∉ as := fun z => by
      obtain ⟨j, hj⟩ := List.mem_iff_getElem?.mp z
      have hj2 : j < as.length := (List.getElem?_eq_some_iff.mp hj).1
      have := hrow j g (rows[j]'(by omega)) hj (List.getElem?_eq_getElem (by omega))
      rw [hg0] at this
      cases this
    refine ⟨as.map V.ref, sc _ _ hacc, by rw [List.length_map]; have : 100000 < sizeLine := by decide
                                          omega, fun b o e => ?_, as ++ [g], by rw [List.length_append, List.length_singleton]; omega, by rw [List.map_append]; exact upd_same, ?_, ?_, ?_, ?_⟩
    · rw [upd_ne (ne_of_none e hp)]
      exact sc _ _ (sH _ _ e)
    · exact List.nodup_append.mpr ⟨nd, List.nodup_cons.mpr ⟨by simp, List.nodup_nil⟩, fun a h1 b h2 z => ga (by rw [List.mem_singleton.mp h2] at z; rw [← z]; exact h1)⟩
    · intro z
      rcases List.mem_append.mp z with z | z
      · exact hpa z
      · exact gp (List.mem_singleton.mp z).symm
    · intro a z
      rcases List.mem_append.mp z with z | z
      · exact hfr a z
      · rw [List.mem_singleton.mp z]; exact sH.free hg0
    · intro j a r' h1 h2
      by_cases c : j < as.length
      · rw [List.getElem?_append_left c] at h1
        have hm := List.mem_of_getElem? h1
        rw [upd_ne (fun z => hpa (by rw [← z]; exact hm))]
        exact sc _ _ (hrow j a r' h1 h2)
      · have hj : j = as.length := by
          have h3 := (List.getElem?_eq_some_iff.mp h1).1
          rw [List.length_append, List.length_singleton] at h3
          omega
        rw [hj, List.getElem?_append_right (Nat.le_refl _), Nat.sub_self] at h1
        have eg : a = g := by simpa using h1.symm
        rw [hj, hal', hr] at h2
        cases h2
        rw [eg, upd_ne gp]
        exact hg1
  · obtain ⟨sH, as, hal, hacc, nd, hpa, hfr, hrow⟩ := w
    rw [hlen, Nat.min_self] at hal
    exact q p as H' (s2.trans sH) hp0 (fun a h => s2.free (hfr a h)) nd hpa ⟨hacc, hal, hrow⟩
end
end Zn

set_option Elab.async false
set_option linter.all false
set_option maxRecDepth 100000
set_option maxHeartbeats 16000000
namespace Zn
open PySem PySem.Spec PyProof.Rows L2 Dl
/-! k11: _law_bent -/
abbrev sLBent : Stmt := top 51
abbrev lbN : List Str := ["_law_box_here", "_law_rows", "_law_found", "_law_at", "_law_words", "_law_spot", "_law_way", "_law_odds", "_law_odd", "_law_other", "_law_place", "_law_sign"]
def spLBent (K : PySem.W.Frag) : Sp := fun vs H Q _ => ∃ (M : List Addr) (b : Addr) (m n : Nat) (v : V) (rows : List (List Str)), vs = [.ref b, v] ∧ b ∈ M ∧ Live M H ∧ m ≤ 500000 ∧ BagAt H b m ∧ n ≤ 10 ∧ Dq K (hid M H) v (.list (rows.map rowD)) ∧ GR n rows ∧
  ∀ rs' v' H1, GR (n + 1) rs' → SameB b H H1 → BagAt H1 b (m + 8) → Dq K (hid M H1) v' (.list (rs'.map rowD)) → Q v' H1
theorem ixN_of {n j : Nat} (h : j < n) : ixN n (j : Int) = some j := by
  unfold ixN
  rw [if_pos (by omega), if_pos (by omega), Int.toNat_natCast]
theorem map_erase {α β : Type} (f : α → β) : ∀ (l : List α) (i : Nat), (l.map f).eraseIdx i = (l.eraseIdx i).map f
  | [], _ => rfl
  | x :: l, 0 => rfl
  | x :: l, i + 1 => by rw [List.map_cons, List.eraseIdx_cons_succ, List.eraseIdx_cons_succ, List.map_cons, map_erase f l i]
section
variable {P : Program} {w : World} {K : PySem.W.Frag} {mg : Str → Option Value} {base : Heap}
theorem scLBent : FnScope lbN ["_law_box_here", "_law_rows"] (defScope sLBent) := ⟨rfl, rfl, rfl, by decide +kernel, rfl, by decide +kernel, by decide +kernel⟩
theorem ok_lbent {f fT : Addr} {fd fdT : FuncData} (T : Nm mg) (GT : FnOk P w K mg base CX0 1 fT fdT ["_law_box_here", "_law_many"] spTake) (FT : Df K mg "_law_take" sTake ["_law_box_here", "_law_many"] fT fdT) (F : Df K mg "_law_bent" sLBent ["_law_box_here", "_law_rows"] f fd) : FnOk P w K mg base CX0 2 f fd ["_law_box_here", "_law_rows"] (spLBent K) := by
  refine F.F.ok scLBent (fun vs H Q E h => ?_) (fun cdv A outer s H vs Q E hr h => ?_)
  · obtain ⟨M, b, m, n, v, rows, rfl, _⟩ := h; rfl
  · obtain ⟨M, b, m, n, v, rows, rfl, hb, L, hm, hB, hn, hv, G, q⟩ := h
    have hrl := G.len
    have hbH := hB.some
    refine rb_setCL (M := M) (own := [("_law_words", 4)]) 2 L scLBent.nd (xd_name 1 rfl hv) (blkOk_by (own := [("_law_words", 4)]) (N := lbN) (sc := defScope sLBent) (by decide +kernel)) (by omega) (fun p r v' H1 hrm hp s1 Lp hv' => ?comp) (fun p as H2 s2 hp has nd hpa R => ?_)
    case comp =>
      have hv' : Dq K (hid (p :: M) H1) v' (.list (r.map PyData.str)) := hv'
      intro s0 H0 C0 cl fp
      exact rg_name 4 ⟨rfl, rfl, fun s0 H0 C0 cl fp => XL.go (xl_listL T.lst Lp (xd_name 4 rfl hv')) fun g xs H4 s4 hg h4 hx => ⟨g, rfl, s4, hg, by rw [h4, strs_va hx]⟩⟩ scLBent.nd
    have pb : p ≠ b := fun z => hbH (by rw [← z]; exact hp)
    have ab : ∀ a ∈ as, a ≠ b := fun a ha z => hbH (by rw [← z]; exact has a ha)
    have pM : p ∉ M := fun z => L p z hp
    have aM : ∀ a ∈ as, a ∉ M := fun a ha z => L a z (has a ha)
    have hlen : as.length = rows.length := R.2.1
    have hpos : 0 < rows.length := List.length_pos_iff.mpr G.ne
    have hB2 : BagAt H2 b m := hB.up s2 (Nat.le_refl _)
    -- the end
    have ret : ∀ {σ' : L2.St} {Hx : Hp} {as' : List Addr} {rs' : List (List Str)} {k : Nat} {p1 p2 : Pos}, σ'[2]? = some (some (.ref p)) → RowsAt Hx p as' rs' → (∀ a ∈ as', a ∈ as) → GR (n + 1) rs' → SameB b H Hx → BagAt Hx b k → k ≤ m + 8 →
        RB (cxOf CX0 P w K mg base lbN "_law_bent" (defScope sLBent) f cdv A outer s H E).nox [.Return (some (.Name "_law_found" p1)) p2] { nx := fun _ H1 => Q .non H1, rt := Q } σ' Hx := fun {σ' Hx as' rs' k p1 p2} hσ R' hsub G' sB hBk hk =>
      rb_retR (XV.go (xv_name 2 hσ) fun Hy sy => q rs' _ Hy G' (sB.trans (.of sy)) (hBk.up sy hk) (((R'.up sy)).dq pM fun a ha => aM a (hsub a ha)))
    -- _law_at
    refine rb_setR 3 (re_take (n := m) GT FT hr (xv_name 0 rfl) (xv_lenS T.len (xv_name 2 rfl) (SqL.of R.1)) hB2 (fun r3 H3 r30 r31 sB3 hB3 => ?_) (by rw [List.length_map, hlen]; omega) (by rw [List.length_map, hlen]; omega)) scLBent.nd
    obtain ⟨i, rfl⟩ : ∃ i : Nat, r3 = (i : Int) := ⟨r3.toNat, by omega⟩
    rw [List.length_map, hlen] at r31
    have hi : i < rows.length := by omega
    obtain ⟨g, hg⟩ : ∃ g, as[i]? = some g := ⟨as[i]'(by omega), List.getElem?_eq_getElem (by omega)⟩
    obtain ⟨r0, hr0⟩ : ∃ r0, rows[i]? = some r0 := ⟨rows[i], List.getElem?_eq_getElem hi⟩
    have r0m := List.mem_of_getElem? hr0
    have gm := List.mem_of_getElem? hg
    obtain ⟨r0ne, r0s, r0ok⟩ := G.row r0 r0m
    have r0l : r0.length ≤ 150 := by have := rsum_len r0; omega
    have r0pos : 0 < r0.length := List.length_pos_iff.mpr r0ne
    have R3 : RowsAt H3 p as rows := R.sameB sB3 pb ab
    have SB3 : SameB b H H3 := (SameB.of s2).trans sB3
    -- _law_words
    refine rb_setV 4 (xv_ixS (v := .ref g) (fun _ _ => rfl) (xv_name 2 rfl) (SqL.of R3.1) (xv_name 3 rfl) (atI_nat (by rw [List.getElem?_map, hg]; rfl))) (fun H4 s4 => ?_) scLBent.nd
    have R4 := R3.up s4
    have hB4 := hB3.up s4 (Nat.le_refl _)
    have hw4 : H4 g = some (.lst (r0.map V.str)) := R4.2.2 i g r0 hg hr0
    have l0 : (r0.map V.str).length = r0.length := List.length_map ..
    -- _law_spot, _law_way
    refine rb_parR 5 6 (ra_cons (re_take (n := m + 1) GT FT hr (xv_name 0 rfl) (xv_lenS T.len (xv_name 4 rfl) (SqL.of hw4)) hB4 (fun r5 H5 r50 r51 sB5 hB5 => ra_1 (re_take (n := m + 1 + 1) GT FT hr (xv_name 0 rfl) xv_int hB5 fun r6 H6 r60 r61 sB6 hB6 => ⟨_, _, rfl, ?_⟩)) (by rw [l0]; omega) (by rw [l0]; omega))) scLBent.nd
    obtain ⟨j, rfl⟩ : ∃ j : Nat, r5 = (j : Int) := ⟨r5.toNat, by omega⟩
    rw [l0] at r51
    have hj : j < r0.length := by omega
    have SB6 : SameB b H H6 := ((SB3.trans (.of s4)).trans sB5).trans sB6
    have R6 : RowsAt H6 p as rows := (R4.sameB sB5 pb ab).sameB sB6 pb ab
    have L6 : Live M H6 := SB6.live L hB6.some
    -- _law_odds
    refine rb_setL 7 (M := M) (xl_lst L6 (xa_cons xd_str (xa_cons xd_str (xa_cons xd_str (xa_cons xd_str (xa_cons xd_str (xa_cons xd_str (xa_cons xd_str (xa_cons xd_str (xa_cons xd_str (xa_cons xd_str (xa_cons xd_str (xa_cons xd_str (xa_cons xd_str (xa_cons xd_str xa_nil))))))))))))))) (fun o7 xs7 H7 s7 ho7 ho77 hx7 => ?_) scLBent.nd
    have hodd : Dq K (hid M H7) (.ref o7) (.list ((oddL.take 14).map PyData.str)) := .lst (by rw [hid_of (fun z => L6 o7 z ho7)]; exact ho77) hx7
    have L7 := L6.mono s7
    have hB7 := hB6.up s7 (Nat.le_refl _)
    -- _law_odd
    refine rb_setR 8 (re_ixD (M := M) (ds := oddL.map PyData.str) hb (fun _ _ => rfl) (XD.to (XL.dd (xl_cat L7 (xd_name 7 rfl hodd) (xd_lst L7 (xa_cons xd_str (xa_cons xd_str (xa_cons xd_str (xa_cons xd_str xa_nil))))) (by decide)) L7) rfl) fun H8 s8 => re_take (n := m + 1 + 1 + 1) GT FT hr (xv_name 0 rfl) xv_int (hB7.up s8 (Nat.le_refl _)) (fun r9 H9 r90 r91 sB9 hB9 => ⟨sB9, r9, rfl, r90, by show r9.toNat < 18; omega, fun d u hd hu9 => ?_⟩)) scLBent.nd
    obtain ⟨od, hod, rfl⟩ : ∃ x, x ∈ oddL ∧ d = .str x := by
      obtain ⟨x, hx, rfl⟩ := List.mem_map.mp (List.mem_of_getElem? hd)
      exact ⟨x, hx, rfl⟩
    have eod := dp_str hu9
    subst eod
    obtain ⟨odok, odl⟩ := odd_all od hod
    have SB9 : SameB b H H9 := (SB6.trans (.of (s7.trans s8))).trans sB9
    have R9 : RowsAt H9 p as rows := (R6.up (s7.trans s8)).sameB sB9 pb ab
    have L9 : Live M H9 := SB9.live L hB9.some
    clear hodd hx7 ho77 ho7
    -- the words bent
    have bent : ∀ {Hx Hy : Hp} {r' : List Str} {vs : List V} {k : Nat}, Same H9 Hx → Hy = upd Hx g (.lst vs) → vs = r'.map V.str → RowG (n + 1) r' → RowsAt Hy p as (rows.set i r') ∧ GR (n + 1) (rows.set i r') ∧ SameB b H Hy ∧ BagAt Hy b (m + 1 + 1 + 1 + 1) := fun {Hx Hy r' vs k} sx e ev gr => by
      subst e ev
      refine ⟨(R9.up sx).put nd hpa hg, G.set gr, fun x o nb e => ?_, ?_⟩
      · rw [upd_ne (fun z => by rw [z, has g gm] at e; cases e)]
        exact sx _ _ (SB9 x o nb e)
      · obtain ⟨q1, q2, q3, h1, h2⟩ := hB9
        exact ⟨q1, q2, q3, by rw [upd_ne (Ne.symm (ab g gm))]; exact sx _ _ h1, h2⟩
    have od9 : ∀ {Hx : Hp}, Dq K (hid M Hx) (.str od) (.str od) := .str od
    have jx : ixN (r0.map V.str).length (j : Int) = some j := ixN_of (by rw [l0]; exact hj)
    obtain ⟨w0, hw0⟩ : ∃ w0, r0[j]? = some w0 := ⟨r0[j], List.getElem?_eq_getElem hj⟩
    have w0m := List.mem_of_getElem? hw0
    have w0l : w0.length ≤ 150 := by have := rsum_mem w0m; omega
    -- ways 0 to 2
    refine rb_if (k := decide (r6 < 3)) (xt_cmpI (M := []) op_lt (xv_name 6 rfl).int xd_int) (fun _ Ha sa => ?_) (fun _ Ha sa => ?_)
    · refine rb_setIx (M := M) (n := (j : Int)) (j := j) ((R9.up sa).2.2 i g r0 hg hr0) (xd_name 8 rfl od9) (xv_name 4 rfl) (xv_name 5 rfl) jx fun vo Hb sb hvo => rb_nil ?_
      have evo := dp_str hvo
      subst evo
      obtain ⟨R', G', S', B'⟩ := bent (k := 0) (r' := r0.set j od) (sa.trans sb) rfl (by rw [List.map_set]) (row_set (G.row r0 r0m) hw0 odok (by omega))
      exact ret rfl R' (fun a h => h) G' S' B' (by omega)
    -- way 3
    refine rb_if (k := decide (r6 = 3)) (xt_eqI (M := []) (xv_name 6 rfl).int xd_int) (fun _ Hb sb => ?_) (fun _ Hb sb => ?_)
    · have sab := sa.trans sb
      refine rb_insert (n := j) (xs := r0.map V.str) (xv_name 4 rfl) ((R9.up sab).2.2 i g r0 hg hr0) (by rw [l0]; omega) (by omega) (xv_name 5 rfl) fun Hc sc => XV.go (xv_name 8 rfl) fun Hd sd => ⟨(R9.up ((sab.trans sc).trans sd)).2.2 i g r0 hg hr0, rb_nil (rb_nil ?_)⟩
      obtain ⟨R', G', S', B'⟩ := bent (k := 0) (r' := r0.take j ++ [od] ++ r0.drop j) ((sab.trans sc).trans sd) rfl (by rw [List.map_append, List.map_append, List.map_take, List.map_drop, List.map_singleton]) (row_ins (G.row r0 r0m) odok odl)
      exact ret rfl R' (fun a h => h) G' S' B' (by omega)
    have sab := sa.trans sb
    -- way 4
    refine rb_if (k := decide (r6 = 4) && decide ((1 : Int) < r0.length)) (xt_and2 (xt_eqI (M := []) (xv_name 6 rfl).int xd_int) fun _ => XT.to (xt_cmpI (M := []) op_gt (xv_lenS T.len (xv_name 4 rfl) (SqL.of ((R9.up sab).2.2 i g r0 hg hr0))).int xd_int) (by rw [l0])) (fun e Hc sc => ?_) (fun _ Hc sc => ?_)
    · have h1 : 1 < r0.length := by
        rw [Bool.and_eq_true] at e
        have := of_decide_eq_true e.2
        omega
      have sac := sab.trans sc
      refine rb_exprR (re_pop (xs := r0.map V.str) (xv_name 4 rfl) ((R9.up sac).2.2 i g r0 hg hr0) (by rw [l0]; omega) fun Hd sd => XV.go (xv_name 5 rfl) fun He se => ⟨j, rfl, (R9.up ((sac.trans sd).trans se)).2.2 i g r0 hg hr0, .str w0, by rw [List.getElem?_map, hw0]; rfl, rb_nil (rb_nil (rb_nil ?_))⟩)
      obtain ⟨R', G', S', B'⟩ := bent (k := 0) (r' := r0.eraseIdx j) ((sac.trans sd).trans se) rfl (map_erase _ _ _) (row_erase (G.row r0 r0m) h1)
      exact ret rfl R' (fun a h => h) G' S' B' (by omega)
    have sac := sab.trans sc
    have found : ∀ {Hx : Hp}, Same H9 Hx → Dq K (hid M Hx) (.ref p) (.list (rows.map rowD)) := fun sx => (R9.up sx).dq pM aM
    have words : ∀ {Hx : Hp}, Same H9 Hx → Dq K (hid M Hx) (.ref g) (.list (r0.map PyData.str)) := fun sx => .lst (by rw [hid_of (aM g gm)]; exact (R9.up sx).2.2 i g r0 hg hr0) (dqa_strs r0)
    have rlen : ∀ (l : List (List Str)), (l.map rowD).length = l.length := fun l => List.length_map ..
    -- way 5
    refine rb_if (k := decide (r6 = 5)) (xt_eqI (M := []) (xv_name 6 rfl).int xd_int) (fun _ Hd sd => ?_) (fun _ Hd sd => ?_)
    · have sad := sac.trans sd
      have Ld := L9.mono sad
      by_cases c : 1 < rows.length
      · refine rb_ret (M := M) (d := .list ((rows.take i ++ rows.drop (i + 1)).map rowD)) (xd_ifT (XT.to (xt_cmpI (M := M) op_gt (xd_len T.len (xd_name 2 rfl (found sad))) xd_int) (decide_eq_true (by rw [rlen]; omega))) (XD.to (XL.dd (xl_cat Ld (XL.dd (XL.to (xl_cut Ld (xd_name 2 rfl (found sad)) xo_none (xo_some (M := M) (xv_name 3 rfl).int)) (cut_to rowD rows i (by omega))) Ld) (XL.dd (XL.to (xl_cut Ld (xd_name 2 rfl (found sad)) (xo_some (M := M) (n := ((i + 1 : Nat) : Int)) (XD.to (xd_add (xv_name 3 rfl).int xd_int) rfl)) xo_none) (cut_from rowD rows (i + 1) (by omega))) Ld) (by rw [rlen, rlen, List.length_take, List.length_drop]; omega)) Ld) (by rw [List.map_append]))) fun ve He se hve => ?_
        refine q _ ve He (G.sub (fun r h => ?_) (by rw [List.length_append, List.length_take, List.length_drop]; omega) (fun z => ?_)) (SB9.trans (.of (sad.trans se))) (hB9.up (sad.trans se) (by omega)) hve
        · rcases List.mem_append.mp h with h | h
          · exact List.mem_of_mem_take h
          · exact List.mem_of_mem_drop h
        · have := congrArg List.length z
          rw [List.length_append, List.length_take, List.length_drop, List.length_nil, Nat.min_eq_left (by omega)] at this
          omega
      · exact rb_ret (M := M) (d := .list (rows.map rowD)) (xd_ifF (XT.to (xt_cmpI (M := M) op_gt (xd_len T.len (xd_name 2 rfl (found sad))) xd_int) (decide_eq_false (by rw [rlen]; omega))) (xd_name 2 rfl (found sad))) fun ve He se hve => q _ ve He (G.up (by omega)) (SB9.trans (.of (sad.trans se))) (hB9.up (sad.trans se) (by omega)) hve
    have sad := sac.trans sd
    -- way 6
    refine rb_if (k := decide (r6 = 6)) (xt_eqI (M := []) (xv_name 6 rfl).int xd_int) (fun _ He se => ?_) (fun _ He se => ?_)
    · have sae := sad.trans se
      have Le := L9.mono sae
      refine rb_ret (M := M) (d := .list ((rows.take i ++ [r0] ++ rows.drop i).map rowD)) (XD.to (XL.dd (xl_cat Le (XL.dd (xl_cat Le (XL.dd (XL.to (xl_cut Le (xd_name 2 rfl (found sae)) xo_none (xo_some (M := M) (xv_name 3 rfl).int)) (cut_to rowD rows i (by omega))) Le) (xd_lst Le (xa_cons (XL.dd (xl_listL T.lst Le (xd_name 4 rfl (words sae))) Le) xa_nil)) (by rw [rlen, List.length_take]; show _ + 1 ≤ _; omega)) Le) (XL.dd (XL.to (xl_cut Le (xd_name 2 rfl (found sae)) (xo_some (M := M) (xv_name 3 rfl).int) xo_none) (cut_from rowD rows i (by omega))) Le) (by rw [List.length_append, rlen, rlen, List.length_take, List.length_drop]; show _ + 1 + _ ≤ _; omega)) Le) (by rw [List.map_append, List.map_append]; rfl)) fun vf Hf sf hvf => ?_
      refine q _ vf Hf (G.sub (fun r h => ?_) (by rw [List.length_append, List.length_append, List.length_take, List.length_drop, List.length_singleton]; omega) (by simp)) (SB9.trans (.of (sae.trans sf))) (hB9.up (sae.trans sf) (by omega)) hvf
      simp only [List.mem_append, List.mem_singleton] at h
      rcases h with (h | rfl) | h
      · exact List.mem_of_mem_take h
      · exact r0m
      · exact List.mem_of_mem_drop h
    have sae := sad.trans se
    -- way 7
    refine rb_if (k := decide (r6 = 7)) (xt_eqI (M := []) (xv_name 6 rfl).int xd_int) (fun _ Hf sf => ?_) (fun _ Hf sf => ?_)
    · have saf := sae.trans sf
      refine rb_setR 9 (re_take (n := m + 1 + 1 + 1 + 1) GT FT hr (xv_name 0 rfl) (xv_lenS T.len (xv_name 2 rfl) (SqL.of (R9.up saf).1)) (hB9.up saf (Nat.le_refl _)) (fun ra Hg ra0 ra1 sBg hBg => ?_) (by rw [List.length_map, hlen]; omega) (by rw [List.length_map, hlen]; omega)) scLBent.nd
      obtain ⟨k, rfl⟩ : ∃ k : Nat, ra = (k : Int) := ⟨ra.toNat, by omega⟩
      rw [List.length_map, hlen] at ra1
      have hk : k < rows.length := by omega
      obtain ⟨c, hc⟩ : ∃ c, as[k]? = some c := ⟨as[k]'(by omega), List.getElem?_eq_getElem (by omega)⟩
      obtain ⟨rk, hrk⟩ : ∃ rk, rows[k]? = some rk := ⟨rows[k], List.getElem?_eq_getElem hk⟩
      have Rg : RowsAt Hg p as rows := (R9.up saf).sameB sBg pb ab
      have SBg : SameB b H Hg := (SB9.trans (.of saf)).trans sBg
      have pl : ∀ x : V, ((as.map V.ref).set i x).length = as.length := fun x => by rw [List.length_set, List.length_map]
      refine rb_asgR ⟨_, pe_tup ra_, ra_cons (XV.go (xv_ixS (v := .ref c) (fun _ _ => rfl) (xv_name 2 rfl) (SqL.of Rg.1) (xv_name 9 rfl) (atI_nat (by rw [List.getElem?_map, hc]; rfl))) fun Hh sh => ra_1 (XV.go (xv_ixS (v := .ref g) (fun _ _ => rfl) (xv_name 2 rfl) (SqL.of (Rg.up sh).1) (xv_name 3 rfl) (atI_nat (by rw [List.getElem?_map, hg]; rfl))) fun Hi si => ⟨by show 2 ≤ _; decide, fun t ht => ?_⟩))⟩
      have st : Same Hi (upd Hi t (.tup [.ref c, .ref g])) := same_new ht
      have Rt : RowsAt (upd Hi t (.tup [.ref c, .ref g])) p as rows := (Rg.up (sh.trans si)).up st
      have SBt : SameB b H (upd Hi t (.tup [.ref c, .ref g])) := SBg.trans (.of ((sh.trans si).trans st))
      have hBt := hBg.up ((sh.trans si).trans st) (Nat.le_refl _)
      have htt : upd Hi t (.tup [.ref c, .ref g]) t = some (.tup [.ref c, .ref g]) := upd_same
      refine rg_tup (xs := [.ref c, .ref g]) (SqT.of htt) (rgs_cons (rg_sub (n := (i : Int)) (j := i) Rt.1 (xv_name 2 rfl) (xv_name 3 rfl) (ixN_of (by rw [List.length_map, hlen]; exact hi)) fun Hj sj => ?_))
      refine rgs_cons (rg_sub (n := (k : Int)) (j := k) (l := p) (xs := (as.map V.ref).set i (.ref c)) upd_same (xv_name 2 rfl) (xv_name 9 rfl) (ixN_of (by rw [pl, hlen]; exact hk)) fun Hk sk => rgs_nil ?_)
      have Rz : RowsAt (upd Hk p (.lst (((as.map V.ref).set i (.ref c)).set k (.ref g)))) p ((as.set i c).set k g) ((rows.set i rk).set k r0) := Rt.swap hg hc hr0 hrk (by rw [upd_same, List.map_set, List.map_set]) fun x hx o e => by
        have np : x ≠ p := fun z => hpa (by rw [← z]; exact hx)
        rw [upd_ne np]
        exact sk _ _ (by rw [upd_ne np]; exact sj _ _ e)
      refine rb_nil (rb_nil (rb_nil (rb_nil (rb_nil (rb_nil (ret rfl Rz (fun a ha => ?_) ?_ (fun x o nb e => ?_) (k := m + 1 + 1 + 1 + 1 + 1) ?_ (by omega)))))))
      · rcases List.mem_or_eq_of_mem_set ha with ha | ha
        · rcases List.mem_or_eq_of_mem_set ha with ha | ha
          · exact ha
          · rw [ha]; exact List.mem_of_getElem? hc
        · rw [ha]; exact gm
      · refine G.sub (fun r hr => ?_) (by rw [List.length_set, List.length_set]; omega) (fun z => ?_)
        · rcases List.mem_or_eq_of_mem_set hr with hr | hr
          · rcases List.mem_or_eq_of_mem_set hr with hr | hr
            · exact hr
            · rw [hr]; exact List.mem_of_getElem? hrk
          · rw [hr]; exact r0m
        · have := congrArg List.length z
          rw [List.length_set, List.length_set] at this
          simp at this
          exact G.ne this
      · have np : x ≠ p := fun z => by rw [z, hp] at e; cases e
        rw [upd_ne np]
        exact sk _ _ (by rw [upd_ne np]; exact sj _ _ (SBt x o nb e))
      · obtain ⟨q1, q2, q3, h1, h2⟩ := hBt
        exact ⟨q1, q2, q3, by rw [upd_ne (Ne.symm pb)]; exact sk _ _ (by rw [upd_ne (Ne.symm pb)]; exact sj _ _ h1), h2⟩
    have saf := sae.trans sf
    -- way 8
    refine rb_if (k := decide (r6 = 8)) (xt_eqI (M := []) (xv_name 6 rfl).int xd_int) (fun _ Hg sg' => ?_) (fun _ Hg sg' => ?_)
    · have sag := saf.trans sg'
      have Lg := L9.mono sag
      refine rb_ret (M := M) (d := .list ((rows ++ [r0]).map rowD)) (XD.to (XL.dd (xl_cat Lg (xd_name 2 rfl (found sag)) (xd_lst Lg (xa_cons (XL.dd (xl_listL T.lst Lg (xd_name 4 rfl (words sag))) Lg) xa_nil)) (by rw [rlen]; show _ + 1 ≤ _; omega)) Lg) (by rw [List.map_append]; rfl)) fun vh Hh sh hvh => ?_
      refine q _ vh Hh (G.sub (fun r h => ?_) (by rw [List.length_append, List.length_singleton]; omega) (by simp)) (SB9.trans (.of (sag.trans sh))) (hB9.up (sag.trans sh) (by omega)) hvh
      rcases List.mem_append.mp h with h | h
      · exact h
      · rw [List.mem_singleton.mp h]; exact r0m
    have sag := saf.trans sg'
    -- a sign put in
    have hwg : ∀ {Hx : Hp}, Same H9 Hx → Hx g = some (.lst (r0.map V.str)) := fun sx => (R9.up sx).2.2 i g r0 hg hr0
    have wat : atI (r0.map V.str) (j : Int) = some (.str w0) := atI_nat (by rw [List.getElem?_map, hw0]; rfl)
    refine rb_parR 10 11 (ra_cons (re_take (n := m + 1 + 1 + 1 + 1) (many := ((w0.length + 1 : Nat) : Int)) GT FT hr (xv_name 0 rfl) (XD.vint (M := M) (XD.to (xd_add (xd_lenStr T.len ((xv_ixS (fun _ _ => rfl) (xv_name 4 rfl) (SqL.of (hwg sag)) (xv_name 5 rfl) wat).dd (.str w0)) (by omega)) xd_int) rfl)) (hB9.up sag (Nat.le_refl _)) (fun rb Hh rb0 rb1 sBh hBh => ?sgn) (by omega) (by omega))) scLBent.nd
    case sgn =>
    refine ra_1 (re_ixStr (x := sgnS) (fun _ _ => rfl) xv_str (by decide +kernel) fun Hi si => ?_)
    refine re_take (n := m + 1 + 1 + 1 + 1 + 1) GT FT hr (xv_name 0 rfl) xv_int (hBh.up si (Nat.le_refl _)) fun rc Hj rc0 rc1 sBj hBj => ⟨rc.toNat, by rw [Int.toNat_of_nonneg rc0], ?_, fun c hc => ⟨_, _, rfl, ?_⟩⟩
    · have : sgnS.length = 10 := by decide +kernel
      omega
    obtain ⟨k, rfl⟩ : ∃ k : Nat, rb = (k : Int) := ⟨rb.toNat, by omega⟩
    have SBj : SameB b H Hj := (((SB9.trans (.of sag)).trans sBh).trans (.of si)).trans sBj
    have Rj : RowsAt Hj p as rows := ((((R9.up sag).sameB sBh pb ab).up si).sameB sBj pb ab)
    have hwj : ∀ {Hx : Hp}, Same Hj Hx → Hx g = some (.lst (r0.map V.str)) := fun sx => (Rj.up sx).2.2 i g r0 hg hr0
    refine rb_setIx (M := M) (d := .str (putIn w0 k c)) (n := (j : Int)) (j := j) (hwj (Same.refl _)) ?_ (xv_name 4 rfl) (xv_name 5 rfl) jx fun vo Hk sk hvo => ?_
    · have c1 := cutS_length w0 none (some (k : Int))
      have c2 := cutS_length w0 (some (k : Int)) none
      have hsg : (sg c).length = 1 := rfl
      have wd : ∀ {σ' : L2.St} {p1 p2 p3 : Pos}, σ'[4]? = some (some (.ref g)) → σ'[5]? = some (some (.int (j : Int))) → XD (cxOf CX0 P w K mg base lbN "_law_bent" (defScope sLBent) f cdv A outer s H E).nox M σ' Hj (.Subscript (.Name "_law_words" p1) (.Name "_law_spot" p2) p3) (.str w0) := fun h1 h2 => (xv_ixS (fun _ _ => rfl) (xv_name 4 h1) (SqL.of (hwj (Same.refl _))) (xv_name 5 h2) wat).dd (.str w0)
      exact Dl.xd_addS (Dl.xd_addS (xd_cutS (wd rfl rfl) xo_none (xo_some (M := M) (xv_name 10 rfl).int) (by omega)) (xd_name 11 rfl (.str (sg c))) (by omega)) (xd_cutS (wd rfl rfl) (xo_some (M := M) (xv_name 10 rfl).int) xo_none (by omega)) (by rw [Str.length_append]; omega)
    · have evo := dp_str hvo
      subst evo
      have gr := row_set (n := n) (G.row r0 r0m) hw0 (put_ok (k := k) (r0ok w0 w0m) (List.mem_of_getElem? hc)) (by rw [put_len]; omega)
      refine rb_nil (rb_nil (rb_nil (rb_nil (rb_nil (rb_nil (rb_nil (ret rfl (as' := as) (rs' := rows.set i (r0.set j (putIn w0 k c))) (k := m + 1 + 1 + 1 + 1 + 1 + 1) ?_ (fun a h => h) (G.set gr) (fun x o nb e => ?_) ?_ (by omega))))))))
      · rw [← List.map_set]
        exact (Rj.up sk).put nd hpa hg
      · rw [upd_ne (fun z => by rw [z, has g gm] at e; cases e)]
        exact sk _ _ (SBj x o nb e)
      · obtain ⟨q1, q2, q3, h1, h2⟩ := hBj
        exact ⟨q1, q2, q3, by rw [upd_ne (Ne.symm (ab g gm))]; exact sk _ _ h1, h2⟩
end
end Zn

set_option Elab.async false
set_option linter.all false
set_option maxRecDepth 100000
set_option maxHeartbeats 8000000
namespace Zn
open PySem PySem.Spec PyProof.Rows L2 Dl
/-! from H8 -/
def RText (ds : List PyData) (d : PyData) : Prop := ∃ b0 b1 lines told, Drawn b0 b1 lines told ∧ ds = [.tuple [.str b0, .str b1], .list (lines.map rowD), .list (told.map PyData.str)] ∧ d = .str (pageOf b0 b1 lines told)
def joinF : PyData → Option PyData
  | .list ds => some (.str (Txt.join " " (ds.filterMap fun d => match d with | .str w => some w | _ => none)))
  | _ => none
theorem strs_back (ws : List Str) : (ws.map PyData.str).filterMap (fun d => match d with | .str w => some w | _ => none) = ws := by
  induction ws with
  | nil => rfl
  | cons w ws ih => rw [List.map_cons, List.filterMap_cons, ih]
theorem joinF_map : ∀ ls : List (List Str), (ls.map rowD).filterMap joinF = (ls.map fun l => Txt.join " " l).map PyData.str
  | [] => rfl
  | l :: ls => by
    rw [List.map_cons, List.filterMap_cons, List.map_cons, List.map_cons, ← joinF_map ls]
    have e : joinF (rowD l) = some (.str (Txt.join " " l)) := by
      show some (PyData.str (Txt.join " " ((l.map PyData.str).filterMap _))) = _
      rw [strs_back]
    rw [e]
abbrev ltN : List Str := ["_law_bounds", "_law_lines", "_law_told_here", "_law_rows", "_law_line_here"]
abbrev ltP : List Str := ["_law_bounds", "_law_lines", "_law_told_here"]
section
variable {P : Program} {w : World} {K : PySem.W.Frag} {mg : Str → Option Value} {base : Heap}
theorem scLText : FnScope ltN ltP (defScope sLText) := ⟨rfl, rfl, rfl, by decide +kernel, rfl, by decide +kernel, by decide +kernel⟩
theorem sum_le (ws : List Str) (m : Nat) (h : ∀ w ∈ ws, w.length ≤ m) : (ws.map (·.length)).sum ≤ ws.length * m := by
  induction ws with
  | nil => exact Nat.zero_le _
  | cons w ws ih =>
    have h1 := h w (by simp)
    have h2 := ih fun x hx => h x (List.mem_cons_of_mem _ hx)
    rw [List.map_cons, List.sum_cons, List.length_cons, Nat.succ_mul]
    omega
theorem ok_ltext {f : Addr} {fd : FuncData} (F : Df K mg "_law_text" sLText ltP f fd) : FnOk P w K mg base CX0 1 f fd ltP (spR K RText) := by
  refine F.F.ok scLText (fun vs H Q E h => ?_) (fun cdv A outer s H vs Q E hr h => ?_)
  · obtain ⟨M, ds, d, L, hd, ⟨b0, b1, lines, told, D, rfl, _⟩, q⟩ := h
    exact dpa_len hd
  · obtain ⟨M, ds, d, L, hd, ⟨b0, b1, lines, told, D, rfl, rfl⟩, q⟩ := h
    cases hd with
    | cons h1 hd => cases hd with
      | cons h2 hd => cases hd with
        | cons h3 hd =>
          cases hd
          obtain ⟨g0, g1, _⟩ := bd_ok _ D.bd
          have l0 := gw_len g0
          have l1 := gw_len g1
          have l0 : b0.length ≤ 9 := l0
          have l1 : b1.length ≤ 9 := l1
          have ll := D.l8
          have e6 : ("start " : Str).length = 6 := by decide +kernel
          have e1 : (" " : Str).length = 1 := by decide +kernel
          have e7 : ("return " : Str).length = 7 := by decide +kernel
          have la : ∀ (x y : Str), (x ++ y).length = x.length + y.length := fun x y => by
            rw [TL.len_tl, TL.tl_append, List.length_append, ← TL.len_tl, ← TL.len_tl]
          refine rb_setL 3 (M := M) (xl_cat L (xd_lst L (xa_cons (xd_addS (XD.vstr (M := M) (xd_addS (XD.vstr (M := M) (xd_addS xv_str (XD.vstr (xd_ixT (fun _ _ => rfl) (xd_name 0 rfl h1) xd_int (atI_nat (j := 0) rfl))) (by omega))) xv_str (by rw [la]; omega))) (XD.vstr (xd_ixT (fun _ _ => rfl) (xd_name 0 rfl h1) xd_int (atI_nat (j := 1) rfl))) (by rw [la, la]; omega)) xa_nil)) (XL.dd ((xl_comp (own := [("_law_line_here", 4)]) joinF L scLText.nd (xd_name 1 rfl h2) (blkOk_by (own := [("_law_line_here", 4)]) (N := ltN) (sc := defScope sLText) (by decide +kernel)) (by rw [List.length_map]; omega) (fun p d v H3 hdm hp s3 Lp hv => ?comp)).to (joinF_map _)) L) (by show 1 + _ ≤ _; rw [List.length_map, List.length_map]; omega)) (fun g xs H1 s1 hg hg1 hx => ?_) scLText.nd
          case comp =>
            obtain ⟨l, hl, rfl⟩ := List.mem_map.mp hdm
            intro s0 H0 C0 cl fp
            refine rg_name 4 ⟨rfl, bt_nil ⟨Same.refl _, .inl ⟨rfl, .str (Txt.join " " l), ?_, fun s0 H0 C0 cl fp => ?_⟩⟩⟩ scLText.nd
            · show some (PyData.str (Txt.join " " ((l.map PyData.str).filterMap _))) = _
              rw [strs_back]
            · have hz := sum_le l 9 fun w hw => gw_len (D.gw l hl w hw)
              have := (D.sh l hl).1
              exact XD.go (xd_join xd_str (xd_name 4 rfl hv) (by rw [e1]; omega)) fun v4 H4 s4 hv4 => ⟨s4, hv4⟩
          have L1 := L.mono s1
          have h31 := h3.up (hid_mono (M := M) s1)
          have hrows : Dq K (hid M H1) (.ref g) (.list ((("start " ++ b0 ++ " " ++ b1) :: (lines.map fun l => Txt.join " " l)).map PyData.str)) := .lst (by rw [hid_of (fun z => L g z hg)]; exact hg1) hx
          have ht := sum_le told 9 fun w hw => gw_len (D.gt w hw)
          have t4 := D.t4
          have tl : (Txt.join " " told).length ≤ 40 := Nat.le_trans (join_len' D.gt) (by omega)
          have la2 : ∀ w ∈ (("start " ++ b0 ++ " " ++ b1 : Str) :: (lines.map fun l => Txt.join " " l)) ++ [("return " ++ Txt.join " " told : Str)], w.length ≤ 60 := fun w hw => by
            simp only [List.mem_cons, List.mem_append, List.mem_map, List.not_mem_nil, or_false] at hw
            rcases hw with (rfl | ⟨l, hl, rfl⟩) | rfl
            · rw [la, la, la]; omega
            · have := join_len' (D.gw l hl)
              have := (D.sh l hl).1
              omega
            · rw [la]; omega
          refine rb_ret (M := M) (d := .str (pageOf b0 b1 lines told)) (xd_join (ys := (("start " ++ b0 ++ " " ++ b1 : Str) :: (lines.map fun l => Txt.join " " l)) ++ [("return " ++ Txt.join " " told : Str)]) xd_str ((XL.dd (xl_cat L1 (xd_name 3 rfl hrows) (xd_lst L1 (xa_cons (xd_addS xv_str (XD.vstr (xd_join (M := M) (ys := told) xd_str (xd_name 2 rfl h31) (by rw [e1]; omega))) (by omega)) xa_nil)) (by show _ + 1 ≤ _; rw [List.length_map, List.length_cons, List.length_map]; omega)) L1).to (by rw [List.map_append]; rfl)) (by
            have hs := sum_le _ 60 la2
            have e2 : ("\n" : Str).length = 1 := by decide +kernel
            have e3 : ((("start " ++ b0 ++ " " ++ b1 : Str) :: (lines.map fun l => Txt.join " " l)) ++ [("return " ++ Txt.join " " told : Str)]).length ≤ 10 := by
              rw [List.length_append, List.length_cons, List.length_map, List.length_singleton]
              omega
            rw [e2]
            omega)) fun v H2 s2 hv => q v H2 (s1.trans s2) hv
end
/-! from LE -/
theorem sIx_neg (n : Nat) (h : 0 < n) : HT.sIx n n (some (-1)) = n - 1 := by unfold HT.sIx; simp <;> omega
end Zn

set_option Elab.async false
set_option linter.all false
set_option maxRecDepth 100000
set_option maxHeartbeats 8000000
namespace Zn
open PySem PySem.Spec PyProof.Rows L2 Dl
/-! k11: _law_judged -/
abbrev sLJudged : Stmt := top 52
theorem spl_ok (s : Nat) : ∀ (l acc : List Nat), TL.spl [s] 0 acc l ≠ [] ∧ (TL.spl [s] 0 acc l).length ≤ l.length + 1 ∧ ∀ p ∈ TL.spl [s] 0 acc l, p.length ≤ acc.length + l.length ∧ ∀ c ∈ p, c ∈ acc ∨ c ∈ l
  | [], acc => by
    rw [TL.spl_nil]
    exact ⟨by simp, by simp, fun p hp => by rw [List.mem_singleton.mp hp]; exact ⟨Nat.le_refl _, fun c hc => .inl hc⟩⟩
  | c :: r, acc => by
    cases h : TL.pre [s] (c :: r) with
    | true =>
      rw [TL.spl_hit h]
      obtain ⟨_, h2, h3⟩ := spl_ok s r []
      have e : ([s] : List Nat).length - 1 = 0 := rfl
      rw [e]
      refine ⟨by simp, by rw [List.length_cons, List.length_cons]; omega, fun p hp => ?_⟩
      rcases List.mem_cons.mp hp with rfl | hp
      · exact ⟨by omega, fun c hc => .inl hc⟩
      · obtain ⟨h4, h5⟩ := h3 p hp
        refine ⟨by rw [List.length_cons]; simp at h4; omega, fun d hd => ?_⟩
        rcases h5 d hd with z | z
        · cases z
        · exact .inr (List.mem_cons_of_mem _ z)
    | false =>
      rw [TL.spl_miss h]
      obtain ⟨h1, h2, h3⟩ := spl_ok s r (acc ++ [c])
      refine ⟨h1, by rw [List.length_cons]; omega, fun p hp => ?_⟩
      obtain ⟨h4, h5⟩ := h3 p hp
      rw [List.length_append, List.length_singleton] at h4
      refine ⟨by rw [List.length_cons]; omega, fun d hd => ?_⟩
      rcases h5 d hd with z | z
      · rcases List.mem_append.mp z with z | z
        · exact .inl z
        · rw [List.mem_singleton.mp z]; exact .inr (List.mem_cons_self ..)
      · exact .inr (List.mem_cons_of_mem _ z)
theorem split_ok {y : Str} {s : Nat} (ey : y.cps.toList = [s]) (hk : y.cps.all (· < 256) = true) (x : Str) : Txt.split x y ≠ [] ∧ (Txt.split x y).length ≤ x.length + 1 ∧ ∀ p ∈ Txt.split x y, p.length ≤ x.length ∧ ∀ c ∈ p.cps.toList, c ∈ x.cps.toList := by
  have e := TL.split_spl x y (by show y.cps.toList ≠ []; rw [ey]; simp) (TL.kind_ok hk)
  have ey' : TL.tl y = [s] := ey
  rw [ey'] at e
  obtain ⟨h1, h2, h3⟩ := spl_ok s (TL.tl x) []
  rw [← e] at h1 h2 h3
  refine ⟨fun z => h1 (by rw [z]; rfl), by rw [List.length_map] at h2; rw [TL.len_tl x]; exact h2, fun p hp => ?_⟩
  obtain ⟨h4, h5⟩ := h3 (TL.tl p) (List.mem_map.mpr ⟨p, hp, rfl⟩)
  refine ⟨by rw [TL.len_tl p, TL.len_tl x]; simpa using h4, fun c hc => ?_⟩
  rcases h5 c hc with z | z
  · cases z
  · exact z
theorem rows_ok {x : Str} (hx : x.length ≤ 900) (ok : PyData.strOk x = true) : GoodTx x ∧ rowsOf x ≠ [] ∧ (rowsOf x).length ≤ 1000 ∧ ∀ r ∈ rowsOf x, r ≠ [] ∧ r.length ≤ 1000 ∧ ∀ w ∈ r, wOk w := by
  obtain ⟨a1, a2, a3⟩ := split_ok nl_tl (by decide +kernel) x
  have hne : rowsOf x ≠ [] := fun z => a1 (List.map_eq_nil_iff.mp z)
  have hl : (rowsOf x).length ≤ 1000 := by unfold rowsOf; rw [List.length_map]; omega
  have key : ∀ r ∈ rowsOf x, r ≠ [] ∧ r.length ≤ 1000 ∧ ∀ w ∈ r, wOk w := fun r hr => by
    obtain ⟨l, hl, rfl⟩ := List.mem_map.mp hr
    obtain ⟨c1, c2⟩ := a3 l hl
    obtain ⟨b1, b2, b3⟩ := split_ok sp_tl (by decide +kernel) l
    refine ⟨b1, by omega, fun w hw => ?_⟩
    obtain ⟨d1, d2⟩ := b3 w hw
    exact ⟨by omega, ok_sub ok fun c hc => c2 c (d2 c hc)⟩
  refine ⟨⟨?_, ⟨hl, fun r hr => ?_⟩, by omega, fun l hl => by have := (a3 l hl).1; omega⟩, hne, hl, key⟩
  · cases e : rowsOf x with
    | nil => exact absurd e hne
    | cons r0 rs => exact ⟨r0, rs, rfl⟩
  · obtain ⟨k1, k2, k3⟩ := key r hr
    exact ⟨k1, k2, fun w hw => (k3 w hw).1⟩
theorem join_rsum : ∀ r : List Str, (Str.join " " r).length ≤ rsum r
  | [] => Nat.zero_le _
  | [p] => by
    show p.length ≤ _
    rw [rsum_cons]
    omega
  | x :: z :: r => by
    have ih := join_rsum (z :: r)
    have e1 : (" " : Str).length = 1 := by decide +kernel
    have e : (Str.join " " (x :: z :: r)).length = x.length + ((" " : Str).length + (Str.join " " (z :: r)).length) := by
      rw [TL.len_tl, TL.len_tl x, TL.len_tl (" " : Str), TL.len_tl (Str.join " " (z :: r))]
      show (TL.tl (x ++ " " ++ Str.join " " (z :: r))).length = _
      rw [TL.tl_append, TL.tl_append, List.length_append, List.length_append]
      omega
    rw [rsum_cons, e, e1]
    omega
def pageR (rows : List (List Str)) : Str := Txt.join "\n" (rows.map fun r => Txt.join " " r)
theorem page_ok {rows : List (List Str)} (G : GR 2 rows) : (pageR rows).length ≤ 900 ∧ PyData.strOk (pageR rows) = true := by
  have hl := G.len
  refine ⟨?_, ?_⟩
  · unfold pageR
    rw [TL.join_eq]
    have h1 : ("\n" : Str).length = 1 := by decide +kernel
    refine Nat.le_trans (join_len "\n" 70 _ fun p hp => ?_) ?_
    · obtain ⟨r, hr, rfl⟩ := List.mem_map.mp hp
      rw [TL.join_eq]
      exact Nat.le_trans (join_rsum r) (G.row r hr).2.1
    · rw [List.length_map, h1]
      omega
  · rw [strOk_all]
    intro c hc
    unfold pageR at hc
    rw [TL.join_eq] at hc
    rcases join_mem _ _ _ hc with hc | ⟨p, hp, hc⟩
    · rw [nl_tl] at hc
      rw [List.mem_singleton.mp hc]
      decide +kernel
    · obtain ⟨r, hr, rfl⟩ := List.mem_map.mp hp
      rw [TL.join_eq] at hc
      rcases join_mem _ _ _ hc with hc | ⟨w, hw, hc⟩
      · rw [sp_tl] at hc
        rw [List.mem_singleton.mp hc]
        decide +kernel
      · exact strOk_all.mp ((G.row r hr).2.2 w hw) c hc
def RLJudged (ds : List PyData) (d : PyData) : Prop := ∃ rows : List (List Str), ds = [.list (rows.map rowD)] ∧ GR 2 rows ∧ d = .bool true
def toldD : Option Nat → List PyData
  | none => [.str "told"]
  | some i => [.str "line", .int (i : Int)]
theorem told_sh (o : Option Nat) : SeqAt.shaped (.list (toldD o)) = true := by
  cases o with
  | none => decide +kernel
  | some i =>
    have e : PyData.strOk ("line" : Str) = true := by decide +kernel
    unfold SeqAt.shaped
    simp only [toldD, PyData.canLay0, PyData.canLayAll0, PyData.depth, PyData.depthAll, e]
    decide
theorem told_eqv (o : Option Nat) : PyData.eqv (.list (toldD o)) (.list (toldD o)) = true := by
  cases o with
  | none => decide +kernel
  | some i => simp [toldD, PyData.eqv, PyData.eqvAll]
section
variable {P : Program} {w : World} {K : PySem.W.Frag} {mg : Str → Option Value} {base : Heap}
abbrev ljN : List Str := ["_law_rows", "_law_text_here", "_law_wrong_here", "_law_words", "_law_line_here"]
theorem scLJudged : FnScope ljN ["_law_rows"] (defScope sLJudged) := ⟨rfl, rfl, rfl, by decide +kernel, rfl, by decide +kernel, by decide +kernel⟩
theorem ok_ljudged {fW fT f : Addr} {gW gT fd : FuncData} (GW : FnOk P w K mg base CX0 3 fW gW ["_law_rows"] (spR K RLWrong)) (FW : Df K mg "_law_wrong" sLWrong ["_law_rows"] fW gW)
    (GT : FnOk P w K mg base CX0 8 fT gT ["_law_text_here"] (spLTold K)) (FT : Df K mg "_law_told" sLTold ["_law_text_here"] fT gT) (F : Df K mg "_law_judged" sLJudged ["_law_rows"] f fd) : FnOk P w K mg base CX0 9 f fd ["_law_rows"] (spR K RLJudged) := by
  refine F.F.ok scLJudged (fun vs H Q E h => ?_) (fun cdv A outer s H vs Q E hr h => ?_)
  · obtain ⟨M, ds, d, L, hd, ⟨rows, rfl, _⟩, q⟩ := h
    exact dpa_len hd
  · obtain ⟨M, ds, d, L, hd, ⟨rows, rfl, G, rfl⟩, q⟩ := h
    cases hd with
    | cons h1 hd =>
    cases hd
    have hrl := G.len
    have e1 : (" " : Str).length = 1 := by decide +kernel
    have e2 : ("\n" : Str).length = 1 := by decide +kernel
    obtain ⟨hz, hok⟩ := page_ok G
    obtain ⟨gt, k1, k2, k3⟩ := rows_ok hz hok
    have hjl : ∀ l ∈ rows.map fun r => Txt.join " " r, l.length ≤ 70 := fun l hl => by
      obtain ⟨r, hr, rfl⟩ := List.mem_map.mp hl
      rw [TL.join_eq]
      exact Nat.le_trans (join_rsum r) (G.row r hr).2.1
    refine rb_set 1 (M := M) (d := .str (pageR rows)) (xd_join (ys := rows.map fun r => Txt.join " " r) xd_str (XL.dd ((xl_comp (own := [("_law_words", 3)]) joinF L scLJudged.nd (xd_name 0 rfl h1) (blkOk_by (own := [("_law_words", 3)]) (N := ljN) (sc := defScope sLJudged) (by decide +kernel)) (by rw [List.length_map]; omega) (fun p d v H3 hdm hp s3 Lp hv => ?comp)).to (joinF_map _)) L) (by
      have := sum_le _ 70 hjl
      rw [List.length_map] at this
      rw [List.length_map, e2]
      omega)) (fun v1 H1 s1 hv1 => ?_) scLJudged.nd
    case comp =>
      obtain ⟨l, hl, rfl⟩ := List.mem_map.mp hdm
      intro s0 H0 C0 cl fp
      refine rg_name 3 ⟨rfl, bt_nil ⟨Same.refl _, .inl ⟨rfl, .str (Txt.join " " l), ?_, fun s0 H0 C0 cl fp => ?_⟩⟩⟩ scLJudged.nd
      · show some (PyData.str (Txt.join " " ((l.map PyData.str).filterMap _))) = _
        rw [strs_back]
      · have g2 := (G.row l hl).2.1
        have hs : (l.map (·.length)).sum ≤ rsum l := by
          clear hl hdm hv g2
          induction l with
          | nil => exact Nat.le_refl _
          | cons w l ih => rw [List.map_cons, List.sum_cons, rsum_cons]; omega
        have := rsum_len l
        exact XD.go (xd_join xd_str (xd_name 3 rfl hv) (by rw [e1]; omega)) fun v4 H4 s4 hv4 => ⟨s4, hv4⟩
    have ev1 := dp_str hv1
    subst ev1
    have L1 := L.mono s1
    have hsp := split_ok nl_tl (by decide +kernel) (pageR rows)
    refine rb_set 2 (M := M) (d := optND (wrongW (rowsOf (pageR rows)))) (xd_call L1 GW (hr.mono (by decide)) FW.g FW.F.kp FW.b (xa_cons (XL.dd ((xl_comp (own := [("_law_line_here", 4)]) splF L1 scLJudged.nd (XL.dd (xl_split L1 (xd_name 1 rfl (.str _)) xd_str (by decide +kernel) (by omega)) L1) (blkOk_by (own := [("_law_line_here", 4)]) (N := ljN) (sc := defScope sLJudged) (by decide +kernel)) (by rw [List.length_map]; have := hsp.2.1; omega) (fun p d v H3 hdm hp s3 Lp hv => ?comp2)).to (splF_map _)) L1) xa_nil) ⟨rowsOf (pageR rows), rfl, k1, k2, k3, rfl⟩) (fun v2 H2 s2 hv2 => ?_) scLJudged.nd
    case comp2 =>
      obtain ⟨l, hl, rfl⟩ := List.mem_map.mp hdm
      have hll := (hsp.2.2 l hl).1
      have ev := dp_str hv
      subst ev
      intro s9 H9 C9 cl fp
      refine rg_name 4 ⟨rfl, bt_nil ⟨Same.refl _, .inl ⟨rfl, _, rfl, fun s9 H9 C9 cl fp => ?_⟩⟩⟩ scLJudged.nd
      exact XD.go (XL.dd (xl_split (M := p :: M) Lp (xd_name 4 rfl (.str l)) xd_str (by decide +kernel) (by omega)) Lp) fun v4 H4 s4 hv4 => ⟨s4, hv4⟩
    have L2' := L1.mono s2
    refine rb_ret (M := M) (XD.to (xd_eqD (d1 := .list (toldD (wrongW (rowsOf (pageR rows))))) (d2 := .list (toldD (wrongW (rowsOf (pageR rows))))) hr.units (fun H3 s3 Q3 q3 => re_call GT hr FT.g FT.F.kp FT.b (ra_1 (XV.go (xv_name 1 rfl) fun H4 s4 => ⟨.str (pageR rows), "str", rfl, th_str, fun x ex => ?told, fun c => absurd rfl c⟩))) ?due (told_sh _) (told_sh _)) (by rw [told_eqv])) fun v5 H5 s5 hv5 => q v5 H5 ((s1.trans s2).trans s5) hv5
    case told =>
      cases ex
      have L4 := (L2'.mono s3).mono s4
      refine ⟨gt, fun i hi p H5 s5 hp h5 => q3 _ H5 (s4.trans s5) ?_, fun hn p H5 s5 hp h5 => q3 _ H5 (s4.trans s5) ?_⟩
      · rw [hi]
        exact .lst (by rw [hid_of (fun z => L4 p z hp)]; exact h5) (.cons (.str _) (.cons (.int _) .nil))
      · rw [hn]
        exact .lst (by rw [hid_of (fun z => L4 p z hp)]; exact h5) (.cons (.str _) .nil)
    case due =>
      cases e : wrongW (rowsOf (pageR rows)) with
      | none =>
        rw [e] at hv2
        exact xd_ifT (XT.to (xt_isNone (xd_name 2 rfl hv2)) rfl) (xd_lst L2' (xa_cons xd_str xa_nil) (by show 1 ≤ 100000; decide))
      | some i =>
        rw [e] at hv2
        exact xd_ifF (XT.to (xt_isNone (xd_name 2 rfl hv2)) rfl) (xd_lst L2' (xa_cons xd_str (xa_cons (xd_name 2 rfl hv2) xa_nil)) (by show 2 ≤ 100000; decide))
end
end Zn

set_option Elab.async false
set_option linter.all false
set_option maxRecDepth 100000
set_option maxHeartbeats 16000000
namespace Zn
open PySem PySem.Spec PyProof.Rows L2 Dl
/-! k11: the law -/
abbrev sLaw : Stmt := top 53
def spLaw (K : PySem.W.Frag) : Sp := fun vs H Q _ => ∃ (a : Addr) (ns : List Int), vs = [.ref a] ∧ SqL K H a (ns.map V.int) ∧ ∀ H1, Same H H1 → Q (.bl true) H1
def hdrR (b0 b1 : Str) : List Str := ["start", b0, b1]
def lastR (told : List Str) : List Str := "return" :: told
def rowsR (b0 b1 : Str) (lines : List (List Str)) (told : List Str) : List (List Str) := hdrR b0 b1 :: (lines ++ [lastR told])
theorem gw_ok {w : Str} (h : gwB w = true) : PyData.strOk w = true := by
  unfold gwB at h
  rw [Bool.and_eq_true] at h
  exact h.1
theorem rsum_le {r : List Str} (h : ∀ w ∈ r, gwB w = true) : rsum r ≤ r.length * 10 := by
  induction r with
  | nil => exact Nat.le_refl _
  | cons w r ih =>
    have h1 := gw_len (h w (by simp))
    have h2 := ih fun x hx => h x (List.mem_cons_of_mem _ hx)
    rw [rsum_cons, List.length_cons, Nat.succ_mul]
    omega
theorem row_gw {r : List Str} {n : Nat} (h : ∀ w ∈ r, gwB w = true) (hn : r ≠ []) (hl : r.length ≤ 5) : RowG n r := ⟨hn, by have := rsum_le h; omega, fun w hw => gw_ok (h w hw)⟩
theorem rows_G {b0 b1 : Str} {lines : List (List Str)} {told : List Str} (D : Drawn b0 b1 lines told) : GR 0 (rowsR b0 b1 lines told) := by
  obtain ⟨g0, g1, _⟩ := bd_ok _ D.bd
  refine ⟨by unfold rowsR; rw [List.length_cons, List.length_append, List.length_singleton]; have := D.l8; omega, by unfold rowsR; simp, fun r hr => ?_⟩
  unfold rowsR at hr
  simp only [List.mem_cons, List.mem_append, List.not_mem_nil, or_false] at hr
  rcases hr with rfl | hr | rfl
  · refine row_gw (fun w hw => ?_) (by simp [hdrR]) (by show 3 ≤ 5; decide)
    simp only [hdrR, List.mem_cons, List.not_mem_nil, or_false] at hw
    rcases hw with rfl | rfl | rfl
    · decide +kernel
    · exact g0
    · exact g1
  · obtain ⟨h5, nm, rest, e, _⟩ := D.sh r hr
    exact row_gw (D.gw r hr) (by rw [e]; simp) h5
  · refine row_gw (fun w hw => ?_) (by simp [lastR]) (by unfold lastR; rw [List.length_cons]; have := D.t4; omega)
    rcases List.mem_cons.mp hw with rfl | hw
    · decide +kernel
    · exact D.gt w hw
def manyR (j : Nat) : List Str := [("w" : Str) ++ Str.ofString (toString (j : Int)), "=", "add", "now", Str.ofString (toString (j : Int))]
theorem rowG_dec {n : Nat} {r : List Str} (h : (decide (r ≠ []) && (decide (rsum r ≤ 50 + 10 * n) && r.all fun w => PyData.strOk w)) = true) : RowG n r := by
  rw [Bool.and_eq_true, Bool.and_eq_true, decide_eq_true_eq, decide_eq_true_eq, List.all_eq_true] at h
  exact h
theorem many_ok : ∀ j : Fin 11, RowG 2 (manyR j.val) := fun j => rowG_dec ((by decide +kernel : ∀ j : Fin 11, (decide (manyR j.val ≠ []) && (decide (rsum (manyR j.val) ≤ 50 + 10 * 2) && (manyR j.val).all fun w => PyData.strOk w)) = true) j)
theorem cut_init {α : Type} (g : α → PyData) (ini : List α) (l : α) : Dl.cutD ((ini ++ [l]).map g) none (some (-1)) = ini.map g := by
  unfold Dl.cutD
  rw [HT.sIx_none, sIx_neg _ (by simp)]
  simp
theorem cut_end {α : Type} (g : α → PyData) (ini : List α) (l : α) : Dl.cutD ((ini ++ [l]).map g) (some (-1)) none = [g l] := by
  unfold Dl.cutD
  have e : HT.sIx ((ini ++ [l]).map g).length 0 (some (-1)) = ini.length := by rw [List.length_map, List.length_append, List.length_singleton]; unfold HT.sIx; simp <;> omega
  rw [HT.sIx_none, e]
  simp
theorem GR.of {rs : List (List Str)} (hl : rs.length ≤ 12) (hn : rs ≠ []) (h : ∀ r ∈ rs, RowG 2 r) : GR 2 rs := ⟨hl, hn, h⟩
def linesR (low high : Str) : List Str := ["start", low, high]
def nameR (nm : Str) : List Str := [nm, "=", "add", "now", "100000"]
section
variable {X : Cx} {M : List Addr} {σ : L2.St} {H : Hp} {e a elt tg : Expr} {scope : Scope} {own : List (Str × Nat)} {x : Str} {pos p1 p2 py spos : Pos} {D : Ends} {rest : List Stmt} {f : Addr} {fd : FuncData} {rows : List (List Str)}
theorem xt_told {e2 : Expr} {p3 p4 : Pos} {v : V} {Tn : String} {j : Nat} (hu : X.A.units + 64 < cLine) (GO : FnOk X.prog X.w X.K X.mg X.base CX0 8 f fd ["_law_text_here"] (spLTold X.K)) (hr : Room 8 X.A) (FO : Df X.K X.mg "_law_told" sLTold ["_law_text_here"] f fd) (ha : XV X σ H e v) (hb : XV X σ H e2 v) (ht : Th X.K H v Tn) (hn : Tn ≠ "str") (hf : flatB v = true ∨ ∃ c, v = .ref c)
    (hg : Gl X "_law_told" := by rfl) (he : starEach [e] X.env = (false, eval e X.env) :: starEach [] X.env := by rfl) (he2 : starEach [e2] X.env = (false, eval e2 X.env) :: starEach [] X.env := by rfl) (hpl : (backTo p2 (starEach [] X.env)).any (·.1) = false := by rfl) (hm : behindInMarks .NotEq (.List [.Constant (.str "text") j p3, e2] p4) = false := by rfl) :
    XT X σ H (.Compare (.Call (.Name "_law_told" p1) [e] [] p2) [.NotEq] [.List [.Constant (.str "text") j p3, e2] p4] pos) false := fun H1 s Q q =>
  ⟨_, pt_cmpR (op_neS2 hu) re_ re_ hm, re_call GO hr FO.g FO.F.kp FO.b (ra_1 (ha H1 s _ fun H2 s2 => ⟨v, Tn, rfl, ht.up (s.trans s2), fun x ex => absurd (ht.k x ex) hn, fun _ p H3 s3 hp h3 => ⟨_, pe_lst ra_, ra_cons (XV.go xv_str fun H4 s4 => ra_1 (hb H4 (((s.trans s2).trans s3).trans s4) _ fun H5 s5 => ⟨by show 2 ≤ _; decide, fun g hg => ⟨p, g, _, v, rfl, rfl, (same_new hg) _ _ (s5 _ _ (s4 _ _ h3)), upd_same, hf, _, rfl, q _ ((((s2.trans s3).trans s4).trans s5).trans (same_new hg))⟩⟩) he2)⟩⟩) he) hg (by decide) he hpl⟩
theorem xd_judge (L : Live M H) (GJ : FnOk X.prog X.w X.K X.mg X.base CX0 9 f fd ["_law_rows"] (spR X.K RLJudged)) (hr : Room 9 X.A) (FJ : Df X.K X.mg "_law_judged" sLJudged ["_law_rows"] f fd) (he : XD X M σ H e (.list (rows.map rowD))) (G : GR 2 rows) (hg : Gl X "_law_judged" := by rfl)
    (hst : starEach [e] X.env = (false, eval e X.env) :: starEach [] X.env := by rfl) (hpl : (backTo pos (starEach [] X.env)).any (·.1) = false := by rfl) : XD X M σ H (.Call (.Name "_law_judged" p1) [e] [] pos) (.bool true) :=
  xd_call L GJ hr FJ.g FJ.F.kp FJ.b (xa_cons he xa_nil hst) ⟨rows, rfl, G, rfl⟩ hg (by decide) hst hpl
/-- x = [elt for tg in range(a)], a draws -/
theorem rb_setCRD (i : Nat) (g : Nat → PyData) (hm : X.mg "range" = none) (hN : X.N.Nodup) (ok : BlkOk X.N X.env.scope scope own)
    (ha : RE X a σ H fun v H1 => ∃ n : Nat, v = .int (n : Int) ∧ n ≤ 1000 ∧ Live M H1 ∧
      (∀ p (i : Nat) H2, i < n → H1 p = none → Same H1 H2 → Live (p :: M) H2 → BG X scope tg (.int (i : Int)) (wipe σ (own.map (·.2))) H2 fun τ H3 => wipe τ (own.map (·.2)) = wipe σ (own.map (·.2)) ∧ H3 = H2 ∧ BE X scope elt τ H2 fun y H4 => Same H2 H4 ∧ Dq X.K (hid (p :: M) H4) y (g i)) ∧
      ∀ p xs H2, Same H1 H2 → H1 p = none → H2 p = some (.lst xs) → DqAll X.K (hid M H2) xs ((List.range n).map g) → RB X rest D (σ.set i (some (.ref p))) H2)
    (hi : X.N[i]? = some x := by rfl) (hx : X.env.scope.names.lookup x = some .local := by rfl) (hsw : swapsWith (.ListComp elt [⟨tg, .Call (.Name "range" p1) [a] [] p2, [], 0⟩] scope pos) (some (.Name x py)) spos.line X.env = pure true := by exact sw_true rfl rfl rfl rfl)
    (hc : X.calm = true := by rfl) (hg : Gl X "range" := by rfl) (he : starEach [a] X.env = [(false, eval a X.env)] := by rfl) (hs : ∀ x, foldedSetIterable (.Call (.Name "range" p1) [a] [] p2) X.env x = pure x := by intro _; rfl) : RB X (.Assign [.Name x py] (.ListComp elt [⟨tg, .Call (.Name "range" p1) [a] [] p2, [], 0⟩] scope pos) spos :: rest) D σ H :=
  ⟨_, pss_cons (ps_setLc (own := own) hc hN hi hx hsw (pi_range1 hg hm ra_ he) ok (fun _ _ _ _ _ => bg_) (fun _ _ _ _ _ => bt_) (fun _ _ _ _ _ => be_) hs) rb_, ra_1 (re_mono ha fun v H1 ⟨n, ev, hn, L1, hst, q⟩ => by
    refine ⟨(n : Int), by rw [ev], by omega, by omega, fun p hp => ?_⟩
    refine lc_range (lo := 0) (n := (n : Int).toNat) (fun i H' => Same H1 H' ∧ ∃ acc, H' p = some (.lst acc) ∧ DqAll X.K (hid (p :: M) H') acc ((List.range i).map g)) ⟨same_new hp, [], upd_same, .nil⟩ (fun i H' hi z => ?_) (fun H' z => ?_)
    · obtain ⟨sH, acc, hacc, ea⟩ := z
      have hi' : i < n := by omega
      have e0 : (0 : Int) + (i : Int) = (i : Int) := Int.zero_add _
      rw [e0]
      have Lp : Live (p :: M) H' := fun b hb => by
        rcases List.mem_cons.mp hb with z | hb
        · subst z; rw [hacc]; simp
        · exact L1.mono sH b hb
      refine bg_mono (hst p i H' hi' hp sH Lp) fun τ Ha ⟨hw, eh, hbe⟩ => ⟨hw, ?_⟩
      subst eh
      refine bt_nil (iteT (be_mono hbe fun y Hb ⟨sb, ey⟩ => ?_))
      refine ⟨acc, sb _ _ hacc, ?_, fun b o e => ?_, acc ++ [y], upd_same, ?_⟩
      · have h4 : 100000 < sizeLine := by decide
        rw [dpa_len ea, List.length_map, List.length_range]
        omega
      · rw [upd_ne (ne_of_none e hp)]
        exact sb _ _ (sH _ _ e)
      · rw [hid_upd_ne, List.range_succ, List.map_append]
        exact dpa_app (ea.up (hid_mono sb)) (.cons ey .nil)
    · obtain ⟨sH, acc, hacc, ea⟩ := z
      rw [Int.toNat_natCast] at ea
      exact q p acc H' sH hp hacc (ea.up hid_weak)) he⟩
end
section
variable {P : Program} {w : World} {K : PySem.W.Frag} {mg : Str → Option Value} {base : Heap}
abbrev nLaw : List Str := ["_law_script", "_law_k", "_law_box_here", "_law_bounds", "_law_lines", "_law_told_here", "_law_rows", "_law_lap", "_law_some", "_law_bend", "_law_many", "_law_low", "_law_high", "_law_name", "_law_thing", "_law_line_here", "_law_j"]
theorem scLaw : FnScope nLaw ["_law_script"] (defScope sLaw) := ⟨rfl, rfl, rfl, by decide +kernel, rfl, by decide +kernel, by decide +kernel⟩
theorem ok_law {fC fB fT fP fX fJ fO fD f : Addr} {gC gB gT gP gX gJ gO gD fd : FuncData} (T : Nm mg)
    (GC : FnOk P w K mg base CX0 1 fC gC ["_law_script", "_law_k"] (spCell K)) (FC : Df K mg "_law_cell" sCell ["_law_script", "_law_k"] fC gC)
    (GB : FnOk P w K mg base CX0 1 fB gB ["_law_cell_here"] spBag) (FB : Df K mg "_law_box" sBag ["_law_cell_here"] fB gB)
    (GT : FnOk P w K mg base CX0 1 fT gT ["_law_box_here", "_law_many"] spTake) (FT : Df K mg "_law_take" sTake ["_law_box_here", "_law_many"] fT gT)
    (GP : FnOk P w K mg base CX0 3 fP gP lpP (spLProg K)) (FP : Df K mg "_law_program" sLProg lpP fP gP)
    (GX : FnOk P w K mg base CX0 1 fX gX ltP (spR K RText)) (FX : Df K mg "_law_text" sLText ltP fX gX)
    (GJ : FnOk P w K mg base CX0 9 fJ gJ ["_law_rows"] (spR K RLJudged)) (FJ : Df K mg "_law_judged" sLJudged ["_law_rows"] fJ gJ)
    (GO : FnOk P w K mg base CX0 8 fO gO ["_law_text_here"] (spLTold K)) (FO : Df K mg "_law_told" sLTold ["_law_text_here"] fO gO)
    (GD : FnOk P w K mg base CX0 2 fD gD ["_law_box_here", "_law_rows"] (spLBent K)) (FD : Df K mg "_law_bent" sLBent ["_law_box_here", "_law_rows"] fD gD)
    (F : Fun K "law" "law" sLaw f fd) : FnOk P w K mg base CX0 10 f fd ["_law_script"] (spLaw K) := by
  refine F.ok scLaw (fun vs H Q E h => ?_) (fun cdv A outer s H vs Q E hr h => ?_)
  · obtain ⟨a, ns, rfl, _⟩ := h; rfl
  · obtain ⟨a, ns, rfl, hS0, q⟩ := h
    have hr8 := hr.mono (show 8 ≤ 9 by decide)
    have hr3 := hr.mono (show 3 ≤ 9 by decide)
    have hr2 := hr.mono (show 2 ≤ 9 by decide)
    have hr1 := hr.mono (show 1 ≤ 9 by decide)
    have rlen : ∀ (l : List (List Str)), (l.map rowD).length = l.length := fun l => List.length_map ..
    refine rb_range T.rng (XD.go (M := []) (xd_max T.max (xa_cons xd_int (xa_cons (xd_min T.min (xa_cons xd_int (xa_cons (xv_lenS T.len (xv_name 0 rfl) hS0).int xa_nil))) xa_nil))) fun v H0 s0 hv => ?_)
    have ev := dp_int hv
    subst ev
    generalize hnn : (if (if ((ns.map V.int).length : Int) < 6 then ((ns.map V.int).length : Int) else 6) > 2 then (if ((ns.map V.int).length : Int) < 6 then ((ns.map V.int).length : Int) else 6) else 2) = nn
    have hn2 : 0 ≤ nn ∧ nn ≤ 100 := by
      rw [← hnn]
      split <;> split <;> omega
    refine ⟨nn.toNat, by rw [Int.toNat_of_nonneg hn2.1], by omega, fun i σ' H' => Same H H' ∧ ∃ u1 u2 u3 u4 u5 u6 u7 u8 u9 u10 u11 u12 u13 u14 u15 u16, σ' = [some (.ref a), u1, u2, u3, u4, u5, u6, u7, u8, u9, u10, u11, u12, u13, u14, u15, u16], ⟨s0, none, none, none, none, none, none, none, none, none, none, none, none, none, none, none, none, rfl⟩, fun i σ' H' hi w => ?_, fun σ' H' w => ?_⟩
    case refine_2 =>
      obtain ⟨sH0, u1, u2, u3, u4, u5, u6, u7, u8, u9, u10, u11, u12, u13, u14, u15, u16, rfl⟩ := w
      have one : ∀ {r : List Str}, RowG 2 r → GR 2 [r] := fun h => .of (by show 1 ≤ 12; decide) (by simp) fun r' hr' => by rw [List.mem_singleton.mp hr']; exact h
      refine rb_ret (M := []) (d := .bool true) (xd_andT (xd_judge (rows := [[""]]) Live.nil GJ hr FJ (xd_lst Live.nil (xa_cons (xd_lst Live.nil (xa_cons xd_str xa_nil)) xa_nil)) (one (rowG_dec (by decide +kernel)))) (xd_andT (xd_judge (rows := [["return", "n"]]) Live.nil GJ hr FJ (xd_lst Live.nil (xa_cons (xd_lst Live.nil (xa_cons xd_str (xa_cons xd_str xa_nil))) xa_nil)) (one (rowG_dec (by decide +kernel)))) (xd_one (xd_judge (rows := [["start", "00:00", "00:00"]]) Live.nil GJ hr FJ (xd_lst Live.nil (xa_cons (xd_lst Live.nil (xa_cons xd_str (xa_cons xd_str (xa_cons xd_str xa_nil)))) xa_nil)) (one (rowG_dec (by decide +kernel))))))) fun v H1 s1 hv => ?_
      rw [dp_bl hv]
      exact q H1 (sH0.trans s1)
    case refine_1 =>
    obtain ⟨sH0, u1, u2, u3, u4, u5, u6, u7, u8, u9, u10, u11, u12, u13, u14, u15, u16, rfl⟩ := w
    refine rg_name 1 ?_ scLaw.nd
    refine rb_setR 2 (re_call GB hr1 FB.g FB.F.kp FB.b (ra_1 (re_call GC hr1 FC.g FC.F.kp FC.b (ra_cons (XV.go (xv_name 0 rfl) fun Ha sa => ra_1 (XV.go (xv_name 1 rfl) fun Hb sb => ⟨a, ns, i, rfl, ((sH0.trans sa).trans sb).seq hS0, fun nc Hc sc => ⟨nc, rfl, fun b H1 s1 hb hBg => ?_⟩⟩)))))) scLaw.nd
    have s01 : Same H' H1 := ((sa.trans sb).trans sc).trans s1
    have hb0 : H' b = none := ((sa.trans sb).trans sc).free hb
    have hbn : H b = none := sH0.free hb0
    have hbM : b ∈ [b] := List.mem_singleton.mpr rfl
    have Lb : ∀ {Hx : Hp} {n : Nat}, BagAt Hx b n → Live [b] Hx := fun hB x hx => by rw [List.mem_singleton.mp hx]; exact hB.some
    -- the program drawn
    refine rb_asgR (re_call GP hr3 FP.g FP.F.kp FP.b (ra_cons (XV.go (xv_name 2 rfl) fun H2 s2 => ra_1 (XV.go xv_int fun H3 s3 => ⟨[b], b, 0, rfl, hbM, Lb (hBg.up (s2.trans s3) (Nat.le_refl _)), by decide, hBg.up (s2.trans s3) (Nat.le_refl _), fun b0 b1 lines told v H4 Dr sB4 hB4 hv4 => ?_⟩))))
    have SB4 : SameB b H' H4 := ((SameB.of s01).trans (.of (s2.trans s3))).trans sB4
    obtain ⟨tp, ts, rfl, htp, hts⟩ := dp_tup (show Dq K (hid [b] H4) v (.tuple [.tuple [.str b0, .str b1], .list (lines.map rowD), .list (told.map PyData.str)]) from hv4)
    obtain ⟨x1, x2, x3, rfl⟩ : ∃ x1 x2 x3, ts = [x1, x2, x3] := by
      have := dpa_len hts
      match ts, this with
      | [x, y, z], _ => exact ⟨x, y, z, rfl⟩
    cases hts with
    | cons h1 hts => cases hts with
    | cons h2 hts => cases hts with
    | cons h3 hts =>
    refine rg_tup (xs := [x1, x2, x3]) (same_seqT hid_le htp) (rgs_cons (rg_name 3 (rgs_cons (rg_name 4 (rgs_cons (rg_name 5 (rgs_nil ?_) scLaw.nd)) scLaw.nd)) scLaw.nd))
    have L4 := Lb hB4
    have hl1 := Dr.l1
    have hl8 := Dr.l8
    have G0 := rows_G Dr
    have hpr := (page_rows Dr).2
    obtain ⟨pl1, pl2⟩ := page_lens Dr
    have hspl : (Txt.split (pageOf b0 b1 lines told) "\n").length ≤ 20 := by
      have : (rowsOf (pageOf b0 b1 lines told)).length = (Txt.split (pageOf b0 b1 lines told) "\n").length := List.length_map ..
      rw [← this, hpr, List.length_cons, List.length_append, List.length_singleton]
      omega
    -- the rows
    refine rb_setC0 (M := [b]) (own := [("_law_line_here", 15)]) 6 splF L4 scLaw.nd (XL.dd (xl_split L4 (xd_call (d := .str (pageOf b0 b1 lines told)) L4 GX hr1 FX.g FX.F.kp FX.b (xa_cons (xd_name 3 rfl h1) (xa_cons (xd_name 4 rfl h2) (xa_cons (xd_name 5 rfl h3) xa_nil))) ⟨b0, b1, lines, told, Dr, rfl, rfl⟩) xd_str (by decide +kernel) (by omega)) L4) (blkOk_by (own := [("_law_line_here", 15)]) (N := nLaw) (sc := defScope sLaw) (by decide +kernel)) (by rw [List.length_map]; omega) (fun p d v H3 hdm hp s3 Lp hv => ?comp) (fun rp xs H5 s5 hrp hrp5 hx5 => ?_)
    case comp =>
      obtain ⟨l, hl, rfl⟩ := List.mem_map.mp hdm
      have ev := dp_str hv
      subst ev
      intro s9 H9 C9 cl fp
      refine rg_name 15 ⟨rfl, bt_nil ⟨Same.refl _, .inl ⟨rfl, _, rfl, fun s9 H9 C9 cl fp => ?_⟩⟩⟩ scLaw.nd
      exact XD.go (XL.dd (xl_split (M := p :: [b]) Lp (xd_name 15 rfl (.str l)) xd_str (by decide +kernel) (by have := pl1 l hl; omega)) Lp) fun v4 H4 s4 hv4 => ⟨s4, hv4⟩
    rw [splF_map] at hx5
    have hx5 : DqAll K (hid [b] H5) xs ((rowsR b0 b1 lines told).map rowD) := by
      have e : ((Txt.split (pageOf b0 b1 lines told) "\n").map fun l => Txt.split l " ") = rowsR b0 b1 lines told := hpr
      rw [e] at hx5
      exact hx5
    have hR5 : Dq K (hid [b] H5) (.ref rp) (.list ((rowsR b0 b1 lines told).map rowD)) := .lst (by rw [hid_of (fun z => L4 rp z hrp)]; exact hrp5) hx5
    have hRl : (rowsR b0 b1 lines told).length = lines.length + 2 := by unfold rowsR; rw [List.length_cons, List.length_append, List.length_singleton]
    have hB5 : BagAt H5 b 200 := hB4.up s5 (Nat.le_refl _)
    have L5 := Lb hB5
    have SB5 : SameB b H' H5 := SB4.trans (.of s5)
    generalize hRR : rowsR b0 b1 lines told = R at hR5 G0 hRl
    have eA : R = (hdrR b0 b1 :: lines) ++ [lastR told] := by rw [← hRR]; rfl
    have eB : R = hdrR b0 b1 :: (lines ++ [lastR told]) := by rw [← hRR]; rfl
    have RG : ∀ r ∈ R, RowG 2 r := fun r hr => (G0.row r hr).up (by decide)
    refine rb_ifF (XT.to (xt_not (xt_val (M := [b]) (xd_judge L5 GJ hr FJ (xd_name 6 rfl hR5) (G0.up (by decide))))) rfl) fun H6 s6 => ?_
    have hB6 : BagAt H6 b 200 := hB5.up s6 (Nat.le_refl _)
    have SB6 : SameB b H' H6 := SB5.trans (.of s6)
    -- eight laps
    refine rb_range T.rng (XV.go xv_int fun H7 s7 => ⟨8, rfl, by decide, fun l σ2 Hx => SameB b H5 Hx ∧ BagAt Hx b (200 + 30 * l) ∧ ∃ u7 u8 u9, σ2 = [some (.ref a), some (.int i), some (.ref b), some x1, some x2, some x3, some (.ref rp), u7, u8, u9, u10, u11, u12, u13, u14, u15, u16], ⟨.of (s6.trans s7), hB6.up s7 (Nat.le_refl _), u7, u8, u9, rfl⟩, fun l σ2 Hx hl8' w => ?_, fun σ2 Hx w => ?_⟩)
    · obtain ⟨SBx, hBx, u7, u8, u9, rfl⟩ := w
      refine rg_name 7 ?_ scLaw.nd
      refine rb_setV 8 (xv_name 6 rfl) (fun Ha sa => ?_) scLaw.nd
      have hBa := hBx.up sa (Nat.le_refl _)
      have SBa : SameB b H5 Ha := SBx.trans (.of sa)
      refine rb_range T.rng (re_bin op_add (XV.go xv_int fun Hb sb => re_take (n := 200 + 30 * l) GT FT hr1 (xv_name 2 rfl) xv_int (hBa.up sb (Nat.le_refl _)) fun rr Hc rr0 rr1 sBc hBc => ⟨1, rr, rfl, rfl, ?_⟩))
      have SBc : SameB b H5 Hc := (SBa.trans (.of sb)).trans sBc
      refine ⟨(1 + rr).toNat, by rw [Int.toNat_of_nonneg (by omega)], by omega, fun m σ3 Hy => SameB b H5 Hy ∧ BagAt Hy b (200 + 30 * l + 1 + 8 * m) ∧ ∃ (v8 : V) (u9 : Option V) (rs : List (List Str)), σ3 = [some (.ref a), some (.int i), some (.ref b), some x1, some x2, some x3, some (.ref rp), some (.int (l : Int)), some v8, u9, u10, u11, u12, u13, u14, u15, u16] ∧ GR m rs ∧ Dq K (hid [b] Hy) v8 (.list (rs.map rowD)), ⟨SBc, hBc, _, u9, R, rfl, G0, hR5.up (SBc.hid hbM)⟩, fun m σ3 Hy hm w => ?_, fun σ3 Hy w => ?_⟩
      · obtain ⟨SBy, hBy, v8, u9, rs, rfl, Gm, hv8⟩ := w
        refine rg_name 9 ?_ scLaw.nd
        refine rb_setR 8 (re_call GD hr2 FD.g FD.F.kp FD.b (ra_cons (XV.go (xv_name 2 rfl) fun Hd sd => ra_1 (XV.go (xv_name 8 rfl) fun He se => ⟨[b], b, 200 + 30 * l + 1 + 8 * m, m, v8, rs, rfl, hbM, Lb (hBy.up (sd.trans se) (Nat.le_refl _)), by omega, hBy.up (sd.trans se) (Nat.le_refl _), by omega, hv8.up (hid_mono (sd.trans se)), Gm, fun rs' v' Hf G' sBf hBf hv' => rb_nil ?_⟩)))) scLaw.nd
        exact ⟨(SBy.trans (.of (sd.trans se))).trans sBf, hBf.up (Same.refl _) (by omega), v', _, rs', rfl, G', hv'⟩
      · obtain ⟨SBy, hBy, v8, u9, rs, rfl, Gm, hv8⟩ := w
        refine rb_ifF (XT.to (xt_not (xt_val (M := [b]) (xd_judge (Lb hBy) GJ hr FJ (xd_name 8 rfl hv8) (Gm.up (by omega))))) rfl) fun Hz sz => rb_nil ?_
        exact ⟨SBy.trans (.of sz), hBy.up sz (by omega), _, _, _, rfl⟩
    · obtain ⟨SBx, hBx, u7, u8, u9, rfl⟩ := w
      have h2x : Dq K (hid [b] Hx) x2 (.list (lines.map rowD)) := (h2.up (hid_mono s5)).up (SBx.hid hbM)
      -- many rows
      refine rb_setCRD (M := [b]) (own := [("_law_j", 16)]) 10 (fun j => rowD (manyR j)) T.rng scLaw.nd (blkOk_by (own := [("_law_j", 16)]) (N := nLaw) (sc := defScope sLaw) (by decide +kernel)) (re_bin op_add (XD.go (M := [b]) (xd_sub xd_int (xd_len T.len (xd_name 4 rfl h2x))) fun v9 Ha sa hv9 => re_take (n := 200 + 30 * 8) GT FT hr1 (xv_name 2 rfl) xv_int (hBx.up sa (Nat.le_refl _)) fun rr Hb rr0 rr1 sBb hBb => ⟨_, rr, dp_int hv9, rfl, (9 - lines.length + rr).toNat, by rw [Int.toNat_of_nonneg (by omega), rlen], by omega, Lb hBb, fun p j Hc hj hp sc Lp => ?mk, fun mp xs Hc sc hmp hmp1 hmx => ?_⟩))
      case mk =>
        intro s9 H9 C9 cl fp
        refine rg_name 16 ⟨rfl, rfl, fun s9 H9 C9 cl fp => ?_⟩ scLaw.nd
        have hlog : (j : Int).natAbs.log2 < 1920 := Nat.lt_of_le_of_lt (Nat.log2_le_self _) (by omega)
        have hsl : (Str.ofString (toString (j : Int))).length ≤ 100 := by
          have key : ∀ k : Fin 11, (Str.ofString (toString (k.val : Int))).length ≤ 100 := by decide +kernel
          exact key ⟨j, by omega⟩
        have hw1 : ("w" : Str).length = 1 := by decide +kernel
        exact XD.go (xd_lst (ds := (manyR j).map PyData.str) Lp (xa_cons (Dl.xd_addS xd_str (xd_strI T.str (xv_name 16 rfl).int hlog) (by omega)) (xa_cons xd_str (xa_cons xd_str (xa_cons xd_str (xa_cons (xd_strI T.str (xv_name 16 rfl).int hlog) xa_nil))))) (by show 5 ≤ 100000; decide)) fun v4 H4 s4 hv4 => ⟨s4, hv4⟩
      generalize hnm : (9 - lines.length + rr : Int).toNat = nm at hmx
      have hnm9 : nm ≤ 9 ∧ lines.length + nm ≤ 10 := by omega
      have SBc : SameB b H5 Hc := ((SBx.trans (.of sa)).trans sBb).trans (.of sc)
      have Lc : Live [b] Hc := (Lb hBb).mono sc
      have hRc := hR5.up (SBc.hid hbM)
      have hM : Dq K (hid [b] Hc) (.ref mp) (.list (((List.range nm).map manyR).map rowD)) := .lst (by rw [hid_of (fun z => Lb hBb mp z hmp)]; exact hmp1) (by rw [List.map_map]; exact hmx)
      generalize hMM : (List.range nm).map manyR = MM at hM
      have hMl : MM.length = nm := by rw [← hMM, List.length_map, List.length_range]
      have MG : ∀ r ∈ MM, RowG 2 r := fun r hr => by
        rw [← hMM] at hr
        obtain ⟨j, hj, rfl⟩ := List.mem_map.mp hr
        have := List.mem_range.mp hj
        exact many_ok ⟨j, by omega⟩
      clear hmx hmp1 hMM
      have lG : ∀ r ∈ lines, RowG 2 r := fun r hr => RG r (by rw [eB]; exact List.mem_cons_of_mem _ (List.mem_append_left _ hr))
      have hG : RowG 2 (hdrR b0 b1) := RG _ (by rw [eB]; exact List.mem_cons_self ..)
      have tG : RowG 2 (lastR told) := RG _ (by rw [eA]; exact List.mem_append_right _ (List.mem_singleton.mpr rfl))
      have eG : RowG 2 [("" : Str)] := rowG_dec (by decide +kernel)
      have ini : ∀ {σ' : L2.St} {Hy : Hp} {p1 p2 p3 p4 p5 : Pos} {j1 : Nat}, Same Hc Hy → σ'[6]? = some (some (.ref rp)) → XD (cxOf CX0 P w K mg base nLaw "law" (defScope sLaw) f cdv A outer s H E).nox [b] σ' Hy (.Subscript (.Name "_law_rows" p1) (.Slice none (some (.UnaryOp .USub (.Constant (.int 1) j1 p2) p3)) none p4) p5) (.list ((hdrR b0 b1 :: lines).map rowD)) := fun {σ' Hy p1 p2 p3 p4 p5 j1} sy hσ =>
        XL.dd (XL.to (xl_cut (Lc.mono sy) (xd_name 6 hσ (hRc.up (hid_mono sy))) xo_none (xo_some (M := [b]) (xd_neg xd_int))) (by rw [eA]; exact cut_init rowD _ _)) (Lc.mono sy)
      have fin1 : ∀ {σ' : L2.St} {Hy : Hp} {p1 p2 p3 p4 p5 : Pos} {j1 : Nat}, Same Hc Hy → σ'[6]? = some (some (.ref rp)) → XD (cxOf CX0 P w K mg base nLaw "law" (defScope sLaw) f cdv A outer s H E).nox [b] σ' Hy (.Subscript (.Name "_law_rows" p1) (.Slice (some (.UnaryOp .USub (.Constant (.int 1) j1 p2) p3)) none none p4) p5) (.list ([lastR told].map rowD)) := fun {σ' Hy p1 p2 p3 p4 p5 j1} sy hσ =>
        XL.dd (XL.to (xl_cut (Lc.mono sy) (xd_name 6 hσ (hRc.up (hid_mono sy))) (xo_some (M := [b]) (xd_neg xd_int)) xo_none) (by rw [eA]; exact cut_end rowD _ _)) (Lc.mono sy)
      have tail : ∀ {σ' : L2.St} {Hy : Hp} {p1 p2 p4 p5 : Pos} {j1 : Nat}, Same Hc Hy → σ'[6]? = some (some (.ref rp)) → XD (cxOf CX0 P w K mg base nLaw "law" (defScope sLaw) f cdv A outer s H E).nox [b] σ' Hy (.Subscript (.Name "_law_rows" p1) (.Slice (some (.Constant (.int 1) j1 p2)) none none p4) p5) (.list ((lines ++ [lastR told]).map rowD)) := fun {σ' Hy p1 p2 p4 p5 j1} sy hσ =>
        XL.dd (XL.to (xl_cut (Lc.mono sy) (xd_name 6 hσ (hRc.up (hid_mono sy))) (xo_some (M := [b]) xd_int) xo_none) (by rw [cut1, eB]; rfl)) (Lc.mono sy)
      have head : ∀ {σ' : L2.St} {Hy : Hp} {p1 p2 p4 p5 : Pos} {j1 : Nat}, Same Hc Hy → σ'[6]? = some (some (.ref rp)) → XD (cxOf CX0 P w K mg base nLaw "law" (defScope sLaw) f cdv A outer s H E).nox [b] σ' Hy (.Subscript (.Name "_law_rows" p1) (.Slice none (some (.Constant (.int 1) j1 p2)) none p4) p5) (.list ([hdrR b0 b1].map rowD)) := fun {σ' Hy p1 p2 p4 p5 j1} sy hσ =>
        XL.dd (XL.to (xl_cut (Lc.mono sy) (xd_name 6 hσ (hRc.up (hid_mono sy))) xo_none (xo_some (M := [b]) xd_int)) (by rw [eB]; exact cut_to rowD _ 1 (by simp))) (Lc.mono sy)
      have GA : GR 2 ((hdrR b0 b1 :: lines) ++ MM ++ [lastR told]) := .of (by rw [List.length_append, List.length_append, List.length_cons, List.length_singleton, hMl]; omega) (by simp) fun r hr => by
        simp only [List.mem_append, List.mem_cons, List.not_mem_nil, or_false] at hr
        rcases hr with ((rfl | hr) | hr) | rfl
        · exact hG
        · exact lG r hr
        · exact MG r hr
        · exact tG
      have GB' : GR 2 ((hdrR b0 b1 :: lines) ++ MM.drop 1 ++ [lastR told]) := .of (by rw [List.length_append, List.length_append, List.length_cons, List.length_singleton, List.length_drop, hMl]; omega) (by simp) fun r hr => by
        simp only [List.mem_append, List.mem_cons, List.not_mem_nil, or_false] at hr
        rcases hr with ((rfl | hr) | hr) | rfl
        · exact hG
        · exact lG r hr
        · exact MG r (List.mem_of_mem_drop hr)
        · exact tG
      have GC' : GR 2 (R ++ [[("" : Str)]]) := .of (by rw [List.length_append, List.length_singleton, hRl]; omega) (by simp) fun r hr => by
        rcases List.mem_append.mp hr with hr | hr
        · exact RG r hr
        · rw [List.mem_singleton.mp hr]; exact eG
      have GD' : GR 2 ([("" : Str)] :: R) := .of (by rw [List.length_cons, hRl]; omega) (by simp) fun r hr => by
        rcases List.mem_cons.mp hr with rfl | hr
        · exact eG
        · exact RG r hr
      have blank : ∀ {σ' : L2.St} {Hy : Hp} {p1 p2 p3 : Pos} {j1 : Nat}, Same Hc Hy → XD (cxOf CX0 P w K mg base nLaw "law" (defScope sLaw) f cdv A outer s H E).nox [b] σ' Hy (.List [.List [.Constant (.str "") j1 p1] p2] p3) (.list ([[("" : Str)]].map rowD)) := fun sy => xd_lst (Lc.mono sy) (xa_cons (xd_lst (Lc.mono sy) (xa_cons xd_str xa_nil)) xa_nil)
      -- lists of rows
      refine rb_for (M := [b]) (ds := [.list (((hdrR b0 b1 :: lines) ++ MM ++ [lastR told]).map rowD), .list (((hdrR b0 b1 :: lines) ++ MM.drop 1 ++ [lastR told]).map rowD), .list ((R ++ [[("" : Str)]]).map rowD), .list (([("" : Str)] :: R).map rowD)]) ?hit1 fun Hd sd => ⟨fun k σ' Hy => Same Hd Hy ∧ ∃ u8, σ' = [some (.ref a), some (.int i), some (.ref b), some x1, some x2, some x3, some (.ref rp), u7, u8, u9, some (.ref mp), u11, u12, u13, u14, u15, u16], ⟨Same.refl _, u8, rfl⟩, fun k σ' Hy w => hid_mono w.1, fun k d hd σ' Hy v w hv => ?_, fun σ' Hy w => ?_⟩
      case hit1 =>
        refine xd_lst Lc (xa_cons ?_ (xa_cons ?_ (xa_cons ?_ (xa_cons ?_ xa_nil))))
        · exact XD.to (XL.dd (xl_cat Lc (XL.dd (xl_cat Lc (ini (Same.refl _) rfl) (xd_name 10 rfl hM) (by rw [rlen, rlen, hMl, List.length_cons]; omega)) Lc) (fin1 (Same.refl _) rfl) (by rw [List.length_append, rlen, rlen, rlen, hMl, List.length_cons, List.length_singleton]; omega)) Lc) (by rw [List.map_append, List.map_append])
        · exact XD.to (XL.dd (xl_cat Lc (XL.dd (xl_cat Lc (ini (Same.refl _) rfl) (XL.dd (XL.to (xl_cut Lc (xd_name 10 rfl hM) (xo_some (M := [b]) xd_int) xo_none) (by rw [cut1, ← List.map_drop])) Lc) (by rw [rlen, rlen, List.length_drop, hMl, List.length_cons]; omega)) Lc) (fin1 (Same.refl _) rfl) (by rw [List.length_append, rlen, rlen, rlen, List.length_drop, hMl, List.length_cons, List.length_singleton]; omega)) Lc) (by rw [List.map_append, List.map_append])
        · exact XD.to (XL.dd (xl_cat Lc (xd_name 6 rfl hRc) (blank (Same.refl _)) (by rw [rlen, rlen, hRl]; show _ + 1 ≤ _; omega)) Lc) (by rw [List.map_append])
        · exact XD.to (XL.dd (xl_cat Lc (blank (Same.refl _)) (xd_name 6 rfl hRc) (by rw [rlen, rlen, hRl]; show 1 + _ ≤ _; omega)) Lc) (by rw [← List.map_append]; rfl)
      · obtain ⟨sy, u8, rfl⟩ := w
        obtain ⟨rs, rfl, Gr⟩ : ∃ rs : List (List Str), d = .list (rs.map rowD) ∧ GR 2 rs := by
          have hm := List.mem_of_getElem? hd
          simp only [List.mem_cons, List.not_mem_nil, or_false] at hm
          rcases hm with rfl | rfl | rfl | rfl
          · exact ⟨_, rfl, GA⟩
          · exact ⟨_, rfl, GB'⟩
          · exact ⟨_, rfl, GC'⟩
          · exact ⟨_, rfl, GD'⟩
        refine rg_name 8 ?_ scLaw.nd
        exact rb_ifF (XT.to (xt_not (xt_val (M := [b]) (xd_judge ((Lc.mono sd).mono sy) GJ hr FJ (xd_name 8 rfl hv) Gr))) rfl) fun He se => rb_nil ⟨sy.trans se, _, rfl⟩
      obtain ⟨sy1, u8, rfl⟩ := w
      have t1 := sd.trans sy1
      -- bounds
      refine rb_for (M := [b]) (ds := [.tuple [.str "22:00", .str "06:00"], .tuple [.str "06:00", .str "05:59"], .tuple [.str "06:00", .str "06:00"]]) (xd_lst (Lc.mono t1) (xa_cons (xd_tup (Lc.mono t1) (xa_cons xd_str (xa_cons xd_str xa_nil))) (xa_cons (xd_tup (Lc.mono t1) (xa_cons xd_str (xa_cons xd_str xa_nil))) (xa_cons (xd_tup (Lc.mono t1) (xa_cons xd_str (xa_cons xd_str xa_nil))) xa_nil)))) fun Hd sd => ⟨fun k σ' Hy => Same Hd Hy ∧ ∃ u11 u12, σ' = [some (.ref a), some (.int i), some (.ref b), some x1, some x2, some x3, some (.ref rp), u7, u8, u9, some (.ref mp), u11, u12, u13, u14, u15, u16], ⟨Same.refl _, u11, u12, rfl⟩, fun k σ' Hy w => hid_mono w.1, fun k d hd σ' Hy v w hv => ?_, fun σ' Hy w => ?_⟩
      · obtain ⟨sy, u11, u12, rfl⟩ := w
        obtain ⟨lo, hi', rfl, Gl⟩ : ∃ lo hi : Str, d = .tuple [.str lo, .str hi] ∧ RowG 2 (linesR lo hi) := by
          have hm := List.mem_of_getElem? hd
          simp only [List.mem_cons, List.not_mem_nil, or_false] at hm
          rcases hm with rfl | rfl | rfl
          · exact ⟨_, _, rfl, rowG_dec (by decide +kernel)⟩
          · exact ⟨_, _, rfl, rowG_dec (by decide +kernel)⟩
          · exact ⟨_, _, rfl, rowG_dec (by decide +kernel)⟩
        obtain ⟨tp, ts, rfl, htp, hts⟩ := dp_tup hv
        obtain ⟨y1, y2, rfl⟩ : ∃ y1 y2, ts = [y1, y2] := by
          have := dpa_len hts
          match ts, this with
          | [x, y], _ => exact ⟨x, y, rfl⟩
        cases hts with
        | cons k1 hts => cases hts with
        | cons k2 hts =>
        have t2 := (t1.trans sd).trans sy
        have Ly := Lc.mono t2
        refine rg_tup (xs := [y1, y2]) (same_seqT hid_le htp) (rgs_cons (rg_name 11 (rgs_cons (rg_name 12 (rgs_nil ?_) scLaw.nd)) scLaw.nd))
        refine rb_ifF (XT.to (xt_not (xt_val (M := [b]) (xd_judge (rows := linesR lo hi' :: (lines ++ [lastR told])) Ly GJ hr FJ (XD.to (XL.dd (xl_cat (ds := [rowD (linesR lo hi')]) Ly (xd_lst Ly (xa_cons (xd_lst Ly (xa_cons xd_str (xa_cons (xd_name 11 rfl k1) (xa_cons (xd_name 12 rfl k2) xa_nil))) (by show 3 ≤ 100000; decide)) xa_nil)) (tail t2 rfl) (by rw [rlen, List.length_append]; show 1 + _ ≤ _; rw [List.length_singleton]; omega)) Ly) rfl) (.of (by rw [List.length_cons, List.length_append, List.length_singleton]; omega) (by simp) fun r hr => ?_)))) rfl) fun He se => rb_nil ⟨sy.trans se, _, _, rfl⟩
        rcases List.mem_cons.mp hr with rfl | hr
        · exact Gl
        · exact RG r (by rw [eB]; exact List.mem_cons_of_mem _ hr)
      obtain ⟨sy2, u11, u12, rfl⟩ := w
      have t3 := (t1.trans sd).trans sy2
      -- names
      refine rb_for (M := [b]) (ds := ([("abcdefgh" : Str), "abcdefghi", "z9", "9z", "return", "now"]).map PyData.str) (xd_lst (Lc.mono t3) (xa_cons xd_str (xa_cons xd_str (xa_cons xd_str (xa_cons xd_str (xa_cons xd_str (xa_cons xd_str xa_nil))))))) fun Hd sd => ⟨fun k σ' Hy => Same Hd Hy ∧ ∃ u13, σ' = [some (.ref a), some (.int i), some (.ref b), some x1, some x2, some x3, some (.ref rp), u7, u8, u9, some (.ref mp), u11, u12, u13, u14, u15, u16], ⟨Same.refl _, u13, rfl⟩, fun k σ' Hy w => hid_mono w.1, fun k d hd σ' Hy v w hv => ?_, fun σ' Hy w => ?_⟩
      · obtain ⟨sy, u13, rfl⟩ := w
        obtain ⟨nm, hnm1, rfl⟩ := List.mem_map.mp (List.mem_of_getElem? hd)
        have Gn : RowG 2 (nameR nm) := by
          simp only [List.mem_cons, List.not_mem_nil, or_false] at hnm1
          rcases hnm1 with rfl | rfl | rfl | rfl | rfl | rfl <;> exact rowG_dec (by decide +kernel)
        have t4 := (t3.trans sd).trans sy
        have Ly := Lc.mono t4
        refine rg_name 13 ?_ scLaw.nd
        refine rb_ifF (XT.to (xt_not (xt_val (M := [b]) (xd_judge (rows := [hdrR b0 b1] ++ [nameR nm] ++ (lines ++ [lastR told])) Ly GJ hr FJ (XD.to (XL.dd (xl_cat (ds := [hdrR b0 b1].map rowD ++ [rowD (nameR nm)]) Ly (XL.dd (xl_cat (ds2 := [rowD (nameR nm)]) Ly (head t4 rfl) (xd_lst Ly (xa_cons (xd_lst Ly (xa_cons (xd_name 13 rfl hv) (xa_cons xd_str (xa_cons xd_str (xa_cons xd_str (xa_cons xd_str xa_nil))))) (by show 5 ≤ 100000; decide)) xa_nil)) (by show 1 + 1 ≤ 100000; decide)) Ly) (tail t4 rfl) (by rw [rlen, List.length_append, List.length_append]; show 1 + 1 + _ ≤ _; rw [List.length_singleton]; omega)) Ly) (by simp only [List.map_append]; rfl)) (.of (by rw [List.length_append, List.length_append, List.length_append, List.length_singleton, List.length_singleton, List.length_singleton]; omega) (by simp) fun r hr => ?_)))) rfl) fun He se => rb_nil ⟨sy.trans se, _, rfl⟩
        simp only [List.mem_append, List.mem_singleton] at hr
        rcases hr with (rfl | rfl) | hr
        · exact hG
        · exact Gn
        · exact RG r (by rw [eB]; exact List.mem_cons_of_mem _ (List.mem_append.mpr (hr.imp id fun z => List.mem_singleton.mpr z)))
      obtain ⟨sy3, u13, rfl⟩ := w
      have t5 := (t3.trans sd).trans sy3
      -- things
      have hRt := hRc.up (hid_mono (M := [b]) t5)
      refine rb_forV ⟨_, pe_lst ra_, ra_cons (XV.go xv_non fun Ha sa => ra_cons (XV.go xv_int fun Hb sb => ra_cons (XV.go (xd_bl (M := [])).vbl fun Hd sd => ra_cons (XV.go (xv_name 6 rfl) fun He se => ra_cons (re_dnew (f := fun _ => .non) fun dp hdp hDp => ?tup)))))⟩
      case tup =>
      refine ra_1 ⟨_, pe_tup ra_, ra_1 (XV.go xv_int fun Hf sf => ⟨by show 1 ≤ _; decide, fun tt htt => ⟨by show 6 ≤ _; decide, fun lp hlp => ?_⟩⟩)⟩
      have q1 : Same Hy He := ((sa.trans sb).trans sd).trans se
      have q2 : Same Hy (upd He dp (.dK [])) := q1.trans (same_new hdp)
      have q3 : Same Hy (upd Hf tt (.tup [.int 1])) := (q2.trans sf).trans (same_new htt)
      have q4 : Same (upd Hf tt (.tup [.int 1])) (upd (upd Hf tt (.tup [.int 1])) lp (.lst [.non, .int 3, .bl true, .ref rp, .ref dp, .ref tt])) := same_new hlp
      have k1 : upd (upd Hf tt (.tup [.int 1])) lp (.lst [.non, .int 3, .bl true, .ref rp, .ref dp, .ref tt]) dp = some (.dK []) := q4 _ _ (same_new htt _ _ (sf _ _ upd_same))
      have k2 : upd (upd Hf tt (.tup [.int 1])) lp (.lst [.non, .int 3, .bl true, .ref rp, .ref dp, .ref tt]) tt = some (.tup [.int 1]) := q4 _ _ upd_same
      have k3 : upd (upd Hf tt (.tup [.int 1])) lp (.lst [.non, .int 3, .bl true, .ref rp, .ref dp, .ref tt]) lp = some (.lst [.non, .int 3, .bl true, .ref rp, .ref dp, .ref tt]) := upd_same
      have q5 := q3.trans q4
      show ∃ a xs, V.ref lp = .ref a ∧ SqL _ (upd (upd Hf tt (.tup [.int 1])) lp (.lst [.non, .int 3, .bl true, .ref rp, .ref dp, .ref tt])) a xs ∧ _
      generalize upd (upd Hf tt (.tup [.int 1])) lp (.lst [.non, .int 3, .bl true, .ref rp, .ref dp, .ref tt]) = HL at k1 k2 k3 q5
      have hRL := hRt.up (hid_mono (M := [b]) q5)
      have thing : ∀ x ∈ ([.non, .int 3, .bl true, .ref rp, .ref dp, .ref tt] : List V), ∃ Tn, Th K HL x Tn ∧ Tn ≠ "str" ∧ (flatB x = true ∨ ∃ c, x = .ref c) := fun x hx => by
        simp only [List.mem_cons, List.not_mem_nil, or_false] at hx
        rcases hx with rfl | rfl | rfl | rfl | rfl | rfl
        · exact ⟨_, th_dq (M := []) (d := .none) .non, by decide, .inl rfl⟩
        · exact ⟨_, th_int, by decide, .inl rfl⟩
        · exact ⟨_, th_dq (M := []) (d := .bool true) (.bl true), by decide, .inl rfl⟩
        · exact ⟨"list", th_dq hRL, by decide, .inr ⟨_, rfl⟩⟩
        · exact ⟨"dict", ⟨fun _ s => .base (.dK (s _ _ k1)), by decide, fun _ z => V.noConfusion z, fun z => absurd z (by decide), fun _ z => V.noConfusion z, fun z => absurd z (by decide)⟩, by decide, .inr ⟨_, rfl⟩⟩
        · exact ⟨"tuple", ⟨fun _ s => .base (.tup (s _ _ k2)), by decide, fun _ z => V.noConfusion z, fun z => absurd z (by decide), fun _ z => V.noConfusion z, fun z => absurd z (by decide)⟩, by decide, .inr ⟨_, rfl⟩⟩
      refine ⟨lp, _, rfl, SqL.of k3, fun k σ' Hx => Same HL Hx ∧ ∃ u14, σ' = [some (.ref a), some (.int i), some (.ref b), some x1, some x2, some x3, some (.ref rp), u7, u8, u9, some (.ref mp), u11, u12, u13, u14, u15, u16], ⟨Same.refl _, u14, rfl⟩, fun k σ' Hx w => SqL.of (w.1 _ _ k3), fun k x hx σ' Hx w => ?_, fun σ' Hx w => ?_⟩
      · obtain ⟨sx, u14, rfl⟩ := w
        obtain ⟨Tn, th, hn, hf⟩ := thing x (List.mem_of_getElem? hx)
        refine rg_name 14 ?_ scLaw.nd
        exact rb_ifF (xt_told hr.units GO hr8 FO (xv_name 14 rfl) (xv_name 14 rfl) (th.up sx) hn hf) fun Hz sz => rb_nil ⟨sx.trans sz, _, rfl⟩
      · obtain ⟨sx, u14, rfl⟩ := w
        refine rb_nil ⟨fun z o e => ?_, _, _, _, _, _, _, _, _, _, _, _, _, _, _, _, _, rfl⟩
        have SBz : SameB b H' Hx := ((SB5.trans SBc).trans (.of t5)).trans (.of (q5.trans sx))
        exact SBz z o (fun y => by rw [y] at e; rw [sH0.free hb0] at e; cases e) (sH0 _ _ e)
end
end Zn

set_option Elab.async false
set_option linter.all false
set_option maxRecDepth 100000
set_option maxHeartbeats 8000000
namespace Zn
open PySem PySem.Spec PyProof.Rows L2 Dl
/-! ### the law called behind the top -/
section
variable {P : Program} {w : World} {K : PySem.W.Frag} {mg mb : Str → Option Value} {fa a : Addr} {fd : FuncData} {t : Shared} {us : List Value} {ns : List Int}
/-- from a heap H that tells of the script at most -/
theorem head_from {H : Hp} (KX : K.In t.heap) (hg : t.heap.Ns mainGlobals mg) (hb : t.heap.Ns builtinsNs mb) (hbb : ∀ x : Str, x ≠ "__name__" → mb x = bootBuiltins x) (hlim : t.heap.NoLimit) (gens : t.gens = #[])
    (hobj : t.heap.get? a = some { cls := .type "list", data := .seq us.toArray })
    (F : ∀ base : Heap, K.In base → base.Ns mainGlobals mg → FnG P w K mg base 10 fa fd ["_law_script"] (spLaw K)) (hbd : ∀ (s : Shared) (u : Value), BindsTo s fd ⟨[u], []⟩ [("_law_script", u)])
    (only : Only H) (hS : SqL K H a (ns.map V.int)) (hok : HOk P w H t.heap) (at1 : ∀ b, H b ≠ none → b = a) (nk : H a ≠ none → K.lookup a = none) :
    codeAny (model P w) callerA (.call (.ref fa) ⟨[.ref a], []⟩) (fun r s => r = .ok (.ret (.bool true)) ∧ OldK t.heap s.heap ∧ s.os = t.os ∧ AllBare s.gens) t := by
  have kept : ∀ {b : Addr} {o : Obj}, t.heap.get? b = some o → H b = none → (hidT t.heap H).get? b = some o := fun p q => hidT_get p q
  have free : ∀ {b : Addr} {o : Obj}, t.heap.get? b = some o → (b = a → False) → H b = none := fun {b o} _ nb => Classical.byContradiction fun z => nb (at1 b z)
  have spaces : ∀ {b : Addr} {m : Str → Option Value}, t.heap.Ns b m → (hidT t.heap H).Ns b m := fun {b m} z => by
    obtain ⟨o, es, ep, p, q, r⟩ := z
    refine ⟨o, es, ep, kept p (free p fun e => ?_), q, r⟩
    rw [e, hobj] at p
    injection p with p
    rw [← p] at q
    injection q
  have kin : K.In (hidT t.heap H) := fun b o e => kept (KX b o e) (Classical.byContradiction fun z => by
    have eb := at1 b z
    rw [eb] at z e
    rw [nk z] at e
    cases e)
  obtain ⟨mc, hl1, hl2⟩ := hlim
  have md : Mod K mg (hidT t.heap H) := ⟨kin, spaces hg, ⟨mb, spaces hb, hbb⟩, mc, spaces hl1, hl2⟩
  have env : Env0 P w K mg (hidT t.heap H) callerA [] t H := { frames := rfl, mod := md, bs := fun b o e => of_hidT e, bsz := Nat.le_of_eq (hidT_size _ _), funs := trivial, frf := fun b z => absurd z List.not_mem_nil, hok := hok, bare := .of_eq gens }
  have run := (F _ kin (spaces hg)).run callerA rfl ⟨rfl, by decide, by decide⟩ [] t H ⟨[.ref a], []⟩ [.ref a] [.ref a] (fun v _ => v = .bl true) (fun _ _ _ => False) env (hbd t (.ref a)) (.cons rfl .nil) ⟨a, ns, rfl, hS, fun _ _ => rfl⟩
  refine codeAny_mono run fun r s z => ?_
  match r, z with
  | .error e, z => exact z.elim
  | .ok .next, z => exact z.elim
  | .ok .brk, z => exact z.elim
  | .ok .cont, z => exact z.elim
  | .ok (.ret u), z =>
    obtain ⟨v, H2, os, bare, un, hok2, rv, ev⟩ := z
    have ev' : v = .bl true := ev
    rw [ev'] at rv
    have eu : u = Value.bool true := rv
    rw [eu]
    refine ⟨rfl, OldK.of_keep fun b o e => ?_, os, bare⟩
    rcases only b with n | ⟨ob, xs, fz⟩
    · exact un.keep b o e n (fun q => absurd (show b ∈ ([] : List Addr) from q) List.not_mem_nil) (by simp)
    · have p1 := (hok b _ fz).1
      have p2 := (hok2 b _ (un.frzs b ob _ fz)).1
      rw [e] at p1
      injection p1 with p1
      rw [p1]
      exact p2
/-- the law, called with a script -/
theorem head_g (KX : K.In t.heap) (hg : t.heap.Ns mainGlobals mg) (hb : t.heap.Ns builtinsNs mb) (hbb : ∀ x : Str, x ≠ "__name__" → mb x = bootBuiltins x) (hlim : t.heap.NoLimit) (gens : t.gens = #[])
    (hobj : t.heap.get? a = some { cls := .type "list", data := .seq us.toArray }) (hi : IntsAre us ns) (hl : ns.length ≤ sizeLine)
    (F : ∀ base : Heap, K.In base → base.Ns mainGlobals mg → FnG P w K mg base 10 fa fd ["_law_script"] (spLaw K)) (hbd : ∀ (s : Shared) (u : Value), BindsTo s fd ⟨[u], []⟩ [("_law_script", u)]) :
    codeAny (model P w) callerA (.call (.ref fa) ⟨[.ref a], []⟩) (fun r s => r = .ok (.ret (.bool true)) ∧ OldK t.heap s.heap ∧ s.os = t.os ∧ AllBare s.gens) t := by
  have vi := vals_ints hi
  have el := hi.length
  rcases lk : K.lookup a with _ | o
  · have e1 : ∀ b, b ≠ a → (if b = a then some (HO.frz { cls := .type "list", data := .seq us.toArray } (.lst (ns.map V.int))) else none) = none := fun b n => if_neg n
    refine head_from (H := fun b => if b = a then some (.frz { cls := .type "list", data := .seq us.toArray } (.lst (ns.map V.int))) else none) (ns := ns) KX hg hb hbb hlim gens hobj F hbd (fun b => ?_) (.inl (.inr ⟨_, if_pos rfl⟩)) (fun b u z => ?_) (fun b z => Classical.byContradiction fun n => z (e1 b n)) fun _ => lk
    · exact (Classical.em (b = a)).elim (fun z => .inr ⟨_, _, if_pos z⟩) fun z => .inl (e1 b z)
    · rcases Classical.em (b = a) with e | e
      · rw [e] at z ⊢
        have z' := (if_pos rfl).symm.trans z
        injection z' with z'
        rw [← z']
        exact ⟨hobj, by rw [List.length_map]; exact hl, us, _, vi, hobj⟩
      · exact absurd ((e1 b e).symm.trans z) (fun q => nomatch q)
  · have e := KX a o lk
    rw [hobj] at e
    injection e with e
    rw [← e] at lk
    exact head_from (H := fun _ => none) (ns := ns) KX hg hb hbb hlim gens hobj F hbd (fun _ => .inl rfl) (.inr ⟨_, us.toArray, _, lk, rfl, rfl, rfl, by rw [List.size_toArray, el]; exact hl, by simpa using vi⟩) (fun _ _ z => nomatch z) (fun _ z => absurd rfl z) (fun z => absurd rfl z)
end
theorem walk_g {l : PySem.W.OpenLaw} {q : Program} {loose : List Str} {XP : (Str → Option Value) → Heap → Prop} {YP : World → Heap → Prop} {d : DefRec} {K : Params → PySem.W.Frag} (hn : l.most = some 63) (hdf : d.params.defaults = [])
    (hY : ∀ (w : World) (h : Heap), YP w h → (K w.params).In h)
    (F : ∀ (w : World) (mg : Str → Option Value) (fa : Addr) (h : Heap), (K w.params).In h → h.Ns mainGlobals mg → mg d.name = some (.ref fa) →
      ∃ fd : FuncData, (∀ (s : Shared) (u : Value), BindsTo s fd ⟨[u], []⟩ [("_law_script", u)]) ∧ ∀ base : Heap, (K w.params).In base → base.Ns mainGlobals mg → FnG l.prog w (K w.params) mg base 10 fa fd ["_law_script"] (spLaw (K w.params))) :
    PySem.W.WalkO q loose XP YP l.row.toRowW d [] (fun f vs => PySem.call f vs) :=
  Att.attach_call hn hdf fun w _ s1 mg _ fa _ _ _ _ a us ns G Y _ _ _ hm hobj hi hl hg => by
    have KX := hY w _ Y
    obtain ⟨fd, hb, hF⟩ := F w mg fa _ KX G.T.g hm
    exact head_g KX G.T.g G.T.b G.T.builtins G.T.nolimit hg hobj hi (Nat.le_trans hl (by decide)) hF hb
end Zn

set_option Elab.async false
set_option linter.all false
set_option maxRecDepth 100000
set_option maxHeartbeats 8000000
namespace Zn
open PySem PySem.Spec PyProof.Rows L2 Dl
/-! ### k10: what the start has written, put together -/
structure Mt (K : PySem.W.Frag) (C : Addr) (x q : Str) (st : Stmt) (ps : List Str) (f : Addr) (fd : FuncData) : Prop where
  F : Fun K x q st f fd
  b : Binds K fd ps []
  m : Meth K C x f
def DfE (K : PySem.W.Frag) (mg : Str → Option Value) (x : Str) (st : Stmt) (ps : List Str) : Prop := ∃ f fd, Df K mg x st ps f fd
theorem df_mk {K : PySem.W.Frag} {h : Heap} {mg : Str → Option Value} {x : Str} {st : Stmt} {ps : List Str} {f : Addr} {od an : Option Addr} {osl : Array (Option Value)} {oc kV dc pm cd ct : Value} (X : K.In h) (G : h.Ns mainGlobals mg)
    (a : PySem.W.nsIn K mainGlobals x = some (some (.ref f))) (l : K.lookup f = some ⟨oc, od, .func (PySem.W.fnOf x x (defArgs st) (defBody st) (defScope st) .none kV dc pm an cd ct), osl⟩) (c : PySem.W.codeIn K cd x = true) (k : PySem.W.keepIn K (.ref f) = true)
    (hb : ∀ (us : List Value), us.length = ps.length → bindArgs (PySem.W.fnOf x x (defArgs st) (defBody st) (defScope st) .none kV dc pm an cd ct) ⟨us, []⟩ = pure (ps.zip us)) : DfE K mg x st ps :=
  ⟨f, _, fun_mk l c k, PySem.W.mg_of X G a, .all hb⟩
def MtE (K : PySem.W.Frag) (C : Addr) (x q : Str) (st : Stmt) (ps : List Str) : Prop := ∃ f fd, Mt K C x q st ps f fd
theorem mt_mk {K : PySem.W.Frag} {C : Addr} {x q : Str} {st : Stmt} {ps : List Str} {f : Addr} {od an : Option Addr} {osl : Array (Option Value)} {oc kV dc pm cd ct : Value}
    (a : PySem.W.findIn K (.ref C) x = some (some (.ref f))) (i : PySem.W.isFn K (.ref f) = true) (l : K.lookup f = some ⟨oc, od, .func (PySem.W.fnOf x q (defArgs st) (defBody st) (defScope st) .none kV dc pm an cd ct), osl⟩) (c : PySem.W.codeIn K cd q = true) (k : PySem.W.keepIn K (.ref f) = true)
    (hb : ∀ (us : List Value), us.length = ps.length → bindArgs (PySem.W.fnOf x q (defArgs st) (defBody st) (defScope st) .none kV dc pm an cd ct) ⟨us, []⟩ = pure (ps.zip us)) : MtE K C x q st ps :=
  ⟨f, _, fun_mk l c k, .all hb, a, i, k⟩
/-- a class's own == -/
structure EqF (K : PySem.W.Frag) (C : Addr) (q : Str) (st : Stmt) : Prop where
  m : MtE K C "__eq__" q st ["self", "other"]
  cls : ∃ nm qn N bs hdct sn sub ab col dd k0 k1 k2 k3 k5 newId f, K.lookup C = some (excClassObj nm qn C N bs [.type "object"] hdct sn sub ab col dd k0 k1 k2 k3 k5 newId) ∧ PySem.W.nsOkIn K N = true ∧ PySem.W.nsIn K N "__eq__" = some (some (.ref f)) ∧ PySem.W.nsIn K N "__ne__" = some none ∧
    PySem.W.findIn K (.ref C) "__eq__" = some (some (.ref f)) ∧ ∃ o, K.lookup f = some o ∧ o.cls = .type "function"
theorem nsOk_mk {K : PySem.W.Frag} {N : Addr} {o : Obj} (l : K.lookup N = some o) (h : PySem.W.nsOkIn [(N, o)] N = true) : PySem.W.nsOkIn K N = true := by
  have e : List.lookup N [(N, o)] = some o := by simp [List.lookup]
  unfold PySem.W.nsOkIn at h ⊢
  rw [e] at h
  rw [l]
  exact h
theorem eq_mk {K : PySem.W.Frag} {C N f : Addr} {q : Str} {st : Stmt} {nm qn : Str} {bs : List Value} {hdct : Bool} {sn : List Str} {sub : List Value} {ab : Bool} {col : Option Bool} {dd : Option Addr} {k0 k1 k2 k3 k5 : Option Value} {newId : String} {o : Obj} (m : MtE K C "__eq__" q st ["self", "other"])
    (l : K.lookup C = some (excClassObj nm qn C N bs [.type "object"] hdct sn sub ab col dd k0 k1 k2 k3 k5 newId)) (n : PySem.W.nsOkIn K N = true) (e : PySem.W.nsIn K N "__eq__" = some (some (.ref f))) (z : PySem.W.nsIn K N "__ne__" = some none)
    (a : PySem.W.findIn K (.ref C) "__eq__" = some (some (.ref f))) (lo : K.lookup f = some o) (t : o.cls = .type "function") : EqF K C q st :=
  ⟨m, nm, qn, N, bs, hdct, sn, sub, ab, col, dd, k0, k1, k2, k3, k5, newId, f, l, n, e, z, a, o, lo, t⟩
theorem clsEq {K : PySem.W.Frag} {C : Addr} {q : Str} {st : Stmt} (h : EqF K C q st) : ∃ f fd, Mt K C "__eq__" q st ["self", "other"] f fd ∧ ClsEq K C f := by
  obtain ⟨⟨c7, cd7, C7⟩, nm, qn, N, bs, hdct, sn, sub, ab, col, dd, k0, k1, k2, k3, k5, newId, fq, e1, e2, e3, e4, e5, e6⟩ := h
  have efq : fq = c7 := by
    have z := e5.symm.trans C7.m.at_
    injection z with z
    injection z with z
    injection z
  subst efq
  exact ⟨_, _, C7, ⟨⟨nm, qn, N, bs, hdct, sn, sub, ab, col, dd, k0, k1, k2, k3, k5, newId, e1, e2, e3, e4⟩, C7.m.at_, C7.m.fn, e6⟩⟩
/-- a property -/
def PrE (K : PySem.W.Frag) (C : Addr) (x q : Str) (st : Stmt) : Prop := ∃ pp f fd, PropOf K C x pp f ∧ Fun K x q st f fd ∧ Binds K fd ["self"] []
theorem prE_mk {K : PySem.W.Frag} {C pp f : Addr} {x q : Str} {st : Stmt} {od an : Option Addr} {osl : Array (Option Value)} {oc kV dc pm cd ct : Value} {rest : List Value} (a : PySem.W.findIn K (.ref C) x = some (some (.ref pp))) (b : PySem.W.specialIn K (.ref pp) "__get__" = some (some (.builtin "property.__get__"))) (t : PySem.W.takesIn K (.ref pp) = some true)
    (r : PySem.W.recIn K pp "property" = some (.ref f :: rest)) (l : K.lookup f = some ⟨oc, od, .func (PySem.W.fnOf x q (defArgs st) (defBody st) (defScope st) .none kV dc pm an cd ct), osl⟩) (c : PySem.W.codeIn K cd q = true) (k : PySem.W.keepIn K (.ref f) = true)
    (hb : ∀ (us : List Value), us.length = 1 → bindArgs (PySem.W.fnOf x q (defArgs st) (defBody st) (defScope st) .none kV dc pm an cd ct) ⟨us, []⟩ = pure ([("self" : Str)].zip us)) : PrE K C x q st :=
  ⟨pp, f, _, ⟨a, b, t, rest, r⟩, fun_mk l c k, .all hb⟩
theorem kit_self {K : PySem.W.Frag} {C : Addr} (h : (Value.ref C == Value.ref C) = true) : PySem.W.kitOne K (.ref C) (.ref C) = some true := by
  unfold PySem.W.kitOne
  exact if_pos h
theorem kit_str {K : PySem.W.Frag} {C : Addr} {co} (h : (Value.type "str" == Value.ref C) = false) (c : PySem.W.clsIn K C = some co) (t : PySem.W.typeIn K (.ref C) = some (.type "type")) (s : PySem.W.subIn K (.type "str") (.ref C) = some false) : PySem.W.kitOne K (.type "str") (.ref C) = some false := by
  unfold PySem.W.kitOne
  rw [if_neg (by rw [h]; decide)]
  unfold PySem.W.kitCls
  show (if ((PySem.W.clsIn K C).isSome && PySem.W.typeIn K (.ref C) == some (.type "type")) = true then PySem.W.subIn K (.type "str") (.ref C) else none) = some false
  rw [c, t, if_pos (by rfl), s]
def GlI (K : PySem.W.Frag) (x : Str) (n : Int) : Prop := ∃ t, PySem.W.nsIn K mainGlobals x = some (some (.int n t))
theorem gi_mk {K : PySem.W.Frag} {x : Str} {n : Int} {t : Tok} (h : PySem.W.nsIn K mainGlobals x = some (some (.int n t))) : GlI K x n := ⟨t, h⟩
def GlS (K : PySem.W.Frag) (x : Str) (n : Str) : Prop := ∃ t, PySem.W.nsIn K mainGlobals x = some (some (.str n t))
theorem gs_mk {K : PySem.W.Frag} {x : Str} {n : Str} {t : Tok} (h : PySem.W.nsIn K mainGlobals x = some (some (.str n t))) : GlS K x n := ⟨t, h⟩
/-! written tuples and dicts of texts -/
def txts : List Value → Option (List Str)
  | [] => some []
  | .str x _ :: r => (txts r).map (x :: ·)
  | _ => none
theorem txts_ok : ∀ {us : List Value} {l : List Str}, txts us = some l → Vals (l.map V.str) us
  | [], l, h => by cases h; exact .nil
  | .str x t :: r, l, h => by
    unfold txts at h
    cases e : txts r with
    | none => rw [e] at h; cases h
    | some l' =>
      rw [e] at h
      cases h
      exact .cons ⟨t, rfl⟩ (txts_ok e)
  | .none :: _, _, h => by cases h
  | .bool _ :: _, _, h => by cases h
  | .int _ _ :: _, _, h => by cases h
  | .ref _ :: _, _, h => by cases h
  | .type _ :: _, _, h => by cases h
  | .builtin _ :: _, _, h => by cases h
  | .float _ _ :: _, _, h => by cases h
  | .bytes _ _ :: _, _, h => by cases h
theorem sq_mk {K : PySem.W.Frag} {p : Addr} {od : Option Addr} {its : Array Value} {n : Nat} {sl : Array (Option Value)} {l : List Str} (lk : K.lookup p = some ⟨.type "tuple", od, .seq its n, sl⟩) (hs : its.size ≤ sizeLine) (hv : txts its.toList = some l) : ∀ H, SqT K H p (l.map V.str) := fun H => .inr ⟨_, its, n, lk, rfl, rfl, hs, txts_ok hv⟩
def TxE (K : PySem.W.Frag) (x : Str) (l : List Str) : Prop := ∃ p, PySem.W.nsIn K mainGlobals x = some (some (.ref p)) ∧ ∀ H, SqT K H p (l.map V.str)
theorem tx_mk {K : PySem.W.Frag} {x : Str} {p : Addr} {od : Option Addr} {its : Array Value} {n : Nat} {sl : Array (Option Value)} {l : List Str} (a : PySem.W.nsIn K mainGlobals x = some (some (.ref p))) (lk : K.lookup p = some ⟨.type "tuple", od, .seq its n, sl⟩) (hs : its.size ≤ sizeLine) (hv : txts its.toList = some l) : TxE K x l := ⟨p, a, sq_mk lk hs hv⟩
/-- entries with texts as keys, told one by one -/
inductive EnV {α : Type} (P : Params) (R : Value → α → Prop) : List DictEntry → List (Str × α) → Prop
  | nil : EnV P R [] []
  | cons {e : DictEntry} {es : List DictEntry} {x : Str} {v : α} {t : Tok} {qs : List (Str × α)} : e.key = .str x t → e.hash = PyData.keyHash P x → R e.val v → EnV P R es qs → EnV P R (e :: es) ((x, v) :: qs)
theorem EnV.lit {α : Type} {P : Params} {R : Value → α → Prop} {es : List DictEntry} {qs : List (Str × α)} (h : EnV P R es qs) : PySem.W.KeysLit P es := by
  induction h with
  | nil => trivial
  | cons h1 h2 h3 _ ih => exact ⟨⟨_, _, h1, h2⟩, ih⟩
theorem EnV.no {α : Type} {P : Params} {R : Value → α → Prop} {es : List DictEntry} {qs : List (Str × α)} (h : EnV P R es qs) : es.any (·.refKey) = false := by
  induction h with
  | nil => rfl
  | cons h1 h2 h3 _ ih =>
    rw [List.any_cons, ih, Bool.or_false]
    unfold DictEntry.refKey
    rw [h1]
theorem isStr_str (x z : Str) (t : Tok) : (Value.str x t).isStr z = (x == z) := rfl
theorem EnV.miss {α : Type} {P : Params} {R : Value → α → Prop} {es : List DictEntry} {qs : List (Str × α)} (h : EnV P R es qs) {z : Str} (e : qs.lookup z = none) : es.find? (·.key.isStr z) = none := by
  induction h with
  | nil => rfl
  | @cons e0 es x v t qs h1 h2 h3 _ ih =>
    rw [List.lookup_cons] at e
    split at e
    · cases e
    · rename_i hz
      rw [List.find?_cons, h1, isStr_str, show (x == z) = false by
        have : ¬z = x := by simpa using hz
        simpa using fun y : x = z => this y.symm]
      exact ih e
theorem EnV.hit {α : Type} {P : Params} {R : Value → α → Prop} {es : List DictEntry} {qs : List (Str × α)} (h : EnV P R es qs) {z : Str} {v : α} (e : qs.lookup z = some v) : ∃ e, es.find? (·.key.isStr z) = some e ∧ R e.val v := by
  induction h with
  | nil => cases e
  | @cons e0 es x v0 t qs h1 h2 h3 _ ih =>
    rw [List.lookup_cons] at e
    split at e
    · rename_i hz
      cases e
      have hz' : z = x := by simpa using hz
      exact ⟨e0, by rw [List.find?_cons, h1, isStr_str, hz', show (x == x) = true by simp], h3⟩
    · rename_i hz
      obtain ⟨e1, a, b⟩ := ih e
      refine ⟨e1, ?_, b⟩
      rw [List.find?_cons, h1, isStr_str, show (x == z) = false by
        have : ¬z = x := by simpa using hz
        simpa using fun y : x = z => this y.symm]
      exact a
def DicE {α : Type} (K : PySem.W.Frag) (w : World) (x : Str) (R : Value → α → Prop) (qs : List (Str × α)) : Prop := ∃ d es n, PySem.W.nsIn K mainGlobals x = some (some (.ref d)) ∧ K.lookup d = some ⟨.type "dict", none, .dict es n, #[]⟩ ∧ (d == sysModules) = false ∧ EnV w.params R es.toList qs
theorem dic_mk {α : Type} {K : PySem.W.Frag} {w : World} {x : Str} {R : Value → α → Prop} {qs : List (Str × α)} {d : Addr} {es : Array DictEntry} {n : Nat} (a : PySem.W.nsIn K mainGlobals x = some (some (.ref d))) (l : K.lookup d = some ⟨.type "dict", none, .dict es n, #[]⟩) (lo : (d == sysModules) = false) (v : EnV w.params R es.toList qs) : DicE K w x R qs := ⟨d, es, n, a, l, lo, v⟩
theorem ns_dic {K : PySem.W.Frag} {d : Addr} {es : Array DictEntry} {n : Nat} {z : Str} (l : K.lookup d = some ⟨.type "dict", none, .dict es n, #[]⟩) : PySem.W.nsIn K d z = match es.toList.find? (·.key.isStr z) with
    | some e => some (some e.val)
    | none => if es.toList.any (·.refKey) then none else some none := by
  unfold PySem.W.nsIn
  rw [l]
  rfl
def RTk (K : PySem.W.Frag) (u : Value) (l : List Str) : Prop := ∃ p, u = .ref p ∧ ∀ H, SqT K H p (l.map V.str)
def RGv (u : Value) (y : Str) : Prop := ∃ t, u = .str y t
theorem rtk_mk {K : PySem.W.Frag} {p : Addr} {od : Option Addr} {its : Array Value} {n : Nat} {sl : Array (Option Value)} {l : List Str} (lk : K.lookup p = some ⟨.type "tuple", od, .seq its n, sl⟩) (hs : its.size ≤ sizeLine) (hv : txts its.toList = some l) : RTk K (.ref p) l := ⟨p, rfl, sq_mk lk hs hv⟩
theorem tkD_of {K : PySem.W.Frag} {w : World} {h : Heap} {mg : Str → Option Value} (X : K.In h) (G : h.Ns mainGlobals mg) (D : DicE K w "TAKES" (RTk K) takesL) : TkD K w mg := by
  obtain ⟨d, es, n, a, l, lo, v⟩ := D
  refine ⟨d, es, n, PySem.W.mg_of X G a, ⟨l, v.lit, lo⟩, fun z e => ?_, fun z y e => ?_⟩
  · rw [ns_dic l, v.miss e, v.no]; rfl
  · obtain ⟨e1, h1, p, h2, h3⟩ := v.hit e
    exact ⟨p, by rw [ns_dic l, h1]; show some (some e1.val) = _; rw [h2], h3⟩
theorem gvD_of {K : PySem.W.Frag} {w : World} {h : Heap} {mg : Str → Option Value} (X : K.In h) (G : h.Ns mainGlobals mg) (D : DicE K w "GIVES" RGv givesL) : GvD K w mg := by
  obtain ⟨d, es, n, a, l, lo, v⟩ := D
  refine ⟨d, es, n, PySem.W.mg_of X G a, ⟨l, v.lit, lo⟩, fun z e => ?_, fun z y e => ?_⟩
  · rw [ns_dic l, v.miss e, v.no]; rfl
  · obtain ⟨e1, h1, t, h2⟩ := v.hit e
    exact ⟨t, by rw [ns_dic l, h1]; show some (some e1.val) = _; rw [h2]⟩
/-- a class of exceptions with one field, as the start has laid it -/
structure XcE (K : PySem.W.Frag) (x qn : Str) (st : Stmt) (C : Addr) (fl : Str) : Prop where
  aC : PySem.W.nsIn K mainGlobals x = some (some (.ref C))
  T : OexC K C
  xf : XfC K C
  no : PySem.W.findIn K (.ref C) fl = some none
  isC : PySem.W.isClsIn K C = true
  te : PySem.W.exmOne K (.ref C) (.ref C) = some true
  fn : ∃ fI fd, PySem.W.findIn K (.ref C) "__init__" = some (some (.ref fI)) ∧ PySem.W.typeIn K (.ref fI) = some (.type "function") ∧ Fun K "__init__" qn st fI fd ∧ Binds K fd ["self", fl] []
theorem exm_any {K : PySem.W.Frag} {D S : Addr} {r : Bool} (h1 : PySem.W.subIn K (.ref S) (.type "BaseException") = some true) (h2 : PySem.W.isClsIn K S = true) (h3 : PySem.W.typeIn K (.ref S) = some (.type "type")) (h4 : PySem.W.subIn K (.ref D) (.ref S) = some r) : PySem.W.exmOne K (.ref D) (.ref S) = some r := by
  unfold PySem.W.exmOne
  have h2' : (PySem.W.clsIn K S).isSome = true := h2
  have e2 : ((PySem.W.clsIn K S).isSome && PySem.W.typeIn K (.ref S) == some (.type "type")) = true := by
    rw [h2', h3] <;> rfl
  rw [h1, if_pos (by rfl)]
  show (if ((PySem.W.clsIn K S).isSome && PySem.W.typeIn K (.ref S) == some (.type "type")) = true then PySem.W.subIn K (.ref D) (.ref S) else none) = some r
  rw [if_pos e2, h4]
theorem xc_mk {K : PySem.W.Frag} {x qn fl : Str} {st : Stmt} {C fI N : Addr} {nm q : Str} {bs bm : List Value} {sn : List Str} {sub : List Value} {ab : Bool} {col : Option Bool} {dd : Option Addr} {m0 m1 m2 m3 m5 : Option Value} {od an : Option Addr} {osl : Array (Option Value)} {oc kV dc pm cd ct : Value}
    (aC : PySem.W.nsIn K mainGlobals x = some (some (.ref C))) (xL : K.lookup C = some (excClassObj nm q C N bs bm true sn sub ab col dd m0 m1 m2 m3 m5 "ValueError.__new__")) (ve : PySem.HandSPX.refsVE bm = true)
    (sa : PySem.W.findIn K (.ref C) "__setattr__" = some (some (.builtin "object.__setattr__"))) (ga : PySem.W.findIn K (.ref C) "__getattribute__" = some (some (.builtin "BaseException.__getattribute__"))) (gg : PySem.W.findIn K (.ref C) "__getattr__" = some none) (nb : PySem.W.findIn K (.ref C) fl = some none)
    (kC : PySem.W.keepIn K (.ref C) = true) (eC : PySem.W.subIn K (.ref C) (.type "BaseException") = some true) (tC : PySem.W.typeIn K (.ref C) = some (.type "type")) (hC : PySem.W.hasDictIn K C = true) (iC : PySem.W.isClsIn K C = true) (sC : PySem.W.subIn K (.ref C) (.ref C) = some true)
    (a1 : PySem.W.findIn K (.ref C) "__init__" = some (some (.ref fI))) (t1 : PySem.W.typeIn K (.ref fI) = some (.type "function")) (l : K.lookup fI = some ⟨oc, od, .func (PySem.W.fnOf "__init__" qn (defArgs st) (defBody st) (defScope st) .none kV dc pm an cd ct), osl⟩) (c : PySem.W.codeIn K cd qn = true) (k : PySem.W.keepIn K (.ref fI) = true)
    (hb : ∀ (us : List Value), us.length = 2 → bindArgs (PySem.W.fnOf "__init__" qn (defArgs st) (defBody st) (defScope st) .none kV dc pm an cd ct) ⟨us, []⟩ = pure ((["self", fl] : List Str).zip us)) : XcE K x qn st C fl :=
  ⟨aC, ⟨⟨nm, q, N, bs, bm, sn, sub, ab, col, dd, m0, m1, m2, m3, m5, xL, ve⟩, sa, eC, tC, kC⟩, ⟨ga, gg, eC, hC⟩, nb, iC, exm_any eC iC tC sC, fI, _, a1, t1, fun_mk l c k, .all hb⟩
section
variable {P : Program} {w : World} {K : PySem.W.Frag} {mg : Str → Option Value} {base : Heap}
abbrev sXT : Stmt := inClass (top 3) 0
theorem scXT : FnScope ["self", "value"] ["self", "value"] (defScope sXT) := ⟨rfl, rfl, rfl, by decide +kernel, rfl, by decide +kernel, by decide +kernel⟩
theorem ok_xT {f C : Addr} {fd : FuncData} (T : OexC K C) (no : PySem.W.findIn K (.ref C) "value" = some none) (F : Fun K "__init__" "InvalidText.__init__" sXT f fd) : FnOk P w K mg base CX0 1 f fd ["self", "value"] (spXI C "value") := by
  refine F.ok scXT (fun vs H Q E h => ?_) (fun cdv A outer s H vs Q E hr h => ?_)
  · obtain ⟨a, v, rfl, _⟩ := h; rfl
  · obtain ⟨a, v, rfl, ha, q⟩ := h
    exact rb_ost T no (xv_name 1 rfl) (xv_name 0 rfl) ha fun H2 s2 dx h1 h2 => rb_nil (q H2 s2 dx h1 h2)
abbrev sXL : Stmt := inClass (top 4) 0
theorem scXL : FnScope ["self", "index"] ["self", "index"] (defScope sXL) := ⟨rfl, rfl, rfl, by decide +kernel, rfl, by decide +kernel, by decide +kernel⟩
theorem ok_xL {f C : Addr} {fd : FuncData} (T : OexC K C) (no : PySem.W.findIn K (.ref C) "index" = some none) (F : Fun K "__init__" "InvalidLine.__init__" sXL f fd) : FnOk P w K mg base CX0 1 f fd ["self", "index"] (spXI C "index") := by
  refine F.ok scXL (fun vs H Q E h => ?_) (fun cdv A outer s H vs Q E hr h => ?_)
  · obtain ⟨a, v, rfl, _⟩ := h; rfl
  · obtain ⟨a, v, rfl, ha, q⟩ := h
    exact rb_ost T no (xv_name 1 rfl) (xv_name 0 rfl) ha fun H2 s2 dx h1 h2 => rb_nil (q H2 s2 dx h1 h2)
end
structure PgF (K : PySem.W.Frag) (C : Addr) : Prop where
  aC : PySem.W.nsIn K mainGlobals "Program" = some (some (.ref C))
  pg : PySem.W.plainGet K C Str.empty = true
  hd : PySem.W.hasDictIn K C = true
  po : PySem.W.plainOver K C = true
  sa : PySem.W.findIn K (.ref C) "__setattr__" = some (some (.builtin "object.__setattr__"))
  mks : PySem.W.makesIn K C = true
  kc : PySem.W.keepIn K (.ref C) = true
  n1 : PySem.W.findIn K (.ref C) "source" = some none
  n2 : PySem.W.findIn K (.ref C) "earliest" = some none
  n3 : PySem.W.findIn K (.ref C) "latest" = some none
  n4 : PySem.W.findIn K (.ref C) "kinds" = some none
  n5 : PySem.W.findIn K (.ref C) "steps" = some none
  n6 : PySem.W.findIn K (.ref C) "results" = some none
  mI : MtE K C "__init__" "Program.__init__" sPgInit ["self", "text"]
structure Gls (K : PySem.W.Frag) (w : World) : Prop where
  g0 : GlI K "HOUR_LENGTH" 60
  g1 : GlI K "DAY_HOURS" 24
  g2 : GlI K "LONGEST_NAME" 8
  g3 : GlI K "MOST_LINES" 8
  g4 : GlI K "MOST_ANSWERS" 4
  g5 : GlI K "MOST_MINUTES" 100000
  g6 : GlI K "MOST_DAYS" 60
  gL : GlS K "LETTERS" letS
  gD : GlS K "DIGITS" digS
  tR : TxE K "RULES" rulesL
  tS : TxE K "SINGLE" singleL
  tA : TxE K "ANSWER_KINDS" ansL
  dT : DicE K w "TAKES" (RTk K) takesL
  dG : DicE K w "GIVES" RGv givesL
structure NoB (K : PySem.W.Frag) : Prop where
  isi : PySem.W.nsIn K mainGlobals "isinstance" = some none
  int : PySem.W.nsIn K mainGlobals "int" = some none
  bool : PySem.W.nsIn K mainGlobals "bool" = some none
  str : PySem.W.nsIn K mainGlobals "str" = some none
  len : PySem.W.nsIn K mainGlobals "len" = some none
  min : PySem.W.nsIn K mainGlobals "min" = some none
  max : PySem.W.nsIn K mainGlobals "max" = some none
  rep : PySem.W.nsIn K mainGlobals "repr" = some none
  rng : PySem.W.nsIn K mainGlobals "range" = some none
  all : PySem.W.nsIn K mainGlobals "all" = some none
  lst : PySem.W.nsIn K mainGlobals "list" = some none
  tup : PySem.W.nsIn K mainGlobals "tuple" = some none
  dct : PySem.W.nsIn K mainGlobals "dict" = some none
  set : PySem.W.nsIn K mainGlobals "set" = some none
  srt : PySem.W.nsIn K mainGlobals "sorted" = some none
  sum : PySem.W.nsIn K mainGlobals "sum" = some none
  enu : PySem.W.nsIn K mainGlobals "enumerate" = some none
  rvs : PySem.W.nsIn K mainGlobals "reversed" = some none
  abs : PySem.W.nsIn K mainGlobals "abs" = some none
  zip : PySem.W.nsIn K mainGlobals "zip" = some none
  any : PySem.W.nsIn K mainGlobals "any" = some none
structure DfA (K : PySem.W.Frag) (mg : Str → Option Value) : Prop where
  d0 : DfE K mg "is_name" sIsName ["value"]
  d1 : DfE K mg "is_time_text" sIsTT ["value"]
  d2 : DfE K mg "is_number_text" sIsNT ["text", "digits"]
  d3 : DfE K mg "time_from" sTimeFrom ["text"]
  d4 : DfE K mg "is_rule" sIsRule ["value"]
  d5 : DfE K mg "start_times" sStartT ["words"]
  d6 : DfE K mg "step_rows" sStepR ["rows"]
  d7 : DfE K mg "step_of" sStepOf ["words", "kinds"]
  d8 : DfE K mg "is_free" sFree ["name", "kinds"]
  d9 : DfE K mg "part_behind" sPart ["word", "kind", "text", "kinds"]
  d10 : DfE K mg "number_of" sNumOf ["text", "most"]
  d11 : DfE K mg "kind_given" sKindG ["step", "kinds"]
  d12 : DfE K mg "answer_names" sAnsN ["rows", "index", "kinds"]
  d13 : DfE K mg "is_answer_row" sAnsR ["words", "kinds"]
  d14 : DfE K mg "_law_cell" sCell ["_law_script", "_law_k"]
  d15 : DfE K mg "_law_box" sBag ["_law_cell_here"]
  d16 : DfE K mg "_law_take" sTake ["_law_box_here", "_law_many"]
  d17 : DfE K mg "_law_line" sLLine ["_law_box_here", "_law_name", "_law_moments", "_law_readings"]
  d18 : DfE K mg "_law_program" sLProg ["_law_box_here", "_law_most_lines"]
  d19 : DfE K mg "_law_text" sLText ["_law_bounds", "_law_lines", "_law_told_here"]
  d20 : DfE K mg "_law_is_name" sLName ["_law_word"]
  d21 : DfE K mg "_law_is_number" sLNum ["_law_word", "_law_most"]
  d22 : DfE K mg "_law_time_of" sLTime ["_law_word"]
  d23 : DfE K mg "_law_is_start" sLStart ["_law_words"]
  d24 : DfE K mg "_law_kind_due" sLKd ["_law_words", "_law_kinds"]
  d25 : DfE K mg "_law_wrong" sLWrong ["_law_rows"]
  d26 : DfE K mg "_law_told" sLTold ["_law_text_here"]
  d27 : DfE K mg "_law_bent" sLBent ["_law_box_here", "_law_rows"]
  d28 : DfE K mg "_law_judged" sLJudged ["_law_rows"]
  d29 : DfE K mg "law" sLaw ["_law_script"]
theorem al_of {P : Program} {w : World} {K : PySem.W.Frag} {h : Heap} {mg : Str → Option Value} {base : Heap} {C CT CL f : Addr} {fd : FuncData} (X : K.In h) (G : h.Ns mainGlobals mg) (hGl : Gls K w) (B : NoB K) (D : DfA K mg) (Q : PgF K C) (ET : XcE K "InvalidText" "InvalidText.__init__" sXT CT "value") (EL : XcE K "InvalidLine" "InvalidLine.__init__" sXL CL "index") (eLT : PySem.W.subIn K (.ref CL) (.ref CT) = some false)
    (FL : Fun K "law" "law" sLaw f fd) : FnG P w K mg base 10 f fd ["_law_script"] (spLaw K) := by
  have T : Nm mg := ⟨PySem.W.mg_none_of X G B.isi, PySem.W.mg_none_of X G B.int, PySem.W.mg_none_of X G B.bool, PySem.W.mg_none_of X G B.str, PySem.W.mg_none_of X G B.len, PySem.W.mg_none_of X G B.min, PySem.W.mg_none_of X G B.max, PySem.W.mg_none_of X G B.rep, PySem.W.mg_none_of X G B.rng, PySem.W.mg_none_of X G B.all, PySem.W.mg_none_of X G B.lst, PySem.W.mg_none_of X G B.tup, PySem.W.mg_none_of X G B.dct, PySem.W.mg_none_of X G B.set, PySem.W.mg_none_of X G B.srt, PySem.W.mg_none_of X G B.sum, PySem.W.mg_none_of X G B.enu, PySem.W.mg_none_of X G B.rvs, PySem.W.mg_none_of X G B.abs, PySem.W.mg_none_of X G B.zip, PySem.W.mg_none_of X G B.any⟩
  have h0 : ∃ t, mg "HOUR_LENGTH" = some (.int 60 t) := by
    obtain ⟨t, g⟩ := hGl.g0
    exact ⟨t, PySem.W.mg_of X G g⟩
  have h1 : ∃ t, mg "DAY_HOURS" = some (.int 24 t) := by
    obtain ⟨t, g⟩ := hGl.g1
    exact ⟨t, PySem.W.mg_of X G g⟩
  have h2 : ∃ t, mg "LONGEST_NAME" = some (.int 8 t) := by
    obtain ⟨t, g⟩ := hGl.g2
    exact ⟨t, PySem.W.mg_of X G g⟩
  have h3 : ∃ t, mg "MOST_LINES" = some (.int 8 t) := by
    obtain ⟨t, g⟩ := hGl.g3
    exact ⟨t, PySem.W.mg_of X G g⟩
  have h4 : ∃ t, mg "MOST_ANSWERS" = some (.int 4 t) := by
    obtain ⟨t, g⟩ := hGl.g4
    exact ⟨t, PySem.W.mg_of X G g⟩
  have h5 : ∃ t, mg "MOST_MINUTES" = some (.int 100000 t) := by
    obtain ⟨t, g⟩ := hGl.g5
    exact ⟨t, PySem.W.mg_of X G g⟩
  have h6 : ∃ t, mg "MOST_DAYS" = some (.int 60 t) := by
    obtain ⟨t, g⟩ := hGl.g6
    exact ⟨t, PySem.W.mg_of X G g⟩
  have hL : ∃ t, mg "LETTERS" = some (.str letS t) := by
    obtain ⟨t, g⟩ := hGl.gL
    exact ⟨t, PySem.W.mg_of X G g⟩
  have hD : ∃ t, mg "DIGITS" = some (.str digS t) := by
    obtain ⟨t, g⟩ := hGl.gD
    exact ⟨t, PySem.W.mg_of X G g⟩
  have tx : ∀ {x : Str} {l : List Str}, TxE K x l → TxT K mg x l := fun ⟨p, a, b⟩ => ⟨⟨p, PySem.W.mg_of X G a, b⟩⟩
  have TK := tkD_of X G hGl.dT
  have GV := gvD_of X G hGl.dG
  obtain ⟨f0, fd0, F0⟩ := D.d0
  obtain ⟨f1, fd1, F1⟩ := D.d1
  obtain ⟨f2, fd2, F2⟩ := D.d2
  obtain ⟨f3, fd3, F3⟩ := D.d3
  obtain ⟨f4, fd4, F4⟩ := D.d4
  obtain ⟨f5, fd5, F5⟩ := D.d5
  obtain ⟨f6, fd6, F6⟩ := D.d6
  obtain ⟨f7, fd7, F7⟩ := D.d7
  obtain ⟨f8, fd8, F8⟩ := D.d8
  obtain ⟨f9, fd9, F9⟩ := D.d9
  obtain ⟨f10, fd10, F10⟩ := D.d10
  obtain ⟨f11, fd11, F11⟩ := D.d11
  obtain ⟨f12, fd12, F12⟩ := D.d12
  obtain ⟨f13, fd13, F13⟩ := D.d13
  obtain ⟨f14, fd14, F14⟩ := D.d14
  obtain ⟨f15, fd15, F15⟩ := D.d15
  obtain ⟨f16, fd16, F16⟩ := D.d16
  obtain ⟨f17, fd17, F17⟩ := D.d17
  obtain ⟨f18, fd18, F18⟩ := D.d18
  obtain ⟨f19, fd19, F19⟩ := D.d19
  obtain ⟨f20, fd20, F20⟩ := D.d20
  obtain ⟨f21, fd21, F21⟩ := D.d21
  obtain ⟨f22, fd22, F22⟩ := D.d22
  obtain ⟨f23, fd23, F23⟩ := D.d23
  obtain ⟨f24, fd24, F24⟩ := D.d24
  obtain ⟨f25, fd25, F25⟩ := D.d25
  obtain ⟨f26, fd26, F26⟩ := D.d26
  obtain ⟨f27, fd27, F27⟩ := D.d27
  obtain ⟨f28, fd28, F28⟩ := D.d28
  obtain ⟨xT, dT, xT1, xT2, xT3, xT4⟩ := ET.fn
  have YT : XCls P w K mg base "InvalidText" "value" CT xT dT := ⟨PySem.W.mg_of X G ET.aC, ET.T, xT1, xT2, ok_xT ET.T ET.no xT3, xT4, ET.xf, ET.no, ET.te⟩
  obtain ⟨xL, dL, xL1, xL2, xL3, xL4⟩ := EL.fn
  have YL : XCls P w K mg base "InvalidLine" "index" CL xL dL := ⟨PySem.W.mg_of X G EL.aC, EL.T, xL1, xL2, ok_xL EL.T EL.no xL3, xL4, EL.xf, EL.no, EL.te⟩
  obtain ⟨f_mI, g_mI, M_mI⟩ := Q.mI
  have CC : L2.Cls K C := ⟨Q.pg, Q.hd, Q.po, Q.sa⟩
  have Z : PgT K mg C := ⟨CC, Q.n1, Q.n2, Q.n3, Q.n4, Q.n5, Q.n6, PySem.W.mg_of X G Q.aC⟩
  have GNm := ok_isName (P := P) (w := w) (base := base) T h2 hL hD F0
  have GTT := ok_isTT (P := P) (w := w) (base := base) T hD h1 h0 F1
  have GNT := ok_isNT (P := P) (w := w) (base := base) T hD F2
  have GTF := ok_tf T h0 YT GTT F1 F3
  have GIR := ok_isRule (P := P) (w := w) (base := base) T (tx hGl.tR) F4
  have GNO := ok_numOf T GNT F2 F10
  have GFr := ok_free GNm F0 F8
  have GPa := ok_part h5 h6 GIR F4 GNO F10 GTT F1 GTF F3 F9
  have GSO := ok_stepOf T TK (tx hGl.tS) GFr F8 GPa F9 F7
  have GKG := ok_kindG (P := P) (base := base) GV F11
  have GST := ok_startT T YL GTT F1 GTF F3 F5
  have GSR := ok_stepR (P := P) (w := w) (base := base) F6
  have GAR := ok_ansR (P := P) (w := w) (base := base) T h4 (tx hGl.tA) F13
  have GAN := ok_ansN T YL GAR F13 F12
  have GIN := ok_pgInit T Z h3 YL GST F5 GSR F6 GSO F7 GKG F11 GAN F12 M_mI.F
  have GIB := ok_pgBad (C := C) T YT M_mI.F
  have eLT' := exm_any ET.T.exC ET.isC ET.T.tyC eLT
  have W : PM11 P w K mg base C CL CT f_mI g_mI := ⟨⟨Q.mks, M_mI.m.at_, M_mI.m.fn, Q.kc⟩, fnOk_or GIN GIB, M_mI.b, PySem.W.mg_of X G Q.aC⟩
  have GTk := ok_take (P := P) (w := w) (base := base) F16
  have GLL := ok_lline T GTk F16 F17
  have GLP := ok_lprog T GTk F16 GLL F17 F18
  have GLX := ok_ltext (P := P) (w := w) (base := base) F19
  have GLN := ok_lname (P := P) (w := w) (base := base) T F20
  have GLM := ok_lnum (P := P) (w := w) (base := base) T F21
  have GLT := ok_ltime (P := P) (w := w) (base := base) T F22
  have GLS := ok_lstart T GLT F22 F23
  have GLK := ok_lkd T GLN F20 GLM F21 GLT F22 F24
  have GLW := ok_lwrong T GLS F23 GLK F24 F25
  have GLO := ok_ltold W YT YL eLT' F26
  have GLB := ok_lbent T GTk F16 F27
  have GLJ := ok_ljudged GLW F25 GLO F26 F28
  have GO := ok_law T (ok_cell T F14) F14 (ok_bag T F15) F15 GTk F16 GLP F18 GLX F19 GLJ F28 GLO F26 GLB F27 FL
  exact ⟨GO.len, fun A _ hr outer s H args us vs Q E => GO.run A outer s H args us vs Q E hr⟩
theorem all_g {l : PySem.W.OpenLaw} {w : World} {K : PySem.W.Frag} {h : Heap} {mg : Str → Option Value} {fa C CT CL : Addr} (X : K.In h) (G : h.Ns mainGlobals mg) (hfa : mg "law" = some (.ref fa)) (hGl : Gls K w) (B : NoB K) (D : DfA K mg) (Q : PgF K C) (ET : XcE K "InvalidText" "InvalidText.__init__" sXT CT "value") (EL : XcE K "InvalidLine" "InvalidLine.__init__" sXL CL "index") (eLT : PySem.W.subIn K (.ref CL) (.ref CT) = some false) :
    ∃ fd : FuncData, (∀ (s : Shared) (v : Value), BindsTo s fd ⟨[v], []⟩ [("_law_script", v)]) ∧ ∀ base : Heap, K.In base → base.Ns mainGlobals mg → FnG l.prog w K mg base 10 fa fd ["_law_script"] (spLaw K) := by
  obtain ⟨f, fd, F⟩ := D.d29
  have e := hfa.symm.trans F.g
  injection e with e
  injection e with e
  subst e
  obtain ⟨oc, od, kV, dc, pm, an, cdv, ct, osl, rfl, _⟩ := F.F.ex
  exact ⟨_, fun s v => .of_eq rfl, fun base _ _ => al_of X G hGl B D Q ET EL eLT F.F⟩
end Zn

set_option Elab.async false
open PySem PySem.W PyProof.Rows in
set_option maxRecDepth 100000 in
set_option maxHeartbeats 0 in
theorem PySem.Challenge.cw_everyzone_k11_programs_refused_holds : PySem.Challenge.rw_everyzone_k11_programs_refused.Holds := by
  w_on; o_law; k_head; (case hw => w_witness2)
  k_fill
  refine Zn.walk_g (l := PySem.Challenge.rw_everyzone_k11_programs_refused) rfl rfl (fun w h Y => PySem.W.kIn_of Y) ?F
  case F =>
    intro w mg fa h KX G hmg
    refine' Zn.all_g KX G hmg ⟨Zn.gi_mk ?gi0, Zn.gi_mk ?gi1, Zn.gi_mk ?gi2, Zn.gi_mk ?gi3, Zn.gi_mk ?gi4, Zn.gi_mk ?gi5, Zn.gi_mk ?gi6, Zn.gs_mk ?gL, Zn.gs_mk ?gD, ?tR, ?tS, ?tA, ?dT, ?dG⟩ ?B ?D ?Q ?ET ?EL ?eLT
    (case gi0 => k_is)
    (case gi1 => k_is)
    (case gi2 => k_is)
    (case gi3 => k_is)
    (case gi4 => k_is)
    (case gi5 => k_is)
    (case gi6 => k_is)
    (case gL => k_is)
    (case gD => k_is)
    case tR =>
      refine' Zn.tx_mk ?a ?l ?s ?v
      (case a => k_is)
      (case l => k_is)
      (case s => decide)
      (case v => rfl)
    case tS =>
      refine' Zn.tx_mk ?a ?l ?s ?v
      (case a => k_is)
      (case l => k_is)
      (case s => decide)
      (case v => rfl)
    case tA =>
      refine' Zn.tx_mk ?a ?l ?s ?v
      (case a => k_is)
      (case l => k_is)
      (case s => decide)
      (case v => rfl)
    case dT =>
      refine' Zn.dic_mk ?a ?l ?lo ?v
      (case a => k_is)
      (case l => k_is)
      (case lo => rfl)
      case v =>
        refine' Zn.EnV.cons rfl rfl (Zn.rtk_mk ?l0 ?s0 ?v0) (Zn.EnV.cons rfl rfl (Zn.rtk_mk ?l1 ?s1 ?v1) (Zn.EnV.cons rfl rfl (Zn.rtk_mk ?l2 ?s2 ?v2) (Zn.EnV.cons rfl rfl (Zn.rtk_mk ?l3 ?s3 ?v3) (Zn.EnV.cons rfl rfl (Zn.rtk_mk ?l4 ?s4 ?v4) (Zn.EnV.cons rfl rfl (Zn.rtk_mk ?l5 ?s5 ?v5) (Zn.EnV.cons rfl rfl (Zn.rtk_mk ?l6 ?s6 ?v6) (Zn.EnV.cons rfl rfl (Zn.rtk_mk ?l7 ?s7 ?v7) (Zn.EnV.cons rfl rfl (Zn.rtk_mk ?l8 ?s8 ?v8) (.nil)))))))))
        (case l0 => k_is)
        (case s0 => decide)
        (case v0 => rfl)
        (case l1 => k_is)
        (case s1 => decide)
        (case v1 => rfl)
        (case l2 => k_is)
        (case s2 => decide)
        (case v2 => rfl)
        (case l3 => k_is)
        (case s3 => decide)
        (case v3 => rfl)
        (case l4 => k_is)
        (case s4 => decide)
        (case v4 => rfl)
        (case l5 => k_is)
        (case s5 => decide)
        (case v5 => rfl)
        (case l6 => k_is)
        (case s6 => decide)
        (case v6 => rfl)
        (case l7 => k_is)
        (case s7 => decide)
        (case v7 => rfl)
        (case l8 => k_is)
        (case s8 => decide)
        (case v8 => rfl)
    case dG =>
      refine' Zn.dic_mk ?a ?l ?lo ?v
      (case a => k_is)
      (case l => k_is)
      (case lo => rfl)
      case v =>
        exact Zn.EnV.cons rfl rfl ⟨_, rfl⟩ (Zn.EnV.cons rfl rfl ⟨_, rfl⟩ (Zn.EnV.cons rfl rfl ⟨_, rfl⟩ (Zn.EnV.cons rfl rfl ⟨_, rfl⟩ (Zn.EnV.cons rfl rfl ⟨_, rfl⟩ (Zn.EnV.cons rfl rfl ⟨_, rfl⟩ (.nil))))))
    case B =>
      refine' ⟨?n0, ?n1, ?n2, ?n3, ?n4, ?n5, ?n6, ?n7, ?n8, ?n9, ?n10, ?n11, ?n12, ?n13, ?n14, ?n15, ?n16, ?n17, ?n18, ?n19, ?n20⟩
      (case n0 => k_is)
      (case n1 => k_is)
      (case n2 => k_is)
      (case n3 => k_is)
      (case n4 => k_is)
      (case n5 => k_is)
      (case n6 => k_is)
      (case n7 => k_is)
      (case n8 => k_is)
      (case n9 => k_is)
      (case n10 => k_is)
      (case n11 => k_is)
      (case n12 => k_is)
      (case n13 => k_is)
      (case n14 => k_is)
      (case n15 => k_is)
      (case n16 => k_is)
      (case n17 => k_is)
      (case n18 => k_is)
      (case n19 => k_is)
      (case n20 => k_is)
    case D =>
      refine' ⟨?d0, ?d1, ?d2, ?d3, ?d4, ?d5, ?d6, ?d7, ?d8, ?d9, ?d10, ?d11, ?d12, ?d13, ?d14, ?d15, ?d16, ?d17, ?d18, ?d19, ?d20, ?d21, ?d22, ?d23, ?d24, ?d25, ?d26, ?d27, ?d28, ?d29⟩
      case d0 =>
        refine' Zn.df_mk KX G ?a ?l ?c ?k ?b
        (case a => k_is)
        (case l => k_is)
        (case c => k_is)
        (case k => k_is)
        (case b => exact fun us hl => match us, hl with | [_], _ => rfl)
      case d1 =>
        refine' Zn.df_mk KX G ?a ?l ?c ?k ?b
        (case a => k_is)
        (case l => k_is)
        (case c => k_is)
        (case k => k_is)
        (case b => exact fun us hl => match us, hl with | [_], _ => rfl)
      case d2 =>
        refine' Zn.df_mk KX G ?a ?l ?c ?k ?b
        (case a => k_is)
        (case l => k_is)
        (case c => k_is)
        (case k => k_is)
        (case b => exact fun us hl => match us, hl with | [_, _], _ => rfl)
      case d3 =>
        refine' Zn.df_mk KX G ?a ?l ?c ?k ?b
        (case a => k_is)
        (case l => k_is)
        (case c => k_is)
        (case k => k_is)
        (case b => exact fun us hl => match us, hl with | [_], _ => rfl)
      case d4 =>
        refine' Zn.df_mk KX G ?a ?l ?c ?k ?b
        (case a => k_is)
        (case l => k_is)
        (case c => k_is)
        (case k => k_is)
        (case b => exact fun us hl => match us, hl with | [_], _ => rfl)
      case d5 =>
        refine' Zn.df_mk KX G ?a ?l ?c ?k ?b
        (case a => k_is)
        (case l => k_is)
        (case c => k_is)
        (case k => k_is)
        (case b => exact fun us hl => match us, hl with | [_], _ => rfl)
      case d6 =>
        refine' Zn.df_mk KX G ?a ?l ?c ?k ?b
        (case a => k_is)
        (case l => k_is)
        (case c => k_is)
        (case k => k_is)
        (case b => exact fun us hl => match us, hl with | [_], _ => rfl)
      case d7 =>
        refine' Zn.df_mk KX G ?a ?l ?c ?k ?b
        (case a => k_is)
        (case l => k_is)
        (case c => k_is)
        (case k => k_is)
        (case b => exact fun us hl => match us, hl with | [_, _], _ => rfl)
      case d8 =>
        refine' Zn.df_mk KX G ?a ?l ?c ?k ?b
        (case a => k_is)
        (case l => k_is)
        (case c => k_is)
        (case k => k_is)
        (case b => exact fun us hl => match us, hl with | [_, _], _ => rfl)
      case d9 =>
        refine' Zn.df_mk KX G ?a ?l ?c ?k ?b
        (case a => k_is)
        (case l => k_is)
        (case c => k_is)
        (case k => k_is)
        (case b => exact fun us hl => match us, hl with | [_, _, _, _], _ => rfl)
      case d10 =>
        refine' Zn.df_mk KX G ?a ?l ?c ?k ?b
        (case a => k_is)
        (case l => k_is)
        (case c => k_is)
        (case k => k_is)
        (case b => exact fun us hl => match us, hl with | [_, _], _ => rfl)
      case d11 =>
        refine' Zn.df_mk KX G ?a ?l ?c ?k ?b
        (case a => k_is)
        (case l => k_is)
        (case c => k_is)
        (case k => k_is)
        (case b => exact fun us hl => match us, hl with | [_, _], _ => rfl)
      case d12 =>
        refine' Zn.df_mk KX G ?a ?l ?c ?k ?b
        (case a => k_is)
        (case l => k_is)
        (case c => k_is)
        (case k => k_is)
        (case b => exact fun us hl => match us, hl with | [_, _, _], _ => rfl)
      case d13 =>
        refine' Zn.df_mk KX G ?a ?l ?c ?k ?b
        (case a => k_is)
        (case l => k_is)
        (case c => k_is)
        (case k => k_is)
        (case b => exact fun us hl => match us, hl with | [_, _], _ => rfl)
      case d14 =>
        refine' Zn.df_mk KX G ?a ?l ?c ?k ?b
        (case a => k_is)
        (case l => k_is)
        (case c => k_is)
        (case k => k_is)
        (case b => exact fun us hl => match us, hl with | [_, _], _ => rfl)
      case d15 =>
        refine' Zn.df_mk KX G ?a ?l ?c ?k ?b
        (case a => k_is)
        (case l => k_is)
        (case c => k_is)
        (case k => k_is)
        (case b => exact fun us hl => match us, hl with | [_], _ => rfl)
      case d16 =>
        refine' Zn.df_mk KX G ?a ?l ?c ?k ?b
        (case a => k_is)
        (case l => k_is)
        (case c => k_is)
        (case k => k_is)
        (case b => exact fun us hl => match us, hl with | [_, _], _ => rfl)
      case d17 =>
        refine' Zn.df_mk KX G ?a ?l ?c ?k ?b
        (case a => k_is)
        (case l => k_is)
        (case c => k_is)
        (case k => k_is)
        (case b => exact fun us hl => match us, hl with | [_, _, _, _], _ => rfl)
      case d18 =>
        refine' Zn.df_mk KX G ?a ?l ?c ?k ?b
        (case a => k_is)
        (case l => k_is)
        (case c => k_is)
        (case k => k_is)
        (case b => exact fun us hl => match us, hl with | [_, _], _ => rfl)
      case d19 =>
        refine' Zn.df_mk KX G ?a ?l ?c ?k ?b
        (case a => k_is)
        (case l => k_is)
        (case c => k_is)
        (case k => k_is)
        (case b => exact fun us hl => match us, hl with | [_, _, _], _ => rfl)
      case d20 =>
        refine' Zn.df_mk KX G ?a ?l ?c ?k ?b
        (case a => k_is)
        (case l => k_is)
        (case c => k_is)
        (case k => k_is)
        (case b => exact fun us hl => match us, hl with | [_], _ => rfl)
      case d21 =>
        refine' Zn.df_mk KX G ?a ?l ?c ?k ?b
        (case a => k_is)
        (case l => k_is)
        (case c => k_is)
        (case k => k_is)
        (case b => exact fun us hl => match us, hl with | [_, _], _ => rfl)
      case d22 =>
        refine' Zn.df_mk KX G ?a ?l ?c ?k ?b
        (case a => k_is)
        (case l => k_is)
        (case c => k_is)
        (case k => k_is)
        (case b => exact fun us hl => match us, hl with | [_], _ => rfl)
      case d23 =>
        refine' Zn.df_mk KX G ?a ?l ?c ?k ?b
        (case a => k_is)
        (case l => k_is)
        (case c => k_is)
        (case k => k_is)
        (case b => exact fun us hl => match us, hl with | [_], _ => rfl)
      case d24 =>
        refine' Zn.df_mk KX G ?a ?l ?c ?k ?b
        (case a => k_is)
        (case l => k_is)
        (case c => k_is)
        (case k => k_is)
        (case b => exact fun us hl => match us, hl with | [_, _], _ => rfl)
      case d25 =>
        refine' Zn.df_mk KX G ?a ?l ?c ?k ?b
        (case a => k_is)
        (case l => k_is)
        (case c => k_is)
        (case k => k_is)
        (case b => exact fun us hl => match us, hl with | [_], _ => rfl)
      case d26 =>
        refine' Zn.df_mk KX G ?a ?l ?c ?k ?b
        (case a => k_is)
        (case l => k_is)
        (case c => k_is)
        (case k => k_is)
        (case b => exact fun us hl => match us, hl with | [_], _ => rfl)
      case d27 =>
        refine' Zn.df_mk KX G ?a ?l ?c ?k ?b
        (case a => k_is)
        (case l => k_is)
        (case c => k_is)
        (case k => k_is)
        (case b => exact fun us hl => match us, hl with | [_, _], _ => rfl)
      case d28 =>
        refine' Zn.df_mk KX G ?a ?l ?c ?k ?b
        (case a => k_is)
        (case l => k_is)
        (case c => k_is)
        (case k => k_is)
        (case b => exact fun us hl => match us, hl with | [_], _ => rfl)
      case d29 =>
        refine' Zn.df_mk KX G ?a ?l ?c ?k ?b
        (case a => k_is)
        (case l => k_is)
        (case c => k_is)
        (case k => k_is)
        (case b => exact fun us hl => match us, hl with | [_], _ => rfl)
    case Q =>
      refine' ⟨?aC, ?pg, ?hd, ?po, ?sa, ?mks, ?kc, ?n1, ?n2, ?n3, ?n4, ?n5, ?n6, ?mI⟩
      (case aC => k_is)
      (case pg => k_is)
      (case hd => k_is)
      (case po => k_is)
      (case sa => k_is)
      (case mks => k_is)
      (case kc => k_is)
      (case n1 => k_is)
      (case n2 => k_is)
      (case n3 => k_is)
      (case n4 => k_is)
      (case n5 => k_is)
      (case n6 => k_is)
      case mI =>
        refine' Zn.mt_mk ?a ?i ?l ?c ?k ?b
        (case a => k_is)
        (case i => k_is)
        (case l => k_is)
        (case c => k_is)
        (case k => k_is)
        (case b => exact fun us hl => match us, hl with | [_, _], _ => rfl)
    case ET =>
      refine' Zn.xc_mk ?aC ?xL ?ve ?sa ?ga ?gg ?nb ?kC ?eC ?tC ?hC ?iC ?sC ?a1 ?t1 ?l ?c ?k ?hb
      (case aC => k_is)
      (case xL => k_is)
      (case ve => rfl)
      (case sa => k_is)
      (case ga => k_is)
      (case gg => k_is)
      (case nb => k_is)
      (case kC => k_is)
      (case eC => k_is)
      (case tC => k_is)
      (case hC => k_is)
      (case iC => k_is)
      (case sC => k_is)
      (case a1 => k_is)
      (case t1 => k_is)
      (case l => k_is)
      (case c => k_is)
      (case k => k_is)
      (case hb => exact fun us hl => match us, hl with | [_, _], _ => rfl)
    case EL =>
      refine' Zn.xc_mk ?aC ?xL ?ve ?sa ?ga ?gg ?nb ?kC ?eC ?tC ?hC ?iC ?sC ?a1 ?t1 ?l ?c ?k ?hb
      (case aC => k_is)
      (case xL => k_is)
      (case ve => rfl)
      (case sa => k_is)
      (case ga => k_is)
      (case gg => k_is)
      (case nb => k_is)
      (case kC => k_is)
      (case eC => k_is)
      (case tC => k_is)
      (case hC => k_is)
      (case iC => k_is)
      (case sC => k_is)
      (case a1 => k_is)
      (case t1 => k_is)
      (case l => k_is)
      (case c => k_is)
      (case k => k_is)
      (case hb => exact fun us hl => match us, hl with | [_, _], _ => rfl)
    (case eLT => k_is)
