import PyProof.Rows.All
import Wide.All
import OpenK.AllK
import Wide.FinOn
import PyProof.EqAt
import PyProof.EqKinds
import PyProof.TupleCall
import PyProof.ReprRoads
import HandS.ForMost
import HandS.IsInst
import HandS.Wide
import PyProof.InstNe
import HandS.Property
import HandS.SetBool
import HandS.Strs
import HandS.RaiseMore
import HandS.Dict
import KE.SortData
import HandS.SetFor
import KE.KTupSum
import KE.GoesEnum
import HandS.Star
import HandS.Iter
import PySem.Challenge.RW_everyzone_k32_differences_of_days
set_option Elab.async false
set_option linter.all false
set_option maxRecDepth 100000
set_option maxHeartbeats 4000000
/-! Data layer: pure expressions by the data they come to. M: addresses that may change; what is known stands outside of M. -/
namespace Dl
open PySem PySem.Spec PyProof.Rows L2

/-! ### what is known -/
def hid (M : List Addr) (H : Hp) : Hp := fun a => if a ∈ M then none else H a
def Live (M : List Addr) (H : Hp) : Prop := ∀ a ∈ M, H a ≠ none
section
variable {M : List Addr} {H H' : Hp} {a p : Addr} {o : HO}
theorem hid_of (n : a ∉ M) : hid M H a = H a := if_neg n
theorem hid_le : Same (hid M H) H := fun b o e => by
  unfold hid at e
  split at e
  · cases e
  · exact e
theorem hid_mono (s : Same H H') : Same (hid M H) (hid M H') := fun b o e => by
  unfold hid at e ⊢
  split at e
  · cases e
  · rename_i n; rw [if_neg n]; exact s b o e
theorem hid_nil : hid [] H = H := by funext b; unfold hid; rw [if_neg (by simp)]
theorem hid_upd_mem (h : p ∈ M) : hid M (upd H p o) = hid M H := by
  funext b; unfold hid
  split
  · rfl
  · rename_i n; rw [upd_ne (fun z => n (by rw [z]; exact h))]
theorem Live.mono (L : Live M H) (s : Same H H') : Live M H' := fun b hb z => by
  cases e : H b with
  | none => exact L b hb e
  | some o => rw [s b o e] at z; cases z
theorem Live.fresh (L : Live M H) (hp : H p = none) : p ∉ M := fun h => L p h hp
theorem Live.nil : Live [] H := fun _ h => by simp at h
theorem hid_new (L : Live M H) (hp : H p = none) : hid M (upd H p o) = upd (hid M H) p o := by
  funext b; unfold hid upd
  by_cases hb : b = p
  · subst hb; rw [if_neg (L.fresh hp), if_pos rfl, if_pos rfl]
  · rw [if_neg hb, if_neg hb]
theorem hid_free (hp : H p = none) : hid M H p = none := by unfold hid; split <;> first | rfl | exact hp
theorem hid_cons (hp : H p = none) : hid (p :: M) (upd H p o) = hid M H := by
  funext b; unfold hid
  by_cases hb : b = p
  · subst hb
    rw [if_pos (List.mem_cons_self ..)]
    split <;> first | rfl | exact hp.symm
  · by_cases hm : b ∈ M
    · rw [if_pos (List.mem_cons_of_mem _ hm), if_pos hm]
    · rw [if_neg (by simp [hb, hm]), if_neg hm, upd_ne hb]
theorem Live.cons (L : Live M H) (hp : H p = none) : Live (p :: M) (upd H p o) := fun b hb => by
  rcases List.mem_cons.mp hb with e | hb
  · subst e; rw [upd_same]; simp
  · rw [upd_ne (fun z => L b hb (by rw [z]; exact hp))]; exact L b hb
theorem Live.upd (L : Live M H) : Live M (upd H p o) := fun b hb => by
  by_cases e : b = p
  · subst e; rw [upd_same]; simp
  · rw [upd_ne e]; exact L b hb
theorem same_new (hp : H p = none) : Same H (upd H p o) := fun b u e => by rw [upd_ne (ne_of_none e hp)]; exact e
theorem Live.to (L : Live M H) (s : Same (hid [] H) H') : Live M H' := L.mono (by rw [hid_nil] at s; exact s)
theorem hid_hid : hid M (hid M H) = hid M H := by
  funext b; unfold hid; split <;> rfl
end
theorem same_seqT {K : PySem.W.Frag} {H H' : Hp} {a : Addr} {xs : List V} (e : Same H H') (h : SqT K H a xs) : SqT K H' a xs := by
  rcases h with (h | ⟨o, h⟩) | h
  · exact .inl (.inl (e _ _ h))
  · exact .inl (.inr ⟨o, e _ _ h⟩)
  · exact .inr h
mutual
/-- a value is the data (every list is one that is tracked) -/
inductive Dq (K : PySem.W.Frag) (H : Hp) : V → PyData → Prop
  | non : Dq K H .non .none
  | bl (b : Bool) : Dq K H (.bl b) (.bool b)
  | int (i : Int) : Dq K H (.int i) (.int i)
  | str (x : Str) : Dq K H (.str x) (.str x)
  | lst {a : Addr} {xs : List V} {ds : List PyData} : H a = some (.lst xs) → DqAll K H xs ds → Dq K H (.ref a) (.list ds)
  | tup {a : Addr} {xs : List V} {ds : List PyData} : SqT K H a xs → DqAll K H xs ds → Dq K H (.ref a) (.tuple ds)
inductive DqAll (K : PySem.W.Frag) (H : Hp) : List V → List PyData → Prop
  | nil : DqAll K H [] []
  | cons {v : V} {vs : List V} {d : PyData} {ds : List PyData} : Dq K H v d → DqAll K H vs ds → DqAll K H (v :: vs) (d :: ds)
end
mutual
theorem Dq.dp {K : PySem.W.Frag} {H : Hp} : ∀ (d : PyData) (v : V), Dq K H v d → Dp K H v d
  | .none, _, h => by cases h; exact .non
  | .bool b, _, h => by cases h; exact .bl b
  | .int i, _, h => by cases h; exact .int i
  | .str x, _, h => by cases h; exact .str x
  | .list ds, _, h => by
    cases h with
    | lst hs ha => exact .lst (SqL.of hs) (DqAll.dp ds _ ha)
  | .tuple ds, _, h => by
    cases h with
    | tup hs ha => exact .tup hs (DqAll.dp ds _ ha)
  | .dict _, _, h => by cases h
theorem DqAll.dp {K : PySem.W.Frag} {H : Hp} : ∀ (ds : List PyData) (vs : List V), DqAll K H vs ds → DpAll K H vs ds
  | [], _, h => by cases h; exact .nil
  | d :: ds, _, h => by
    cases h with
    | cons h1 h2 => exact .cons (Dq.dp d _ h1) (DqAll.dp ds _ h2)
end
mutual
theorem dp_mono {K : PySem.W.Frag} {H H' : Hp} (e : Same H H') : ∀ (d : PyData) (v : V), Dq K H v d → Dq K H' v d
  | .none, _, h => by cases h; exact .non
  | .bool b, _, h => by cases h; exact .bl b
  | .int i, _, h => by cases h; exact .int i
  | .str x, _, h => by cases h; exact .str x
  | .list ds, _, h => by
    cases h with
    | lst hs ha => exact .lst (e _ _ hs) (dpa_mono e ds _ ha)
  | .tuple ds, _, h => by
    cases h with
    | tup hs ha => exact .tup (same_seqT e hs) (dpa_mono e ds _ ha)
  | .dict _, _, h => by cases h
theorem dpa_mono {K : PySem.W.Frag} {H H' : Hp} (e : Same H H') : ∀ (ds : List PyData) (vs : List V), DqAll K H vs ds → DqAll K H' vs ds
  | [], _, h => by cases h; exact .nil
  | d :: ds, _, h => by
    cases h with
    | cons h1 h2 => exact .cons (dp_mono e d _ h1) (dpa_mono e ds _ h2)
end
section
variable {K : PySem.W.Frag} {H H' : Hp} {v : V} {vs : List V} {ds es : List PyData} {d : PyData}
theorem Dq.up (h : Dq K H v d) (e : Same H H') : Dq K H' v d := dp_mono e d v h
theorem DqAll.up (h : DqAll K H vs ds) (e : Same H H') : DqAll K H' vs ds := dpa_mono e ds vs h
theorem dpa_len : ∀ {vs : List V} {ds : List PyData}, DqAll K H vs ds → vs.length = ds.length
  | _, _, .nil => rfl
  | _, _, .cons _ h => by rw [List.length_cons, List.length_cons, dpa_len h]
theorem dpa_app : ∀ {vs ws : List V} {ds es : List PyData}, DqAll K H vs ds → DqAll K H ws es → DqAll K H (vs ++ ws) (ds ++ es)
  | _, _, _, _, .nil, h => h
  | _, _, _, _, .cons a b, h => .cons a (dpa_app b h)
theorem dpa_get : ∀ {vs : List V} {ds : List PyData} {i : Nat} {d : PyData}, DqAll K H vs ds → ds[i]? = some d → ∃ v, vs[i]? = some v ∧ Dq K H v d
  | _, _, _, _, .nil, e => by simp at e
  | _, _, 0, _, .cons a _, e => by simp at e; subst e; exact ⟨_, rfl, a⟩
  | _, _, i + 1, d, .cons _ b, e => by
    obtain ⟨v, h1, h2⟩ := dpa_get (i := i) (d := d) b (by simpa using e)
    exact ⟨v, by simpa using h1, h2⟩
theorem dpa_get' : ∀ {vs : List V} {ds : List PyData} {i : Nat} {v : V}, DqAll K H vs ds → vs[i]? = some v → ∃ d, ds[i]? = some d ∧ Dq K H v d
  | _, _, _, _, .nil, e => by simp at e
  | _, _, 0, _, .cons a _, e => by simp at e; subst e; exact ⟨_, rfl, a⟩
  | _, _, i + 1, v, .cons _ b, e => by
    obtain ⟨d, h1, h2⟩ := dpa_get' (i := i) (v := v) b (by simpa using e)
    exact ⟨d, by simpa using h1, h2⟩
theorem dpa_drop : ∀ (n : Nat) {vs : List V} {ds : List PyData}, DqAll K H vs ds → DqAll K H (vs.drop n) (ds.drop n)
  | 0, _, _, h => h
  | _ + 1, _, _, .nil => .nil
  | n + 1, _, _, .cons _ b => dpa_drop n b
theorem dpa_take : ∀ (n : Nat) {vs : List V} {ds : List PyData}, DqAll K H vs ds → DqAll K H (vs.take n) (ds.take n)
  | 0, _, _, _ => .nil
  | _ + 1, _, _, .nil => .nil
  | n + 1, _, _, .cons a b => .cons a (dpa_take n b)
theorem dp_int {i : Int} (h : Dq K H v (.int i)) : v = .int i := by cases h; rfl
theorem dp_bl {b : Bool} (h : Dq K H v (.bool b)) : v = .bl b := by cases h; rfl
theorem dp_str {x : Str} (h : Dq K H v (.str x)) : v = .str x := by cases h; rfl
theorem dp_non (h : Dq K H v .none) : v = .non := by cases h; rfl
theorem dp_lst (h : Dq K H v (.list ds)) : ∃ a xs, v = .ref a ∧ H a = some (.lst xs) ∧ DqAll K H xs ds := by
  cases h with
  | lst h1 h2 => exact ⟨_, _, rfl, h1, h2⟩
theorem dp_tup (h : Dq K H v (.tuple ds)) : ∃ a xs, v = .ref a ∧ SqT K H a xs ∧ DqAll K H xs ds := by
  cases h with
  | tup h1 h2 => exact ⟨_, _, rfl, h1, h2⟩
end
/-! ### readings by themselves -/
def RE (X : Cx) (e : Expr) : TE := fun σ H Q => ∃ t, PE X e t ∧ t σ H Q
def RT (X : Cx) (e : Expr) : TT := fun σ H Q => ∃ t, PT X e t ∧ t σ H Q
def RW (X : Cx) (e : Expr) : TT := fun σ H Q => ∃ t, PW X e t ∧ t σ H Q
def RA (X : Cx) (es : List Expr) : TA := fun σ H Q => ∃ t, PA X es t ∧ t σ H Q
def RS (X : Cx) (st : Stmt) : TS := fun D σ H => ∃ t, PS X st t ∧ t D σ H
def RB (X : Cx) (st : List Stmt) : TS := fun D σ H => ∃ t, PSs X st t ∧ t D σ H
def RI (X : Cx) (tg e : Expr) : TI := fun σ H R => ∃ t, PI X tg e t ∧ t σ H R
section
variable {X : Cx} {e tg : Expr} {es : List Expr} {st : Stmt} {sts : List Stmt}
theorem re_ : PE X e (RE X e) := ⟨fun pins s σ H Q I ⟨_, h, q⟩ => h.run pins s σ H Q I q⟩
theorem rt_ : PT X e (RT X e) := ⟨fun pins s σ H Q I ⟨_, h, q⟩ => h.run pins s σ H Q I q⟩
theorem rw_ : PW X e (RW X e) := ⟨fun wh pins s σ H Q I ⟨_, h, q⟩ => h.run wh pins s σ H Q I q⟩
theorem ra_ : PA X es (RA X es) := ⟨fun pos pins s σ H Q I ⟨_, h, q⟩ => h.run pos pins s σ H Q I q⟩
theorem rs_ : PS X st (RS X st) := ⟨fun pins s σ H D I ⟨_, h, q⟩ => h.run pins s σ H D I q⟩
theorem rb_ : PSs X sts (RB X sts) := ⟨fun pins s σ H D I ⟨_, h, q⟩ => h.run pins s σ H D I q⟩
theorem ri_ : PI X tg e (RI X tg e) := ⟨fun pins s σ H R I ⟨_, h, q⟩ => h.run pins s σ H R I q⟩
end
/-! ### what an expression comes to -/
/-- the data d; an exact value v; a new list of the data ds; arguments; a test -/
def XD (X : Cx) (M : List Addr) (σ : L2.St) (H : Hp) (e : Expr) (d : PyData) : Prop := ∀ H1, Same H H1 → ∀ Q : VK, (∀ v H2, Same H1 H2 → Dq X.K (hid M H2) v d → Q v H2) → RE X e σ H1 Q
def XV (X : Cx) (σ : L2.St) (H : Hp) (e : Expr) (v : V) : Prop := ∀ H1, Same H H1 → ∀ Q : VK, (∀ H2, Same H1 H2 → Q v H2) → RE X e σ H1 Q
def XL (X : Cx) (M : List Addr) (σ : L2.St) (H : Hp) (e : Expr) (ds : List PyData) : Prop :=
  ∀ H1, Same H H1 → ∀ Q : VK, (∀ p xs H2, Same H1 H2 → H1 p = none → H2 p = some (.lst xs) → DqAll X.K (hid M H2) xs ds → Q (.ref p) H2) → RE X e σ H1 Q
def XA (X : Cx) (M : List Addr) (σ : L2.St) (H : Hp) (es : List Expr) (ds : List PyData) : Prop := ∀ H1, Same H H1 → ∀ Q : List V → Hp → Prop, (∀ vs H2, Same H1 H2 → DqAll X.K (hid M H2) vs ds → Q vs H2) → RA X es σ H1 Q
def XT (X : Cx) (σ : L2.St) (H : Hp) (e : Expr) (b : Bool) : Prop := ∀ H1, Same H H1 → ∀ Q : Bool → Hp → Prop, (∀ H2, Same H1 H2 → Q b H2) → RT X e σ H1 Q
def XW (X : Cx) (σ : L2.St) (H : Hp) (e : Expr) (b : Bool) : Prop := ∀ H1, Same H H1 → ∀ Q : Bool → Hp → Prop, (∀ H2, Same H1 H2 → Q b H2) → RW X e σ H1 Q
section
variable {X : Cx} {M : List Addr} {σ : L2.St} {H H' : Hp} {e a b c : Expr} {es : List Expr} {d d1 d2 : PyData} {ds es' : List PyData} {i : Nat} {x : Str} {v : V} {pos : Pos}
theorem XD.up (h : XD X M σ H e d) (s : Same H H') : XD X M σ H' e d := fun H1 q => h H1 (s.trans q)
theorem XV.up (h : XV X σ H e v) (s : Same H H') : XV X σ H' e v := fun H1 q => h H1 (s.trans q)
theorem XL.up (h : XL X M σ H e ds) (s : Same H H') : XL X M σ H' e ds := fun H1 q => h H1 (s.trans q)
theorem XA.up (h : XA X M σ H es ds) (s : Same H H') : XA X M σ H' es ds := fun H1 q => h H1 (s.trans q)
theorem XT.up {b : Bool} (h : XT X σ H e b) (s : Same H H') : XT X σ H' e b := fun H1 q => h H1 (s.trans q)
theorem XD.to {d' : PyData} (h : XD X M σ H e d) (q : d = d') : XD X M σ H e d' := q ▸ h
theorem XL.to {ds' : List PyData} (h : XL X M σ H e ds) (q : ds = ds') : XL X M σ H e ds' := q ▸ h
theorem XT.to {k k' : Bool} (h : XT X σ H e k) (q : k = k') : XT X σ H e k' := q ▸ h
theorem XV.dd (h : XV X σ H e v) (hd : Dq X.K (hid M H) v d) : XD X M σ H e d := fun H1 s Q q => h H1 s Q fun H2 s2 => q v H2 s2 (dp_mono (hid_mono (s.trans s2)) d v hd)
theorem XV.int {n : Int} (h : XV X σ H e (.int n)) : XD X M σ H e (.int n) := h.dd (.int n)
theorem XD.vint {n : Int} (h : XD X M σ H e (.int n)) : XV X σ H e (.int n) := fun H1 s Q q => h H1 s Q fun v H2 s2 hv => by rw [dp_int hv]; exact q H2 s2
theorem XD.vbl {k : Bool} (h : XD X M σ H e (.bool k)) : XV X σ H e (.bl k) := fun H1 s Q q => h H1 s Q fun v H2 s2 hv => by rw [dp_bl hv]; exact q H2 s2
theorem XD.vstr {z : Str} (h : XD X M σ H e (.str z)) : XV X σ H e (.str z) := fun H1 s Q q => h H1 s Q fun v H2 s2 hv => by rw [dp_str hv]; exact q H2 s2
theorem XL.dd (h : XL X M σ H e ds) (L : Live M H) : XD X M σ H e (.list ds) := fun H1 s Q q => h H1 s Q fun p xs H2 s2 hp h2 hd =>
  q _ H2 s2 (.lst (by rw [hid_of (fun z => (L.mono s) p z hp)]; exact h2) hd)
/-! names, constants -/
theorem xv_name (i : Nat) {x : Str} {v : V} {pos : Pos} (hv : σ[i]? = some (some v)) (hN : X.N[i]? = some x := by rfl) (hs : Vis X.env.scope x := by first | exact Or.inl rfl | exact Or.inr (Or.inl rfl) | exact Or.inr (Or.inr rfl))
    (hb : (x == ("__debug__" : Str)) = false := by decide) (hc : (x == ("__classdict__" : Str)) = false := by decide) : XV X σ H (.Name x pos) v := fun H1 _ Q q => ⟨_, pe_var hN hs hb hc, v, hv, q H1 (Same.refl _)⟩
theorem xd_name (i : Nat) {x : Str} {v : V} {pos : Pos} (hv : σ[i]? = some (some v)) (hd : Dq X.K (hid M H) v d) (hN : X.N[i]? = some x := by rfl) (hs : Vis X.env.scope x := by first | exact Or.inl rfl | exact Or.inr (Or.inl rfl) | exact Or.inr (Or.inr rfl))
    (hb : (x == ("__debug__" : Str)) = false := by decide) (hc : (x == ("__classdict__" : Str)) = false := by decide) : XD X M σ H (.Name x pos) d := (xv_name i hv hN hs hb hc).dd hd
theorem xv_int {n : Int} {j} : XV X σ H (.Constant (.int n) j pos) (.int n) := fun H1 _ Q q => ⟨_, pe_int, q H1 (Same.refl _)⟩
theorem xd_int {n : Int} {j} : XD X M σ H (.Constant (.int n) j pos) (.int n) := xv_int.int
theorem xv_str {z : Str} {j} : XV X σ H (.Constant (.str z) j pos) (.str z) := fun H1 _ Q q => ⟨_, pe_str, q H1 (Same.refl _)⟩
theorem xd_str {z : Str} {j} : XD X M σ H (.Constant (.str z) j pos) (.str z) := xv_str.dd (.str z)
theorem xd_bl {k : Bool} {j} : XD X M σ H (.Constant (.bool k) j pos) (.bool k) := fun H1 _ Q q => ⟨_, pe_bl, q _ H1 (Same.refl _) (.bl k)⟩
theorem xd_non {j} : XD X M σ H (.Constant .none j pos) .none := fun H1 _ Q q => ⟨_, pe_non, q _ H1 (Same.refl _) .non⟩
theorem xv_glob {u : Value} (hm : X.mg x = some u) (r : RelV v u) (hg : Gl X x := by rfl) (hd : (x == ("__debug__" : Str)) = false := by decide) : XV X σ H (.Name x pos) v := fun H1 _ Q q => ⟨_, pe_glob hg hm r hd, q H1 (Same.refl _)⟩
theorem xv_bltn {u : Value} (hm : X.mg x = none) (hv : bootBuiltins x = some u) (r : RelV v u) (hg : Gl X x := by rfl) (hn : x ≠ "__name__" := by decide) (hd : (x == ("__debug__" : Str)) = false := by decide) : XV X σ H (.Name x pos) v :=
  fun H1 _ Q q => ⟨_, pe_bltn hg hm hv r hn hd, q H1 (Same.refl _)⟩
/-! displays -/
theorem xa_nil : XA X M σ H [] [] := fun H1 _ Q q => ⟨_, pa_nil, q [] H1 (Same.refl _) .nil⟩
theorem xa_cons (ha : XD X M σ H e d) (hr : XA X M σ H es ds) (hs : starEach (e :: es) X.env = (false, eval e X.env) :: starEach es X.env := by rfl) : XA X M σ H (e :: es) (d :: ds) := fun H1 s Q q =>
  ⟨_, pa_cons re_ ra_ hs, ha H1 s _ fun v H2 s2 hv => hr H2 (s.trans s2) _ fun vs H3 s3 hvs => q _ H3 (s2.trans s3) (.cons (hv.up (hid_mono s3)) hvs)⟩
theorem small_sz {n : Nat} (h : n ≤ 100000) : n ≤ sizeLine := Nat.le_trans h (by decide)
theorem xd_tup {x1} (L : Live M H) (h : XA X M σ H es ds) (hl : ds.length ≤ 100000 := by simp) : XD X M σ H (.Tuple es x1 pos) (.tuple ds) := fun H1 s Q q =>
  ⟨_, pe_tup ra_, h H1 s _ fun vs H2 s2 hvs => ⟨by rw [dpa_len hvs]; exact small_sz hl, fun p hp => q _ _ (s2.trans (same_new hp)) (by
    rw [hid_new (L.mono (s.trans s2)) hp]
    exact .tup (SqT.of upd_same) (hvs.up (same_new (hid_free hp))))⟩⟩
theorem xl_lst (L : Live M H) (h : XA X M σ H es ds) (hl : ds.length ≤ 100000 := by simp) : XL X M σ H (.List es pos) ds := fun H1 s Q q =>
  ⟨_, pe_lst ra_, h H1 s _ fun vs H2 s2 hvs => ⟨by rw [dpa_len hvs]; exact small_sz hl, fun p hp => q p vs _ (s2.trans (same_new hp)) (s2.free hp) upd_same (by
    rw [hid_new (L.mono (s.trans s2)) hp]
    exact hvs.up (same_new (hid_free hp)))⟩⟩
theorem xd_lst (L : Live M H) (h : XA X M σ H es ds) (hl : ds.length ≤ 100000 := by simp) : XD X M σ H (.List es pos) (.list ds) := (xl_lst L h hl).dd L
/-! operators -/
theorem xd_bin {op : Operator} {r : R2} (ho : OpR X (binaryOp op) r) (ha : XD X M σ H a d1) (hb : XD X M σ H b d2)
    (hr : ∀ H1 v w, Same H H1 → Dq X.K (hid M H1) v d1 → Dq X.K (hid M H1) w d2 → ∀ Q : VK, (∀ u H2, Same H1 H2 → Dq X.K (hid M H2) u d → Q u H2) → r v w H1 Q) : XD X M σ H (.BinOp a op b pos) d := fun H1 s Q q =>
  ⟨_, pe_op ho re_ re_, ha H1 s _ fun v H2 s2 hv => hb H2 (s.trans s2) _ fun w H3 s3 hw => hr H3 v w ((s.trans s2).trans s3) (hv.up (hid_mono s3)) hw Q fun u H4 s4 hu => q u H4 ((s2.trans s3).trans s4) hu⟩
theorem xd_binI {op : Operator} {C : Int → Int → Prop} {g : Int → Int → Int} {m n : Int} (ho : OpR X (binaryOp op) (rI C fun i j => .int (g i j))) (ha : XD X M σ H a (.int m)) (hb : XD X M σ H b (.int n)) (hc : C m n) : XD X M σ H (.BinOp a op b pos) (.int (g m n)) :=
  xd_bin ho ha hb fun H1 v w s hv hw Q q => ⟨m, n, dp_int hv, dp_int hw, hc, q _ H1 (Same.refl _) (.int _)⟩
theorem xd_binI0 {op : Operator} {g : Int → Int → Int} {m n : Int} (ho : OpR X (binaryOp op) (rI0 fun i j => .int (g i j))) (ha : XD X M σ H a (.int m)) (hb : XD X M σ H b (.int n)) : XD X M σ H (.BinOp a op b pos) (.int (g m n)) :=
  xd_bin ho ha hb fun H1 v w s hv hw Q q => ⟨m, n, dp_int hv, dp_int hw, q _ H1 (Same.refl _) (.int _)⟩
theorem xd_add {m n : Int} (ha : XD X M σ H a (.int m)) (hb : XD X M σ H b (.int n)) : XD X M σ H (.BinOp a .Add b pos) (.int (m + n)) := xd_binI0 op_add ha hb
theorem xd_sub {m n : Int} (ha : XD X M σ H a (.int m)) (hb : XD X M σ H b (.int n)) : XD X M σ H (.BinOp a .Sub b pos) (.int (m - n)) := xd_binI0 op_sub ha hb
theorem xd_mul {m n : Int} (ha : XD X M σ H a (.int m)) (hb : XD X M σ H b (.int n)) (hc : (-(2 ^ 64) < m ∧ m < 2 ^ 64) ∨ (-(2 ^ 64) < n ∧ n < 2 ^ 64)) : XD X M σ H (.BinOp a .Mult b pos) (.int (m * n)) := xd_binI op_mul ha hb hc
theorem xd_neg {m : Int} (ha : XD X M σ H a (.int m)) : XD X M σ H (.UnaryOp .USub a pos) (.int (-m)) := fun H1 s Q q =>
  ⟨_, pe_un un_neg re_, ha H1 s _ fun v H2 s2 hv => ⟨m, dp_int hv, q _ H2 s2 (.int _)⟩⟩
/-! comparisons -/
theorem xd_cmp {op : CmpOp} {r : R2} (ho : OpR X (compareOp op) r) (ha : XD X M σ H a d1) (hb : XD X M σ H b d2)
    (hr : ∀ H1 v w, Same H H1 → Dq X.K (hid M H1) v d1 → Dq X.K (hid M H1) w d2 → ∀ Q : VK, (∀ u H2, Same H1 H2 → Dq X.K (hid M H2) u d → Q u H2) → r v w H1 Q)
    (hm : behindInMarks op b = false := by first | exact nomark _ | rfl) : XD X M σ H (.Compare a [op] [b] pos) d := fun H1 s Q q =>
  ⟨_, pe_cmpR ho re_ re_ hm, ha H1 s _ fun v H2 s2 hv => hb H2 (s.trans s2) _ fun w H3 s3 hw => hr H3 v w ((s.trans s2).trans s3) (hv.up (hid_mono s3)) hw Q fun u H4 s4 hu => q u H4 ((s2.trans s3).trans s4) hu⟩
theorem xt_cmp {k : Bool} {op : CmpOp} {r : R2} (ho : OpR X (compareOp op) r) (ha : XD X M σ H a d1) (hb : XD X M σ H b d2)
    (hr : ∀ H1 v w, Same H H1 → Dq X.K (hid M H1) v d1 → Dq X.K (hid M H1) w d2 → ∀ Q : VK, (∀ H2, Same H1 H2 → Q (.bl k) H2) → r v w H1 Q)
    (hm : behindInMarks op b = false := by first | exact nomark _ | rfl) : XT X σ H (.Compare a [op] [b] pos) k := fun H1 s Q q =>
  ⟨_, pt_cmpR ho re_ re_ hm, ha H1 s _ fun v H2 s2 hv => hb H2 (s.trans s2) _ fun w H3 s3 hw => hr H3 v w ((s.trans s2).trans s3) (hv.up (hid_mono s3)) hw _ fun H4 s4 => ⟨k, rfl, q H4 ((s2.trans s3).trans s4)⟩⟩
theorem xt_cmpI {op : CmpOp} {g : Int → Int → Bool} {m n : Int} (ho : OpR X (compareOp op) (rI0 fun i j => .bl (g i j))) (ha : XD X M σ H a (.int m)) (hb : XD X M σ H b (.int n)) (hm : behindInMarks op b = false := by exact nomark _) : XT X σ H (.Compare a [op] [b] pos) (g m n) :=
  xt_cmp ho ha hb (fun H1 v w s hv hw Q q => ⟨m, n, dp_int hv, dp_int hw, q H1 (Same.refl _)⟩) hm
theorem xd_cmpI {op : CmpOp} {g : Int → Int → Bool} {m n : Int} (ho : OpR X (compareOp op) (rI0 fun i j => .bl (g i j))) (ha : XD X M σ H a (.int m)) (hb : XD X M σ H b (.int n)) (hm : behindInMarks op b = false := by exact nomark _) : XD X M σ H (.Compare a [op] [b] pos) (.bool (g m n)) :=
  xd_cmp ho ha hb (fun H1 v w s hv hw Q q => ⟨m, n, dp_int hv, dp_int hw, q _ H1 (Same.refl _) (.bl _)⟩) hm
theorem dec_int {m n : Int} : decide (V.int m = V.int n) = decide (m = n) := by
  by_cases h : m = n
  · subst h; simp
  · rw [decide_eq_false h, decide_eq_false fun z => h (V.int.inj z)]
theorem xd_eqI {m n : Int} (ha : XD X M σ H a (.int m)) (hb : XD X M σ H b (.int n)) : XD X M σ H (.Compare a [.Eq] [b] pos) (.bool (decide (m = n))) :=
  xd_cmp op_eq ha hb fun H1 v w s hv hw Q q => by
    rw [dp_int hv, dp_int hw]
    exact ⟨rfl, by rw [dec_int]; exact q _ H1 (Same.refl _) (.bl _)⟩
theorem xd_neI {m n : Int} (ha : XD X M σ H a (.int m)) (hb : XD X M σ H b (.int n)) : XD X M σ H (.Compare a [.NotEq] [b] pos) (.bool (!decide (m = n))) :=
  xd_cmp op_ne ha hb fun H1 v w s hv hw Q q => by
    rw [dp_int hv, dp_int hw]
    exact ⟨rfl, by rw [dec_int]; exact q _ H1 (Same.refl _) (.bl _)⟩
theorem xt_eqI {m n : Int} (ha : XD X M σ H a (.int m)) (hb : XD X M σ H b (.int n)) : XT X σ H (.Compare a [.Eq] [b] pos) (decide (m = n)) :=
  xt_cmp op_eq ha hb fun H1 v w s hv hw Q q => by
    rw [dp_int hv, dp_int hw]
    exact ⟨rfl, by rw [dec_int]; exact q H1 (Same.refl _)⟩
theorem xt_neI {m n : Int} (ha : XD X M σ H a (.int m)) (hb : XD X M σ H b (.int n)) : XT X σ H (.Compare a [.NotEq] [b] pos) (!decide (m = n)) :=
  xt_cmp op_ne ha hb fun H1 v w s hv hw Q q => by
    rw [dp_int hv, dp_int hw]
    exact ⟨rfl, by rw [dec_int]; exact q H1 (Same.refl _)⟩
theorem xd_eqD (hu : X.A.units + 64 < cLine) (ha : XD X M σ H a d1) (hb : XD X M σ H b d2) (s1 : SeqAt.shaped d1 = true) (s2 : SeqAt.shaped d2 = true) : XD X M σ H (.Compare a [.Eq] [b] pos) (.bool (PyData.eqv d1 d2)) :=
  xd_cmp (op_eqD hu) ha hb fun H1 v w s hv hw Q q => ⟨d1, d2, (hv.up hid_le).dp, (hw.up hid_le).dp, s1, s2, q _ H1 (Same.refl _) (.bl _)⟩
theorem xd_neD (hu : X.A.units + 64 < cLine) (ha : XD X M σ H a d1) (hb : XD X M σ H b d2) (s1 : SeqAt.shaped d1 = true) (s2 : SeqAt.shaped d2 = true) : XD X M σ H (.Compare a [.NotEq] [b] pos) (.bool (!PyData.eqv d1 d2)) :=
  xd_cmp (op_neD hu) ha hb fun H1 v w s hv hw Q q => ⟨d1, d2, (hv.up hid_le).dp, (hw.up hid_le).dp, s1, s2, q _ H1 (Same.refl _) (.bl _)⟩
theorem xt_eqD (hu : X.A.units + 64 < cLine) (ha : XD X M σ H a d1) (hb : XD X M σ H b d2) (s1 : SeqAt.shaped d1 = true) (s2 : SeqAt.shaped d2 = true) : XT X σ H (.Compare a [.Eq] [b] pos) (PyData.eqv d1 d2) :=
  xt_cmp (op_eqD hu) ha hb fun H1 v w s hv hw Q q => ⟨d1, d2, (hv.up hid_le).dp, (hw.up hid_le).dp, s1, s2, q H1 (Same.refl _)⟩
theorem xt_neD (hu : X.A.units + 64 < cLine) (ha : XD X M σ H a d1) (hb : XD X M σ H b d2) (s1 : SeqAt.shaped d1 = true) (s2 : SeqAt.shaped d2 = true) : XT X σ H (.Compare a [.NotEq] [b] pos) (!PyData.eqv d1 d2) :=
  xt_cmp (op_neD hu) ha hb fun H1 v w s hv hw Q q => ⟨d1, d2, (hv.up hid_le).dp, (hw.up hid_le).dp, s1, s2, q H1 (Same.refl _)⟩
/-! not, and, or -/
theorem xd_not {k : Bool} (ha : XD X M σ H a (.bool k)) : XD X M σ H (.UnaryOp .Not a pos) (.bool (!k)) := fun H1 s Q q =>
  ⟨_, pe_not re_, ha H1 s _ fun v H2 s2 hv => ⟨k, dp_bl hv, q _ H2 s2 (.bl _)⟩⟩
theorem xd_one {op} (ha : XD X M σ H a d) : XD X M σ H (.BoolOp op [a] pos) d := fun H1 s Q q => ⟨_, pe_one re_, ha H1 s Q q⟩
theorem xd_andT {rest : List Expr} (ha : XD X M σ H a (.bool true)) (hb : XD X M σ H (.BoolOp .And (b :: rest) pos) d) : XD X M σ H (.BoolOp .And (a :: b :: rest) pos) d := fun H1 s Q q =>
  ⟨_, pe_and re_ re_, ha H1 s _ fun v H2 s2 hv => ⟨true, dp_bl hv, iteT (hb H2 (s.trans s2) Q fun u H3 s3 hu => q u H3 (s2.trans s3) hu)⟩⟩
theorem xd_andF {rest : List Expr} (ha : XD X M σ H a (.bool false)) : XD X M σ H (.BoolOp .And (a :: b :: rest) pos) (.bool false) := fun H1 s Q q =>
  ⟨_, pe_and re_ re_, ha H1 s _ fun v H2 s2 hv => ⟨false, dp_bl hv, iteF (q _ H2 s2 (.bl _))⟩⟩
theorem xd_and2 {k1 k2 : Bool} (ha : XD X M σ H a (.bool k1)) (hb : k1 = true → XD X M σ H b (.bool k2)) : XD X M σ H (.BoolOp .And [a, b] pos) (.bool (k1 && k2)) := by
  cases k1 with
  | true => exact xd_andT ha (xd_one (hb rfl))
  | false => exact xd_andF ha
theorem xd_orF {rest : List Expr} (ha : XD X M σ H a (.bool false)) (hb : XD X M σ H (.BoolOp .Or (b :: rest) pos) d) : XD X M σ H (.BoolOp .Or (a :: b :: rest) pos) d := fun H1 s Q q =>
  ⟨_, pe_or re_ re_, ha H1 s _ fun v H2 s2 hv => ⟨false, dp_bl hv, iteF (hb H2 (s.trans s2) Q fun u H3 s3 hu => q u H3 (s2.trans s3) hu)⟩⟩
theorem xd_orT {rest : List Expr} (ha : XD X M σ H a (.bool true)) : XD X M σ H (.BoolOp .Or (a :: b :: rest) pos) (.bool true) := fun H1 s Q q =>
  ⟨_, pe_or re_ re_, ha H1 s _ fun v H2 s2 hv => ⟨true, dp_bl hv, iteT (q _ H2 s2 (.bl _))⟩⟩
theorem xt_val {k : Bool} (h : XD X M σ H e (.bool k)) (he : ∀ whole, isTrue e X.env whole = (do let v ← whole; standAt e.pos; holding [v] (truthy v)) := by intro _; rfl) : XT X σ H e k := fun H1 s Q q =>
  ⟨_, pt_val re_ he, h H1 s _ fun v H2 s2 hv => ⟨k, dp_bl hv, q H2 s2⟩⟩
theorem xt_not {k : Bool} (ha : XT X σ H a k) : XT X σ H (.UnaryOp .Not a pos) (!k) := fun H1 s Q q => ⟨_, pt_not rt_, ha H1 s _ q⟩
theorem xw_and1 {k : Bool} (ha : XT X σ H a k) : XW X σ H (.BoolOp .And [a] pos) k := fun H1 s Q q => ⟨_, pw_and1 rt_, ha H1 s _ q⟩
theorem xw_or1 {k : Bool} (ha : XT X σ H a k) : XW X σ H (.BoolOp .Or [a] pos) k := fun H1 s Q q => ⟨_, pw_or1 rt_, ha H1 s _ q⟩
theorem xw_andT {k : Bool} {rest : List Expr} (ha : XT X σ H a true) (hb : XW X σ H (.BoolOp .And (b :: rest) pos) k) : XW X σ H (.BoolOp .And (a :: b :: rest) pos) k := fun H1 s Q q =>
  ⟨_, pw_and rt_ rw_, ha H1 s _ fun H2 s2 => iteT (hb H2 (s.trans s2) Q fun H3 s3 => q H3 (s2.trans s3))⟩
theorem xw_andF {rest : List Expr} (ha : XT X σ H a false) : XW X σ H (.BoolOp .And (a :: b :: rest) pos) false := fun H1 s Q q =>
  ⟨_, pw_and rt_ rw_, ha H1 s _ fun H2 s2 => iteF (q H2 s2)⟩
theorem xw_orF {k : Bool} {rest : List Expr} (ha : XT X σ H a false) (hb : XW X σ H (.BoolOp .Or (b :: rest) pos) k) : XW X σ H (.BoolOp .Or (a :: b :: rest) pos) k := fun H1 s Q q =>
  ⟨_, pw_or rt_ rw_, ha H1 s _ fun H2 s2 => iteF (hb H2 (s.trans s2) Q fun H3 s3 => q H3 (s2.trans s3))⟩
theorem xw_orT {rest : List Expr} (ha : XT X σ H a true) : XW X σ H (.BoolOp .Or (a :: b :: rest) pos) true := fun H1 s Q q =>
  ⟨_, pw_or rt_ rw_, ha H1 s _ fun H2 s2 => iteT (q H2 s2)⟩
theorem XW.t {k : Bool} (h : XW X σ H e k) : XT X σ H e k := fun H1 s Q q => ⟨_, PW.pt rw_, h H1 s Q q⟩
theorem xt_and2 {k1 k2 : Bool} (ha : XT X σ H a k1) (hb : k1 = true → XT X σ H b k2) : XT X σ H (.BoolOp .And [a, b] pos) (k1 && k2) := by
  cases k1 with
  | true => exact (xw_andT ha (xw_and1 (hb rfl))).t
  | false => exact (xw_andF ha).t
theorem xt_or2 {k1 k2 : Bool} (ha : XT X σ H a k1) (hb : k1 = false → XT X σ H b k2) : XT X σ H (.BoolOp .Or [a, b] pos) (k1 || k2) := by
  cases k1 with
  | false => exact (xw_orF ha (xw_or1 (hb rfl))).t
  | true => exact (xw_orT ha).t
theorem xd_ifT {k : Expr} (hc : XT X σ H k true) (ha : XD X M σ H a d) : XD X M σ H (.IfExp k a b pos) d := fun H1 s Q q =>
  ⟨_, pe_ifExp rt_ re_ re_, hc H1 s _ fun H2 s2 => iteT (ha H2 (s.trans s2) Q fun u H3 s3 hu => q u H3 (s2.trans s3) hu)⟩
theorem xd_ifF {k : Expr} (hc : XT X σ H k false) (hb : XD X M σ H b d) : XD X M σ H (.IfExp k a b pos) d := fun H1 s Q q =>
  ⟨_, pe_ifExp rt_ re_ re_, hc H1 s _ fun H2 s2 => iteF (hb H2 (s.trans s2) Q fun u H3 s3 hu => q u H3 (s2.trans s3) hu)⟩
end
end Dl

set_option Elab.async false
set_option linter.all false
set_option maxRecDepth 100000
set_option maxHeartbeats 4000000
/-! Data layer, part 2: statements, subscripts, built-ins, lists, comprehensions, loops. -/
namespace Dl
open PySem PySem.Spec PyProof.Rows L2
section
variable {X : Cx} {M : List Addr} {σ : L2.St} {H H' : Hp} {e a b c o : Expr} {es : List Expr} {d d1 d2 : PyData} {ds es' : List PyData} {i : Nat} {x : Str} {v : V} {pos p1 p2 p3 : Pos} {D : Ends} {rest sts : List Stmt} {st : Stmt}
theorem XD.go {Q : VK} (h : XD X M σ H e d) (k : ∀ v H2, Same H H2 → Dq X.K (hid M H2) v d → Q v H2) : RE X e σ H Q := h H (Same.refl H) Q k
theorem XL.go {Q : VK} (h : XL X M σ H e ds) (k : ∀ p xs H2, Same H H2 → H p = none → H2 p = some (.lst xs) → DqAll X.K (hid M H2) xs ds → Q (.ref p) H2) : RE X e σ H Q := h H (Same.refl H) Q k
theorem XV.go {Q : VK} (h : XV X σ H e v) (k : ∀ H2, Same H H2 → Q v H2) : RE X e σ H Q := h H (Same.refl H) Q k
theorem XA.go {Q : List V → Hp → Prop} (h : XA X M σ H es ds) (k : ∀ vs H2, Same H H2 → DqAll X.K (hid M H2) vs ds → Q vs H2) : RA X es σ H Q := h H (Same.refl H) Q k
/-! ### statements -/
theorem rb_nil (h : D.nx σ H) : RB X [] D σ H := ⟨_, pss_nil, h⟩
theorem rb_cons (h : RS X st { D with nx := RB X rest D } σ H) : RB X (st :: rest) D σ H := ⟨_, pss_cons rs_ rb_, h⟩
/-- x = e, by the raw reading -/
theorem rb_setR (i : Nat) {x : Str} {pos' : Pos} (h : RE X e σ H fun v H1 => RB X rest D (σ.set i (some v)) H1) (hN : X.N.Nodup) (hi : X.N[i]? = some x := by rfl) (hx : Loc X.env.scope x := by first | exact Or.inl rfl | exact Or.inr rfl)
    (hs : swapsWith e (some (.Name x pos')) pos.line X.env = pure false := by rfl) (hf : X.fn x = true ∨ X.env.scope.names.lookup x = some .local := by first | exact .inl rfl | exact .inr rfl) : RB X (.Assign [.Name x pos'] e pos :: rest) D σ H :=
  ⟨_, pss_cons (ps_set hN hi hx re_ hs hf) rb_, h⟩
theorem rb_set (i : Nat) {x : Str} {pos' : Pos} (h : XD X M σ H e d) (k : ∀ v H1, Same H H1 → Dq X.K (hid M H1) v d → RB X rest D (σ.set i (some v)) H1) (hN : X.N.Nodup) (hi : X.N[i]? = some x := by rfl) (hx : Loc X.env.scope x := by first | exact Or.inl rfl | exact Or.inr rfl)
    (hs : swapsWith e (some (.Name x pos')) pos.line X.env = pure false := by rfl) (hf : X.fn x = true ∨ X.env.scope.names.lookup x = some .local := by first | exact .inl rfl | exact .inr rfl) : RB X (.Assign [.Name x pos'] e pos :: rest) D σ H :=
  rb_setR i (h H (Same.refl H) _ fun v H1 s hv => k v H1 s hv) hN hi hx hs hf
theorem rb_setL (i : Nat) {x : Str} {pos' : Pos} (h : XL X M σ H e ds) (k : ∀ p xs H1, Same H H1 → H p = none → H1 p = some (.lst xs) → DqAll X.K (hid M H1) xs ds → RB X rest D (σ.set i (some (.ref p))) H1) (hN : X.N.Nodup) (hi : X.N[i]? = some x := by rfl) (hx : Loc X.env.scope x := by first | exact Or.inl rfl | exact Or.inr rfl)
    (hs : swapsWith e (some (.Name x pos')) pos.line X.env = pure false := by rfl) (hf : X.fn x = true ∨ X.env.scope.names.lookup x = some .local := by first | exact .inl rfl | exact .inr rfl) : RB X (.Assign [.Name x pos'] e pos :: rest) D σ H :=
  rb_setR i (h H (Same.refl H) _ fun p xs H1 s hp h1 hd => k p xs H1 s hp h1 hd) hN hi hx hs hf
theorem rb_setV (i : Nat) {x : Str} {pos' : Pos} (h : XV X σ H e v) (k : ∀ H1, Same H H1 → RB X rest D (σ.set i (some v)) H1) (hN : X.N.Nodup) (hi : X.N[i]? = some x := by rfl) (hx : Loc X.env.scope x := by first | exact Or.inl rfl | exact Or.inr rfl)
    (hs : swapsWith e (some (.Name x pos')) pos.line X.env = pure false := by rfl) (hf : X.fn x = true ∨ X.env.scope.names.lookup x = some .local := by first | exact .inl rfl | exact .inr rfl) : RB X (.Assign [.Name x pos'] e pos :: rest) D σ H :=
  rb_setR i (h H (Same.refl H) _ fun H1 s => k H1 s) hN hi hx hs hf
theorem rb_retR (h : RE X e σ H D.rt) : RB X (.Return (some e) pos :: rest) D σ H := ⟨_, pss_cons (ps_ret re_) rb_, h⟩
theorem rb_ret (h : XD X M σ H e d) (k : ∀ v H1, Same H H1 → Dq X.K (hid M H1) v d → D.rt v H1) : RB X (.Return (some e) pos :: rest) D σ H := rb_retR (h H (Same.refl H) _ fun v H1 s hv => k v H1 s hv)
theorem rb_exprR (h : RE X e σ H fun _ H1 => RB X rest D σ H1) (hs : swapsWith e none pos.line X.env = pure false := by rfl) : RB X (.Expr e pos :: rest) D σ H := ⟨_, pss_cons (ps_expr re_ hs) rb_, h⟩
theorem rb_expr (h : XD X M σ H e d) (k : ∀ H1, Same H H1 → RB X rest D σ H1) (hs : swapsWith e none pos.line X.env = pure false := by rfl) : RB X (.Expr e pos :: rest) D σ H := rb_exprR (h H (Same.refl H) _ fun _ H1 s _ => k H1 s) hs
theorem rb_ifR {t f : List Stmt} (h : RT X c σ H fun k H1 => if k = true then RB X t { D with nx := RB X rest D } σ H1 else RB X f { D with nx := RB X rest D } σ H1) : RB X (.If c t f pos :: rest) D σ H := ⟨_, pss_cons (ps_if rt_ rb_ rb_) rb_, h⟩
theorem rb_if {k : Bool} {t f : List Stmt} (h : XT X σ H c k) (hT : k = true → ∀ H1, Same H H1 → RB X t { D with nx := RB X rest D } σ H1) (hF : k = false → ∀ H1, Same H H1 → RB X f { D with nx := RB X rest D } σ H1) : RB X (.If c t f pos :: rest) D σ H :=
  rb_ifR (h H (Same.refl H) _ fun H1 s => by
    cases k with
    | true => exact iteT (hT rfl H1 s)
    | false => exact iteF (hF rfl H1 s))
/-- if c: .. (no else) with c false -/
theorem rb_ifF {t : List Stmt} (h : XT X σ H c false) (k : ∀ H1, Same H H1 → RB X rest D σ H1) : RB X (.If c t [] pos :: rest) D σ H := rb_if h (fun z => Bool.noConfusion z) fun _ H1 s => rb_nil (k H1 s)
theorem rb_ifT {t f : List Stmt} (h : XT X σ H c true) (k : ∀ H1, Same H H1 → RB X t { D with nx := RB X rest D } σ H1) : RB X (.If c t f pos :: rest) D σ H := rb_if h (fun _ => k) fun z => Bool.noConfusion z
theorem rb_par (i j : Nat) {x y : Str} {px py pt : Pos} {kt k2 pt2} (ha : XA X M σ H [a, b] [d1, d2]) (k : ∀ v w H1, Same H H1 → Dq X.K (hid M H1) v d1 → Dq X.K (hid M H1) w d2 → RB X rest D ((σ.set i (some v)).set j (some w)) H1) (hN : X.N.Nodup)
    (hw : swappedStores [.Tuple [.Name x px, .Name y py] kt pt] (.Tuple [a, b] k2 pt2) X.env = pure (some [x, y]) := by rfl) (hc : X.calm = true := by rfl) (hi : X.N[i]? = some x := by rfl) (hj : X.N[j]? = some y := by rfl) (hij : i ≠ j := by decide)
    (hx : X.env.scope.names.lookup x = some .local := by rfl) (hy : X.env.scope.names.lookup y = some .local := by rfl)
    (hs : swapsWithSole [.Tuple [.Name x px, .Name y py] kt pt] (.Tuple [a, b] k2 pt2) pos.line X.env = pure false := by rfl) : RB X (.Assign [.Tuple [.Name x px, .Name y py] kt pt] (.Tuple [a, b] k2 pt2) pos :: rest) D σ H :=
  ⟨_, pss_cons (ps_par hc hN hi hj hij hx hy ra_ hw hs) rb_, ha H (Same.refl H) _ fun vs H1 s hv => by
    cases hv with
    | cons h1 h2 => cases h2 with
      | cons h2 h3 => cases h3; exact ⟨_, _, rfl, k _ _ H1 s h1 h2⟩⟩
/-- targets: a name; names of a tuple -/
def RG (X : Cx) (tg : Expr) : TG := fun v σ H Q => ∃ g, PG X tg g ∧ g v σ H Q
theorem rg_ {tg : Expr} : PG X tg (RG X tg) := ⟨fun pins s σ H v u Q I r ⟨_, h, q⟩ => h.run pins s σ H v u Q I r q⟩
def RGs (X : Cx) (tg : List Expr) : TGs := fun v σ H Q => ∃ g, PGs X tg g ∧ g v σ H Q
theorem rgs_ {tg : List Expr} : PGs X tg (RGs X tg) := ⟨fun pins s σ H v u Q I r ⟨_, h, q⟩ => h.run pins s σ H v u Q I r q⟩
theorem rg_name (i : Nat) {x : Str} {Q : L2.St → Hp → Prop} (q : Q (σ.set i (some v)) H) (hN : X.N.Nodup) (hi : X.N[i]? = some x := by rfl) (hx : Loc X.env.scope x := by first | exact Or.inl rfl | exact Or.inr rfl) (hf : X.fn x = true ∨ X.env.scope.names.lookup x = some .local := by first | exact .inl rfl | exact .inr rfl) :
    RG X (.Name x pos) v σ H Q := ⟨_, pg_name hN hi hx hf, q⟩
theorem rgs_nil {Q : L2.St → Hp → Prop} (q : Q σ H) : RGs X [] [] σ H Q := ⟨_, pgs_nil, rfl, q⟩
theorem rgs_cons {tg : Expr} {tgs : List Expr} {vs : List V} {Q : L2.St → Hp → Prop} (h : RG X tg v σ H fun σ1 H1 => RGs X tgs vs σ1 H1 Q) (hs : (assignEach (tg :: tgs) X.env).map (·.2) = assign tg X.env :: (assignEach tgs X.env).map (·.2) := by rfl) : RGs X (tg :: tgs) (v :: vs) σ H Q :=
  ⟨_, pgs_cons rg_ rgs_ hs, v, vs, rfl, h⟩
theorem rg_tup {tgs : List Expr} {k : Nat} {xs : List V} {p : Addr} {Q : L2.St → Hp → Prop} (hT : SqT X.K H p xs) (h : RGs X tgs xs σ H Q) (hc : X.calm = true := by rfl)
    (hn : (assignEach tgs X.env).length = xs.length := by rfl) (hst : (assignEach tgs X.env).findIdx? (·.1) = none := by rfl) : RG X (.Tuple tgs k pos) (.ref p) σ H Q := ⟨_, pg_tup (n := xs.length) hc rgs_ hn hst, p, xs, rfl, hT, rfl, h⟩
theorem rb_asgR {tg : Expr} (h : RE X e σ H fun v H1 => RG X tg v σ H1 (RB X rest D)) (hs : swapsWithSole [tg] e pos.line X.env = pure false := by rfl) (hw : swappedStores [tg] e X.env = pure none := by rfl)
    (h1 : (assignEach [tg] X.env).map (·.2) = [assign tg X.env] := by rfl) : RB X (.Assign [tg] e pos :: rest) D σ H := ⟨_, pss_cons (ps_asg re_ rg_ hs hw h1) rb_, h⟩
/-! ### calls of built-ins -/
theorem re_B {id : String} {r : List V → Hp → VK → Prop} {Q : VK} (hc : CallR X (.builtin id) r) (h : RA X (e :: es) σ H fun vs H1 => r vs H1 Q) (hm : X.mg x = none) (hv : bootBuiltins x = some (.builtin id)) (hg : Gl X x := by rfl) (hn : x ≠ "__name__" := by decide) (hdb : (x == ("__debug__" : Str)) = false := by decide)
    (he : starEach (e :: es) X.env = (false, eval e X.env) :: starEach es X.env := by rfl) (hpl : (backTo pos (starEach es X.env)).any (·.1) = false := by rfl) : RE X (.Call (.Name x p1) (e :: es) [] pos) σ H Q := ⟨_, pe_callB hc hg hm hv ra_ hn hdb he hpl, h⟩
theorem re_Ty {T : String} {r : List V → Hp → VK → Prop} {Q : VK} (hc : CallR X (.type T) r) (h : RA X (e :: es) σ H fun vs H1 => r vs H1 Q) (hm : X.mg x = none) (hv : bootBuiltins x = some (.type T)) (hg : Gl X x := by rfl) (hn : x ≠ "__name__" := by decide) (hdb : (x == ("__debug__" : Str)) = false := by decide)
    (he : starEach (e :: es) X.env = (false, eval e X.env) :: starEach es X.env := by rfl) (hpl : (backTo pos (starEach es X.env)).any (·.1) = false := by rfl) : RE X (.Call (.Name x p1) (e :: es) [] pos) σ H Q := ⟨_, pe_callTy hc hg hm hv ra_ hn hdb he hpl, h⟩
theorem ra_nil {Q : List V → Hp → Prop} (q : Q [] H) : RA X [] σ H Q := ⟨_, pa_nil, q⟩
theorem ra_cons {Q : List V → Hp → Prop} (h : RE X e σ H fun v H1 => RA X es σ H1 fun vs H2 => Q (v :: vs) H2) (hs : starEach (e :: es) X.env = (false, eval e X.env) :: starEach es X.env := by rfl) : RA X (e :: es) σ H Q := ⟨_, pa_cons re_ ra_ hs, h⟩
end
end Dl

set_option Elab.async false
set_option linter.all false
set_option maxRecDepth 100000
set_option maxHeartbeats 4000000
/-! Data layer, part 3: built-ins, subscripts, lists, loops, comprehensions. -/
namespace Dl
open PySem PySem.Spec PyProof.Rows L2
section
variable {X : Cx} {M : List Addr} {σ : L2.St} {H H' : Hp} {e a b c o : Expr} {es : List Expr} {d d1 d2 : PyData} {ds ds2 es' : List PyData} {x : Str} {v : V} {pos p1 p2 p3 : Pos} {D : Ends} {rest sts : List Stmt} {st : Stmt}
theorem re_mono {Q Q' : VK} (h : RE X e σ H Q) (k : ∀ v H1, Q v H1 → Q' v H1) : RE X e σ H Q' := by
  obtain ⟨t, ht, q⟩ := h
  exact ⟨fun σ H Q' => ∃ Q, t σ H Q ∧ ∀ v H1, Q v H1 → Q' v H1, ⟨fun pins s σ H Q' I ⟨Q, q, k⟩ => thn (ht.run pins s σ H Q I q) fun u s' ⟨v, H1, I1, r1, q1⟩ => ⟨v, H1, I1, r1, k v H1 q1⟩⟩, Q, q, k⟩
theorem ra_mono {Q Q' : List V → Hp → Prop} (h : RA X es σ H Q) (k : ∀ v H1, Q v H1 → Q' v H1) : RA X es σ H Q' := by
  obtain ⟨t, ht, q⟩ := h
  exact ⟨fun σ H Q' => ∃ Q, t σ H Q ∧ ∀ v H1, Q v H1 → Q' v H1, ⟨fun pos pins s σ H Q' I ⟨Q, q, k⟩ => thn (ht.run pos pins s σ H Q I q) fun u s' ⟨v, H1, I1, r1, q1⟩ => ⟨v, H1, I1, r1, k v H1 q1⟩⟩, Q, q, k⟩
theorem rb_mono {D D' : Ends} (h : RB X sts D σ H) (h1 : ∀ σ H, D.nx σ H → D'.nx σ H) (h2 : ∀ v H, D.rt v H → D'.rt v H) (h3 : ∀ σ H, D.bk σ H → D'.bk σ H) (h4 : ∀ σ H, D.ct σ H → D'.ct σ H) : RB X sts D' σ H := by
  obtain ⟨t, ht, q⟩ := h
  refine ⟨fun D' σ H => ∃ D, t D σ H ∧ (∀ σ H, D.nx σ H → D'.nx σ H) ∧ (∀ v H, D.rt v H → D'.rt v H) ∧ (∀ σ H, D.bk σ H → D'.bk σ H) ∧ (∀ σ H, D.ct σ H → D'.ct σ H), ⟨fun pins s σ H D' I ⟨D, q, h1, h2, h3, h4⟩ => thn (ht.run pins s σ H D I q) fun f s' hs => ?_⟩, D, q, h1, h2, h3, h4⟩
  cases f with
  | next => obtain ⟨σ', H', I', q⟩ := hs; exact ⟨σ', H', I', h1 _ _ q⟩
  | brk => obtain ⟨σ', H', I', q⟩ := hs; exact ⟨σ', H', I', h3 _ _ q⟩
  | cont => obtain ⟨σ', H', I', q⟩ := hs; exact ⟨σ', H', I', h4 _ _ q⟩
  | ret u => obtain ⟨v, σ', H', I', r, q⟩ := hs; exact ⟨v, σ', H', I', r, h2 _ _ q⟩
theorem ra_1 {Q : List V → Hp → Prop} (h : RE X e σ H fun v H1 => Q [v] H1) (hs : starEach [e] X.env = (false, eval e X.env) :: starEach [] X.env := by rfl) : RA X [e] σ H Q := ra_cons (re_mono h fun v H1 q => ra_nil q) hs
/-- a call of a built-in whose reading asks nothing but data -/
theorem xd_B {id : String} {r : List V → Hp → VK → Prop} (hc : CallR X (.builtin id) r) (ha : XA X M σ H (e :: es) ds)
    (hr : ∀ H1 vs, Same H H1 → DqAll X.K (hid M H1) vs ds → ∀ Q : VK, (∀ u H2, Same H1 H2 → Dq X.K (hid M H2) u d → Q u H2) → r vs H1 Q) (hm : X.mg x = none) (hv : bootBuiltins x = some (.builtin id)) (hg : Gl X x := by rfl) (hn : x ≠ "__name__" := by decide) (hdb : (x == ("__debug__" : Str)) = false := by decide)
    (he : starEach (e :: es) X.env = (false, eval e X.env) :: starEach es X.env := by rfl) (hpl : (backTo pos (starEach es X.env)).any (·.1) = false := by rfl) : XD X M σ H (.Call (.Name x p1) (e :: es) [] pos) d := fun H1 s Q q =>
  re_B hc (ha H1 s _ fun vs H2 s2 hvs => hr H2 vs (s.trans s2) hvs Q fun u H3 s3 hu => q u H3 (s2.trans s3) hu) hm hv hg hn hdb he hpl
theorem xd_len (hm : X.mg "len" = none) (ha : XD X M σ H e (.list ds)) (hg : Gl X "len" := by rfl) (he : starEach [e] X.env = (false, eval e X.env) :: starEach [] X.env := by rfl) (hpl : (backTo pos (starEach [] X.env)).any (·.1) = false := by rfl) :
    XD X M σ H (.Call (.Name "len" p1) [e] [] pos) (.int ds.length) :=
  xd_B call_len_seq (xa_cons ha xa_nil he) (fun H1 vs s h Q q => by
    cases h with
    | cons h1 h2 =>
      cases h2
      obtain ⟨p, xs, rfl, hp, hx⟩ := dp_lst h1
      exact ⟨p, xs, rfl, .inl (SqL.of (hid_le _ _ hp)), by rw [dpa_len hx]; exact q _ _ (Same.refl _) (.int _)⟩) hm PySem.boot_len hg (by decide) (by decide) he hpl
theorem xd_lenT (hm : X.mg "len" = none) (ha : XD X M σ H e (.tuple ds)) (hg : Gl X "len" := by rfl) (he : starEach [e] X.env = (false, eval e X.env) :: starEach [] X.env := by rfl) (hpl : (backTo pos (starEach [] X.env)).any (·.1) = false := by rfl) :
    XD X M σ H (.Call (.Name "len" p1) [e] [] pos) (.int ds.length) :=
  xd_B call_len_seq (xa_cons ha xa_nil he) (fun H1 vs s h Q q => by
    cases h with
    | cons h1 h2 =>
      cases h2
      obtain ⟨p, xs, rfl, hp, hx⟩ := dp_tup h1
      exact ⟨p, xs, rfl, .inr (same_seqT hid_le hp), by rw [dpa_len hx]; exact q _ _ (Same.refl _) (.int _)⟩) hm PySem.boot_len hg (by decide) (by decide) he hpl
theorem xd_abs {n : Int} (hm : X.mg "abs" = none) (ha : XD X M σ H e (.int n)) (hg : Gl X "abs" := by rfl) (he : starEach [e] X.env = (false, eval e X.env) :: starEach [] X.env := by rfl) (hpl : (backTo pos (starEach [] X.env)).any (·.1) = false := by rfl) :
    XD X M σ H (.Call (.Name "abs" p1) [e] [] pos) (.int (if n < 0 then -n else n)) :=
  xd_B call_abs (xa_cons ha xa_nil he) (fun H1 vs s h Q q => by
    cases h with
    | cons h1 h2 => cases h2; exact ⟨n, by rw [dp_int h1], q _ _ (Same.refl _) (.int _)⟩) hm (by decide +kernel) hg (by decide) (by decide) he hpl
theorem xd_max {m n : Int} (hm : X.mg "max" = none) (ha : XA X M σ H [a, b] [.int m, .int n]) (hc : X.calm = true := by rfl) (hg : Gl X "max" := by rfl) (he : starEach [a, b] X.env = (false, eval a X.env) :: starEach [b] X.env := by rfl) (hpl : (backTo pos (starEach [b] X.env)).any (·.1) = false := by rfl) :
    XD X M σ H (.Call (.Name "max" p1) [a, b] [] pos) (.int (if n > m then n else m)) :=
  xd_B (call_max2 hc) ha (fun H1 vs s h Q q => by
    cases h with
    | cons h1 h2 => cases h2 with
      | cons h2 h3 => cases h3; exact ⟨m, n, by rw [dp_int h1, dp_int h2], q _ _ (Same.refl _) (.int _)⟩) hm (by decide +kernel) hg (by decide) (by decide) he hpl
theorem xd_min {m n : Int} (hm : X.mg "min" = none) (ha : XA X M σ H [a, b] [.int m, .int n]) (hc : X.calm = true := by rfl) (hg : Gl X "min" := by rfl) (he : starEach [a, b] X.env = (false, eval a X.env) :: starEach [b] X.env := by rfl) (hpl : (backTo pos (starEach [b] X.env)).any (·.1) = false := by rfl) :
    XD X M σ H (.Call (.Name "min" p1) [a, b] [] pos) (.int (if n < m then n else m)) :=
  xd_B (call_min2 hc) ha (fun H1 vs s h Q q => by
    cases h with
    | cons h1 h2 => cases h2 with
      | cons h2 h3 => cases h3; exact ⟨m, n, by rw [dp_int h1, dp_int h2], q _ _ (Same.refl _) (.int _)⟩) hm (by decide +kernel) hg (by decide) (by decide) he hpl
/-- list(x) of a list, of a tuple -/
theorem xl_listT (hm : X.mg "list" = none) (L : Live M H) (ha : XD X M σ H e (.tuple ds)) (hg : Gl X "list" := by rfl) (he : starEach [e] X.env = (false, eval e X.env) :: starEach [] X.env := by rfl) (hpl : (backTo pos (starEach [] X.env)).any (·.1) = false := by rfl) :
    XL X M σ H (.Call (.Name "list" p1) [e] [] pos) ds := fun H1 s Q q =>
  re_Ty call_list_of (ra_1 (ha H1 s _ fun v H2 s2 hv => by
    obtain ⟨p, xs, rfl, hp, hx⟩ := dp_tup hv
    refine ⟨p, xs, rfl, .inr (same_seqT hid_le hp), fun l hl => q l xs _ (s2.trans (same_new hl)) (s2.free hl) upd_same ?_⟩
    rw [hid_new (L.mono (s.trans s2)) hl]
    exact hx.up (same_new (hid_free hl))) he) hm (by decide +kernel) hg (by decide) (by decide) he hpl
theorem xl_listL (hm : X.mg "list" = none) (L : Live M H) (ha : XD X M σ H e (.list ds)) (hg : Gl X "list" := by rfl) (he : starEach [e] X.env = (false, eval e X.env) :: starEach [] X.env := by rfl) (hpl : (backTo pos (starEach [] X.env)).any (·.1) = false := by rfl) :
    XL X M σ H (.Call (.Name "list" p1) [e] [] pos) ds := fun H1 s Q q =>
  re_Ty call_list_of (ra_1 (ha H1 s _ fun v H2 s2 hv => by
    obtain ⟨p, xs, rfl, hp, hx⟩ := dp_lst hv
    refine ⟨p, xs, rfl, .inl (SqL.of (hid_le _ _ hp)), fun l hl => q l xs _ (s2.trans (same_new hl)) (s2.free hl) upd_same ?_⟩
    rw [hid_new (L.mono (s.trans s2)) hl]
    exact hx.up (same_new (hid_free hl))) he) hm (by decide +kernel) hg (by decide) (by decide) he hpl
/-- tuple(x) of a list -/
theorem xd_tupleL (hm : X.mg "tuple" = none) (L : Live M H) (ha : XD X M σ H e (.list ds)) (hg : Gl X "tuple" := by rfl) (he : starEach [e] X.env = (false, eval e X.env) :: starEach [] X.env := by rfl) (hpl : (backTo pos (starEach [] X.env)).any (·.1) = false := by rfl) :
    XD X M σ H (.Call (.Name "tuple" p1) [e] [] pos) (.tuple ds) := fun H1 s Q q =>
  re_Ty call_tuple_of (ra_1 (ha H1 s _ fun v H2 s2 hv => by
    obtain ⟨p, xs, rfl, hp, hx⟩ := dp_lst hv
    refine ⟨p, xs, rfl, .inl ⟨SqL.of (hid_le _ _ hp), fun l hl => q _ _ (s2.trans (same_new hl)) ?_⟩⟩
    rw [hid_new (L.mono (s.trans s2)) hl]
    exact .tup (SqT.of upd_same) (hx.up (same_new (hid_free hl)))) he) hm (by decide +kernel) hg (by decide) (by decide) he hpl
theorem xd_intB {k : Bool} (hm : X.mg "int" = none) (ha : XD X M σ H e (.bool k)) (hg : Gl X "int" := by rfl) (he : starEach [e] X.env = (false, eval e X.env) :: starEach [] X.env := by rfl) (hpl : (backTo pos (starEach [] X.env)).any (·.1) = false := by rfl) :
    XD X M σ H (.Call (.Name "int" p1) [e] [] pos) (.int (if k then 1 else 0)) := fun H1 s Q q =>
  re_Ty call_int1 (ra_1 (ha H1 s _ fun v H2 s2 hv => .inr ⟨k, by rw [dp_bl hv], q _ _ s2 (.int _)⟩) he) hm (by decide +kernel) hg (by decide) (by decide) he hpl
/-! ### subscripts -/
theorem atI_map {α β : Type} {xs : List α} {ys : List β} {P : α → β → Prop} (hl : xs.length = ys.length) (hg : ∀ (i : Nat) (y : β), ys[i]? = some y → ∃ x, xs[i]? = some x ∧ P x y) {n : Int} {y : β} (h : atI ys n = some y) : ∃ x, atI xs n = some x ∧ P x y := by
  unfold atI at h ⊢
  rw [hl]
  cases e : ixN ys.length n with
  | none => rw [e] at h; cases h
  | some j =>
    rw [e] at h
    exact hg j y h
theorem xd_ixL {n : Int} (hs : PlainIx b) (ha : XD X M σ H a (.list ds)) (hb : XD X M σ H b (.int n)) (h : atI ds n = some d) : XD X M σ H (.Subscript a b pos) d := fun H1 s Q q =>
  ⟨_, pe_ix ix_list re_ re_ hs, ha H1 s _ fun v H2 s2 hv => hb H2 (s.trans s2) _ fun w H3 s3 hw => by
    obtain ⟨p, xs, rfl, hp, hx⟩ := dp_lst (hv.up (hid_mono s3))
    obtain ⟨u, hu, hd⟩ := atI_map (dpa_len hx) (fun i y h => dpa_get hx h) h
    exact ⟨p, xs, n, u, rfl, dp_int hw, SqL.of (hid_le _ _ hp), hu, q u H3 (s2.trans s3) hd⟩⟩
theorem xd_ixT {n : Int} (hs : PlainIx b) (ha : XD X M σ H a (.tuple ds)) (hb : XD X M σ H b (.int n)) (h : atI ds n = some d) : XD X M σ H (.Subscript a b pos) d := fun H1 s Q q =>
  ⟨_, pe_ix ix_tup re_ re_ hs, ha H1 s _ fun v H2 s2 hv => hb H2 (s.trans s2) _ fun w H3 s3 hw => by
    obtain ⟨p, xs, rfl, hp, hx⟩ := dp_tup (hv.up (hid_mono s3))
    obtain ⟨u, hu, hd⟩ := atI_map (dpa_len hx) (fun i y h => dpa_get hx h) h
    exact ⟨p, xs, n, u, rfl, dp_int hw, same_seqT hid_le hp, hu, q u H3 (s2.trans s3) hd⟩⟩
/-- xs[lo:hi] of a list -/
def XO (X : Cx) (σ : L2.St) (H : Hp) (e : Option Expr) (n : Option Int) : Prop := ∀ H1, Same H H1 → ∀ Q : Option Int → Hp → Prop, (∀ H2, Same H1 H2 → Q n H2) → ∃ t, PO X e t ∧ t σ H1 Q
theorem xo_none : XO X σ H none none := fun H1 s Q q => ⟨_, po_none, q H1 (Same.refl _)⟩
theorem xo_some {n : Int} (h : XD X M σ H e (.int n)) : XO X σ H (some e) (some n) := fun H1 s Q q => ⟨_, po_some re_, h H1 s _ fun v H2 s2 hv => ⟨n, dp_int hv, q H2 s2⟩⟩
def cutD (xs : List PyData) (lo hi : Option Int) : List PyData := (xs.drop (HT.sIx xs.length 0 lo)).take (HT.sIx xs.length xs.length hi - HT.sIx xs.length 0 lo)
def RO (X : Cx) (e : Option Expr) : L2.St → Hp → (Option Int → Hp → Prop) → Prop := fun σ H Q => ∃ t, PO X e t ∧ t σ H Q
theorem ro_ {e : Option Expr} : PO X e (RO X e) := ⟨fun pins s σ H Q I ⟨_, h, q⟩ => h.run pins s σ H Q I q⟩
theorem xl_cut {lo hi : Option Expr} {m n : Option Int} (L : Live M H) (ha : XD X M σ H a (.list ds)) (hl : XO X σ H lo m) (hu : XO X σ H hi n) : XL X M σ H (.Subscript a (.Slice lo hi none p2) pos) (cutD ds m n) := fun H1 s Q q =>
  ⟨_, pe_slice sl_list re_ ro_ ro_, ha H1 s _ fun v H2 s2 hv => hl H2 (s.trans s2) _ fun H3 s3 => hu H3 ((s.trans s2).trans s3) _ fun H4 s4 => by
    obtain ⟨p, xs, rfl, hp, hx⟩ := dp_lst (hv.up (hid_mono (s3.trans s4)))
    refine ⟨p, xs, rfl, SqL.of (hid_le _ _ hp), fun l hl => q l _ _ ((s2.trans (s3.trans s4)).trans (same_new hl)) ((s2.trans (s3.trans s4)).free hl) upd_same ?_⟩
    rw [hid_new (L.mono (s.trans (s2.trans (s3.trans s4)))) hl]
    have hz := dpa_len hx
    unfold cutV cutD
    rw [hz]
    exact (dpa_take _ (dpa_drop _ hx)).up (same_new (hid_free hl))⟩
/-! ### lists -/
theorem xl_cat (L : Live M H) (ha : XD X M σ H a (.list ds)) (hb : XD X M σ H b (.list ds2)) (hz : ds.length + ds2.length ≤ 100000) : XL X M σ H (.BinOp a .Add b pos) (ds ++ ds2) := fun H1 s Q q =>
  ⟨_, pe_op op_cat re_ re_, ha H1 s _ fun v H2 s2 hv => hb H2 (s.trans s2) _ fun w H3 s3 hw => by
    obtain ⟨p, xs, rfl, hp, hx⟩ := dp_lst (hv.up (hid_mono s3))
    obtain ⟨p', ys, rfl, hp', hy⟩ := dp_lst hw
    refine ⟨p, p', xs, ys, rfl, rfl, hid_le _ _ hp, hid_le _ _ hp', by rw [dpa_len hx, dpa_len hy]; exact small_sz hz, fun l hl => q l _ _ ((s2.trans s3).trans (same_new hl)) ((s2.trans s3).free hl) upd_same ?_⟩
    rw [hid_new (L.mono ((s.trans s2).trans s3)) hl]
    exact (dpa_app hx hy).up (same_new (hid_free hl))⟩
/-- l.append(e), l one of M's lists -/
theorem rb_append {l : Addr} {xs : List V} (hl : l ∈ M) (ho : XV X σ H o (.ref l)) (h1 : H l = some (.lst xs)) (he : XD X M σ H e d) (hz : xs.length < 100000) (k : ∀ v H1, Same H H1 → Dq X.K (hid M H1) v d → RB X rest D σ (upd H1 l (.lst (xs ++ [v]))))
    (hbase : attributeBase o "append" X.env (eval o X.env) = eval o X.env := by rfl)
    (hfew : ((backTo p2 (starEach [e] X.env)).all (fun x => !x.1) && (backToKw p2 (keywordEach [] X.env)).all (fun x => x.1.isSome) && decide ([e].length + ([] : List Keyword).length + (if ([] : List Keyword).isEmpty then 0 else 1) < 30)) = true := by rfl)
    (hline : (p1.endLine == p2.line) = true := by rfl) (hs : starEach [e] X.env = (false, eval e X.env) :: starEach [] X.env := by rfl) (hplain : (backTo p2 (starEach [] X.env)).any (·.1) = false := by rfl)
    (hsw : swapsWith (.Call (.Attribute o "append" p1) [e] [] p2) none pos.line X.env = pure false := by rfl) : RB X (.Expr (.Call (.Attribute o "append" p1) [e] [] p2) pos :: rest) D σ H :=
  rb_exprR ⟨_, pe_bm PySem.F.plainAttrs_list PySem.F.slot_list_append PySem.F.type_list_append mt_append re_ ra_ hbase hfew hline hs hplain,
    ho H (Same.refl H) _ fun H1 s1 => ⟨.inl ⟨rfl, xs, SqL.of (s1 _ _ h1)⟩, ra_1 (he H1 s1 _ fun v H2 s2 hv => ⟨l, xs, v, rfl, rfl, (s1.trans s2) _ _ h1, Nat.lt_of_lt_of_le hz (by decide), k v H2 (s1.trans s2) hv⟩) hs⟩⟩ hsw
/-- l.extend(e) -/
theorem rb_extend {l : Addr} {xs : List V} (hl : l ∈ M) (ho : XV X σ H o (.ref l)) (h1 : H l = some (.lst xs)) (he : XD X M σ H e (.list ds)) (hz : xs.length + ds.length ≤ 100000) (k : ∀ vs H1, Same H H1 → DqAll X.K (hid M H1) vs ds → RB X rest D σ (upd H1 l (.lst (xs ++ vs))))
    (hbase : attributeBase o "extend" X.env (eval o X.env) = eval o X.env := by rfl)
    (hfew : ((backTo p2 (starEach [e] X.env)).all (fun x => !x.1) && (backToKw p2 (keywordEach [] X.env)).all (fun x => x.1.isSome) && decide ([e].length + ([] : List Keyword).length + (if ([] : List Keyword).isEmpty then 0 else 1) < 30)) = true := by rfl)
    (hline : (p1.endLine == p2.line) = true := by rfl) (hs : starEach [e] X.env = (false, eval e X.env) :: starEach [] X.env := by rfl) (hplain : (backTo p2 (starEach [] X.env)).any (·.1) = false := by rfl)
    (hsw : swapsWith (.Call (.Attribute o "extend" p1) [e] [] p2) none pos.line X.env = pure false := by rfl) : RB X (.Expr (.Call (.Attribute o "extend" p1) [e] [] p2) pos :: rest) D σ H :=
  rb_exprR ⟨_, pe_bm PySem.F.plainAttrs_list PySem.F.slot_list_extend PySem.F.type_list_extend mt_extend re_ ra_ hbase hfew hline hs hplain,
    ho H (Same.refl H) _ fun H1 s1 => ⟨.inl ⟨rfl, xs, SqL.of (s1 _ _ h1)⟩, ra_1 (he H1 s1 _ fun v H2 s2 hv => by
      obtain ⟨b, ys, rfl, hb, hy⟩ := dp_lst hv
      exact ⟨l, b, xs, ys, rfl, rfl, (s1.trans s2) _ _ h1, hid_le _ _ hb, by rw [dpa_len hy]; exact small_sz hz, k ys H2 (s1.trans s2) hy⟩) hs⟩⟩ hsw
/-! ### loops -/
/-- for tg in e: .., e a list; Pv: by the turn; the known part must stand -/
theorem rb_for {tg : Expr} {body : List Stmt} (hit : XD X M σ H e (.list ds))
    (h : ∀ H1, Same H H1 → ∃ Pv : Nat → L2.St → Hp → Prop, Pv 0 σ H1 ∧ (∀ k σ' H', Pv k σ' H' → Same (hid M H1) (hid M H')) ∧
      (∀ k d, ds[k]? = some d → ∀ σ' H' v, Pv k σ' H' → Dq X.K (hid M H') v d → RG X tg v σ' H' fun σ2 H2 => RB X body { D with nx := Pv (k + 1), ct := Pv (k + 1), bk := RB X rest D } σ2 H2) ∧ ∀ σ' H', Pv ds.length σ' H' → RB X rest D σ' H')
    (hp : PassesOwn (model X.prog X.w) X.A X.env X.xe := by exact PassesOwn.never) (hc : X.calm = true := by rfl) (hs : ∀ x, foldedSetIterable e X.env x = pure x := by intro _; rfl) : RB X (.For tg e body [] pos :: rest) D σ H :=
  ⟨_, pss_cons (ps_for hp hc (pi_list re_) rg_ rb_ hs) rb_, hit H (Same.refl H) _ fun v H1 s1 hv => by
    obtain ⟨a, xs, rfl, ha, hx⟩ := dp_lst hv
    obtain ⟨Pv, h0, hk, hst, hd⟩ := h H1 s1
    refine ⟨a, rfl, ⟨xs, SqL.of (hid_le _ _ ha)⟩, for_list (xs := xs) Pv h0 (fun i σ' H' _ p => SqL.of (hid_le _ _ (hk i σ' H' p _ _ ha))) (fun i x σ' H' hi p => ?_) (by rw [dpa_len hx]; exact hd)⟩
    obtain ⟨d, h1, h2⟩ := dpa_get' hx hi
    exact hst i d h1 σ' H' x p (h2.up (hk i σ' H' p))⟩
theorem rb_forT {tg : Expr} {body : List Stmt} (hit : XD X M σ H e (.tuple ds))
    (h : ∀ H1, Same H H1 → ∃ Pv : Nat → L2.St → Hp → Prop, Pv 0 σ H1 ∧ (∀ k σ' H', Pv k σ' H' → Same (hid M H1) (hid M H')) ∧
      (∀ k d, ds[k]? = some d → ∀ σ' H' v, Pv k σ' H' → Dq X.K (hid M H') v d → RG X tg v σ' H' fun σ2 H2 => RB X body { D with nx := Pv (k + 1), ct := Pv (k + 1), bk := RB X rest D } σ2 H2) ∧ ∀ σ' H', Pv ds.length σ' H' → RB X rest D σ' H')
    (hp : PassesOwn (model X.prog X.w) X.A X.env X.xe := by exact PassesOwn.never) (hc : X.calm = true := by rfl) (hs : ∀ x, foldedSetIterable e X.env x = pure x := by intro _; rfl) : RB X (.For tg e body [] pos :: rest) D σ H :=
  ⟨_, pss_cons (ps_for hp hc (pi_tup re_) rg_ rb_ hs) rb_, hit H (Same.refl H) _ fun v H1 s1 hv => by
    obtain ⟨a, xs, rfl, ha, hx⟩ := dp_tup hv
    obtain ⟨Pv, h0, hk, hst, hd⟩ := h H1 s1
    refine ⟨a, rfl, ⟨xs, same_seqT hid_le ha⟩, for_tup (xs := xs) Pv h0 (fun i σ' H' _ p => same_seqT hid_le (same_seqT (hk i σ' H' p) ha)) (fun i x σ' H' hi p => ?_) (by rw [dpa_len hx]; exact hd)⟩
    obtain ⟨d, h1, h2⟩ := dpa_get' hx hi
    exact hst i d h1 σ' H' x p (h2.up (hk i σ' H' p))⟩
/-- for tg in range(e): .. -/
theorem rb_range {tg : Expr} {body : List Stmt} (hm : X.mg "range" = none) (hit : RE X e σ H fun v H1 => ∃ n : Nat, v = .int (n : Int) ∧ n < 2 ^ 61 ∧ ∃ Pv : Nat → L2.St → Hp → Prop, Pv 0 σ H1 ∧
      (∀ k σ' H', k < n → Pv k σ' H' → RG X tg (.int (k : Int)) σ' H' fun σ2 H2 => RB X body { D with nx := Pv (k + 1), ct := Pv (k + 1), bk := RB X rest D } σ2 H2) ∧ ∀ σ' H', Pv n σ' H' → RB X rest D σ' H')
    (hg : Gl X "range" := by rfl) (he : starEach [e] X.env = [(false, eval e X.env)] := by rfl) (hp : PassesOwn (model X.prog X.w) X.A X.env X.xe := by exact PassesOwn.never) (hc : X.calm = true := by rfl)
    (hs : ∀ x, foldedSetIterable (.Call (.Name "range" p1) [e] [] p2) X.env x = pure x := by intro _; rfl) : RB X (.For tg (.Call (.Name "range" p1) [e] [] p2) body [] pos :: rest) D σ H :=
  ⟨_, pss_cons (ps_for hp hc (pi_range1 hg hm ra_ he) rg_ rb_ hs) rb_, ra_1 (re_mono hit fun v H1 ⟨n, ev, hn, Pv, h0, hst, hd⟩ => by
    refine ⟨(n : Int), by rw [ev], by omega, by omega, ?_⟩
    rw [Int.toNat_natCast]
    refine for_range Pv h0 (fun i σ' H' hi p => ?_) hd
    rw [Int.zero_add]
    exact hst i σ' H' hi p) he⟩
end
/-! ### comprehensions -/
/-- what is read within a comprehension -/
def BE (X : Cx) (scope : Scope) (e : Expr) : TE := fun σ H Q => ∀ (s : Shared) (H0 : Hp) (C : Addr) (cl : List (Str × Addr)) (fp : List Addr), RE (X.blk s H0 scope (compEnvC scope cl C X.env) fp) e σ H Q
def BG (X : Cx) (scope : Scope) (e : Expr) : TG := fun v σ H Q => ∀ (s : Shared) (H0 : Hp) (C : Addr) (cl : List (Str × Addr)) (fp : List Addr), RG (X.blk s H0 scope (compEnvC scope cl C X.env) fp) e v σ H Q
def BT (X : Cx) (scope : Scope) (es : List Expr) : TT := fun σ H Q => ∀ (s : Shared) (H0 : Hp) (C : Addr) (cl : List (Str × Addr)) (fp : List Addr), ∃ t, PTs (X.blk s H0 scope (compEnvC scope cl C X.env) fp) es t ∧ t σ H Q
section
variable {X : Cx} {M : List Addr} {σ : L2.St} {H H' : Hp} {e a b c o elt tg iter : Expr} {ifs : List Expr} {scope : Scope} {own : List (Str × Nat)} {es : List Expr} {d d1 d2 : PyData} {ds ds2 es' : List PyData} {x : Str} {v : V} {pos p1 p2 p3 : Pos}
theorem be_ {s : Shared} {H0 : Hp} {C : Addr} {cl : List (Str × Addr)} {fp : List Addr} : PE (X.blk s H0 scope (compEnvC scope cl C X.env) fp) e (BE X scope e) := ⟨fun pins s' σ H Q I h => by
  obtain ⟨_, ht, q⟩ := h s H0 C cl fp
  exact ht.run pins s' σ H Q I q⟩
theorem bg_ {s : Shared} {H0 : Hp} {C : Addr} {cl : List (Str × Addr)} {fp : List Addr} : PG (X.blk s H0 scope (compEnvC scope cl C X.env) fp) e (BG X scope e) := ⟨fun pins s' σ H v u Q I r h => by
  obtain ⟨_, ht, q⟩ := h s H0 C cl fp
  exact ht.run pins s' σ H v u Q I r q⟩
theorem bt_ {s : Shared} {H0 : Hp} {C : Addr} {cl : List (Str × Addr)} {fp : List Addr} : PTs (X.blk s H0 scope (compEnvC scope cl C X.env) fp) es (BT X scope es) := ⟨fun pins s' σ H Q I h => by
  obtain ⟨_, ht, q⟩ := h s H0 C cl fp
  exact ht.run pins s' σ H Q I q⟩
theorem bt_nil {Q : Bool → Hp → Prop} (q : Q true H) : BT X scope [] σ H Q := fun _ _ _ _ _ => ⟨_, pts_nil, q⟩
theorem bt_one {k : Bool} {Q : Bool → Hp → Prop} (h : ∀ (s : Shared) (H0 : Hp) (C : Addr) (cl : List (Str × Addr)) (fp : List Addr), XT (X.blk s H0 scope (compEnvC scope cl C X.env) fp) σ H c k) (q : ∀ H2, Same H H2 → Q k H2) : BT X scope [c] σ H Q := fun s H0 C cl fp =>
  ⟨_, pts_one rt_, h s H0 C cl fp H (Same.refl H) _ q⟩
theorem rg_mono {Q Q' : L2.St → Hp → Prop} (h : RG X tg v σ H Q) (k : ∀ σ1 H1, Q σ1 H1 → Q' σ1 H1) : RG X tg v σ H Q' := by
  obtain ⟨g, hg, q⟩ := h
  exact ⟨fun v σ H Q' => ∃ Q, g v σ H Q ∧ ∀ σ1 H1, Q σ1 H1 → Q' σ1 H1, ⟨fun pins s σ H v u Q' I r ⟨Q, q, k⟩ => thn (hg.run pins s σ H v u Q I r q) fun _ s' ⟨σ', H', I', q'⟩ => ⟨σ', H', I', k _ _ q'⟩⟩, Q, q, k⟩
theorem bg_mono {Q Q' : L2.St → Hp → Prop} (h : BG X scope tg v σ H Q) (k : ∀ σ1 H1, Q σ1 H1 → Q' σ1 H1) : BG X scope tg v σ H Q' := fun s H0 C cl fp => rg_mono (h s H0 C cl fp) k
theorem be_mono {Q Q' : VK} (h : BE X scope e σ H Q) (k : ∀ v H1, Q v H1 → Q' v H1) : BE X scope e σ H Q' := fun s H0 C cl fp => re_mono (h s H0 C cl fp) k
theorem bt_mono {Q Q' : Bool → Hp → Prop} (h : BT X scope es σ H Q) (k : ∀ v H1, Q v H1 → Q' v H1) : BT X scope es σ H Q' := fun s H0 C cl fp => by
  obtain ⟨t, ht, q⟩ := h s H0 C cl fp
  exact ⟨fun σ H Q' => ∃ Q, t σ H Q ∧ ∀ v H1, Q v H1 → Q' v H1, ⟨fun pins s σ H Q' I ⟨Q, q, k⟩ => thn (ht.run pins s σ H Q I q) fun u s' ⟨H1, I1, q1⟩ => ⟨H1, I1, k u H1 q1⟩⟩, Q, q, k⟩
theorem hid_step {p : Addr} {H1 : Hp} (hp : H p = none) (s : Same H H1) : Same (hid M H) (hid (p :: M) H1) := fun b o e => by
  have nM : b ∉ M := fun z => by unfold hid at e; rw [if_pos z] at e; cases e
  have e' := hid_le _ _ e
  have np : b ≠ p := ne_of_none e' hp
  rw [hid_of (by simp [np, nM])]
  exact s _ _ e'
theorem hid_upd_ne {p : Addr} {o : HO} {H1 : Hp} : hid (p :: M) (upd H1 p o) = hid (p :: M) H1 := hid_upd_mem (List.mem_cons_self ..)
/-- [elt for tg in iter if ..]: f gives what an item comes to, none where it is left out -/
theorem xl_comp (f : PyData → Option PyData) (L : Live M H) (hN : X.N.Nodup) (hit : XD X M σ H iter (.list ds)) (ok : BlkOk X.N X.env.scope scope own) (hz : ds.length ≤ 100000)
    (hst : ∀ p d v H1, d ∈ ds → H p = none → Same H H1 → Live (p :: M) H1 → Dq X.K (hid (p :: M) H1) v d → BG X scope tg v (wipe σ (own.map (·.2))) H1 fun σ2 H2 => wipe σ2 (own.map (·.2)) = wipe σ (own.map (·.2)) ∧ BT X scope ifs σ2 H2 fun k H3 =>
      Same H1 H3 ∧ ((k = true ∧ ∃ d', f d = some d' ∧ BE X scope elt σ2 H3 fun y H4 => Same H3 H4 ∧ Dq X.K (hid (p :: M) H4) y d') ∨ (k = false ∧ f d = none)))
    (hc : X.calm = true := by rfl) (hs : ∀ x, foldedSetIterable iter X.env x = pure x := by intro _; rfl) : XL X M σ H (.ListComp elt [⟨tg, iter, ifs, 0⟩] scope pos) (ds.filterMap f) := fun H1 s1 Q q =>
  ⟨_, pe_lc (own := own) hc hN (pi_list re_) ok (fun _ _ _ _ _ => bg_) (fun _ _ _ _ _ => bt_) (fun _ _ _ _ _ => be_) hs, hit H1 s1 _ fun v H2 s2 hv => by
    obtain ⟨a, xs, rfl, ha, hx⟩ := dp_lst hv
    have L2' : Live M H2 := L.mono (s1.trans s2)
    refine ⟨a, rfl, ⟨xs, SqL.of (hid_le _ _ ha)⟩, fun p hp => ?_⟩
    have hpM : p ∉ M := L2'.fresh hp
    have hp0 : H p = none := (s1.trans s2).free hp
    refine lc_list (xs := xs) (a := a) (fun i H' => Same H2 H' ∧ ∃ acc, H' p = some (.lst acc) ∧ DqAll X.K (hid (p :: M) H') acc ((ds.take i).filterMap f)) ⟨same_new hp, [], upd_same, by simpa using DqAll.nil⟩ (fun i H' _ w => SqL.of (w.1 _ _ (hid_le _ _ ha))) (fun i x H' hi w => ?_) (fun H' w => ?_)
    · obtain ⟨sH, acc, hacc, hda⟩ := w
      obtain ⟨d, hd1, hd2⟩ := dpa_get' hx hi
      have hdm : d ∈ ds := List.mem_of_getElem? hd1
      have etake : ds.take (i + 1) = ds.take i ++ [d] := by
        rw [List.take_add_one, hd1]; rfl
      have hlen : acc.length < sizeLine := by
        rw [dpa_len hda]
        have h1 : ((ds.take i).filterMap f).length ≤ (ds.take i).length := List.length_filterMap_le ..
        have h2 : (ds.take i).length ≤ i := by rw [List.length_take]; omega
        have h3 : i < ds.length := (List.getElem?_eq_some_iff.mp hd1).1
        have h4 : 100000 < sizeLine := by decide
        omega
      have Lp : Live (p :: M) H' := fun b hb => by
        rcases List.mem_cons.mp hb with z | hb
        · subst z; rw [hacc]; simp
        · exact L2'.mono sH b hb
      have kx : Dq X.K (hid (p :: M) H') x d := hd2.up (hid_step hp sH)
      refine bg_mono (hst p d x H' hdm hp0 ((s1.trans s2).trans sH) Lp kx) fun σ2 Ha ⟨hw, hbt⟩ => ⟨hw, bt_mono hbt fun k Hb ⟨sb, hk⟩ => ?_⟩
      have sH' : Same H' Hb := sb
      rcases hk with ⟨hk, d', hf, hbe⟩ | ⟨hk, hf⟩
      · subst hk
        refine iteT (be_mono hbe fun y Hc ⟨sc, hy⟩ => ?_)
        have sd := sH'.trans sc
        refine ⟨acc, sd _ _ hacc, hlen, fun b o e => ?_, acc ++ [y], upd_same, ?_⟩
        · have nb : b ≠ p := ne_of_none e hp
          rw [upd_ne nb]
          exact sd _ _ (sH _ _ e)
        · rw [hid_upd_ne, etake, List.filterMap_append]
          have e2 : [d].filterMap f = [d'] := by simp [hf]
          rw [e2]
          exact dpa_app (hda.up (hid_mono sd)) (.cons hy .nil)
      · subst hk
        refine iteF ⟨sH.trans sH', acc, sH' _ _ hacc, ?_⟩
        rw [etake, List.filterMap_append]
        have e2 : [d].filterMap f = [] := by simp [hf]
        rw [e2, List.append_nil]
        exact hda.up (hid_mono sH')
    · obtain ⟨sH, acc, hacc, hda⟩ := w
      have e1 : ds.take xs.length = ds := by rw [dpa_len hx]; exact List.take_length
      rw [e1] at hda
      refine q p acc H' (s2.trans sH) (s2.free hp) hacc (hda.up fun b o e => ?_)
      have n1 : b ∉ p :: M := fun z => by unfold hid at e; rw [if_pos z] at e; cases e
      rw [hid_of (fun z => n1 (List.mem_cons_of_mem _ z))]
      exact hid_le _ _ e⟩
end
end Dl

set_option Elab.async false
set_option linter.all false
set_option maxRecDepth 100000
set_option maxHeartbeats 4000000
/-! Data layer, part 4: own defs by data, calls where no repr is under way, repr, isinstance, instances. -/
namespace Dl
open PySem PySem.Spec PyProof.Rows L2
/-! ### a def by data -/
/-- arguments ds with R ds d: the data d comes back, all stands -/
def spR (K : PySem.W.Frag) (R : List PyData → PyData → Prop) : Sp := fun vs H Q _ => ∃ (M : List Addr) (ds : List PyData) (d : PyData), Live M H ∧ DqAll K (hid M H) vs ds ∧ R ds d ∧ ∀ v H1, Same H H1 → Dq K (hid M H1) v d → Q v H1
/-- .. a new list of the data es -/
def spL (K : PySem.W.Frag) (R : List PyData → List PyData → Prop) : Sp := fun vs H Q _ => ∃ (M : List Addr) (ds es : List PyData), Live M H ∧ DqAll K (hid M H) vs ds ∧ R ds es ∧ ∀ p xs H1, Same H H1 → H p = none → H1 p = some (.lst xs) → DqAll K (hid M H1) xs es → Q (.ref p) H1
section
variable {X : Cx} {M : List Addr} {σ : L2.St} {H H' : Hp} {e a b c o : Expr} {es : List Expr} {d d1 d2 : PyData} {ds ds2 es' : List PyData} {x : Str} {v : V} {pos p1 p2 p3 : Pos} {D : Ends} {rest sts : List Stmt} {st : Stmt} {k : Nat} {f C : Addr} {fd : FuncData} {ps : List Str}
theorem re_call {sp : Sp} {Q : VK} (F : FnOk X.prog X.w X.K X.mg X.base CX0 k f fd ps sp) (hr : Room k X.A) (hm : X.mg x = some (.ref f)) (hk : PySem.W.keepIn X.K (.ref f) = true) (hb : Binds X.K fd ps []) (ha : RA X (e :: es) σ H fun vs H1 => sp vs H1 Q E0) (hg : Gl X x := by rfl)
    (hdb : (x == ("__debug__" : Str)) = false := by decide) (he : starEach (e :: es) X.env = (false, eval e X.env) :: starEach es X.env := by rfl) (hpl : (backTo pos (starEach es X.env)).any (·.1) = false := by rfl) : RE X (.Call (.Name x p1) (e :: es) [] pos) σ H Q :=
  ⟨_, pe_call F hr hg hm hk hb .nil pass0 ra_ hdb he hpl, ra_mono ha fun vs H1 q => by rw [List.append_nil]; exact q⟩
theorem re_callD {sp : Sp} {Q : VK} {dvs : List V} {dl : List Value} (F : FnOk X.prog X.w X.K X.mg X.base CX0 k f fd ps sp) (hr : Room k X.A) (hm : X.mg x = some (.ref f)) (hk : PySem.W.keepIn X.K (.ref f) = true) (hb : Binds X.K fd ps dl) (hd : Vals dvs dl) (ha : RA X (e :: es) σ H fun vs H1 => sp (vs ++ dvs) H1 Q E0) (hg : Gl X x := by rfl)
    (hdb : (x == ("__debug__" : Str)) = false := by decide) (he : starEach (e :: es) X.env = (false, eval e X.env) :: starEach es X.env := by rfl) (hpl : (backTo pos (starEach es X.env)).any (·.1) = false := by rfl) : RE X (.Call (.Name x p1) (e :: es) [] pos) σ H Q :=
  ⟨_, pe_call F hr hg hm hk hb hd pass0 ra_ hdb he hpl, ha⟩
theorem xd_call {R : List PyData → PyData → Prop} (L : Live M H) (F : FnOk X.prog X.w X.K X.mg X.base CX0 k f fd ps (spR X.K R)) (hr : Room k X.A) (hm : X.mg x = some (.ref f)) (hk : PySem.W.keepIn X.K (.ref f) = true) (hb : Binds X.K fd ps []) (ha : XA X M σ H (e :: es) ds) (hR : R ds d) (hg : Gl X x := by rfl)
    (hdb : (x == ("__debug__" : Str)) = false := by decide) (he : starEach (e :: es) X.env = (false, eval e X.env) :: starEach es X.env := by rfl) (hpl : (backTo pos (starEach es X.env)).any (·.1) = false := by rfl) : XD X M σ H (.Call (.Name x p1) (e :: es) [] pos) d := fun H1 s Q q =>
  re_call F hr hm hk hb (ha H1 s _ fun vs H2 s2 hv => ⟨M, ds, d, L.mono (s.trans s2), hv, hR, fun v H3 s3 hd => q v H3 (s2.trans s3) hd⟩) hg hdb he hpl
theorem xl_call {R : List PyData → List PyData → Prop} (L : Live M H) (F : FnOk X.prog X.w X.K X.mg X.base CX0 k f fd ps (spL X.K R)) (hr : Room k X.A) (hm : X.mg x = some (.ref f)) (hk : PySem.W.keepIn X.K (.ref f) = true) (hb : Binds X.K fd ps []) (ha : XA X M σ H (e :: es) ds) (hR : R ds ds2) (hg : Gl X x := by rfl)
    (hdb : (x == ("__debug__" : Str)) = false := by decide) (he : starEach (e :: es) X.env = (false, eval e X.env) :: starEach es X.env := by rfl) (hpl : (backTo pos (starEach es X.env)).any (·.1) = false := by rfl) : XL X M σ H (.Call (.Name x p1) (e :: es) [] pos) ds2 := fun H1 s Q q =>
  re_call F hr hm hk hb (ha H1 s _ fun vs H2 s2 hv => ⟨M, ds, ds2, L.mono (s.trans s2), hv, hR, fun p xs H3 s3 hp h3 hd => q p xs H3 (s2.trans s3) (s2.free hp) h3 hd⟩) hg hdb he hpl
/-! ### a def, called where no repr is under way -/
structure FnG (P : Program) (w : World) (K : PySem.W.Frag) (mg : Str → Option Value) (base : Heap) (k : Nat) (f : Addr) (fd : FuncData) (ps : List Str) (sp : Sp) : Prop where
  len : ∀ vs H Q E, sp vs H Q E → vs.length = ps.length
  run : ∀ (A : Around), A.guards = some [] → Room k A → ∀ (outer : List Env) (s : Shared) (H : Hp) (args : Args) (us : List Value) (vs : List V) (Q : VK) (E : XK), Env0 P w K mg base A outer s H → BindsTo s fd args (ps.zip us) → Vals vs us → sp vs H Q E →
    codeAny (model P w) A (.call (.ref f) args) (CR CX0 outer P w H s Q E) s
theorem fn_g {P : Program} {w : World} {K : PySem.W.Frag} {mg : Str → Option Value} {base : Heap} {sp : Sp} {qual x : Str} {st : Stmt} {N : List Str} (F : Fun K x qual st f fd) (S : FnScope N ps (defScope st)) (len : ∀ vs H Q E, sp vs H Q E → vs.length = ps.length)
    (hbody : ∀ (cdv : Value) (A : Around) (outer : List Env) (s : Shared) (H : Hp) (vs : List V) (Q : VK) (E : XK), A.guards = some [] → Room k (A.deeper (envOfC qual (defScope st) s.heap.objs.size f cdv)) → sp vs H Q E →
      RB (cxOf CX0 P w K mg base N qual (defScope st) f cdv A outer s H E).nox (defBody st) { nx := fun _ H1 => Q .non H1, rt := Q } (start N vs) H) : FnG P w K mg base (k + 1) f fd ps sp where
  len := len
  run := fun A hA hr outer s H args us vs Q E e0 hb r hsp => by
    obtain ⟨oc, od, kV, doc, pm, an, cdv, ct, osl, hfd, lk, hcd⟩ := F.ex
    subst hfd
    have hz := len _ _ _ _ hsp
    have KX : K.In s.heap := e0.mod.kin.keeps (fun b o e => (e0.bs b o e).1)
    have nl : s.heap.NoLimit := e0.mod.nolimit.keeps (fun b o e => (e0.bs b o e).1)
    have kinds : ∀ y ∈ ps.zip us, (defScope st).names.lookup y.1 = some .local ∨ ((defScope st).names.lookup y.1 = some .cell ∧ ((cellsFrom (s.heap.objs.size + 1) (defScope st).names []).lookup y.1).isSome = true) := by
      intro y hy
      rcases S.par y.1 (List.of_mem_zip (show (y.1, y.2) ∈ ps.zip us from hy)).1 with z | z
      · exact .inl z
      · exact .inr ⟨z, PySem.W.cellsFrom_some _ _ _ (.inl z)⟩
    refine codeAny_call_function (Room.depth hr) (KX _ _ lk) rfl S.co S.gen rfl (PySem.W.codeRec_of KX hcd) (hb _ _ _ _ ?_)
    refine wpAny_newFunctionEnv_cells S.kind kinds (fun env henv s1 inc => ?_)
    subst henv
    refine ⟨nl.keeps inc.toInCall.keep, codeAny_func ?_⟩
    obtain ⟨t, ht, q⟩ := hbody cdv A outer s H vs Q E hA (hr.deeper _) hsp
    have I0 := inv_start (CX := CX0) (E := E) S hr.hd e0 hz r inc
    refine wpAny_mono (ht.nox.run [] s1 (start N vs) H _ I0 q) (fun fl s2 hs => ?_) (fun _ _ z => z)
    cases fl with
    | ret u =>
      obtain ⟨v, _, H2, J, rv, q2⟩ := hs
      exact ⟨v, H2, J.os, J.bare, J.base, J.hok, rv, q2⟩
    | next =>
      obtain ⟨_, H2, J, q2⟩ := hs
      exact ⟨.non, H2, J.os, J.bare, J.base, J.hok, rfl, q2⟩
    | brk => obtain ⟨_, _, _, q2⟩ := hs; exact q2.elim
    | cont => obtain ⟨_, _, _, q2⟩ := hs; exact q2.elim
/-- f(..), f such a def -/
theorem re_callG {sp : Sp} {Q : VK} (F : FnG X.prog X.w X.K X.mg X.base k f fd ps sp) (hA : X.A.guards = some []) (hr : Room k X.A) (hm : X.mg x = some (.ref f)) (hk : PySem.W.keepIn X.K (.ref f) = true) (hb : Binds X.K fd ps []) (ha : RA X (e :: es) σ H fun vs H1 => sp vs H1 Q E0) (hg : Gl X x := by rfl)
    (hdb : (x == ("__debug__" : Str)) = false := by decide) (he : starEach (e :: es) X.env = (false, eval e X.env) :: starEach es X.env := by rfl) (hpl : (backTo pos (starEach es X.env)).any (·.1) = false := by rfl) : RE X (.Call (.Name x p1) (e :: es) [] pos) σ H Q := by
  refine ⟨fun σ H Q => RA X (e :: es) σ H fun vs H1 => sp vs H1 Q E0, ⟨fun pins s σ H Q I h => ?_⟩, ha⟩
  refine wpAny_Call_Name_kw (ld_glob I hg hm ?_ hdb)
  refine PySem.W.callWith_K (h₀ := X.base) I.ok.mod.kin hk (thn (ra_.run pos pins s σ H _ I h) fun us s1 ⟨vs, H1, I1, r, q⟩ => ⟨I1.kIn, ?_⟩) he hpl
  have hz : us.length = ps.length := by rw [← r.length]; exact F.len _ _ _ _ q
  have hb' := hb s1 us I1.kIn (by rw [List.append_nil]; exact hz)
  rw [List.append_nil] at hb'
  refine wpAny_call (codeAny_mono (F.run X.A hA hr X.stack s1 H1 ⟨us, []⟩ us vs Q E0 I1.env0 hb' r q) fun r' s' hq => ?_)
  cases r' with
  | error e => exact hq.elim
  | ok fl =>
    cases fl with
    | ret u => exact I1.after hq
    | next => exact hq.elim
    | brk => exact hq.elim
    | cont => exact hq.elim
/-! ### repr of data -/
theorem call_reprD (hA : X.A.guards = some []) (hu : X.A.units + 64 < cLine) : CallR X (.builtin "repr") (fun xs H Q => ∃ (p : Addr) (d : PyData), xs = [.ref p] ∧ Dp X.K H (.ref p) d ∧ d.showable = true ∧ d.hasDict = false ∧ d.depth ≤ 60 ∧ d.shown.length ≤ sizeLine ∧ Q (.str d.shown) H) := by
  intro pins s σ H xs us Q I r h
  obtain ⟨p, d, rfl, hd, h1, h2, h3, h4, q⟩ := h
  obtain ⟨u, rfl, rx⟩ := vals1 r
  obtain ⟨as, rd⟩ := Dp.reads I d _ u hd rx
  cases rx
  exact repr_of_reads' rd h1 (fun z => by rw [h2] at z; cases z) hA (by omega) (fun _ _ z => z) (fun h' u tk hk => ⟨.str d.shown, H, I.kept (t' := tk) hk, ⟨u, rfl⟩, q⟩) h4
/-- repr(a) != repr(b) of the same data: False -/
theorem xt_reprNe {pa pb : Pos} (hA : X.A.guards = some []) (hu : X.A.units + 64 < cLine) (hm : X.mg "repr" = none) (ha : XD X M σ H a (.list ds)) (hb : XD X M σ H b (.list ds)) (h1 : (PyData.list ds).showable = true) (h2 : (PyData.list ds).hasDict = false) (h3 : (PyData.list ds).depth ≤ 60) (h4 : (PyData.list ds).shown.length ≤ sizeLine) (hg : Gl X "repr" := by rfl)
    (he : starEach [a] X.env = (false, eval a X.env) :: starEach [] X.env := by rfl) (hpl : (backTo pa (starEach [] X.env)).any (·.1) = false := by rfl) (he2 : starEach [b] X.env = (false, eval b X.env) :: starEach [] X.env := by rfl) (hpl2 : (backTo pb (starEach [] X.env)).any (·.1) = false := by rfl) :
    XT X σ H (.Compare (.Call (.Name "repr" p1) [a] [] pa) [.NotEq] [.Call (.Name "repr" p2) [b] [] pb] pos) false := by
  have key : ∀ {e : Expr} {pp qq : Pos}, XD X M σ H e (.list ds) → starEach [e] X.env = (false, eval e X.env) :: starEach [] X.env → (backTo qq (starEach [] X.env)).any (·.1) = false → XD X M σ H (.Call (.Name "repr" pp) [e] [] qq) (.str (PyData.list ds).shown) := fun {e pp qq} h z1 z2 H1 s Q q =>
    re_B (call_reprD hA hu) (ra_1 (h H1 s _ fun v H2 s2 hv => by
      obtain ⟨p, xs, rfl, hp, hx⟩ := dp_lst hv
      exact ⟨p, _, rfl, (hv.up hid_le).dp, h1, h2, h3, h4, q _ H2 s2 (.str _)⟩) z1) hm (by decide +kernel) hg (by decide) (by decide) z1 z2
  refine xt_cmp op_ne (key ha he hpl) (key hb he2 hpl2) fun H1 v w s hv hw Q q => ?_
  rw [dp_str hv, dp_str hw]
  exact ⟨rfl, by rw [decide_eq_true rfl]; exact q H1 (Same.refl _)⟩
theorem xd_reprEq {pa pb : Pos} (hA : X.A.guards = some []) (hu : X.A.units + 64 < cLine) (hm : X.mg "repr" = none) (ha : XD X M σ H a (.list ds)) (hb : XD X M σ H b (.list ds)) (h1 : (PyData.list ds).showable = true) (h2 : (PyData.list ds).hasDict = false) (h3 : (PyData.list ds).depth ≤ 60) (h4 : (PyData.list ds).shown.length ≤ sizeLine) (hg : Gl X "repr" := by rfl)
    (he : starEach [a] X.env = (false, eval a X.env) :: starEach [] X.env := by rfl) (hpl : (backTo pa (starEach [] X.env)).any (·.1) = false := by rfl) (he2 : starEach [b] X.env = (false, eval b X.env) :: starEach [] X.env := by rfl) (hpl2 : (backTo pb (starEach [] X.env)).any (·.1) = false := by rfl) :
    XD X M σ H (.Compare (.Call (.Name "repr" p1) [a] [] pa) [.Eq] [.Call (.Name "repr" p2) [b] [] pb] pos) (.bool true) := by
  have key : ∀ {e : Expr} {pp qq : Pos}, XD X M σ H e (.list ds) → starEach [e] X.env = (false, eval e X.env) :: starEach [] X.env → (backTo qq (starEach [] X.env)).any (·.1) = false → XD X M σ H (.Call (.Name "repr" pp) [e] [] qq) (.str (PyData.list ds).shown) := fun {e pp qq} h z1 z2 H1 s Q q =>
    re_B (call_reprD hA hu) (ra_1 (h H1 s _ fun v H2 s2 hv => by
      obtain ⟨p, xs, rfl, hp, hx⟩ := dp_lst hv
      exact ⟨p, _, rfl, (hv.up hid_le).dp, h1, h2, h3, h4, q _ H2 s2 (.str _)⟩) z1) hm (by decide +kernel) hg (by decide) (by decide) z1 z2
  refine xd_cmp op_eq (key ha he hpl) (key hb he2 hpl2) fun H1 v w s hv hw Q q => ?_
  rw [dp_str hv, dp_str hw]
  exact ⟨rfl, by rw [decide_eq_true rfl]; exact q _ H1 (Same.refl _) (.bl _)⟩
/-! ### isinstance -/
def tyN : PyData → String
  | .none => "NoneType"
  | .bool _ => "bool"
  | .int _ => "int"
  | .str _ => "str"
  | .list _ => "list"
  | .tuple _ => "tuple"
  | .dict _ => "dict"
theorem ty_dq {K : PySem.W.Frag} (h : Dq K H v d) : TyX K H v (.type (tyN d)) := by
  cases h with
  | non => exact .base .non
  | bl b => exact .base (.bl b)
  | int i => exact .base (.int i)
  | str z => exact .base (.str z)
  | lst h1 _ => exact .base (.lst h1)
  | tup h1 _ =>
    rcases h1 with (h1 | ⟨o, h1⟩) | ⟨o, its, n, h1, h2, _⟩
    · exact .base (.tup h1)
    · exact .fTuple h1
    · exact .kTuple h1 h2
/-- isinstance(a, T), T a built-in type by its name -/
theorem xd_is1 {T : String} {r : Bool} {nm : Str} (hk : kitB (tyN d) T = some r) (hm : X.mg "isinstance" = none) (hmT : X.mg nm = none) (hvT : bootBuiltins nm = some (.type T)) (ha : XD X M σ H a d) (hg : Gl X "isinstance" := by rfl) (hgT : Gl X nm := by rfl) (hnT : nm ≠ "__name__" := by decide) (hdT : (nm == ("__debug__" : Str)) = false := by decide)
    (he : starEach [a, .Name nm p2] X.env = (false, eval a X.env) :: starEach [.Name nm p2] X.env := by rfl) (he2 : starEach [.Name nm p2] X.env = (false, eval (.Name nm p2) X.env) :: starEach [] X.env := by rfl) (hpl : (backTo pos (starEach [.Name nm p2] X.env)).any (·.1) = false := by rfl) :
    XD X M σ H (.Call (.Name "isinstance" p1) [a, .Name nm p2] [] pos) (.bool r) := fun H1 s Q q =>
  re_B call_isi (ra_cons (ha H1 s _ fun v H2 s2 hv => ra_1 (xv_bltn (v := .ty T) hmT hvT rfl hgT hnT hdT H2 (Same.refl _) _ fun H3 s3 =>
    ⟨v, .ty T, _, _, r, rfl, .ty T, ty_dq ((hv.up hid_le).up s3), kit_ty hk, q _ H3 (s2.trans s3) (.bl _)⟩) he2) he) hm (by decide +kernel) hg (by decide) (by decide) he hpl
/-- isinstance(a, (T1, T2)) -/
theorem xd_is2 {T1 T2 : String} {r1 r2 : Bool} {n1 n2 : Str} {k3} (h1 : kitB (tyN d) T1 = some r1) (h2 : kitB (tyN d) T2 = some r2) (hm : X.mg "isinstance" = none) (hm1 : X.mg n1 = none) (hv1 : bootBuiltins n1 = some (.type T1)) (hm2 : X.mg n2 = none) (hv2 : bootBuiltins n2 = some (.type T2)) (ha : XD X M σ H a d)
    (hg : Gl X "isinstance" := by rfl) (hg1 : Gl X n1 := by rfl) (hg2 : Gl X n2 := by rfl) (hn1 : n1 ≠ "__name__" := by decide) (hn2 : n2 ≠ "__name__" := by decide) (hd1 : (n1 == ("__debug__" : Str)) = false := by decide) (hd2 : (n2 == ("__debug__" : Str)) = false := by decide) {q1 q2 q3 : Pos}
    (he : starEach [a, .Tuple [.Name n1 q1, .Name n2 q2] k3 q3] X.env = (false, eval a X.env) :: starEach [.Tuple [.Name n1 q1, .Name n2 q2] k3 q3] X.env := by rfl) (he2 : starEach [.Tuple [.Name n1 q1, .Name n2 q2] k3 q3] X.env = (false, eval (.Tuple [.Name n1 q1, .Name n2 q2] k3 q3) X.env) :: starEach [] X.env := by rfl)
    (hs1 : starEach [.Name n1 q1, .Name n2 q2] X.env = (false, eval (.Name n1 q1) X.env) :: starEach [.Name n2 q2] X.env := by rfl) (hs2 : starEach [.Name n2 q2] X.env = (false, eval (.Name n2 q2) X.env) :: starEach [] X.env := by rfl)
    (hpl : (backTo pos (starEach [.Tuple [.Name n1 q1, .Name n2 q2] k3 q3] X.env)).any (·.1) = false := by rfl) :
    XD X M σ H (.Call (.Name "isinstance" p1) [a, .Tuple [.Name n1 q1, .Name n2 q2] k3 q3] [] pos) (.bool (r1 || r2)) := fun H1 s Q q =>
  re_B call_isiT (ra_cons (ha H1 s _ fun v H2 s2 hv => ra_1 ⟨_, pe_tup ra_, ra_cons (xv_bltn (v := .ty T1) hm1 hv1 rfl hg1 hn1 hd1 H2 (Same.refl _) _ fun H3 s3 => ra_1 (xv_bltn (v := .ty T2) hm2 hv2 rfl hg2 hn2 hd2 H3 (Same.refl _) _ fun H4 s4 => by
    refine ⟨by show 2 ≤ sizeLine; decide, fun p hp => ?_⟩
    have s5 : Same H2 (upd H4 p (.tup [V.ty T1, V.ty T2])) := (s3.trans s4).trans (same_new hp)
    refine ⟨v, p, [.ty T1, .ty T2], _, _, r1 || r2, rfl, upd_same, .cons (.ty T1) (.cons (.ty T2) .nil), ty_dq ((hv.up hid_le).up s5), ?_, q _ _ (s2.trans s5) (.bl _)⟩
    refine kitAny_cons (kit_ty h1) (fun z => ?_) (fun z => by rw [z]; rfl)
    rw [z, Bool.false_or]
    exact kitAny_cons (kit_ty h2) (fun z2 => by rw [z2]; exact kitAny_nil) (fun z2 => z2)) hs2) hs1⟩ he2) he) hm (by decide +kernel) hg (by decide) (by decide) he hpl
/-! ### instances -/
theorem xv_fld {dx pa : Addr} {fs : List (Str × V)} {f : Str} (ho : XV X σ H o (.ref pa)) (h1 : H pa = some (.ins C dx fs)) (hc : Cls X.K C) (hn : NoAttr X.K C f) (hl : fs.lookup f = some v) (hb : attributeBase o f X.env (eval o X.env) = eval o X.env := by rfl) : XV X σ H (.Attribute o f pos) v := fun H1 s Q q =>
  ⟨_, pe_fld re_ hb, ho H1 s _ fun H2 s2 => ⟨pa, C, dx, fs, v, rfl, (s.trans s2) _ _ h1, hc, hn, hl, q H2 s2⟩⟩
theorem re_meth {dx pa : Addr} {fs : List (Str × V)} {m : Str} {sp : Sp} {Q : VK} {pl : Sem Bool} {apos : Pos} (ho : XV X σ H o (.ref pa)) (h1 : H pa = some (.ins C dx fs)) (hc : Cls X.K C) (hM : Meth X.K C m f) (hl : fs.lookup m = none) (F : FnOk X.prog X.w X.K X.mg X.base CX0 k f fd ps sp) (hr : Room k X.A) (hb : Binds X.K fd ps [])
    (ha : ∀ H1, Same H H1 → RA X (e :: es) σ H1 fun vs H2 => sp (.ref pa :: vs) H2 Q E0) (hst : starEach (e :: es) X.env = (false, eval e X.env) :: starEach es X.env := by rfl) (hpl : (backTo pos (starEach es X.env)).any (·.1) = false := by rfl)
    (ht : eval (.Call (.Attribute o m apos) (e :: es) [] pos) X.env = (do
      let ov ← eval o X.env
      standAt apos.atName
      let (f, first) ← holding [ov] (getMethod ov m pl)
      callWith pos f first (backTo pos (starEach (e :: es) X.env)) (backToKw pos (keywordEach [] X.env))) := by rfl) : RE X (.Call (.Attribute o m apos) (e :: es) [] pos) σ H Q :=
  ⟨_, pe_meth re_ hc hM F hr hb .nil pass0 ra_ hst hpl ht, ho H (Same.refl H) _ fun H1 s1 => ⟨pa, dx, fs, rfl, s1 _ _ h1, hl, ra_mono (ha H1 s1) fun vs H2 q => by rw [List.append_nil]; exact q⟩⟩
theorem re_meth0 {dx pa : Addr} {fs : List (Str × V)} {m : Str} {sp : Sp} {Q : VK} {pl : Sem Bool} {apos : Pos} (ho : XV X σ H o (.ref pa)) (h1 : H pa = some (.ins C dx fs)) (hc : Cls X.K C) (hM : Meth X.K C m f) (hl : fs.lookup m = none) (F : FnOk X.prog X.w X.K X.mg X.base CX0 k f fd ps sp) (hr : Room k X.A) (hb : Binds X.K fd ps [])
    (ha : ∀ H1, Same H H1 → sp [.ref pa] H1 Q E0)
    (ht : eval (.Call (.Attribute o m apos) [] [] pos) X.env = (do
      let ov ← eval o X.env
      standAt apos.atName
      let (f, first) ← holding [ov] (getMethod ov m pl)
      callWith pos f first (backTo pos (starEach [] X.env)) (backToKw pos (keywordEach [] X.env))) := by rfl) : RE X (.Call (.Attribute o m apos) [] [] pos) σ H Q :=
  ⟨_, pe_meth0 re_ hc hM F hr hb .nil pass0 ht, ho H (Same.refl H) _ fun H1 s1 => ⟨pa, dx, fs, rfl, s1 _ _ h1, hl, ha H1 s1⟩⟩
end
end Dl

set_option Elab.async false
set_option linter.all false
set_option maxRecDepth 100000
set_option maxHeartbeats 4000000
/-! Data layer, part 5: operators of an own class; the end. -/
namespace Dl
open PySem PySem.Spec PyProof.Rows L2
/-- a namespace of the written part -/
theorem ns_at {K : PySem.W.Frag} {h : Heap} {N : Addr} {mN : Str → Option Value} {n : Str} {v : Value} (X : K.In h) (G : h.Ns N mN) (e : PySem.W.nsIn K N n = some (some v)) : mN n = some v := by
  obtain ⟨o, es, ep, ho, hd, _, hf⟩ := G
  unfold PySem.W.nsIn at e
  split at e
  · rename_i cc dd es2 nn sl q
    have z := X _ _ q
    rw [ho] at z
    cases z
    cases hd
    split at e
    · rename_i en he
      cases e
      rw [← hf]
      unfold nsFind findBy
      rw [← Array.find?_toList, he]
      rfl
    · split at e <;> cases e
  · cases e
/-- what the written part says of a class with an own == and no != -/
structure ClsEq (K : PySem.W.Frag) (C f : Addr) : Prop where
  cls : ∃ nm q N bs hdct sn sub ab col dd k0 k1 k2 k3 k5 newId, K.lookup C = some (excClassObj nm q C N bs [.type "object"] hdct sn sub ab col dd k0 k1 k2 k3 k5 newId) ∧ PySem.W.nsOkIn K N = true ∧ PySem.W.nsIn K N "__eq__" = some (some (.ref f)) ∧ PySem.W.nsIn K N "__ne__" = some none
  at_ : PySem.W.findIn K (.ref C) "__eq__" = some (some (.ref f))
  fn : PySem.W.isFn K (.ref f) = true
  obj : ∃ o, K.lookup f = some o ∧ o.cls = .type "function"
section
variable {X : Cx} {M : List Addr} {σ : L2.St} {H H' : Hp} {e a b c o : Expr} {es : List Expr} {d d1 d2 : PyData} {ds ds2 es' : List PyData} {x : Str} {v : V} {pos p1 p2 p3 : Pos} {D : Ends} {rest sts : List Stmt} {st : Stmt} {k : Nat} {f C : Addr} {fd : FuncData} {ps : List Str} {sp : Sp}
/-- a bool comes back -/
def bk (Q : Bool → Hp → Prop) : VK := fun v H => ∃ b, v = .bl b ∧ Q b H
theorem run_bool {A : Around} {E : Value → Shared → Prop} {pins : List (Addr × Obj)} {s : Shared} {us : List Value} {vs : List V} {Q : Bool → Hp → Prop} {R : Value → Shared → Prop} (I : Inv X pins σ H s) (fr : A.frames = X.A.frames) (F : FnOk X.prog X.w X.K X.mg X.base CX0 k f fd ps sp) (hr : Room k A) (hb : Binds X.K fd ps []) (r : Vals vs us) (h : sp vs H (bk Q) E0)
    (q : ∀ b s' H', Inv X pins σ H' s' → Q b H' → R (.bool b) s') : wpAny (model X.prog X.w) A (call (.ref f) us) R E s := by
  have hz : us.length = ps.length := by rw [← r.length]; exact F.len _ _ _ _ h
  have hb' := hb s us I.kIn (by rw [List.append_nil]; exact hz)
  rw [List.append_nil] at hb'
  have e := I.env0
  have e0 : Env0 X.prog X.w X.K X.mg X.base A X.stack s H := ⟨by rw [fr]; exact e.frames, e.mod, e.bs, e.bsz, e.funs, e.frf, e.hok, e.bare⟩
  refine wpAny_call (codeAny_mono (F.run A X.stack s H ⟨us, []⟩ us vs (bk Q) E0 hr e0 hb' r h) fun r' s' hq => ?_)
  cases r' with
  | error e => exact hq.elim
  | ok fl =>
    cases fl with
    | ret u =>
      obtain ⟨z, H1, I1, rz, b, ez, q1⟩ := I.after hq
      subst ez
      cases rz
      exact q b s' H1 I1 q1
    | next => exact hq.elim
    | brk => exact hq.elim
    | cont => exact hq.elim
/-- a == b, a of an own class; the other one of that class, or of a type that is not below it -/
theorem op_eqO {tb : Value → Prop} (E : ClsEq X.K C f) (F : FnOk X.prog X.w X.K X.mg X.base CX0 k f fd ps sp) (hr : Room k X.A) (hb : Binds X.K fd ps []) :
    OpR X (compareOp .Eq) (fun x y H Q => ∃ pa dx fs, x = .ref pa ∧ H pa = some (.ins C dx fs) ∧ ((∃ pb dy gs, y = .ref pb ∧ H pb = some (.ins C dy gs)) ∨ (PySem.W.subIn X.K (.type "list") (.ref C) = some false ∧ ∃ pb xs, y = .ref pb ∧ H pb = some (.lst xs))) ∧ sp [x, y] H (bk fun b H1 => Q (.bl b) H1) E0) := by
  intro pins s σ H x y u v Q I rx ry h
  obtain ⟨pa, dx, fs, rfl, ha, hy, hsp⟩ := h
  cases rx
  obtain ⟨mA, J, _⟩ := ins_get I.hok ha
  obtain ⟨od, J, _⟩ := J.look
  obtain ⟨m, hF⟩ := I.fr
  show wpAny (model X.prog X.w) X.A (richCompare .Eq (.ref pa) v) (EP X pins σ Q) X.xe s
  have fin : wpAny (model X.prog X.w) X.A (call (.ref f) [.ref pa, v]) (PySem.W.CmpBack (EP X pins σ Q)) X.xe s :=
    run_bool (Q := fun b H1 => Q (.bl b) H1) I rfl F hr hb (.cons (show RelV (.ref pa) (.ref pa) from rfl) (.cons ry .nil)) hsp fun b s' H' I' q => ⟨.bl b, H', I', rfl, q⟩
  rcases hy with ⟨pb, dy, gs, rfl, hb2⟩ | ⟨hsub, pb, xs, rfl, hb2⟩
  · cases ry
    obtain ⟨mB, J2, _⟩ := ins_get I.hok hb2
    obtain ⟨od2, J2, _⟩ := J2.look
    exact PySem.W.cmp_K (op := .Eq) (tb := .ref C) hr.units0 hF I.ok.mod.kin J J2.type (by simp [PySem.W.notFirst]) E.at_ E.fn fin
  · cases ry
    obtain ⟨_, its, n, r, e⟩ := (show ObjOk X.prog X.w H s.heap pb (.lst xs) from I.hok pb _ hb2)
    have z : PySem.W.Looks (model X.prog X.w) s.heap (typeOf (.ref pb)) (.type "list") := (PySem.W.Looks.ld e).andThen .now
    exact PySem.W.cmp_K (op := .Eq) (tb := .type "list") hr.units0 hF I.ok.mod.kin J z (by unfold PySem.W.notFirst; rw [hsub]; simp) E.at_ E.fn fin
/-- a != b of one own class -/
theorem op_neO (E : ClsEq X.K C f) (F : FnOk X.prog X.w X.K X.mg X.base CX0 k f fd ps sp) (hr : Room (k + 1) X.A) (hb : Binds X.K fd ps []) :
    OpR X (compareOp .NotEq) (fun x y H Q => ∃ pa dx fs pb dy gs, x = .ref pa ∧ H pa = some (.ins C dx fs) ∧ y = .ref pb ∧ H pb = some (.ins C dy gs) ∧ sp [x, y] H (bk fun b H1 => Q (.bl (!b)) H1) E0) := by
  intro pins s σ H x y u v Q I rx ry h
  obtain ⟨pa, dx, fs, pb, dy, gs, rfl, ha, rfl, hb2, hsp⟩ := h
  cases rx
  cases ry
  obtain ⟨mA, J, _⟩ := ins_get I.hok ha
  obtain ⟨od, J, _⟩ := J.look
  obtain ⟨mB, J2, _⟩ := ins_get I.hok hb2
  obtain ⟨od2, J2, _⟩ := J2.look
  obtain ⟨hox, hoc, _⟩ := J
  obtain ⟨hoy, hoyc, _⟩ := J2
  obtain ⟨nm, q, N, bs, hdct, sn, sub, ab, col, dd, k0, k1, k2, k3, k5, newId, hC, hN, he, hne⟩ := E.cls
  obtain ⟨of, hfo, hfc⟩ := E.obj
  have KX := I.kIn
  have hns := Heap.Ns.of_isNs (PySem.W.isNs_of_in KX hN)
  have Y : s.heap.OwnEqNoNe pa C f "object" [.type "object"] :=
    ⟨_, of, nm, q, N, bs, hdct, sn, sub, ab, col, dd, k0, k1, k2, k3, k5, newId, _, _, hox, hoc, KX _ _ hC, hns, ns_at KX hns he, KX _ _ hfo, hfc, PySem.F.mro_object, PySem.F.cmp_object.eq.lookup, PySem.W.ns_none_of KX hns hne⟩
  have hu := hr.units0
  obtain ⟨hh, g, dr, tk, os⟩ := s
  refine compareOp_ne_ownEq PySem.F.cmp_object Y hoy hoyc (by have := hr.un; omega) ?_
  exact run_bool (A := X.A.in1) (Q := fun b H1 => Q (.bl (!b)) H1) I rfl F hr.in1 hb (.cons (show RelV (.ref pa) (.ref pa) from rfl) (.cons (show RelV (.ref pb) (.ref pb) from rfl) .nil)) hsp fun b s' H' I' q => ⟨b, rfl, ⟨.bl (!b), H', I', rfl, q⟩⟩
/-- x in o, o of an own class -/
theorem op_inO (hs : PySem.W.findIn X.K (.ref C) "__contains__" = some (some (.ref f))) (hf : PySem.W.isFn X.K (.ref f) = true) (F : FnOk X.prog X.w X.K X.mg X.base CX0 k f fd ps sp) (hr : Room k X.A) (hb : Binds X.K fd ps []) :
    OpR X (compareOp .In) (fun x y H Q => ∃ pa dx fs, y = .ref pa ∧ H pa = some (.ins C dx fs) ∧ sp [y, x] H (bk fun b H1 => Q (.bl b) H1) E0) := by
  intro pins s σ H x y u v Q I rx ry h
  obtain ⟨pa, dx, fs, rfl, ha, hsp⟩ := h
  cases ry
  obtain ⟨mA, J, _⟩ := ins_get I.hok ha
  obtain ⟨od, J, _⟩ := J.look
  obtain ⟨m, hF⟩ := I.fr
  exact PySem.W.in_K hF I.ok.mod.kin J hs hf (run_bool (Q := fun b H1 => Q (.bl b) H1) I rfl F hr hb (.cons (show RelV (.ref pa) (.ref pa) from rfl) (.cons rx .nil)) hsp fun b s' H' I' q => wpAny_truthy_bool ⟨.bl b, H', I', rfl, q⟩)
/-- len(o) -/
theorem call_lenO (hs : PySem.W.findIn X.K (.ref C) "__len__" = some (some (.ref f))) (hf : PySem.W.isFn X.K (.ref f) = true) (F : FnOk X.prog X.w X.K X.mg X.base CX0 k f fd ps sp) (hr : Room (k + 1) X.A) (hb : Binds X.K fd ps []) :
    CallR X (.builtin "len") (fun xs H Q => ∃ pa dx fs, xs = [.ref pa] ∧ H pa = some (.ins C dx fs) ∧ sp xs H (fun v H1 => ∃ n : Nat, v = .int n ∧ n < 2 ^ 62 ∧ Q (.int n) H1) E0) := by
  intro pins s σ H xs us Q I r h
  obtain ⟨pa, dx, fs, rfl, ha, hsp⟩ := h
  obtain ⟨u, rfl, rx⟩ := vals1 r
  cases rx
  obtain ⟨mA, J, _⟩ := ins_get I.hok ha
  obtain ⟨od, J, _⟩ := J.look
  obtain ⟨m, hF⟩ := I.fr
  refine PySem.W.len_K hF I.ok.mod.kin J hs hf ?_
  have hz : [Value.ref pa].length = ps.length := F.len _ _ _ _ hsp
  have hb' := hb s [.ref pa] I.kIn (by rw [List.append_nil]; exact hz)
  rw [List.append_nil] at hb'
  have e := I.env0.in1
  refine wpAny_call (codeAny_mono (F.run X.A.in1 X.stack s H ⟨[.ref pa], []⟩ [.ref pa] [.ref pa] _ E0 hr.in1 e hb' (.cons rfl .nil) hsp) fun r' s' hq => ?_)
  cases r' with
  | error e => exact hq.elim
  | ok fl =>
    cases fl with
    | ret u =>
      obtain ⟨z, H1, I1, rz, n, ez, hn, q1⟩ := I.after hq
      subst ez
      obtain ⟨t, rfl⟩ := rz
      exact ⟨⟨by omega, by omega⟩, ⟨.int n, H1, I1.tok _, ⟨_, rfl⟩, q1⟩⟩
    | next => exact hq.elim
    | brk => exact hq.elim
    | cont => exact hq.elim
/-- o.p, a property -/
theorem re_prop {dx pa pp : Addr} {fs : List (Str × V)} {m : Str} {Q : VK} (ho : XV X σ H o (.ref pa)) (h1 : H pa = some (.ins C dx fs)) (hc : Cls X.K C) (hp : PropOf X.K C m pp f) (F : FnOk X.prog X.w X.K X.mg X.base CX0 k f fd ps sp) (hr : Room (k + 1) X.A) (hb : Binds X.K fd ps []) (ha : ∀ H1, Same H H1 → sp [.ref pa] H1 Q E0)
    (hab : attributeBase o m X.env (eval o X.env) = eval o X.env := by rfl) : RE X (.Attribute o m pos) σ H Q :=
  ⟨_, pe_prop re_ hc hp F hr hb .nil pass0 hab, ho H (Same.refl H) _ fun H1 s1 => ⟨pa, dx, fs, rfl, s1 _ _ h1, ha H1 s1⟩⟩
/-- C(e, ..) -/
theorem re_make {Q : VK} {dvs : List V} {dl : List Value} (Mm : Mk X.K C f) (F : FnOk X.prog X.w X.K X.mg X.base CX0 k f fd ps sp) (hr : Room (k + 1) X.A) (hm : X.mg x = some (.ref C)) (hb : Binds X.K fd ps dl) (hd : Vals dvs dl)
    (ha : RA X (e :: es) σ H fun vs H1 => ∀ y dx, H1 y = none → H1 dx = none → dx ≠ y → sp (.ref y :: (vs ++ dvs)) (upd (upd H1 dx (.own y)) y (.ins C dx [])) (fun v H2 => v = .non ∧ Q (.ref y) H2) E0) (hg : Gl X x := by rfl)
    (hdb : (x == ("__debug__" : Str)) = false := by decide) (he : starEach (e :: es) X.env = (false, eval e X.env) :: starEach es X.env := by rfl) (hpl : (backTo pos (starEach es X.env)).any (·.1) = false := by rfl) : RE X (.Call (.Name x p1) (e :: es) [] pos) σ H Q :=
  ⟨_, pe_make Mm F hr hg hm hb hd pass0 ra_ hdb he hpl, ha⟩
/-- o.f = e -/
theorem rb_fld {m : Str} {dx pa : Addr} {fs : List (Str × V)} {ap : Pos} (he : RE X e σ H fun v H1 => H1 pa = some (.ins C dx fs) ∧ fs.length < 1000 ∧ XV X σ H1 o (.ref pa) ∧ ∀ H2, Same H1 H2 → RB X rest D σ (upd H2 pa (.ins C dx (putF m v fs)))) (hc : Cls X.K C) (hn : NoAttr X.K C m) (hs : swapsWith e (some (.Attribute o m ap)) pos.line X.env = pure false := by rfl) :
    RB X (.Assign [.Attribute o m ap] e pos :: rest) D σ H :=
  ⟨_, pss_cons (ps_fld re_ re_ hs) rb_, re_mono he fun v H1 ⟨h1, hl, ho, q⟩ => ho H1 (Same.refl _) _ fun H2 s2 => ⟨pa, C, dx, fs, rfl, s2 _ _ h1, hc, hn, hl, q H2 s2⟩⟩
end
end Dl

set_option Elab.async false
set_option linter.all false
set_option maxRecDepth 100000
set_option maxHeartbeats 4000000
/-! Data layer, part 6: sets of whole numbers by a comprehension, sorted; repr of one value; sums; dicts by texts. -/
namespace Dl
open PySem PySem.Spec PyProof.Rows L2
section
variable {X : Cx}
/-- {e for t in it if ..}, e a whole number; p: the set -/
def tSetI (w : World) (wi : TI) (g : TG) (tt : TT) (te : TE) (vs : List Nat) : TE := fun σ H Q => wi σ H fun J Ha => ∀ p, Ha p = none → ∃ Z : Nat → Nat → Hp → Prop,
  (∃ k, Z 0 k (upd Ha p (SetO w p (fun _ => false) 0))) ∧ ∀ i k Hb, Z i k Hb → (J.stop i Hb ∧ Q (.ref p) Hb) ∨ (J.go i Hb ∧ ∃ Nx : Hp → Prop, (∀ Hc, Nx Hc → ∃ j, j < k ∧ Z (i + 1) j Hc) ∧
    ∀ x Hc, J.yld i Hb x Hc → g x (wipe σ vs) Hc fun τ Hd => wipe τ vs = wipe σ vs ∧ tt τ Hd fun b He =>
      if b = true then te τ He fun y Hf => ∃ (n : Int) (S : Int → Bool) (c : Nat), y = .int n ∧ Hf p = some (SetO w p S c) ∧ c + 1 < scanBound ∧ Nx (upd Hf p (SetO w p (fun j => S j || decide (j = n)) (if S n = true then c else c + 1))) else Nx He)
theorem setI_run {ps : List (Addr × Obj)} {z : Shared} {σ : L2.St} {H : Hp} {Q : VK} {elt tg iter : Expr} {ifs : List Expr} {scope : Scope} {own : List (PySem.Str × Nat)} {pos pf : Pos} {wi : TI} {g : TG} {tt : TT} {te : TE} {Qf : Value → Shared → Prop}
    (hc : X.calm = true) (hN : X.N.Nodup) (inv : Inv X ps σ H z) (hi : PI X tg iter wi) (ok : BlkOk X.N X.env.scope scope own)
    (Pg : ∀ (y : Shared) (Hy : Hp) (c : Addr) (l : List (PySem.Str × Addr)) (q : List Addr), PG (X.blk y Hy scope (compEnvC scope l c X.env) q) tg g)
    (Pt : ∀ (y : Shared) (Hy : Hp) (c : Addr) (l : List (PySem.Str × Addr)) (q : List Addr), PTs (X.blk y Hy scope (compEnvC scope l c X.env) q) ifs tt)
    (Pe : ∀ (y : Shared) (Hy : Hp) (c : Addr) (l : List (PySem.Str × Addr)) (q : List Addr), PE (X.blk y Hy scope (compEnvC scope l c X.env) q) elt te)
    (hs : ∀ x, foldedSetIterable iter X.env x = pure x) (owed : tSetI X.w wi g tt te (own.map (·.2)) σ H Q)
    (back : ∀ p c y m Hy, Inv X ps σ Hy y → Q (.ref p) Hy → y.heap.Ns c m → FpOk X ps Hy c → compPost (model X.prog X.w) X.A X.xe none Qf (.ref p) c (.ok .next) y) :
    wpAny (model X.prog X.w) X.A (comprehension (.SetComp elt [⟨tg, iter, ifs, 0⟩] scope pos) scope X.env pf (newSet (.type "set")) false (eval iter X.env) none) Qf X.xe z := by
  have cells : ∀ y ∈ scope.names, y.2 = .free → ∃ c, X.env.cells.lookup y.1 = some c := fun y hy e => (ok.free y hy e).elim (fun k => inv.ok.has _ (.inl k)) (fun k => inv.ok.has _ (.inr k))
  have names : ∀ y ∈ scope.names, y.2 = .local → scope.names.lookup y.1 = some .local := fun y hy e => by
    have u := ok.uniq y hy
    rw [e] at u
    exact u
  refine wpAny_comprehension_free (use := none) rfl hs (closure_ok cells) ok.kind names (thn (hi.run ps z σ H _ inv owed) fun _ za ha => thn ha fun _ zb hb => ?_)
  obtain ⟨it, fp, tn, J, Hb, rfl, invB, T, t0, fB, body⟩ := hb
  refine PpSet.newSet_ok (newEnv_comp ?_)
  generalize hp : zb.heap.objs.size = p
  have free : Hb p = none := invB.hok.fresh (Nat.le_of_eq hp)
  obtain ⟨Z, ⟨k0, start⟩, turn⟩ := body p free
  generalize hcz : ({ zb with heap := zb.heap.push { cls := .type "set", dict := none, data := .set #[] 0 (.fresh 0 0 (!X.w.params.followText "set-order")) } } : Shared) = zc
  have eqz : zc.heap = zb.heap.push { cls := .type "set", dict := none, data := .set #[] 0 (.fresh 0 0 (!X.w.params.followText "set-order")) } := by rw [← hcz]
  generalize hHc : upd Hb p (SetO X.w p (fun _ => false) 0) = Hc at start
  have invC : Inv X ps σ Hc zc := by
    subst hHc
    subst hcz
    refine invB.laid (t' := zb.toks) (fun _ _ e => Heap.get?_push_of_some _ e) (Nat.le_of_eq hp) ?_
    subst hp
    exact setO_new (setR_fresh X.w)
  have inB : ∀ b ∈ fp, b < zb.heap.objs.size := fun b hb => let ⟨_, e, _⟩ := T.obj _ _ t0 b hb; Heap.lt_size e
  have fC : ∀ b ∈ fp, FpOk X ps Hc b ∧ b < zc.heap.objs.size := fun b hb => by
    have lt := inB b hb
    have ne : b ≠ p := by rw [← hp]; exact Nat.ne_of_lt lt
    have e : Hc b = none := by rw [← hHc, upd_ne ne]; exact (fB b hb).1
    exact ⟨⟨e, (fB b hb).2⟩, by rw [eqz, Heap.size_push]; exact Nat.lt_succ_of_lt lt⟩
  have t1 : tn 0 zc.heap := T.keep _ _ _ t0 fun _ _ _ e => by rw [eqz]; exact Heap.get?_push_of_some _ e
  have invD := block_start invC ok hN fC
  have rg := Pg zc Hc zc.heap.objs.size (cellsFrom (zc.heap.objs.size + 1) scope.names (cloFrom X.env.cells scope.names [])) fp
  have rt := Pt zc Hc zc.heap.objs.size (cellsFrom (zc.heap.objs.size + 1) scope.names (cloFrom X.env.cells scope.names [])) fp
  have re := Pe zc Hc zc.heap.objs.size (cellsFrom (zc.heap.objs.size + 1) scope.names (cloFrom X.env.cells scope.names [])) fp
  show codeAny _ _ (.compStart (.SetComp elt [⟨tg, iter, ifs, 0⟩] scope pos) 0 (.ref it) (.ref p) (compEnvC scope (cellsFrom (zc.heap.objs.size + 1) scope.names (cloFrom X.env.cells scope.names [])) zc.heap.objs.size X.env))
    (compPost (model X.prog X.w) X.A X.xe none Qf (.ref p) zc.heap.objs.size) { zc with heap := pushCells (zc.heap.push { cls := .type "dict", data := .dict #[] }) scope.names }
  have none0 : ∀ b ∈ fp, Hc b = none := fun b hb => (fC b hb).1.1
  generalize hen : compEnvC scope (cellsFrom (zc.heap.objs.size + 1) scope.names (cloFrom X.env.cells scope.names [])) zc.heap.objs.size X.env = en at invD rg rt re ⊢
  have enl : en.locals = zc.heap.objs.size := by subst hen; rfl
  generalize hzd : ({ zc with heap := pushCells (zc.heap.push { cls := .type "dict", data := .dict #[] }) scope.names } : Shared) = zd at invD ⊢
  have t2 : tn 0 zd.heap := T.keep _ _ _ t1 fun _ _ _ e => by rw [← hzd]; exact pushCells_keeps _ _ _ _ (Heap.get?_push_of_some _ e)
  have still : ∀ {τ : L2.St} {Hx : Hp} {zx : Shared}, Inv (X.blk zc Hc scope en fp) [] τ Hx zx → (∀ b ∈ fp, Hx b = none) → ∀ b ∈ fp, FpOk (X.blk zc Hc scope en fp) [] Hx b := fun i n b hb =>
    ⟨n b hb, (i.ok.exf b hb).1, i.ok.exfs b hb, .inl hb, fun x c e => (i.ok.exf b hb).2 x c e, fun q hq => by
      have hq : q ∈ ([] : List (Addr × Obj)) ++ [] := hq
      simp at hq⟩
  have laps : codeAny (model X.prog X.w) X.A (.compLoop (.SetComp elt [⟨tg, iter, ifs, 0⟩] scope pos) 0 (.ref it) (.ref p) en) (compPost (model X.prog X.w) X.A X.xe none Qf (.ref p) zc.heap.objs.size) zd := by
    refine PpSet.compLoopS_any (fun k zx => ∃ i Hx, Inv (X.blk zc Hc scope en fp) [] (wipe σ (own.map (·.2))) Hx zx ∧ tn i zx.heap ∧ (∀ b ∈ fp, Hx b = none) ∧ Z i k Hx) (fun k zx hx => ?_) k0 ⟨0, Hc, invD, t2, none0, start⟩
    obtain ⟨i, Hx, ix, tx, nx, zk⟩ := hx
    rcases turn i k Hx zk with ⟨st, done⟩ | ⟨go, Nx, toN, step⟩
    · refine thnF (T.done (X.blk zc Hc scope en fp) rfl rfl rfl hc i [] zx _ Hx (fun _ _ => False) ix (still ix nx) tx st) fun r zy hy => ?_
      obtain ⟨rfl, iy⟩ := hy
      have iz : Inv X ps σ Hx zy := invC.call' (ch := fp) iy.os iy.base iy.hok iy.bare fun b hb => ⟨(fC b hb).1.2.2.2.1, (fC b hb).1.2.1, (fC b hb).1.2.2.2.2.1, (fC b hb).1.2.2.2.2.2⟩
      have nC : Hx zc.heap.objs.size = none := by
        have q : Hx en.locals = none := iy.free
        rwa [enl] at q
      obtain ⟨m, hm, _⟩ := iy.loc
      have hm : zy.heap.Ns en.locals m := hm
      rw [enl] at hm
      exact back p _ zy m Hx iz done hm (invC.fpOk (Nat.le_refl _) nC)
    · refine thnF (T.item (X.blk zc Hc scope en fp) rfl rfl rfl hc i [] zx _ Hx (fun _ _ => False) ix (still ix nx) tx go) fun r zy hy => ?_
      obtain ⟨u, rfl, hy⟩ := hy
      refine thnF hy fun _ zz hz => ?_
      obtain ⟨x, Hz, iz, rz, yz, tz, nz⟩ := hz
      refine thnF (rg.run _ zz _ Hz x u _ (iz.pinned (still iz nz) (T.obj _ _ tz)) rz (step x Hz yz)) fun _ z1 h1 => ?_
      obtain ⟨τ, H1, i1, w1, q1⟩ := h1
      refine thnF (rt.run _ z1 τ H1 _ i1 q1) fun b z2 h2 => ?_
      obtain ⟨H2, i2, q2⟩ := h2
      have fin : ∀ {zf : Shared} {Hf : Hp}, Inv (X.blk zc Hc scope en fp) ([] ++ pinsAt fp zz.heap) τ Hf zf → Nx Hf → ∃ j, j < k ∧ ∃ i Hx, Inv (X.blk zc Hc scope en fp) [] (wipe σ (own.map (·.2))) Hx zf ∧ tn i zf.heap ∧ (∀ b ∈ fp, Hx b = none) ∧ Z i j Hx := fun {zf Hf} i' n' => by
        obtain ⟨j, hj, zj⟩ := toN Hf n'
        have kept : ∀ b ∈ fp, ∀ o, zz.heap.get? b = some o → zf.heap.get? b = some o ∧ Hf b = none := fun b hb o e => by
          have q := i'.pin (b, o) (List.mem_append_right _ (List.mem_append_right _ (mem_pinsAt hb e)))
          exact ⟨q.1, q.2.1⟩
        have len : (wipe σ (own.map (·.2))).length = τ.length := by rw [← w1, wipe_length]
        refine ⟨j, hj, i + 1, Hf, (i'.unpinned (pins := [])).weak len (fun a v e => by rw [← w1] at e; exact (wipe_some e).1), T.keep _ _ _ tz fun b hb o e => (kept b hb o e).1, fun b hb => ?_, zj⟩
        obtain ⟨o, e, _⟩ := T.obj _ _ tz b hb
        exact (kept b hb o e).2
      cases b with
      | false =>
        rw [if_neg Bool.false_ne_true] at q2 ⊢
        exact fin i2 q2
      | true =>
        rw [if_pos rfl] at q2 ⊢
        refine thnF (re.run _ z2 τ H2 _ i2 q2) fun v z3 h3 => ?_
        obtain ⟨yv, H3, i3, r3, n, S, c, rfl, hD, room, nx3⟩ := h3
        have hv : ∃ t, v = Value.int n t := r3
        obtain ⟨t, rfl⟩ := hv
        exact setR_add (setO_get (X := X.blk zc Hc scope en fp) i3 hD) room fun h' sb new => by
          have ex : ∃ o, h'.get? p = some o := let ⟨o, _, _, _, ho, _⟩ := new; ⟨o, ho⟩
          exact fin (i3.write (e := p) (t' := z3.toks + 1) (by rw [hD]; trivial) (.inl rfl) (fun b o hb ho => (sb.2 b hb).trans ho) ex (setO_new new)) nx3
  exact PpSet.codeAny_compStart_set laps (T.self X.A 0 _ _ _ t2 laps)
theorem pe_setI {elt tg iter : Expr} {ifs : List Expr} {scope : Scope} {own : List (PySem.Str × Nat)} {pos : Pos} {wi : TI} {g : TG} {tt : TT} {te : TE} (hc : X.calm = true) (hN : X.N.Nodup) (hi : PI X tg iter wi) (ok : BlkOk X.N X.env.scope scope own)
    (Pg : ∀ (y : Shared) (Hy : Hp) (c : Addr) (l : List (PySem.Str × Addr)) (q : List Addr), PG (X.blk y Hy scope (compEnvC scope l c X.env) q) tg g)
    (Pt : ∀ (y : Shared) (Hy : Hp) (c : Addr) (l : List (PySem.Str × Addr)) (q : List Addr), PTs (X.blk y Hy scope (compEnvC scope l c X.env) q) ifs tt)
    (Pe : ∀ (y : Shared) (Hy : Hp) (c : Addr) (l : List (PySem.Str × Addr)) (q : List Addr), PE (X.blk y Hy scope (compEnvC scope l c X.env) q) elt te)
    (hs : ∀ x, foldedSetIterable iter X.env x = pure x) : PE X (.SetComp elt [⟨tg, iter, ifs, 0⟩] scope pos) (tSetI X.w wi g tt te (own.map (·.2))) := by
  refine ⟨fun ps z σ H Q inv h => ?_⟩
  rw [PpSet.eval_SetComp]
  refine setI_run hc hN inv hi ok Pg Pt Pe hs h fun p c y m Hy iy q hm fp => ?_
  obtain ⟨a0, a1, a2, a3, a4, a5⟩ := fp
  exact ⟨m, hm, fun _ sb => ⟨.ref p, Hy, iy.turned (t' := y.toks) (fun b o hb e => (sb.2 b hb).trans e) a0 a1 a3 a4 a5, rfl, q⟩⟩
end
end Dl

set_option Elab.async false
set_option linter.all false
set_option maxRecDepth 100000
set_option maxHeartbeats 4000000
/-! Data layer, part 7: sorted({..}), sorted, sum, repr of one value, a chain of comparisons, {..}.get(..), comprehensions over range. -/
namespace Dl
open PySem PySem.Spec PyProof.Rows L2
/-- two strictly ascending lists with the same members -/
theorem asc_eq : ∀ {xs ys : List Int}, xs.Pairwise (· < ·) → ys.Pairwise (· < ·) → (∀ k, k ∈ xs ↔ k ∈ ys) → xs = ys
  | [], [], _, _, _ => rfl
  | [], y :: ys, _, _, h => by have := (h y).mpr (List.mem_cons_self ..); simp at this
  | x :: xs, [], _, _, h => by have := (h x).mp (List.mem_cons_self ..); simp at this
  | x :: xs, y :: ys, hx, hy, h => by
    obtain ⟨hx1, hx2⟩ := List.pairwise_cons.mp hx
    obtain ⟨hy1, hy2⟩ := List.pairwise_cons.mp hy
    have e : x = y := by
      have a := (h x).mp (List.mem_cons_self ..)
      have b := (h y).mpr (List.mem_cons_self ..)
      rcases List.mem_cons.mp a with a | a
      · exact a
      · rcases List.mem_cons.mp b with b | b
        · exact b.symm
        · have := hx1 y b; have := hy1 x a; omega
    subst e
    rw [asc_eq hx2 hy2 fun k => ?_]
    constructor
    · intro q
      rcases List.mem_cons.mp ((h k).mp (List.mem_cons_of_mem _ q)) with z | z
      · have := hx1 k q; omega
      · exact z
    · intro q
      rcases List.mem_cons.mp ((h k).mpr (List.mem_cons_of_mem _ q)) with z | z
      · have := hy1 k q; omega
      · exact z
theorem asc_of_le : ∀ {xs : List Int}, xs.Pairwise (· ≤ ·) → xs.Nodup → xs.Pairwise (· < ·)
  | [], _, _ => .nil
  | x :: xs, h, n => by
    obtain ⟨h1, h2⟩ := List.pairwise_cons.mp h
    obtain ⟨n1, n2⟩ := List.nodup_cons.mp n
    refine List.pairwise_cons.mpr ⟨fun y hy => ?_, asc_of_le h2 n2⟩
    have := h1 y hy
    have : x ≠ y := fun z => n1 (z ▸ hy)
    omega
theorem ints_dq {K : PySem.W.Frag} {H : Hp} : ∀ ns : List Int, DqAll K H (ns.map V.int) (ns.map PyData.int)
  | [] => .nil
  | n :: ns => .cons (.int n) (ints_dq ns)
theorem ints_v {K : PySem.W.Frag} {H : Hp} : ∀ {ns : List Int} {xs : List V}, DqAll K H xs (ns.map PyData.int) → xs = ns.map V.int
  | [], _, h => by cases h; rfl
  | n :: ns, _, h => by
    cases h with
    | cons a b => rw [dp_int a, ints_v b]; rfl
section
variable {X : Cx} {M : List Addr} {σ : L2.St} {H H' : Hp} {e a b c o elt tg iter : Expr} {ifs : List Expr} {scope : Scope} {own : List (Str × Nat)} {es : List Expr} {d d1 d2 : PyData} {ds ds2 : List PyData} {x : Str} {v : V} {pos p1 p2 p3 : Pos}
theorem set_list {w : World} {K : PySem.W.Frag} {a : Addr} {xs : List V} {g : TG} {tt : TT} {te : TE} {vs : List Nat} {Ha : Hp} {p : Addr} {Qd : Hp → Prop} (Pv : Nat → Hp → Prop) (h0 : Pv 0 (upd Ha p (SetO w p (fun _ => false) 0)))
    (hl : ∀ i Hb, i ≤ xs.length → Pv i Hb → SqL K Hb a xs)
    (hs : ∀ i x Hc, xs[i]? = some x → Pv i Hc → g x (wipe σ vs) Hc fun τ Hd => wipe τ vs = wipe σ vs ∧ tt τ Hd fun b He =>
      if b = true then te τ He fun y Hf => ∃ (n : Int) (S : Int → Bool) (c : Nat), y = .int n ∧ Hf p = some (SetO w p S c) ∧ c + 1 < scanBound ∧ Pv (i + 1) (upd Hf p (SetO w p (fun j => S j || decide (j = n)) (if S n = true then c else c + 1))) else Pv (i + 1) He)
    (hd : ∀ Hb, Pv xs.length Hb → Qd Hb) :
    ∃ Z : Nat → Nat → Hp → Prop, (∃ k, Z 0 k (upd Ha p (SetO w p (fun _ => false) 0))) ∧ ∀ i k Hb, Z i k Hb → ((Itl K a).stop i Hb ∧ Qd Hb) ∨ ((Itl K a).go i Hb ∧ ∃ Nx : Hp → Prop, (∀ Hc, Nx Hc → ∃ j, j < k ∧ Z (i + 1) j Hc) ∧
      ∀ x Hc, (Itl K a).yld i Hb x Hc → g x (wipe σ vs) Hc fun τ Hd => wipe τ vs = wipe σ vs ∧ tt τ Hd fun b He =>
        if b = true then te τ He fun y Hf => ∃ (n : Int) (S : Int → Bool) (c : Nat), y = .int n ∧ Hf p = some (SetO w p S c) ∧ c + 1 < scanBound ∧ Nx (upd Hf p (SetO w p (fun j => S j || decide (j = n)) (if S n = true then c else c + 1))) else Nx He) := by
  refine ⟨fun i k Hb => k + i = xs.length ∧ Pv i Hb, ⟨xs.length, rfl, h0⟩, fun i k Hb hz => ?_⟩
  obtain ⟨hk, hp⟩ := hz
  have here := hl i Hb (by omega) hp
  cases e : xs[i]? with
  | none =>
    have hge : xs.length ≤ i := List.getElem?_eq_none_iff.mp e
    have ei : i = xs.length := by omega
    subst ei
    exact .inl ⟨⟨xs, here, hge⟩, hd Hb hp⟩
  | some x0 =>
    have hlt := (List.getElem?_eq_some_iff.mp e).1
    refine .inr ⟨⟨xs, x0, here, e⟩, Pv (i + 1), fun Hc hc => ⟨k - 1, by omega, by omega, hc⟩, fun x Hc hy => ?_⟩
    obtain ⟨rfl, hy⟩ := hy
    exact hs i x _ (hy xs here) hp
/-- sorted({elt for tg in iter if ..}) -/
theorem xl_sortedSet (f : PyData → Option Int) (ns : List Int) (hm : X.mg "sorted" = none) (L : Live M H) (hN : X.N.Nodup) (hit : XD X M σ H iter (.list ds)) (ok : BlkOk X.N X.env.scope scope own) (hz : ds.length ≤ 60)
    (hst : ∀ p d v H1, d ∈ ds → H p = none → Same H H1 → Live (p :: M) H1 → Dq X.K (hid (p :: M) H1) v d → BG X scope tg v (wipe σ (own.map (·.2))) H1 fun τ H2 => wipe τ (own.map (·.2)) = wipe σ (own.map (·.2)) ∧ BT X scope ifs τ H2 fun k H3 =>
      Same H1 H3 ∧ ((k = true ∧ ∃ n, f d = some n ∧ BE X scope elt τ H3 fun y H4 => Same H3 H4 ∧ y = .int n) ∨ (k = false ∧ f d = none)))
    (hasc : ns.Pairwise (· < ·)) (hmem : ∀ k, k ∈ ns ↔ ∃ d ∈ ds, f d = some k) (hc : X.calm = true := by rfl) (hs : ∀ x, foldedSetIterable iter X.env x = pure x := by intro _; rfl) (hg : Gl X "sorted" := by rfl)
    (he : starEach [.SetComp elt [⟨tg, iter, ifs, 0⟩] scope pos] X.env = (false, eval (.SetComp elt [⟨tg, iter, ifs, 0⟩] scope pos) X.env) :: starEach [] X.env := by rfl) (hpl : (backTo p2 (starEach [] X.env)).any (·.1) = false := by rfl) :
    XL X M σ H (.Call (.Name "sorted" p1) [.SetComp elt [⟨tg, iter, ifs, 0⟩] scope pos] [] p2) (ns.map PyData.int) := fun H1 s1 Q q => by
  refine re_B (cr_sortedSet hc) (ra_1 ⟨_, pe_setI (own := own) hc hN (pi_list re_) ok (fun _ _ _ _ _ => bg_) (fun _ _ _ _ _ => bt_) (fun _ _ _ _ _ => be_) hs, hit H1 s1 _ fun v H2 s2 hv => ?_⟩ he) hm (by decide +kernel) hg (by decide) (by decide) he hpl
  obtain ⟨a, xs, rfl, ha, hx⟩ := dp_lst hv
  have L2' : Live M H2 := L.mono (s1.trans s2)
  refine ⟨a, rfl, ⟨xs, SqL.of (hid_le _ _ ha)⟩, fun p hp => ?_⟩
  have hp0 : H p = none := (s1.trans s2).free hp
  refine set_list (xs := xs) (a := a) (fun i H' => Same H2 H' ∧ ∃ S c, H' p = some (SetO X.w p S c) ∧ c ≤ i ∧ ∀ k, S k = true ↔ ∃ d ∈ ds.take i, f d = some k)
    ⟨same_new hp, fun _ => false, 0, upd_same, Nat.le_refl _, fun k => by simp⟩ (fun i H' _ z => SqL.of (z.1 _ _ (hid_le _ _ ha))) (fun i x H' hi z => ?_) (fun H' z => ?_)
  · obtain ⟨sH, S, n, hS, hn, hk⟩ := z
    obtain ⟨d, hd1, hd2⟩ := dpa_get' hx hi
    have hdm : d ∈ ds := List.mem_of_getElem? hd1
    have hi60 : i < 60 := by have := (List.getElem?_eq_some_iff.mp hd1).1; omega
    have etake : ds.take (i + 1) = ds.take i ++ [d] := by rw [List.take_add_one, hd1]; rfl
    have Lp : Live (p :: M) H' := fun b hb => by
      rcases List.mem_cons.mp hb with z | hb
      · subst z; rw [hS]; simp
      · exact L2'.mono sH b hb
    refine bg_mono (hst p d x H' hdm hp0 ((s1.trans s2).trans sH) Lp (hd2.up (hid_step hp sH))) fun τ Ha ⟨hw, hbt⟩ => ⟨hw, bt_mono hbt fun k Hb ⟨sb, hk'⟩ => ?_⟩
    rcases hk' with ⟨hk1, m, hf, hbe⟩ | ⟨hk1, hf⟩
    · subst hk1
      refine iteT (be_mono hbe fun y Hc ⟨sc, hy⟩ => ?_)
      have sd := sb.trans sc
      refine ⟨m, S, n, hy, sd _ _ hS, Nat.lt_of_lt_of_le (by omega : n + 1 < 4096) (Nat.le_refl _), fun b o e => ?_, fun j => S j || decide (j = m), (if S m = true then n else n + 1), upd_same, by split <;> omega, fun j => ?_⟩
      · rw [upd_ne (ne_of_none e hp)]
        exact sd _ _ (sH _ _ e)
      · rw [Bool.or_eq_true, decide_eq_true_eq, hk j, etake]
        constructor
        · rintro (⟨d', h1, h2⟩ | h)
          · exact ⟨d', List.mem_append_left _ h1, h2⟩
          · exact ⟨d, List.mem_append_right _ (List.mem_singleton.mpr rfl), by rw [hf, h]⟩
        · rintro ⟨d', h1, h2⟩
          rcases List.mem_append.mp h1 with h1 | h1
          · exact .inl ⟨d', h1, h2⟩
          · rw [List.mem_singleton.mp h1, hf] at h2
            exact .inr (Option.some.inj h2).symm
    · subst hk1
      refine iteF ⟨sH.trans sb, S, n, sb _ _ hS, by omega, fun j => ?_⟩
      rw [hk j, etake]
      constructor
      · rintro ⟨d', h1, h2⟩
        exact ⟨d', List.mem_append_left _ h1, h2⟩
      · rintro ⟨d', h1, h2⟩
        rcases List.mem_append.mp h1 with h1 | h1
        · exact ⟨d', h1, h2⟩
        · rw [List.mem_singleton.mp h1, hf] at h2
          cases h2
  · obtain ⟨sH, S, n, hS, hn, hk⟩ := z
    have hlen := dpa_len hx
    rw [hlen, List.take_length] at hk
    refine ⟨p, S, n, rfl, hS, by omega, fun ks l h1 h2 _ hl => ?_⟩
    have e : ks = ns := asc_eq h1 hasc fun k => (h2 k).trans ((hk k).trans (hmem k).symm)
    subst e
    refine q l _ _ ((s2.trans sH).trans (same_new hl)) ((s2.trans sH).free hl) upd_same ?_
    rw [hid_new (L2'.mono sH) hl]
    exact ints_dq ks
/-- sorted(l), l a list of different whole numbers -/
theorem xl_sortedI {ms : List Int} (ns : List Int) (hm : X.mg "sorted" = none) (L : Live M H) (ha : XD X M σ H e (.list (ms.map PyData.int))) (hz : ms.length < 64) (hnd : ms.Nodup) (hasc : ns.Pairwise (· < ·)) (hmem : ∀ k, k ∈ ns ↔ k ∈ ms) (hg : Gl X "sorted" := by rfl)
    (he : starEach [e] X.env = (false, eval e X.env) :: starEach [] X.env := by rfl) (hpl : (backTo p2 (starEach [] X.env)).any (·.1) = false := by rfl) : XL X M σ H (.Call (.Name "sorted" p1) [e] [] p2) (ns.map PyData.int) := fun H1 s1 Q q =>
  re_B cr_sorted (ra_1 (ha H1 s1 _ fun v H2 s2 hv => by
    obtain ⟨a, xs, rfl, ha, hx⟩ := dp_lst hv
    have ex := ints_v hx
    subst ex
    refine ⟨a, ms, rfl, SqL.of (hid_le _ _ ha), hz, fun ks l h1 h2 hl => ?_⟩
    have e : ks = ns := asc_eq (asc_of_le h2 (h1.nodup_iff.mpr hnd)) hasc fun k => h1.mem_iff.trans (hmem k).symm
    subst e
    refine q l _ _ (s2.trans (same_new hl)) (s2.free hl) upd_same ?_
    rw [hid_new (L.mono (s1.trans s2)) hl]
    exact ints_dq ks) he) hm (by decide +kernel) hg (by decide) (by decide) he hpl
/-- sum(l) -/
theorem xd_sum {ns : List Int} (hm : X.mg "sum" = none) (ha : XD X M σ H e (.list (ns.map PyData.int))) (hc : X.calm = true := by rfl) (hg : Gl X "sum" := by rfl)
    (he : starEach [e] X.env = (false, eval e X.env) :: starEach [] X.env := by rfl) (hpl : (backTo p2 (starEach [] X.env)).any (·.1) = false := by rfl) : XD X M σ H (.Call (.Name "sum" p1) [e] [] p2) (.int ns.sum) := fun H1 s1 Q q =>
  re_B (cr_sum hc) (ra_1 (ha H1 s1 _ fun v H2 s2 hv => by
    obtain ⟨a, xs, rfl, ha, hx⟩ := dp_lst hv
    have ex := ints_v hx
    subst ex
    exact ⟨a, ns, rfl, SqL.of (hid_le _ _ ha), q _ H2 s2 (.int _)⟩) he) hm (by decide +kernel) hg (by decide) (by decide) he hpl
/-! ### repr of one value -/
/-- a whole number of few digits, or None -/
def Plain (d : PyData) : Prop := d = .none ∨ ∃ i : Int, d = .int i ∧ i.natAbs.log2 < 1920
def txt : PyData → Str
  | .int i => Str.ofString (toString i)
  | _ => "None"
theorem call_reprN : CallR X (.builtin "repr") (fun xs H Q => xs = [.non] ∧ Q (.str "None") H) := by
  intro pins s σ H xs us Q I r h
  obtain ⟨rfl, q⟩ := h
  obtain ⟨u, rfl, rx⟩ := vals1 r
  cases rx
  exact PySem.P.repr_of_none ⟨.str _, H, I.tok _, ⟨_, rfl⟩, q⟩
theorem xd_reprP (hm : X.mg "repr" = none) (h : Plain d) (ha : XD X M σ H e d) (hg : Gl X "repr" := by rfl)
    (he : starEach [e] X.env = (false, eval e X.env) :: starEach [] X.env := by rfl) (hpl : (backTo p2 (starEach [] X.env)).any (·.1) = false := by rfl) : XD X M σ H (.Call (.Name "repr" p1) [e] [] p2) (.str (txt d)) := fun H1 s1 Q q => by
  rcases h with rfl | ⟨i, rfl, hi⟩
  · exact re_B call_reprN (ra_1 (ha H1 s1 _ fun v H2 s2 hv => ⟨by rw [dp_non hv], q _ H2 s2 (.str _)⟩) he) hm (by decide +kernel) hg (by decide) (by decide) he hpl
  · exact re_B SkE.call_repr_int (ra_1 (ha H1 s1 _ fun v H2 s2 hv => ⟨i, by rw [dp_int hv], hi, q _ H2 s2 (.str _)⟩) he) hm (by decide +kernel) hg (by decide) (by decide) he hpl
theorem xt_reprNeP {pa pb : Pos} (hm : X.mg "repr" = none) (h : Plain d) (ha : XD X M σ H a d) (hb : XD X M σ H b d) (hg : Gl X "repr" := by rfl)
    (he : starEach [a] X.env = (false, eval a X.env) :: starEach [] X.env := by rfl) (hpl : (backTo pa (starEach [] X.env)).any (·.1) = false := by rfl) (he2 : starEach [b] X.env = (false, eval b X.env) :: starEach [] X.env := by rfl) (hpl2 : (backTo pb (starEach [] X.env)).any (·.1) = false := by rfl) :
    XT X σ H (.Compare (.Call (.Name "repr" p1) [a] [] pa) [.NotEq] [.Call (.Name "repr" p2) [b] [] pb] pos) false :=
  xt_cmp op_ne (xd_reprP hm h ha hg he hpl) (xd_reprP hm h hb hg he2 hpl2) fun H1 v w s hv hw Q q => by
    rw [dp_str hv, dp_str hw]
    exact ⟨rfl, by rw [decide_eq_true rfl]; exact q H1 (Same.refl _)⟩
/-! ### l <= x < h -/
theorem xt_chainI {op op' : CmpOp} {g g' : Int → Int → Bool} {l m n : Int} (ho : OpR X (compareOp op) (rI0 fun i j => .bl (g i j))) (ho' : OpR X (compareOp op') (rI0 fun i j => .bl (g' i j))) (ha : XD X M σ H a (.int l)) (hb : XD X M σ H b (.int m)) (hc : XD X M σ H c (.int n))
    (hm : lastMarks [op, op'] [b, c] = false := by with_unfolding_all rfl) : XT X σ H (.Compare a [op, op'] [b, c] pos) (g l m && g' m n) := fun H1 s Q q =>
  ⟨_, pt_chain ho ho' re_ re_ re_ hm, ha H1 s _ fun v H2 s2 hv => hb H2 (s.trans s2) _ fun u H3 s3 hu => ⟨l, m, dp_int hv, dp_int hu, g l m, rfl, by
    cases e : g l m with
    | false =>
      rw [e] at q
      exact iteF ⟨false, rfl, q H3 (s2.trans s3)⟩
    | true =>
      rw [e] at q
      exact iteT (hc H3 ((s.trans s2).trans s3) _ fun y H4 s4 hy => ⟨m, n, dp_int hu, dp_int hy, g' m n, rfl, q H4 ((s2.trans s3).trans s4)⟩)⟩⟩
/-! ### {k1: a, k2: b}.get(c) -/
theorem xd_get2 {k1 k2 k : Str} {i1 i2 : Int} {j1 j2 : _} {q1 q2 : Pos} (hu : X.A.units + 1 < cLine) (ha : XD X M σ H a (.int i1)) (hb : XD X M σ H b (.int i2)) (hk : XD X M σ H c (.str k)) (hne : k1 ≠ k2)
    (mm : M1 X (.Dict [some (.Constant (.str k1) j1 q1), some (.Constant (.str k2) j2 q2)] [a, b] pos) "get" p1 c p2) :
    XD X M σ H (.Call (.Attribute (.Dict [some (.Constant (.str k1) j1 q1), some (.Constant (.str k2) j2 q2)] [a, b] pos) "get" p1) [c] [] p2) (if k = k1 then .int i1 else if k = k2 then .int i2 else .none) := fun H1 s1 Q q =>
  ⟨_, pe_dget1 hu (pe_disp (pps_cons pe_str re_ (pps_cons pe_str re_ pps_nil)) rfl rfl (by simp) (by simp)) re_ mm, fun p hp => ha _ (s1.trans (same_new hp)) _ fun v H2 s2 hv => hb H2 ((s1.trans (same_new hp)).trans s2) _ fun u H3 s3 hu => by
    have s13 : Same H1 H3 := ((same_new hp).trans s2).trans s3
    have h3p : H3 p = some (.dK []) := s3 _ _ (s2 _ _ upd_same)
    refine ⟨h3p, [(.inr k1, .int i1), (.inr k2, .int i2)], by rw [dp_int hv, dp_int hu]; rfl, by simp, p, rfl, .inl ⟨_, .inl upd_same⟩, ?_⟩
    have sx : Same H1 (upd H3 p (.dK (mergeK [] [(.inr k1, .int i1), (.inr k2, .int i2)]))) := fun b o e => by
      rw [upd_ne (ne_of_none e hp)]
      exact s13 b o e
    refine hk _ (s1.trans sx) _ fun y H4 s4 hy => ?_
    rw [dp_str hy]
    have e : mergeK [] [((Sum.inr k1 : L2.Key), V.int i1), (.inr k2, .int i2)] = [(.inr k1, .int i1), (.inr k2, .int i2)] := by
      have n : (Sum.inr k1 : L2.Key) ≠ .inr k2 := fun z => hne (Sum.inr.inj z)
      show putK (putK [] (Sum.inr k1 : L2.Key) (V.int i1)) (.inr k2) (.int i2) = _
      have e1 : putK [] (Sum.inr k1 : L2.Key) (V.int i1) = [(.inr k1, .int i1)] := rfl
      rw [e1]
      unfold putK
      rw [if_neg (by simp [hne])]
      rfl
    rw [e] at s4
    refine ⟨_, DGet.k (k := .inr k) (s4 _ _ upd_same), q _ H4 ?_ ?_⟩
    · rw [e] at sx; exact sx.trans s4
    · by_cases h1 : k = k1
      · subst h1
        rw [valV_pos rfl, if_pos rfl]
        exact .int _
      · rw [valV_neg (fun z => h1 (Sum.inr.inj z).symm), if_neg h1]
        by_cases h2 : k = k2
        · subst h2
          rw [valV_pos rfl, if_pos rfl]
          exact .int _
        · rw [valV_neg (fun z => h2 (Sum.inr.inj z).symm), if_neg h2, valV_nil]
          exact .non⟩
/-! ### [.. for x in range(a, b)], whole numbers -/
theorem xl_range2 {lo hi : Int} (g : Int → Int) (hm : X.mg "range" = none) (L : Live M H) (hN : X.N.Nodup) (ha : XD X M σ H a (.int lo)) (hb : XD X M σ H b (.int hi)) (ok : BlkOk X.N X.env.scope scope own) (hz : (-(1000 : Int) ≤ lo ∧ lo ≤ 1000) ∧ (-(1000 : Int) ≤ hi ∧ hi ≤ 1000))
    (hst : ∀ i H1, Same H H1 → BG X scope tg (.int i) (wipe σ (own.map (·.2))) H1 fun τ H2 => wipe τ (own.map (·.2)) = wipe σ (own.map (·.2)) ∧ Same H1 H2 ∧ BE X scope elt τ H2 fun y H3 => Same H2 H3 ∧ y = .int (g i))
    (hc : X.calm = true := by rfl) (hs : ∀ x, foldedSetIterable (.Call (.Name "range" p1) [a, b] [] p2) X.env x = pure x := by intro _; rfl) (hg : Gl X "range" := by rfl)
    (he : starEach [a, b] X.env = (false, eval a X.env) :: starEach [b] X.env := by rfl) (he2 : starEach [b] X.env = (false, eval b X.env) :: starEach [] X.env := by rfl)
    (he3 : starEach [b] X.env = [(false, eval b X.env)] := by rfl) : XL X M σ H (.ListComp elt [⟨tg, .Call (.Name "range" p1) [a, b] [] p2, [], 0⟩] scope pos) ((List.range (hi - lo).toNat).map fun i : Nat => PyData.int (g (lo + i))) := fun H1 s1 Q q =>
  ⟨_, pe_lc (own := own) hc hN (pi_range2 hg hm ra_ (by rw [he, he3]) he3) ok (fun _ _ _ _ _ => bg_) (fun _ _ _ _ _ => bt_) (fun _ _ _ _ _ => be_) hs, ra_cons (ha H1 s1 _ fun v H2 s2 hv => ra_1 (hb H2 (s1.trans s2) _ fun u H3 s3 hu => by
    have b1 : (1000 : Int) < 2 ^ 62 := by decide
    refine ⟨lo, hi, by rw [dp_int hv, dp_int hu], ⟨by omega, by omega, by omega, by omega⟩, fun p hp => ?_⟩
    have s13 := s2.trans s3
    have L3 := L.mono (s1.trans s13)
    refine lc_range (fun i H' => Same H3 H' ∧ ∃ acc, H' p = some (.lst acc) ∧ acc = ((List.range i).map fun i : Nat => V.int (g (lo + i)))) ⟨same_new hp, [], upd_same, rfl⟩ (fun i H' hi' z => ?_) (fun H' z => ?_)
    · obtain ⟨sH, acc, hacc, ea⟩ := z
      refine bg_mono (hst (lo + i) H' ((s1.trans s13).trans sH)) fun τ Ha ⟨hw, sa, hbe⟩ => ⟨hw, bt_nil (iteT (be_mono hbe fun y Hb ⟨sb, ey⟩ => ?_))⟩
      have sd := sa.trans sb
      refine ⟨acc, sd _ _ hacc, ?_, fun b o e => ?_, _, upd_same, ?_⟩
      · have h4 : 100000 < sizeLine := by decide
        rw [ea, List.length_map, List.length_range]
        omega
      · rw [upd_ne (ne_of_none e hp)]
        exact sd _ _ (sH _ _ e)
      · rw [ea, ey, List.range_succ, List.map_append]
        rfl
    · obtain ⟨sH, acc, hacc, ea⟩ := z
      refine q p acc H' (s13.trans sH) (s13.free hp) hacc ?_
      rw [ea]
      have e := ints_dq (K := X.K) (H := hid M H') ((List.range (hi - lo).toNat).map fun i : Nat => g (lo + i))
      rw [List.map_map, List.map_map] at e
      exact e) he2) he⟩
end
end Dl

set_option Elab.async false
set_option linter.all false
set_option maxRecDepth 100000
set_option maxHeartbeats 4000000
/-! Data layer, part 8: x = [..] on one line. -/
namespace Dl
open PySem PySem.Spec PyProof.Rows L2
section
variable {X : Cx} {M : List Addr} {σ : L2.St} {H H' : Hp} {e a b c o elt tg iter : Expr} {ifs : List Expr} {scope : Scope} {own : List (Str × Nat)} {es : List Expr} {d : PyData} {ds : List PyData} {x : Str} {v : V} {pos p0 p1 p2 p3 p4 : Pos} {D : Ends} {rest : List Stmt}
/-- a comprehension; Pv: what more is known of each item -/
theorem lc_P (f : PyData → Option PyData) (Pv : Addr → V → Hp → Prop) (mono : ∀ p v H1 H2, (∀ b o, b ≠ p → H1 b = some o → H2 b = some o) → Pv p v H1 → Pv p v H2) (L : Live M H) (hN : X.N.Nodup) (hit : XD X M σ H iter (.list ds)) (ok : BlkOk X.N X.env.scope scope own) (hz : ds.length ≤ 100000)
    (hst : ∀ p d v H1, d ∈ ds → H p = none → Same H H1 → Live (p :: M) H1 → Dq X.K (hid (p :: M) H1) v d → BG X scope tg v (wipe σ (own.map (·.2))) H1 fun σ2 H2 => wipe σ2 (own.map (·.2)) = wipe σ (own.map (·.2)) ∧ BT X scope ifs σ2 H2 fun k H3 =>
      Same H1 H3 ∧ ((k = true ∧ ∃ d', f d = some d' ∧ BE X scope elt σ2 H3 fun y H4 => Same H3 H4 ∧ Dq X.K (hid (p :: M) H4) y d' ∧ Pv p y H4) ∨ (k = false ∧ f d = none)))
    {Q : VK} (q : ∀ p xs H2, Same H H2 → H p = none → H2 p = some (.lst xs) → DqAll X.K (hid (p :: M) H2) xs (ds.filterMap f) → (∀ v ∈ xs, Pv p v H2) → Q (.ref p) H2)
    : ∃ wi, PI X tg iter wi ∧ tLc wi (BG X scope tg) (BT X scope ifs) (BE X scope elt) (own.map (·.2)) σ H Q :=
  ⟨_, pi_list re_, hit H (Same.refl H) _ fun v H2 s2 hv => by
    obtain ⟨a, xs, rfl, ha, hx⟩ := dp_lst hv
    have L2' : Live M H2 := L.mono s2
    refine ⟨a, rfl, ⟨xs, SqL.of (hid_le _ _ ha)⟩, fun p hp => ?_⟩
    have hpM : p ∉ M := L2'.fresh hp
    have hp0 : H p = none := s2.free hp
    refine lc_list (xs := xs) (a := a) (fun i H' => Same H2 H' ∧ ∃ acc, H' p = some (.lst acc) ∧ DqAll X.K (hid (p :: M) H') acc ((ds.take i).filterMap f) ∧ ∀ v ∈ acc, Pv p v H') ⟨same_new hp, [], upd_same, by simpa using DqAll.nil, fun v hv => by simp at hv⟩ (fun i H' _ w => SqL.of (w.1 _ _ (hid_le _ _ ha))) (fun i x H' hi w => ?_) (fun H' w => ?_)
    · obtain ⟨sH, acc, hacc, hda, hpv⟩ := w
      obtain ⟨d, hd1, hd2⟩ := dpa_get' hx hi
      have hdm : d ∈ ds := List.mem_of_getElem? hd1
      have etake : ds.take (i + 1) = ds.take i ++ [d] := by
        rw [List.take_add_one, hd1]; rfl
      have hlen : acc.length < sizeLine := by
        rw [dpa_len hda]
        have h1 : ((ds.take i).filterMap f).length ≤ (ds.take i).length := List.length_filterMap_le ..
        have h2 : (ds.take i).length ≤ i := by rw [List.length_take]; omega
        have h3 : i < ds.length := (List.getElem?_eq_some_iff.mp hd1).1
        have h4 : 100000 < sizeLine := by decide
        omega
      have Lp : Live (p :: M) H' := fun b hb => by
        rcases List.mem_cons.mp hb with z | hb
        · subst z; rw [hacc]; simp
        · exact L2'.mono sH b hb
      have kx : Dq X.K (hid (p :: M) H') x d := hd2.up (hid_step hp sH)
      refine bg_mono (hst p d x H' hdm hp0 (s2.trans sH) Lp kx) fun σ2 Ha ⟨hw, hbt⟩ => ⟨hw, bt_mono hbt fun k Hb ⟨sb, hk⟩ => ?_⟩
      have sH' : Same H' Hb := sb
      rcases hk with ⟨hk, d', hf, hbe⟩ | ⟨hk, hf⟩
      · subst hk
        refine iteT (be_mono hbe fun y Hc ⟨sc, hy, hpy⟩ => ?_)
        have sd := sH'.trans sc
        refine ⟨acc, sd _ _ hacc, hlen, fun b o e => ?_, acc ++ [y], upd_same, ?_, fun v hv => ?_⟩
        · have nb : b ≠ p := ne_of_none e hp
          rw [upd_ne nb]
          exact sd _ _ (sH _ _ e)
        · rw [hid_upd_ne, etake, List.filterMap_append]
          have e2 : [d].filterMap f = [d'] := by simp [hf]
          rw [e2]
          exact dpa_app (hda.up (hid_mono sd)) (.cons hy .nil)
        · rcases List.mem_append.mp hv with z | z
          · exact mono p v H' _ (fun b o nb e => by rw [upd_ne nb]; exact sd _ _ e) (hpv v z)
          · rw [List.mem_singleton.mp z]
            exact mono p y Hc _ (fun b o nb e => by rw [upd_ne nb]; exact e) hpy
      · subst hk
        refine iteF ⟨sH.trans sH', acc, sH' _ _ hacc, ?_, fun v hv => mono p v H' _ (fun b o _ e => sH' _ _ e) (hpv v hv)⟩
        rw [etake, List.filterMap_append]
        have e2 : [d].filterMap f = [] := by simp [hf]
        rw [e2, List.append_nil]
        exact hda.up (hid_mono sH')
    · obtain ⟨sH, acc, hacc, hda, hpv⟩ := w
      have e1 : ds.take xs.length = ds := by rw [dpa_len hx]; exact List.take_length
      rw [e1] at hda
      exact q p acc H' (s2.trans sH) hp0 hacc hda hpv⟩
theorem re_compP (f : PyData → Option PyData) (Pv : Addr → V → Hp → Prop) (mono : ∀ p v H1 H2, (∀ b o, b ≠ p → H1 b = some o → H2 b = some o) → Pv p v H1 → Pv p v H2) (L : Live M H) (hN : X.N.Nodup) (hit : XD X M σ H iter (.list ds)) (ok : BlkOk X.N X.env.scope scope own) (hz : ds.length ≤ 100000)
    (hst : ∀ p d v H1, d ∈ ds → H p = none → Same H H1 → Live (p :: M) H1 → Dq X.K (hid (p :: M) H1) v d → BG X scope tg v (wipe σ (own.map (·.2))) H1 fun σ2 H2 => wipe σ2 (own.map (·.2)) = wipe σ (own.map (·.2)) ∧ BT X scope ifs σ2 H2 fun k H3 =>
      Same H1 H3 ∧ ((k = true ∧ ∃ d', f d = some d' ∧ BE X scope elt σ2 H3 fun y H4 => Same H3 H4 ∧ Dq X.K (hid (p :: M) H4) y d' ∧ Pv p y H4) ∨ (k = false ∧ f d = none)))
    {Q : VK} (q : ∀ p xs H2, Same H H2 → H p = none → H2 p = some (.lst xs) → DqAll X.K (hid (p :: M) H2) xs (ds.filterMap f) → (∀ v ∈ xs, Pv p v H2) → Q (.ref p) H2)
    (hc : X.calm = true := by rfl) (hs : ∀ x, foldedSetIterable iter X.env x = pure x := by intro _; rfl) : RE X (.ListComp elt [⟨tg, iter, ifs, 0⟩] scope pos) σ H Q := by
  obtain ⟨wi, h1, h2⟩ := lc_P f Pv mono L hN hit ok hz hst q
  exact ⟨_, pe_lc (own := own) hc hN h1 ok (fun _ _ _ _ _ => bg_) (fun _ _ _ _ _ => bt_) (fun _ _ _ _ _ => be_) hs, h2⟩
/-- x = [..], on one line -/
theorem rb_setC (i : Nat) {py : Pos} {spos : Pos} (f : PyData → Option PyData) (Pv : Addr → V → Hp → Prop) (mono : ∀ p v H1 H2, (∀ b o, b ≠ p → H1 b = some o → H2 b = some o) → Pv p v H1 → Pv p v H2) (L : Live M H) (hN : X.N.Nodup) (hit : XD X M σ H iter (.list ds)) (ok : BlkOk X.N X.env.scope scope own) (hz : ds.length ≤ 100000)
    (hst : ∀ p d v H1, d ∈ ds → H p = none → Same H H1 → Live (p :: M) H1 → Dq X.K (hid (p :: M) H1) v d → BG X scope tg v (wipe σ (own.map (·.2))) H1 fun σ2 H2 => wipe σ2 (own.map (·.2)) = wipe σ (own.map (·.2)) ∧ BT X scope ifs σ2 H2 fun k H3 =>
      Same H1 H3 ∧ ((k = true ∧ ∃ d', f d = some d' ∧ BE X scope elt σ2 H3 fun y H4 => Same H3 H4 ∧ Dq X.K (hid (p :: M) H4) y d' ∧ Pv p y H4) ∨ (k = false ∧ f d = none)))
    (q : ∀ p xs H2, Same H H2 → H p = none → H2 p = some (.lst xs) → DqAll X.K (hid (p :: M) H2) xs (ds.filterMap f) → (∀ v ∈ xs, Pv p v H2) → RB X rest D (σ.set i (some (.ref p))) H2)
    (hi : X.N[i]? = some x := by rfl) (hx : X.env.scope.names.lookup x = some .local := by rfl) (hsw : swapsWith (.ListComp elt [⟨tg, iter, ifs, 0⟩] scope pos) (some (.Name x py)) spos.line X.env = pure true := by exact sw_true rfl rfl rfl rfl)
    (hc : X.calm = true := by rfl) (hs : ∀ x, foldedSetIterable iter X.env x = pure x := by intro _; rfl) : RB X (.Assign [.Name x py] (.ListComp elt [⟨tg, iter, ifs, 0⟩] scope pos) spos :: rest) D σ H := by
  obtain ⟨wi, h1, h2⟩ := lc_P (Q := fun v H1 => RB X rest D (σ.set i (some v)) H1) f Pv mono L hN hit ok hz hst q
  exact ⟨_, pss_cons (ps_setLc (own := own) hc hN hi hx hsw h1 ok (fun _ _ _ _ _ => bg_) (fun _ _ _ _ _ => bt_) (fun _ _ _ _ _ => be_) hs) rb_, h2⟩
/-- x = [..], on one line; nothing more of the items -/
theorem rb_setC0 (i : Nat) {py : Pos} {spos : Pos} (f : PyData → Option PyData) (L : Live M H) (hN : X.N.Nodup) (hit : XD X M σ H iter (.list ds)) (ok : BlkOk X.N X.env.scope scope own) (hz : ds.length ≤ 100000)
    (hst : ∀ p d v H1, d ∈ ds → H p = none → Same H H1 → Live (p :: M) H1 → Dq X.K (hid (p :: M) H1) v d → BG X scope tg v (wipe σ (own.map (·.2))) H1 fun σ2 H2 => wipe σ2 (own.map (·.2)) = wipe σ (own.map (·.2)) ∧ BT X scope ifs σ2 H2 fun k H3 =>
      Same H1 H3 ∧ ((k = true ∧ ∃ d', f d = some d' ∧ BE X scope elt σ2 H3 fun y H4 => Same H3 H4 ∧ Dq X.K (hid (p :: M) H4) y d') ∨ (k = false ∧ f d = none)))
    (q : ∀ p xs H2, Same H H2 → H p = none → H2 p = some (.lst xs) → DqAll X.K (hid M H2) xs (ds.filterMap f) → RB X rest D (σ.set i (some (.ref p))) H2)
    (hi : X.N[i]? = some x := by rfl) (hx : X.env.scope.names.lookup x = some .local := by rfl) (hsw : swapsWith (.ListComp elt [⟨tg, iter, ifs, 0⟩] scope pos) (some (.Name x py)) spos.line X.env = pure true := by exact sw_true rfl rfl rfl rfl)
    (hc : X.calm = true := by rfl) (hs : ∀ x, foldedSetIterable iter X.env x = pure x := by intro _; rfl) : RB X (.Assign [.Name x py] (.ListComp elt [⟨tg, iter, ifs, 0⟩] scope pos) spos :: rest) D σ H :=
  rb_setC i f (fun _ _ _ => True) (fun _ _ _ _ _ _ => trivial) L hN hit ok hz (fun p d v H1 hd hp s Lp hv => bg_mono (hst p d v H1 hd hp s Lp hv) fun σ2 H2 ⟨hw, hbt⟩ => ⟨hw, bt_mono hbt fun k H3 ⟨sk, hk⟩ => ⟨sk, hk.elim (fun ⟨a, d', b, c⟩ => .inl ⟨a, d', b, be_mono c fun y H4 ⟨s4, h4⟩ => ⟨s4, h4, trivial⟩⟩) .inr⟩⟩)
    (fun p xs H2 s hp h2 hx _ => q p xs H2 s hp h2 (hx.up fun b o e => by
      have n1 : b ∉ p :: M := fun z => by unfold hid at e; rw [if_pos z] at e; cases e
      rw [hid_of (fun z => n1 (List.mem_cons_of_mem _ z))]
      exact hid_le _ _ e)) hi hx hsw hc hs
end
end Dl

set_option Elab.async false
set_option linter.all false
set_option maxRecDepth 100000
set_option maxHeartbeats 8000000
/-! sorted of a list of tuples of a whole number and a text; comprehensions over range(e), any data -/
namespace Dl
open PySem PySem.Spec PyProof.Rows L2
def encIS (b : Int × Str) : PyData := .tuple [.int b.1, .str b.2]
theorem each_of {K : PySem.W.Frag} {H : Hp} : ∀ {xs : List V} {us : List Value} (bs : List (Int × Str)), Vals xs us → DqAll K H xs (bs.map encIS) → PySem.W.EachIs (fun (u : Value) b => ∃ x, RelV x u ∧ Dq K H x (encIS b)) us bs
  | _, _, [], r, h => by
    cases h
    cases r
    exact .nil
  | _, _, b :: bs, r, h => by
    cases h with
    | cons h1 h2 =>
      cases r with
      | cons r1 r2 => exact .cons ⟨_, r1, h1⟩ (each_of bs r2 h2)
theorem each_back {K : PySem.W.Frag} {H : Hp} : ∀ {us : List Value} {bs : List (Int × Str)}, PySem.W.EachIs (fun (u : Value) b => ∃ x, RelV x u ∧ Dq K H x (encIS b)) us bs → ∃ ys, Vals ys us ∧ DqAll K H ys (bs.map encIS)
  | _, _, .nil => ⟨[], .nil, .nil⟩
  | _, _, .cons ⟨x, r, d⟩ t => by
    obtain ⟨ys, h1, h2⟩ := each_back t
    exact ⟨x :: ys, .cons r h1, .cons d h2⟩
theorem perm_asc : ∀ {xs ys : List (Int × Str)}, ys.Perm xs → xs.Pairwise (fun a b => a.1 < b.1) → ys.Pairwise (fun a b => a.1 ≤ b.1) → ys = xs
  | [], ys, p, _, _ => List.Perm.eq_nil p
  | x :: xs, [], p, _, _ => absurd p.length_eq (by simp)
  | x :: xs, y :: ys, p, hx, hy => by
    obtain ⟨hx1, hx2⟩ := List.pairwise_cons.mp hx
    obtain ⟨hy1, hy2⟩ := List.pairwise_cons.mp hy
    have e : y = x := by
      rcases List.mem_cons.mp (p.mem_iff.mp (List.mem_cons_self (a := y) (l := ys))) with e | m
      · exact e
      · rcases List.mem_cons.mp (p.mem_iff.mpr (List.mem_cons_self (a := x) (l := xs))) with e | m2
        · exact e.symm
        · have a := hx1 y m
          have b := hy1 x m2
          omega
    subst e
    rw [perm_asc p.cons_inv hx2 hy2]
theorem le_first {a b : Int × Str} (h : PySem.W.dataLe false encIS a b = true) : a.1 ≤ b.1 := by
  have h' : (!PySem.W.dataLt (encIS b) (encIS a)) = true := h
  refine Classical.byContradiction fun n => ?_
  have e : PySem.W.dataLt (encIS b) (encIS a) = true := by
    show PySem.W.dataLt (.tuple [.int b.1, .str b.2]) (.tuple [.int a.1, .str a.2]) = true
    rw [PySem.W.dataLt_pair (by simp [PySem.W.alike]) (by simp [PySem.W.alike]), PySem.W.dataLt_int]
    have z : PyData.eqv (.int b.1) (.int a.1) = false := by
      simp only [PyData.eqv, beq_eq_false_iff_ne]
      omega
    rw [z, if_neg Bool.false_ne_true]
    exact decide_eq_true (by omega)
  rw [e] at h'
  cases h'
/-- sorted in this order: the ascending list of the same -/
theorem sort_is {xs ys : List (Int × Str)} (p : ys.Perm xs) (h : xs.Pairwise fun a b => a.1 < b.1) : ys.mergeSort (PySem.W.dataLe false encIS) = xs := by
  refine perm_asc ((List.mergeSort_perm _ _).trans p) h ?_
  exact (PySem.W.sort_pairwise (PySem.W.sortLe_total _ false _) ys).imp fun h => le_first h
section
variable {X : Cx} {M : List Addr} {σ : L2.St} {H : Hp} {e a elt tg : Expr} {p1 p2 pos : Pos} {scope : Scope} {own : List (Str × Nat)} {D : Ends} {rest : List Stmt} {x : Str}
theorem alike_is (b b' : Int × Str) : PySem.W.alike (encIS b) (encIS b') = true := by simp [encIS, PySem.W.alike, PySem.W.alikeAll]
theorem cr_sortedIS (hu : X.A.units + 64 < cLine) : CallR X (.builtin "sorted") (fun vs H Q => ∃ (a : Addr) (xs : List V) (bs : List (Int × Str)) (M : List Addr), vs = [V.ref a] ∧ SqL X.K H a xs ∧ DqAll X.K (hid M H) xs (bs.map encIS) ∧ bs.length ≤ 1000 ∧
    ∀ ys p, DqAll X.K (hid M H) ys ((bs.mergeSort (PySem.W.dataLe false encIS)).map encIS) → H p = none → Q (.ref p) (upd H p (.lst ys))) := by
  intro pins s σ H vs us Q I r h
  obtain ⟨a, xs, bs, M, rfl, hs, hx, hlen, q⟩ := h
  obtain ⟨its, rv, hl, hz⟩ := I.list hs
  obtain ⟨u, rfl, ru⟩ := vals1 r
  obtain rfl : u = Value.ref a := ru
  have e1 := each_of bs rv hx
  refine PySem.W.sorted_data hl.isList e1 (e1.mono fun v b ⟨x, rx, hd⟩ => Dp.reads I (encIS b) x v ((hd.up hid_le).dp) rx) (.of alike_is) (.tuples fun b => ⟨_, _, rfl⟩) (Nat.le_trans hlen (by decide)) (fun b _ => ?_) fun out ho h2 => ?_
  · have z : (encIS b).depth = 1 := by simp [encIS, PyData.depth, PyData.depthAll]
    rw [z]
    omega
  · obtain ⟨ys, y1, y2⟩ := each_back h2
    obtain ⟨n, hn⟩ := sortedAll_at s.heap its out.toArray
    have hyl : ys.length ≤ sizeLine := by
      rw [y1.length, ho]
      exact Nat.le_trans hlen (by decide)
    exact ⟨.ref (s.heap.objs.size + 1), upd H (s.heap.objs.size + 1) (.lst ys), I.laid (t' := s.toks) (fun b o k => sortedAll_old k) (Nat.le_succ _) ⟨hyl, out, n, y1, hn⟩, rfl, q ys _ y2 (I.hok.fresh (Nat.le_succ _))⟩
/-- sorted(l) -/
theorem xl_sortedIS {bs cs : List (Int × Str)} (hu : X.A.units + 64 < cLine) (hm : X.mg "sorted" = none) (L : Live M H) (ha : XD X M σ H e (.list (bs.map encIS))) (hlen : bs.length ≤ 1000) (hp : bs.Perm cs) (hc : cs.Pairwise fun a b => a.1 < b.1) (hg : Gl X "sorted" := by rfl)
    (he : starEach [e] X.env = (false, eval e X.env) :: starEach [] X.env := by rfl) (hpl : (backTo p2 (starEach [] X.env)).any (·.1) = false := by rfl) : XL X M σ H (.Call (.Name "sorted" p1) [e] [] p2) (cs.map encIS) := fun H1 s1 Q q =>
  re_B (cr_sortedIS hu) (ra_1 (ha H1 s1 _ fun v H2 s2 hv => by
    obtain ⟨a, xs, rfl, ha, hx⟩ := dp_lst hv
    refine ⟨a, xs, bs, M, rfl, SqL.of (hid_le _ _ ha), hx, hlen, fun ys l h1 hl => ?_⟩
    rw [sort_is hp hc] at h1
    refine q l ys _ (s2.trans (same_new hl)) (s2.free hl) upd_same ?_
    rw [hid_new (L.mono (s1.trans s2)) hl]
    exact h1.up (same_new (hid_free hl))) he) hm (by decide +kernel) hg (by decide) (by decide) he hpl
/-! comprehensions over range(e) -/
theorem lc_rngD (n : Nat) (hn : n ≤ 1000) (g : Nat → PyData) (L : Live M H) (ha : XD X M σ H a (.int (n : Int)))
    (hst : ∀ p (i : Nat) H1, i < n → H p = none → Same H H1 → Live (p :: M) H1 → BG X scope tg (.int (i : Int)) (wipe σ (own.map (·.2))) H1 fun τ H2 => wipe τ (own.map (·.2)) = wipe σ (own.map (·.2)) ∧ Same H1 H2 ∧ BE X scope elt τ H2 fun y H3 => Same H2 H3 ∧ Dq X.K (hid (p :: M) H3) y (g i))
    {Q : VK} (q : ∀ p xs H2, Same H H2 → H p = none → H2 p = some (.lst xs) → DqAll X.K (hid M H2) xs ((List.range n).map g) → Q (.ref p) H2) (he : starEach [a] X.env = (false, eval a X.env) :: starEach [] X.env := by rfl) :
    tLc (iRng1 (RA X [a])) (BG X scope tg) (BT X scope []) (BE X scope elt) (own.map (·.2)) σ H Q :=
  ra_1 (ha H (Same.refl H) _ fun v H2 s2 hv => by
    refine ⟨(n : Int), by rw [dp_int hv], by omega, by omega, fun p hp => ?_⟩
    have hp0 : H p = none := s2.free hp
    have L2' : Live M H2 := L.mono s2
    refine lc_range (lo := 0) (n := (n : Int).toNat) (fun i H' => Same H2 H' ∧ ∃ acc, H' p = some (.lst acc) ∧ DqAll X.K (hid (p :: M) H') acc ((List.range i).map g)) ⟨same_new hp, [], upd_same, .nil⟩ (fun i H' hi z => ?_) (fun H' z => ?_)
    · obtain ⟨sH, acc, hacc, ea⟩ := z
      have hi' : i < n := by omega
      have Lp : Live (p :: M) H' := fun b hb => by
        rcases List.mem_cons.mp hb with z | hb
        · subst z; rw [hacc]; simp
        · exact L2'.mono sH b hb
      have e0 : (0 : Int) + (i : Int) = (i : Int) := Int.zero_add _
      rw [e0]
      refine bg_mono (hst p i H' hi' hp0 (s2.trans sH) Lp) fun τ Ha ⟨hw, sa, hbe⟩ => ⟨hw, bt_nil (iteT (be_mono hbe fun y Hb ⟨sb, ey⟩ => ?_))⟩
      have sd := sa.trans sb
      refine ⟨acc, sd _ _ hacc, ?_, fun b o e => ?_, acc ++ [y], upd_same, ?_⟩
      · have h4 : 100000 < sizeLine := by decide
        rw [dpa_len ea, List.length_map, List.length_range]
        omega
      · rw [upd_ne (ne_of_none e hp)]
        exact sd _ _ (sH _ _ e)
      · rw [hid_upd_ne, List.range_succ, List.map_append]
        exact dpa_app (ea.up (hid_mono sd)) (.cons ey .nil)
    · obtain ⟨sH, acc, hacc, ea⟩ := z
      rw [Int.toNat_natCast] at ea
      refine q p acc H' (s2.trans sH) hp0 hacc (ea.up fun b o e => ?_)
      have n1 : b ∉ p :: M := fun z => by unfold hid at e; rw [if_pos z] at e; cases e
      rw [hid_of (fun z => n1 (List.mem_cons_of_mem _ z))]
      exact hid_le _ _ e) he
/-- [.. for tg in range(a)] -/
theorem xl_rngD (n : Nat) (hn : n ≤ 1000) (g : Nat → PyData) (hm : X.mg "range" = none) (L : Live M H) (hN : X.N.Nodup) (ha : XD X M σ H a (.int (n : Int))) (ok : BlkOk X.N X.env.scope scope own)
    (hst : ∀ p (i : Nat) H1, i < n → H p = none → Same H H1 → Live (p :: M) H1 → BG X scope tg (.int (i : Int)) (wipe σ (own.map (·.2))) H1 fun τ H2 => wipe τ (own.map (·.2)) = wipe σ (own.map (·.2)) ∧ Same H1 H2 ∧ BE X scope elt τ H2 fun y H3 => Same H2 H3 ∧ Dq X.K (hid (p :: M) H3) y (g i))
    (hc : X.calm = true := by rfl) (hg : Gl X "range" := by rfl) (he : starEach [a] X.env = (false, eval a X.env) :: starEach [] X.env := by rfl) (he1 : starEach [a] X.env = [(false, eval a X.env)] := by rfl) (hs : ∀ x, foldedSetIterable (.Call (.Name "range" p1) [a] [] p2) X.env x = pure x := by intro _; rfl) :
    XL X M σ H (.ListComp elt [⟨tg, .Call (.Name "range" p1) [a] [] p2, [], 0⟩] scope pos) ((List.range n).map g) := fun H1 s1 Q q =>
  ⟨_, pe_lc (own := own) hc hN (pi_range1 hg hm ra_ he1) ok (fun _ _ _ _ _ => bg_) (fun _ _ _ _ _ => bt_) (fun _ _ _ _ _ => be_) hs,
    lc_rngD (own := own) n hn g (L.mono s1) (ha.up s1) (fun p i H2 hi hp s2 Lp => hst p i H2 hi (s1.free hp) (s1.trans s2) Lp) (fun p xs H2 s2 hp h2 hx => q p xs H2 s2 hp h2 hx) he⟩
/-- x = [.. for tg in range(a)], on one line -/
theorem rb_setRD (i : Nat) {py spos : Pos} (n : Nat) (hn : n ≤ 1000) (g : Nat → PyData) (hm : X.mg "range" = none) (L : Live M H) (hN : X.N.Nodup) (ha : XD X M σ H a (.int (n : Int))) (ok : BlkOk X.N X.env.scope scope own)
    (hst : ∀ p (i : Nat) H1, i < n → H p = none → Same H H1 → Live (p :: M) H1 → BG X scope tg (.int (i : Int)) (wipe σ (own.map (·.2))) H1 fun τ H2 => wipe τ (own.map (·.2)) = wipe σ (own.map (·.2)) ∧ Same H1 H2 ∧ BE X scope elt τ H2 fun y H3 => Same H2 H3 ∧ Dq X.K (hid (p :: M) H3) y (g i))
    (q : ∀ p xs H2, Same H H2 → H p = none → H2 p = some (.lst xs) → DqAll X.K (hid M H2) xs ((List.range n).map g) → RB X rest D (σ.set i (some (.ref p))) H2)
    (hi : X.N[i]? = some x := by rfl) (hx : X.env.scope.names.lookup x = some .local := by rfl) (hsw : swapsWith (.ListComp elt [⟨tg, .Call (.Name "range" p1) [a] [] p2, [], 0⟩] scope pos) (some (.Name x py)) spos.line X.env = pure true := by exact sw_true rfl rfl rfl rfl)
    (hc : X.calm = true := by rfl) (hg : Gl X "range" := by rfl) (he : starEach [a] X.env = (false, eval a X.env) :: starEach [] X.env := by rfl) (he1 : starEach [a] X.env = [(false, eval a X.env)] := by rfl) (hs : ∀ x, foldedSetIterable (.Call (.Name "range" p1) [a] [] p2) X.env x = pure x := by intro _; rfl) :
    RB X (.Assign [.Name x py] (.ListComp elt [⟨tg, .Call (.Name "range" p1) [a] [] p2, [], 0⟩] scope pos) spos :: rest) D σ H :=
  ⟨_, pss_cons (ps_setLc (own := own) hc hN hi hx hsw (pi_range1 hg hm ra_ he1) ok (fun _ _ _ _ _ => bg_) (fun _ _ _ _ _ => bt_) (fun _ _ _ _ _ => be_) hs) rb_,
    lc_rngD (own := own) (Q := fun v H1 => RB X rest D (σ.set i (some v)) H1) n hn g L ha hst q he⟩
/-- for tg in range(a, b): .. -/
theorem rb_rangeAB {tg b : Expr} {body : List Stmt} {lo : Int} {n : Nat} (hm : X.mg "range" = none) (hlo : -(2 ^ 61) < lo ∧ lo < 2 ^ 61) (hn : n < 2 ^ 60) (ha : XD X M σ H a (.int lo)) (hb : XD X M σ H b (.int (lo + n)))
    (h : ∀ H1, Same H H1 → ∃ Pv : Nat → L2.St → Hp → Prop, Pv 0 σ H1 ∧
      (∀ k σ' H', k < n → Pv k σ' H' → RG X tg (.int (lo + (k : Int))) σ' H' fun σ2 H2 => RB X body { D with nx := Pv (k + 1), ct := Pv (k + 1), bk := RB X rest D } σ2 H2) ∧ ∀ σ' H', Pv n σ' H' → RB X rest D σ' H')
    (hg : Gl X "range" := by rfl) (he : starEach [a, b] X.env = (false, eval a X.env) :: starEach [b] X.env := by rfl) (he2 : starEach [b] X.env = (false, eval b X.env) :: starEach [] X.env := by rfl) (he3 : starEach [b] X.env = [(false, eval b X.env)] := by rfl)
    (hp : PassesOwn (model X.prog X.w) X.A X.env X.xe := by exact PassesOwn.never) (hc : X.calm = true := by rfl)
    (hs : ∀ x, foldedSetIterable (.Call (.Name "range" p1) [a, b] [] p2) X.env x = pure x := by intro _; rfl) : RB X (.For tg (.Call (.Name "range" p1) [a, b] [] p2) body [] pos :: rest) D σ H :=
  ⟨_, pss_cons (ps_for hp hc (pi_range2 hg hm ra_ (by rw [he, he3]) he3) rg_ rb_ hs) rb_, ra_cons (ha H (Same.refl H) _ fun v H1 s1 hv => ra_1 (hb H1 s1 _ fun u H2 s2 hu => by
    obtain ⟨Pv, h0, hst, hd⟩ := h H2 (s1.trans s2)
    refine ⟨lo, lo + n, by rw [dp_int hv, dp_int hu], ⟨by omega, by omega, by omega, by omega⟩, ?_⟩
    have e : (lo + (n : Int) - lo).toNat = n := by omega
    rw [e]
    exact for_range Pv h0 hst hd) he2) he⟩
end
end Dl

set_option Elab.async false
set_option linter.all false
set_option maxRecDepth 100000
set_option maxHeartbeats 8000000
/-! set(list of whole numbers), sorted of a set by a bound of its own, sums of tuples, stars, two fors, enumerate and zip in comprehensions -/
namespace Dl
open PySem PySem.Spec PyProof.Rows L2
abbrev bareSet (W : World) : Obj := { cls := .type "set", dict := none, data := .set #[] 0 (.fresh 0 0 (!W.params.followText "set-order")) }
section
variable {P : Program} {W : World} {A : Around} {Er : Value → Shared → Prop} {z : Shared}
theorem set_of_ints {l : Addr} {xs : Array Value} (ks : List Int) {Q : Value → Shared → Prop} (calm : A.handled = none) (isL : z.heap.IsList l xs) (areI : IntsAre xs.toList ks) (room : ks.length + 1 < scanBound)
    (fin : ∀ (h' : Heap) (tk c : Nat), SetR W h' z.heap.objs.size (fun j => decide (j ∈ ks)) c → (∀ b o, z.heap.get? b = some o → h'.get? b = some o) → Q (.ref z.heap.objs.size) { z with heap := h', toks := tk }) :
    wpAny (model P W) A (call (.type "set") [.ref l]) Q Er z := by
  have size_xs : xs.size = ks.length := (Array.length_toList (xs := xs)).symm.trans (IntsAre.length areI)
  obtain ⟨c0, tl0, mro0⟩ := F.called_set.mro
  have made0 := F.called_set.made
  have sub0 := F.called_set.sub
  refine wpAny_call (codeAny_of_tree ?_)
  show wpAny _ _ (callAny (.type "set") _) _ _ _
  refine wpAny_pure ⟨Code.quiet_builtin _ (by decide +kernel), codeAny_builtin F.entry_type_call ?_⟩
  rw [Around.under_plain (weight_type_call_type "set" [.ref l] []) rfl]
  have not_ty := F.called_set.notType
  have can := F.called_set.canCreate
  have tc := F.typeCall_set_1 (.ref l)
  repeat (any_goals (first | assumption | wp_step))
  refine codeAny_mono (code_set_led1 (.ref l) (E := Er) (Q₁ := fun y z1 => y = .ref z.heap.objs.size ∧ z1 = { z with heap := z.heap.push (bareSet W) }) ⟨rfl, rfl⟩) fun r z1 hr => ?_
  match r, hr with
  | .error e, hr => exact hr
  | .ok .next, hr => exact hr.elim
  | .ok .brk, hr => exact hr.elim
  | .ok .cont, hr => exact hr.elim
  | .ok (.ret y), hr =>
    obtain ⟨rfl, rfl⟩ := hr
    have at_new : (z.heap.push (bareSet W)).get? z.heap.objs.size = some (bareSet W) := Heap.get?_push_size _ rfl
    have ty_new : Shared.TypeIs { z with heap := z.heap.push (bareSet W) } (.ref z.heap.objs.size) "set" := ⟨_, at_new, rfl⟩
    have look := F.called_set.init.lookup
    have bindS := F.called_set.init.bind (.ref z.heap.objs.size)
    repeat (any_goals (first | assumption | wp_step))
    refine codeAny_mono (codeAny_call_builtin (R := wants (fun r2 z2 => r2 = .none ∧ ∃ h' tk c, z2 = { z with heap := h', toks := tk } ∧ SetR W h' z.heap.objs.size (fun j => decide (j ∈ ks)) c ∧ (∀ b o, z.heap.get? b = some o → h'.get? b = some o)) Er)
      F.called_set.init.plain F.entry_set_init (check_set_init_1 ty_new ?_)) fun r2 z2 hr2 => ?_
    · obtain ⟨⟨oc, od, odt, osl⟩, get_l, cls_l, nl, dat_l⟩ := isL
      simp only at cls_l dat_l
      subst cls_l
      subst dat_l
      have get_l2 : (z.heap.push (bareSet W)).get? l = some { cls := .type "list", dict := od, data := .seq xs nl, slots := osl } := Heap.get?_push_of_some _ get_l
      have no1 := F.sub_list_set
      have no2 := F.sub_list_frozenset
      have no3 : (Value.type "list" == Value.type "dict") = false := by decide
      have list_l : (z.heap.push (bareSet W)).IsList l xs := ⟨_, get_l2, rfl, nl, rfl⟩
      unfold Builtin.«set.__init__» noKeywords Builtin.Frozenset.updateFrom
      generalize walker : pyIter = walk
      wp_walk
      subst walker
      refine wpAny_pyIter_list list_l ?_
      refine wpAny_bind (wpAny_runValue ?_)
      have l_lt : l < z.heap.objs.size := Heap.lt_size get_l
      have size1 : (z.heap.push (bareSet W)).objs.size = z.heap.objs.size + 1 := Heap.size_push ..
      have calm3 : A.in1.in1.in1.handled = none := by simp [calm]
      have lt1 : l < z.heap.objs.size + 1 := Nat.lt_succ_of_lt l_lt
      have ne_new : l ≠ (z.heap.push (bareSet W)).objs.size := fun q => by
        rw [size1] at q
        exact Nat.ne_of_lt lt1 q
      have out_new : z.heap.objs.size ∉ [(z.heap.push (bareSet W)).objs.size, l] := fun q => by
        rw [size1] at q
        rcases List.mem_cons.mp q with q | q
        · exact Nat.ne_of_lt (Nat.lt_succ_self _) q
        · exact Nat.ne_of_lt l_lt (List.mem_singleton.mp q).symm
      refine set_update_ints ((Walks.list calm3 _ l ne_new xs).toS) z.heap.objs.size out_new ks size_xs room (fun i v hv => ?_) (xs.size - 0) 0 _ (by omega) (Nat.zero_le _)
        ⟨⟨_, Heap.get?_push_size _ rfl, rfl, rfl⟩, (list_l.push _)⟩ ⟨0, Nat.le_refl 0, setR_new_at (Heap.get?_push_of_some _ at_new)⟩ fun z3 c3 moved _ new3 => ?_
      · have hi : i < ks.length := by rw [← size_xs]; exact (Array.getElem?_eq_some_iff.mp hv).1
        obtain ⟨tk, e⟩ := PyProof.Rows.IntsAre.int_at areI i v (by rw [Array.getElem?_toList]; exact hv)
        exact ⟨ks[i], tk, List.getElem?_eq_getElem hi, by rw [e, List.getD_eq_getElem?_getD, List.getElem?_eq_getElem hi] <;> rfl⟩
      · obtain ⟨hz, gz, dz, tz, oz⟩ := z3
        have g1 : gz = z.gens := moved.gens
        have g2 : dz = z.drawn := moved.drawn
        have g3 : oz = z.os := moved.os
        subst g1
        subst g2
        subst g3
        show wpAny _ _ _ _ _ _
        refine wpAny_pure ?_
        show wpAny _ _ (ret Value.none) _ _ _
        refine wpAny_pure ⟨rfl, hz, tz, c3, rfl, new3, fun b o e => ?_⟩
        have b_lt : b < z.heap.objs.size := Heap.lt_size e
        have free_b : b ∉ [z.heap.objs.size, (z.heap.push (bareSet W)).objs.size] := fun q => by
          rw [size1] at q
          rcases List.mem_cons.mp q with q | q
          · exact Nat.ne_of_lt b_lt q
          · exact Nat.ne_of_lt (Nat.lt_succ_of_lt b_lt) (List.mem_singleton.mp q)
        exact moved.heap b o free_b (Heap.get?_push_of_some _ (Heap.get?_push_of_some _ e))
    · match r2, hr2 with
      | .error e, hr2 => exact hr2
      | .ok .next, hr2 => exact hr2.elim
      | .ok .brk, hr2 => exact hr2.elim
      | .ok .cont, hr2 => exact hr2.elim
      | .ok (.ret y2), hr2 =>
        obtain ⟨rfl, h', tk, c', rfl, isSet, kept⟩ := hr2
        repeat (any_goals (first | assumption | wp_step))
        exact fin _ _ _ isSet kept
end
theorem nodup_le {α : Type} [DecidableEq α] : ∀ {xs ys : List α}, xs.Nodup → (∀ x ∈ xs, x ∈ ys) → xs.length ≤ ys.length
  | [], _, _, _ => Nat.zero_le _
  | x :: xs, ys, h, s => by
    obtain ⟨h1, h2⟩ := List.nodup_cons.mp h
    have m := s x (List.mem_cons_self ..)
    have e := List.length_erase_of_mem m
    have p := List.length_pos_of_mem m
    have r := nodup_le (xs := xs) (ys := ys.erase x) h2 fun y hy => (List.mem_erase_of_ne (fun z => h1 (by rw [← z]; exact hy))).mpr (s y (List.mem_cons_of_mem _ hy))
    rw [List.length_cons]
    omega
theorem setR_le {w : World} {h : Heap} {a : Addr} {S : Int → Bool} {n : Nat} (R : SetR w h a S n) {T : List Int} (hT : ∀ k, S k = true → k ∈ T) : n ≤ T.length := by
  obtain ⟨o, es, ep, t, _, _, _, _, nd, mem, _, _, e, _⟩ := R
  have r := nodup_le nd fun k hk => hT k ((mem k).mpr hk)
  rw [List.length_map, Array.length_toList] at r
  omega
section
variable {X : Cx} {M : List Addr} {σ : L2.St} {H H' : Hp} {e a b c o elt tg iter iter1 tg1 : Expr} {ifs ifs1 : List Expr} {scope : Scope} {own : List (Str × Nat)} {es : List Expr} {d d1 d2 : PyData} {ds ds2 : List PyData} {x : Str} {v : V} {pos p1 p2 p3 tpos : Pos}
/-- sorted(set), the set's members among fewer than 64 -/
theorem cr_sortedB (hc : X.calm = true) : CallR X (.builtin "sorted") (fun vs H Q => ∃ (a : Addr) (S : Int → Bool) (n : Nat) (T : List Int), vs = [V.ref a] ∧ H a = some (SetO X.w a S n) ∧ T.length < 64 ∧ (∀ k, S k = true → k ∈ T) ∧
    ∀ (ns : List Int) (p : Addr), ns.Pairwise (· < ·) → (∀ k : Int, k ∈ ns ↔ S k = true) → H p = none → Q (.ref p) (upd H p (.lst (ns.map V.int)))) := by
  intro pins s σ H vs us Q I r h
  obtain ⟨a, S, n, T, rfl, ha, hT, sub, q⟩ := h
  exact cr_sortedSet hc pins s σ H _ us Q I r ⟨a, S, n, rfl, ha, Nat.lt_of_le_of_lt (setR_le (setO_get I ha) sub) hT, fun ns p h1 h2 _ hp => q ns p h1 h2 hp⟩
/-- set(l) -/
theorem cr_setOf (hc : X.calm = true) : CallR X (.type "set") (fun vs H Q => ∃ (l : Addr) (ks : List Int), vs = [V.ref l] ∧ SqL X.K H l (ks.map V.int) ∧ ks.length ≤ 4000 ∧ ∀ p c, H p = none → Q (.ref p) (upd H p (SetO X.w p (fun j => decide (j ∈ ks)) c))) := by
  intro pins s σ H vs us Q I r h
  obtain ⟨l, ks, rfl, hl, hz, q⟩ := h
  obtain ⟨its, rv, isl, _⟩ := I.list hl
  obtain ⟨u, rfl, ru⟩ := vals1 r
  obtain rfl : u = Value.ref l := ru
  refine set_of_ints ks (I.ok.hd hc) isl.isList (by simpa using rv.ints) (Nat.lt_of_le_of_lt (Nat.succ_le_succ hz) (by decide)) fun h' tk c new kept => ?_
  exact ⟨.ref s.heap.objs.size, upd H s.heap.objs.size (SetO X.w s.heap.objs.size (fun j => decide (j ∈ ks)) c), I.laid (t' := tk) kept (Nat.le_refl _) (setO_new new), rfl, q _ c (I.hok.fresh (Nat.le_refl _))⟩
/-- sorted(set(e)) -/
theorem xl_sortedOf {ks ns : List Int} {pa pb : Pos} (T : List Int) (hm : X.mg "sorted" = none) (hm2 : X.mg "set" = none) (L : Live M H) (ha : XD X M σ H e (.list (ks.map PyData.int))) (hz : ks.length ≤ 4000) (hT : T.length < 64) (hsub : ∀ k ∈ ks, k ∈ T) (hasc : ns.Pairwise (· < ·)) (hmem : ∀ k, k ∈ ns ↔ k ∈ ks) (hc : X.calm = true := by rfl) (hg : Gl X "sorted" := by rfl) (hg2 : Gl X "set" := by rfl)
    (he : starEach [.Call (.Name "set" pa) [e] [] pb] X.env = (false, eval (.Call (.Name "set" pa) [e] [] pb) X.env) :: starEach [] X.env := by rfl) (he2 : starEach [e] X.env = (false, eval e X.env) :: starEach [] X.env := by rfl) (hpl : (backTo p2 (starEach [] X.env)).any (·.1) = false := by rfl) (hpl2 : (backTo pb (starEach [] X.env)).any (·.1) = false := by rfl) :
    XL X M σ H (.Call (.Name "sorted" p1) [.Call (.Name "set" pa) [e] [] pb] [] p2) (ns.map PyData.int) := fun H1 s1 Q q => by
  refine re_B (cr_sortedB hc) (ra_1 ⟨_, pe_callTy (cr_setOf hc) hg2 hm2 (by decide +kernel) ra_ (by decide) (by decide) he2 hpl2, ra_1 (ha H1 s1 _ fun v H2 s2 hv => ?_) he2⟩ he) hm (by decide +kernel) hg (by decide) (by decide) he hpl
  obtain ⟨a, xs, rfl, ha, hx⟩ := dp_lst hv
  have ex := ints_v hx
  subst ex
  refine ⟨a, ks, rfl, SqL.of (hid_le _ _ ha), hz, fun p c hp => ⟨p, _, c, T, rfl, upd_same, hT, fun k hk => hsub k (of_decide_eq_true hk), fun ms l h1 h2 hl => ?_⟩⟩
  have e : ms = ns := asc_eq h1 hasc fun k => (h2 k).trans ((decide_eq_true_iff).trans (hmem k).symm)
  subst e
  have hl2 : H2 l = none := by
    by_cases z : l = p
    · subst z; exact hp
    · rw [upd_ne z] at hl; exact hl
  refine q l _ _ ((s2.trans (same_new hp)).trans (same_new hl)) (s2.free hl2) upd_same ?_
  exact ints_dq ms
/-- sorted({elt for tg in iter if ..}), the members among fewer than 64 -/
theorem xl_sortedSetB (f : PyData → Option Int) (ns T : List Int) (hm : X.mg "sorted" = none) (L : Live M H) (hN : X.N.Nodup) (hit : XD X M σ H iter (.list ds)) (ok : BlkOk X.N X.env.scope scope own) (hz : ds.length ≤ 4000)
    (hst : ∀ p d v H1, d ∈ ds → H p = none → Same H H1 → Live (p :: M) H1 → Dq X.K (hid (p :: M) H1) v d → BG X scope tg v (wipe σ (own.map (·.2))) H1 fun τ H2 => wipe τ (own.map (·.2)) = wipe σ (own.map (·.2)) ∧ BT X scope ifs τ H2 fun k H3 =>
      Same H1 H3 ∧ ((k = true ∧ ∃ n, f d = some n ∧ BE X scope elt τ H3 fun y H4 => Same H3 H4 ∧ y = .int n) ∨ (k = false ∧ f d = none)))
    (hasc : ns.Pairwise (· < ·)) (hmem : ∀ k, k ∈ ns ↔ ∃ d ∈ ds, f d = some k) (hT : T.length < 64) (hsub : ∀ k ∈ ns, k ∈ T) (hc : X.calm = true := by rfl) (hs : ∀ x, foldedSetIterable iter X.env x = pure x := by intro _; rfl) (hg : Gl X "sorted" := by rfl)
    (he : starEach [.SetComp elt [⟨tg, iter, ifs, 0⟩] scope pos] X.env = (false, eval (.SetComp elt [⟨tg, iter, ifs, 0⟩] scope pos) X.env) :: starEach [] X.env := by rfl) (hpl : (backTo p2 (starEach [] X.env)).any (·.1) = false := by rfl) :
    XL X M σ H (.Call (.Name "sorted" p1) [.SetComp elt [⟨tg, iter, ifs, 0⟩] scope pos] [] p2) (ns.map PyData.int) := fun H1 s1 Q q => by
  refine re_B (cr_sortedB hc) (ra_1 ⟨_, pe_setI (own := own) hc hN (pi_list re_) ok (fun _ _ _ _ _ => bg_) (fun _ _ _ _ _ => bt_) (fun _ _ _ _ _ => be_) hs, hit H1 s1 _ fun v H2 s2 hv => ?_⟩ he) hm (by decide +kernel) hg (by decide) (by decide) he hpl
  obtain ⟨a, xs, rfl, ha, hx⟩ := dp_lst hv
  have L2' : Live M H2 := L.mono (s1.trans s2)
  refine ⟨a, rfl, ⟨xs, SqL.of (hid_le _ _ ha)⟩, fun p hp => ?_⟩
  have hp0 : H p = none := (s1.trans s2).free hp
  refine set_list (xs := xs) (a := a) (fun i H' => Same H2 H' ∧ ∃ S c, H' p = some (SetO X.w p S c) ∧ c ≤ i ∧ ∀ k, S k = true ↔ ∃ d ∈ ds.take i, f d = some k)
    ⟨same_new hp, fun _ => false, 0, upd_same, Nat.le_refl _, fun k => by simp⟩ (fun i H' _ z => SqL.of (z.1 _ _ (hid_le _ _ ha))) (fun i x H' hi z => ?_) (fun H' z => ?_)
  · obtain ⟨sH, S, n, hS, hn, hk⟩ := z
    obtain ⟨d, hd1, hd2⟩ := dpa_get' hx hi
    have hdm : d ∈ ds := List.mem_of_getElem? hd1
    have hi60 : i < 4000 := by have := (List.getElem?_eq_some_iff.mp hd1).1; omega
    have etake : ds.take (i + 1) = ds.take i ++ [d] := by rw [List.take_add_one, hd1]; rfl
    have Lp : Live (p :: M) H' := fun b hb => by
      rcases List.mem_cons.mp hb with z | hb
      · subst z; rw [hS]; simp
      · exact L2'.mono sH b hb
    refine bg_mono (hst p d x H' hdm hp0 ((s1.trans s2).trans sH) Lp (hd2.up (hid_step hp sH))) fun τ Ha ⟨hw, hbt⟩ => ⟨hw, bt_mono hbt fun k Hb ⟨sb, hk'⟩ => ?_⟩
    rcases hk' with ⟨hk1, m, hf, hbe⟩ | ⟨hk1, hf⟩
    · subst hk1
      refine iteT (be_mono hbe fun y Hc ⟨sc, hy⟩ => ?_)
      have sd := sb.trans sc
      refine ⟨m, S, n, hy, sd _ _ hS, Nat.lt_of_lt_of_le (by omega : n + 1 < 4096) (Nat.le_refl _), fun b o e => ?_, fun j => S j || decide (j = m), (if S m = true then n else n + 1), upd_same, by split <;> omega, fun j => ?_⟩
      · rw [upd_ne (ne_of_none e hp)]
        exact sd _ _ (sH _ _ e)
      · rw [Bool.or_eq_true, decide_eq_true_eq, hk j, etake]
        constructor
        · rintro (⟨d', h1, h2⟩ | h)
          · exact ⟨d', List.mem_append_left _ h1, h2⟩
          · exact ⟨d, List.mem_append_right _ (List.mem_singleton.mpr rfl), by rw [hf, h]⟩
        · rintro ⟨d', h1, h2⟩
          rcases List.mem_append.mp h1 with h1 | h1
          · exact .inl ⟨d', h1, h2⟩
          · rw [List.mem_singleton.mp h1, hf] at h2
            exact .inr (Option.some.inj h2).symm
    · subst hk1
      refine iteF ⟨sH.trans sb, S, n, sb _ _ hS, by omega, fun j => ?_⟩
      rw [hk j, etake]
      constructor
      · rintro ⟨d', h1, h2⟩
        exact ⟨d', List.mem_append_left _ h1, h2⟩
      · rintro ⟨d', h1, h2⟩
        rcases List.mem_append.mp h1 with h1 | h1
        · exact ⟨d', h1, h2⟩
        · rw [List.mem_singleton.mp h1, hf] at h2
          cases h2
  · obtain ⟨sH, S, n, hS, hn, hk⟩ := z
    have hlen := dpa_len hx
    rw [hlen, List.take_length] at hk
    refine ⟨p, S, n, T, rfl, hS, hT, fun k hk1 => hsub k ((hmem k).mpr ((hk k).mp hk1)), fun ks l h1 h2 hl => ?_⟩
    have e : ks = ns := asc_eq h1 hasc fun k => (h2 k).trans ((hk k).trans (hmem k).symm)
    subst e
    refine q l _ _ ((s2.trans sH).trans (same_new hl)) ((s2.trans sH).free hl) upd_same ?_
    rw [hid_new (L2'.mono sH) hl]
    exact ints_dq ks
/-- sum(t) -/
theorem cr_sumT (hc : X.calm = true) : CallR X (.builtin "sum") (fun vs H Q => ∃ (a : Addr) (ns : List Int), vs = [V.ref a] ∧ SqT X.K H a (ns.map V.int) ∧ Q (.int ns.sum) H) := by
  intro pins s σ H vs us Q I r h
  obtain ⟨a, ns, rfl, hs, q⟩ := h
  obtain ⟨its, rv, ⟨o, ho, hcl, n, hd⟩, _⟩ := I.tuple hs
  obtain ⟨u, rfl, ru⟩ := vals1 r
  obtain rfl : u = Value.ref a := ru
  obtain ⟨xs, e⟩ := rv.ints.allInts.items
  have hn : numsOf (intItems xs).toList = ns := by rw [← e]; exact rv.ints.numsOf
  rw [nums_intItems] at hn
  rw [e] at hd
  refine PySem.W.ktm_sumG (I.ok.hd hc) ⟨o, ho, hcl, n, hd⟩ fun h' tk t' hk => ?_
  rw [preSum_eq, List.take_of_length_le (by simp), hn]
  exact ⟨.int _, H, I.kept hk, ⟨_, rfl⟩, q⟩
theorem xd_sumT {ns : List Int} (hm : X.mg "sum" = none) (ha : XD X M σ H e (.tuple (ns.map PyData.int))) (hc : X.calm = true := by rfl) (hg : Gl X "sum" := by rfl)
    (he : starEach [e] X.env = (false, eval e X.env) :: starEach [] X.env := by rfl) (hpl : (backTo p2 (starEach [] X.env)).any (·.1) = false := by rfl) : XD X M σ H (.Call (.Name "sum" p1) [e] [] p2) (.int ns.sum) := fun H1 s1 Q q =>
  re_B (cr_sumT hc) (ra_1 (ha H1 s1 _ fun v H2 s2 hv => by
    obtain ⟨a, xs, rfl, ha, hx⟩ := dp_tup hv
    have ex := ints_v hx
    subst ex
    exact ⟨a, ns, rfl, same_seqT hid_le ha, q _ H2 s2 (.int _)⟩) he) hm (by decide +kernel) hg (by decide) (by decide) he hpl
end
end Dl

set_option Elab.async false
set_option linter.all false
set_option maxRecDepth 100000
set_option maxHeartbeats 8000000
/-! enumerate of a tuple; comprehensions over enumerate, of two clauses, over zip; a tuple's star -/
namespace Dl
open PySem PySem.Spec PyProof.Rows L2
section
theorem meets_enum1 {v : Value} {ob : Obj} {Pre : Heap → Prop} (G : Begins v ob Pre) : Meets (Builtin.«enumerate.__new__» ⟨[.type "enumerate", v], []⟩) fun _ Post z => Pre z.heap ∧
    Post (.ok (.ret (.ref (z.heap.push ob).objs.size))) { z with heap := (z.heap.push ob).push { cls := .type "enumerate", data := .fields #[.none, .bool false, .ref z.heap.objs.size, rawInt 0, .none, .none] } } :=
  .of_wp fun pr wd Ar Post z pre => by
    obtain ⟨hz, gz, dz, tz, oz⟩ := z
    obtain ⟨k1, k2⟩ := pre
    have sub1 := sub_enumerate
    have it1 : ∀ {B : Around} {Er : Value → Shared → Prop} {Qz : Value → Shared → Prop}, Qz (.ref hz.objs.size) ⟨hz.push ob, gz, dz, tz, oz⟩ → wpAny (model pr wd) B (pyIter v) Qz Er ⟨hz, gz, dz, tz, oz⟩ := fun k => G.iter pr wd _ _ ⟨hz, gz, dz, tz, oz⟩ _ k1 k
    wp_walk using it1
    refine wpAny_stack_any fun stk => wpAny_pure ?_
    split
    · rename_i cl _ _ _ _ _
      cases (cl == Value.type "enumerate") <;> (wp_walk using it1; exact ⟨_, rfl, k2⟩)
    · wp_walk using it1
      exact ⟨_, rfl, k2⟩
theorem enum1_begins {pr : Program} {wd : World} {Ar : Around} {Er : Value → Shared → Prop} {z : Shared} {v : Value} {ob : Obj} {Pre : Heap → Prop} {Post : Value → Shared → Prop} (G : Begins v ob Pre) (pre : Pre z.heap)
    (fin : ∀ h', IsEnum h' (z.heap.objs.size + 1) z.heap.objs.size 0 .none → h'.get? z.heap.objs.size = some ob → (∀ b u, z.heap.get? b = some u → h'.get? b = some u) → Post (.ref (z.heap.objs.size + 1)) { z with heap := h' }) :
    wpAny (model pr wd) Ar (call (.type "enumerate") [v]) Post Er z := by
  refine callType_new F.called_enumerate (by decide) (F.typeCall_enumerate_1 _) (F.newCall_enumerate_1 _) (fun ob2 => F.args_object_init_2 ob2 _) F.entry_enumerate_new (meets_enum1 G) ⟨pre, ?_⟩
  have sz : (z.heap.push ob).objs.size = z.heap.objs.size + 1 := Heap.size_push ..
  show _ ∧ _
  rw [sz]
  have en : IsEnum ((z.heap.push ob).push { cls := .type "enumerate", data := .fields #[.none, .bool false, .ref z.heap.objs.size, rawInt 0, .none, .none] }) (z.heap.objs.size + 1) z.heap.objs.size 0 .none := by
    have q := Heap.get?_push_size (z.heap.push ob) (o := { cls := .type "enumerate", data := .fields #[.none, .bool false, .ref z.heap.objs.size, rawInt 0, .none, .none] }) rfl
    rw [sz] at q
    exact q
  exact ⟨⟨_, en, rfl⟩, fin _ en (Heap.get?_push_of_some _ (Heap.get?_push_size _ G.free)) fun b u x => Heap.get?_push_of_some _ (Heap.get?_push_of_some _ x)⟩
/-- the tuple at a, each item in a new pair -/
def IteT (K : PySem.W.Frag) (a : Addr) : It :=
  ⟨fun i H => ∃ (ys : List V) (y : V), SqT K H a ys ∧ ys[i]? = some y, fun i H v H' => ∃ T y, v = .ref T ∧ H T = none ∧ H' = upd H T (.tup [.int (i : Nat), y]) ∧ ∀ ys, SqT K H a ys → ys[i]? = some y, fun i H => ∃ ys : List V, SqT K H a ys ∧ ys.length ≤ i⟩
theorem tup_apart {h : Heap} {a it : Addr} {i : Nat} {its : Array Value} (h1 : h.IsTuple a its) (h2 : h.IsTupleIter it a i) : a ≠ it := fun z => by
  subst z
  obtain ⟨o, ho, hc, n, hd⟩ := h1
  obtain ⟨o2, ho2, hc2, hd2⟩ := h2
  rw [ho] at ho2
  cases ho2
  rw [hd] at hd2
  cases hd2
theorem turn_enumT {P : Program} {w : World} {K : PySem.W.Frag} {elts : List Expr} {kk : Nat} {tpos : Pos} (a e it : Addr) :
    Turn P w K (.Tuple elts kk tpos) (IteT K a) [e, it] e (fun i h => (∃ old, IsEnum h e it ((i : Nat) : Int) old) ∧ h.IsTupleIter it a i ∧ e ≠ it) where
  mem := List.mem_cons_self ..
  obj := fun i h st b hb => by
    obtain ⟨⟨old, he⟩, ⟨o, ho, hc, hd⟩, _⟩ := st
    rcases (show b = e ∨ b = it by simpa using hb) with z | z
    · subst z; exact ⟨_, he, fun v q => nomatch q⟩
    · subst z; exact ⟨o, ho, fun v q => by rw [hd] at q; cases q⟩
  keep := fun i h h' st k => by
    obtain ⟨⟨old, he⟩, hi, hne⟩ := st
    exact ⟨⟨old, k e (List.mem_cons_self ..) _ he⟩, hi.at fun o q => k it (List.mem_cons_of_mem _ (List.mem_cons_self ..)) o q, hne⟩
  item := by
    intro X hP hw hK hc i pins s σ H E I hf st hg
    subst hP hw hK
    obtain ⟨⟨old, he⟩, hit, hne⟩ := st
    obtain ⟨ys, y, hq, hy⟩ := hg
    obtain ⟨its, rv, p, hz⟩ := I.tuple hq
    obtain ⟨u, hu, ru⟩ := rv.get hy
    have le : e < s.heap.objs.size := Heap.lt_size he
    have li : it < s.heap.objs.size := by obtain ⟨_, q, _⟩ := hit; exact Heap.lt_size q
    have p' : s.heap.IsTuple a its.toArray := p
    have hea : e ≠ a := fun z => by
      subst z
      obtain ⟨o, ho, hcl, n, hd⟩ := p'
      have he2 : s.heap.get? e = some _ := he
      rw [ho] at he2
      cases he2
      cases hd
    have D := Draws.tuple (prog := X.prog) (w := X.w) (A := X.A.in1) (by have := I.ok.hd hc; simpa using this) it a (tup_apart p' hit) its.toArray
    refine wpAny_pyNext_enum_itemD D he ⟨hit, p'⟩ (by have := (List.getElem?_eq_some_iff.mp hu).1; simpa using this) hne (by simp [hne, hea]) fun x h' tk hx ho stt hT hsz hk => ?_
    have ex : x = u := by
      have q : its.toArray[i]? = some x := hx
      rw [List.getElem?_toArray, hu] at q
      exact (Option.some.inj q).symm
    subst ex
    refine ⟨_, rfl, wpAny_letOwnedTupleGo_enum (s := { s with heap := h', toks := tk + 1 }) ho fun h2 he2 sb => ?_⟩
    have hT2 : h2.get? s.heap.objs.size = some { cls := .type "tuple", data := .seq #[.int i tk, x] } := (sb.2 _ (Nat.ne_of_gt le)).trans hT
    have nw : ObjOk X.prog X.w (upd H s.heap.objs.size (.tup [.int (i : Nat), y])) h2 s.heap.objs.size (.tup [.int (i : Nat), y]) :=
      ⟨by show 2 ≤ sizeLine; decide, [.int i tk, x], .cons ⟨_, rfl⟩ (.cons ru .nil), ⟨_, hT2, rfl, _, rfl⟩⟩
    have J1 : Inv X pins σ (upd H s.heap.objs.size (.tup [.int (i : Nat), y])) { s with heap := h2, toks := tk + 1 } :=
      I.turnedNew (ch := [e, it]) (fun b ob hb q => (sb.2 b (fun z => hb (by simp [z]))).trans (hk b ob (fun z => hb (by simp [z])) (fun z => hb (by simp [z])) q)) hf (Nat.le_refl _) nw
    refine ⟨.ref s.heap.objs.size, _, J1, rfl, ⟨_, y, rfl, I.hok.fresh (Nat.le_refl _), rfl, fun zs hzs => by rw [I.tuple_inj hzs hq]; exact hy⟩, ⟨⟨x, ?_⟩, stt.1.at fun o q => (sb.2 it (Ne.symm hne)).trans q, hne⟩, fun b hb => ?_⟩
    · have e1 : (((i + 1 : Nat) : Nat) : Int) = (i : Int) + 1 := Int.natCast_add i 1
      rw [e1]
      exact he2
    · have lb : b < s.heap.objs.size := by
        rcases (show b = e ∨ b = it by simpa using hb) with z | z
        · rw [z]; exact le
        · rw [z]; exact li
      rw [upd_ne (Nat.ne_of_lt lb)]
      exact (hf b hb).1
  done := by
    intro X hP hw hK hc i pins s σ H E I hf st hg
    subst hP hw hK
    obtain ⟨⟨old, he⟩, hit, hne⟩ := st
    obtain ⟨ys, hq, hy⟩ := hg
    obtain ⟨its, rv, p, hz⟩ := I.tuple hq
    have p' : s.heap.IsTuple a its.toArray := p
    obtain ⟨f0, f1, f2, f3, f4, f5⟩ := hf it (List.mem_cons_of_mem _ (List.mem_cons_self ..))
    have hl := rv.length
    -- at the end the place is the length; beyond it the iterator has not come
    by_cases hi : i = its.toArray.size
    · have D := Draws.tuple (prog := X.prog) (w := X.w) (A := X.A.in1) (by have := I.ok.hd hc; simpa using this) it a (tup_apart p' hit) its.toArray
      subst hi
      exact wpAny_pyNext_enum_endD D he ⟨hit, p'⟩ fun h' eb => ⟨rfl, I.turned (t' := s.toks) (fun b o hb q => eb b o hb q) f0 f1 f3 f4 f5⟩
    · have hT : s.TypeIs (.ref e) "enumerate" := ⟨_, he, rfl⟩
      unfold pyNext
      refine wpAny_bind (wpAny_attempt (wpAny_callSpecial?_slot (name := Str.ofString "__next__") hT F.slot_enumerate_next (wpAny_call_entry F.slot_enumerate_next hT F.entry_enumerate_next ?_ (F.args_enumerate_next_1 _))))
      show wpAny _ _ (field (.ref e) 2 >>= _) _ _ _
      refine wpAny_bind (wpAny_field he rfl (x := .ref it) rfl ?_)
      refine wpAny_bind (wpAny_nextOf_tuple_end (by have := I.ok.hd hc; simpa using this) hit p' (by simp; omega) fun h' xx eb hxx => ?_)
      obtain ⟨o, ho, hcc⟩ := hxx
      refine wpAny_bind (wpAny_isInstance (T := "StopIteration") (b := true) ⟨o, ho, hcc⟩ isSubtype_stop (wpAny_pure ⟨rfl, I.turned (t' := s.toks) (fun b o hb q => eb b o hb q) f0 f1 f3 f4 f5⟩))
  self := fun A i s Q E st h => let ⟨⟨_, he⟩, _⟩ := st; wpAny_pyIter_enum he h
def iEnumT (K : PySem.W.Frag) (ta : TA) : TI := fun σ H R => ta σ H fun vs H1 => ∃ a ys, vs = [.ref a] ∧ SqT K H1 a ys ∧ R (IteT K a) H1
theorem pi_enumT {X : Cx} {e : Expr} {ta : TA} {p pos tpos : Pos} {elts : List Expr} {kk : Nat} (hg : Gl X "enumerate") (hm : X.mg "enumerate" = none) (ha : PA X [e] ta) (hs : starEach [e] X.env = [(false, eval e X.env)]) :
    PI X (.Tuple elts kk tpos) (.Call (.Name "enumerate" p) [e] [] pos) (iEnumT X.K ta) := by
  refine ⟨fun pins s σ H R I h => ?_⟩
  refine Call_ (ld_blt I hg hm boot_enumerate (PyProof.Rows.callWith_type1 (thn (ha.run pos pins s σ H _ I h) fun us z ⟨vs, H1, I1, r1, a, ys, ex, hq, q⟩ => ?_) hs rfl))
  subst ex
  obtain ⟨u, rfl, ru⟩ := vals1 r1
  obtain rfl : u = Value.ref a := ru
  obtain ⟨its, rv, p', hz⟩ := I1.tuple hq
  refine enum1_begins (begins_tuple a its.toArray) p' fun h' he hit hk => wpAny_pyIter_enum he ?_
  have J2 : Inv X pins σ H1 { z with heap := h' } := I1.kept (t' := z.toks) hk
  refine ⟨z.heap.objs.size + 1, [z.heap.objs.size + 1, z.heap.objs.size], _, _, H1, rfl, J2, turn_enumT a (z.heap.objs.size + 1) z.heap.objs.size, ⟨⟨.none, he⟩, ⟨_, hit, rfl, rfl⟩, Nat.succ_ne_self _⟩, fun b hb => ?_, q⟩
  have lb : z.heap.objs.size ≤ b := by
    rcases (show b = z.heap.objs.size + 1 ∨ b = z.heap.objs.size by simpa using hb) with y | y
    · rw [y]; exact Nat.le_add_right _ _
    · rw [y]; exact Nat.le_refl _
  exact I1.fpOk lb (I1.hok.fresh lb)
end
end Dl

set_option Elab.async false
set_option linter.all false
set_option maxRecDepth 100000
set_option maxHeartbeats 8000000
namespace Dl
open PySem PySem.Spec PyProof.Rows L2
/-- each item with its place -/
def enumM (g : Nat → PyData → PyData) : Nat → List PyData → List PyData
  | _, [] => []
  | i, d :: ds => g i d :: enumM g (i + 1) ds
theorem enumM_snoc (g : Nat → PyData → PyData) : ∀ (k : Nat) (ds : List PyData) (d : PyData), enumM g k (ds ++ [d]) = enumM g k ds ++ [g (k + ds.length) d]
  | k, [], d => rfl
  | k, e :: ds, d => by
    show g k e :: enumM g (k + 1) (ds ++ [d]) = g k e :: (enumM g (k + 1) ds ++ [_])
    rw [enumM_snoc g (k + 1) ds d, List.length_cons]
    have e1 : k + 1 + ds.length = k + (ds.length + 1) := by omega
    rw [e1]
theorem enumM_len (g : Nat → PyData → PyData) : ∀ (k : Nat) (ds : List PyData), (enumM g k ds).length = ds.length
  | _, [] => rfl
  | k, d :: ds => by show _ + 1 = _ + 1; rw [enumM_len g _ ds]
theorem zip_snoc {α β γ : Type} (g : α → β → γ) {xs : List α} {ys : List β} {i : Nat} {x : α} {y : β} (h1 : xs[i]? = some x) (h2 : ys[i]? = some y) : (List.zipWith g xs ys).take (i + 1) = (List.zipWith g xs ys).take i ++ [g x y] := by
  rw [List.take_add_one, List.getElem?_zipWith, h1, h2]
  rfl
section
variable {X : Cx} {M : List Addr} {σ : L2.St} {H H' : Hp} {e a b c o elt tg iter iter1 tg1 : Expr} {ifs : List Expr} {scope : Scope} {own : List (Str × Nat)} {es : List Expr} {d d1 d2 : PyData} {ds ds2 eds : List PyData} {x : Str} {v : V} {pos p1 p2 p3 tpos py spos : Pos} {D : Ends} {rest : List Stmt} {Q : VK}
theorem re_up (h : ∀ H1, Same H H1 → RE X e σ H1 Q) : RE X e σ H Q := h H (Same.refl H)
theorem out_of {p : Addr} {M : List Addr} {H : Hp} {vs : List V} {ds : List PyData} {K : PySem.W.Frag} (h : DqAll K (hid (p :: M) H) vs ds) : DqAll K (hid M H) vs ds := h.up fun b o e => by
  have n1 : b ∉ p :: M := fun z => by unfold hid at e; rw [if_pos z] at e; cases e
  rw [hid_of (fun z => n1 (List.mem_cons_of_mem _ z))]
  exact hid_le _ _ e
/-- [elt for (i, x) in enumerate(e)], e a tuple -/
theorem xl_enumT {elts : List Expr} {kk : Nat} (g : Nat → PyData → PyData) (hm : X.mg "enumerate" = none) (L : Live M H) (hN : X.N.Nodup) (ha : XD X M σ H a (.tuple ds)) (ok : BlkOk X.N X.env.scope scope own) (hz : ds.length ≤ 100000)
    (hst : ∀ p (i : Nat) d T y H1, ds[i]? = some d → H p = none → Same H H1 → Live (p :: M) H1 → Dq X.K (hid (p :: M) H1) y d → H1 T = some (.tup [.int (i : Nat), y]) → BG X scope (.Tuple elts kk tpos) (.ref T) (wipe σ (own.map (·.2))) H1 fun τ H2 => wipe τ (own.map (·.2)) = wipe σ (own.map (·.2)) ∧ Same H1 H2 ∧
      BE X scope elt τ H2 fun u H3 => Same H2 H3 ∧ Dq X.K (hid (p :: M) H3) u (g i d))
    (hc : X.calm = true := by rfl) (hs : ∀ x, foldedSetIterable (.Call (.Name "enumerate" p1) [a] [] p2) X.env x = pure x := by intro _; rfl) (hg : Gl X "enumerate" := by rfl) (he : starEach [a] X.env = [(false, eval a X.env)] := by rfl) :
    XL X M σ H (.ListComp elt [⟨.Tuple elts kk tpos, .Call (.Name "enumerate" p1) [a] [] p2, [], 0⟩] scope pos) (enumM g 0 ds) := fun H1 s1 Q q =>
  ⟨_, pe_lc (own := own) hc hN (pi_enumT hg hm ra_ he) ok (fun _ _ _ _ _ => bg_) (fun _ _ _ _ _ => bt_) (fun _ _ _ _ _ => be_) hs, ra_1 (ha H1 s1 _ fun v H2 s2 hv => by
    obtain ⟨t, xs, rfl, ht, hx⟩ := dp_tup hv
    have ht0 := same_seqT hid_le ht
    have L2' : Live M H2 := L.mono (s1.trans s2)
    refine ⟨t, xs, rfl, ht0, fun p hp => ?_⟩
    have hp0 : H p = none := (s1.trans s2).free hp
    refine ⟨fun i m Hx => m + i = xs.length ∧ Same H2 Hx ∧ ∃ acc, Hx p = some (.lst acc) ∧ DqAll X.K (hid (p :: M) Hx) acc (enumM g 0 (ds.take i)), ⟨xs.length, rfl, same_new hp, [], upd_same, .nil⟩, fun i m Hx w => ?_⟩
    obtain ⟨hmi, sx, acc, hacc, hda⟩ := w
    have gt : SqT X.K Hx t xs := same_seqT sx ht0
    cases ex : xs[i]? with
    | none =>
      have hge : xs.length ≤ i := List.getElem?_eq_none_iff.mp ex
      have ei : ds.take i = ds := List.take_of_length_le (by rw [← dpa_len hx]; exact hge)
      rw [ei] at hda
      exact .inl ⟨⟨xs, gt, hge⟩, q p acc Hx (s2.trans sx) (s2.free hp) hacc (out_of hda)⟩
    | some x0 =>
      have hlt := (List.getElem?_eq_some_iff.mp ex).1
      refine .inr ⟨⟨xs, x0, gt, ex⟩, fun Hy => Same H2 Hy ∧ ∃ acc, Hy p = some (.lst acc) ∧ DqAll X.K (hid (p :: M) Hy) acc (enumM g 0 (ds.take (i + 1))), fun Hy hy => ⟨m - 1, by omega, by omega, hy⟩, fun v Hy hyl => ?_⟩
      obtain ⟨T, y, rfl, hT, rfl, h1⟩ := hyl
      obtain ⟨d, hd1, hd2⟩ := dpa_get' hx (h1 xs gt)
      have sy : Same Hx (upd Hx T (.tup [.int (i : Nat), y])) := same_new hT
      have hpy := sy _ _ hacc
      have Lp : Live (p :: M) (upd Hx T (.tup [.int (i : Nat), y])) := fun b hb => by
        rcases List.mem_cons.mp hb with z | hb
        · subst z; rw [hpy]; simp
        · exact (L2'.mono sx).mono sy b hb
      have hids : Same (hid M H2) (hid (p :: M) (upd Hx T (.tup [.int (i : Nat), y]))) := hid_step hp (sx.trans sy)
      refine bg_mono (hst p i d T y _ hd1 hp0 (((s1.trans s2).trans sx).trans sy) Lp (hd2.up hids) upd_same) fun τ Ha ⟨hw, sa, hbe⟩ => ⟨hw, bt_nil (iteT (be_mono hbe fun u Hb ⟨sb, hu⟩ => ?_))⟩
      have sd := (sy.trans sa).trans sb
      refine ⟨acc, sd _ _ hacc, ?_, fun b o e => ?_, acc ++ [u], upd_same, ?_⟩
      · have h4 : 100000 < sizeLine := by decide
        have h5 : (enumM g 0 (ds.take i)).length ≤ i := by rw [enumM_len, List.length_take]; omega
        have h6 := dpa_len hx
        rw [dpa_len hda]
        omega
      · rw [upd_ne (ne_of_none e hp)]
        exact sd _ _ (sx _ _ e)
      · rw [hid_upd_ne, List.take_add_one, hd1]
        show DqAll X.K (hid (p :: M) Hb) (acc ++ [u]) (enumM g 0 (ds.take i ++ [d]))
        have hl : (ds.take i).length = i := by rw [List.length_take]; have := (List.getElem?_eq_some_iff.mp hd1).1; omega
        rw [enumM_snoc, hl, Nat.zero_add]
        exact dpa_app (hda.up (hid_mono sd)) (.cons hu .nil)) he⟩
/-- .. over a list, as a statement of its own line -/
theorem lc_enumL {elts : List Expr} {kk : Nat} (g : Nat → PyData → PyData) (L : Live M H) (ha : XD X M σ H a (.list ds)) (hz : ds.length ≤ 100000)
    (hst : ∀ p (i : Nat) d T y H1, ds[i]? = some d → H p = none → Same H H1 → Live (p :: M) H1 → Dq X.K (hid (p :: M) H1) y d → H1 T = some (.tup [.int (i : Nat), y]) → BG X scope (.Tuple elts kk tpos) (.ref T) (wipe σ (own.map (·.2))) H1 fun τ H2 => wipe τ (own.map (·.2)) = wipe σ (own.map (·.2)) ∧ Same H1 H2 ∧
      BE X scope elt τ H2 fun u H3 => Same H2 H3 ∧ Dq X.K (hid (p :: M) H3) u (g i d))
    (q : ∀ p xs H2, Same H H2 → H p = none → H2 p = some (.lst xs) → DqAll X.K (hid M H2) xs (enumM g 0 ds) → Q (.ref p) H2) (he1 : starEach [a] X.env = (false, eval a X.env) :: starEach [] X.env := by rfl) :
    tLc (iEnum X.K (RA X [a])) (BG X scope (.Tuple elts kk tpos)) (BT X scope []) (BE X scope elt) (own.map (·.2)) σ H Q :=
  ra_1 (ha H (Same.refl H) _ fun v H2 s2 hv => by
    obtain ⟨t, xs, rfl, ht, hx⟩ := dp_lst hv
    have ht0 := hid_le _ _ ht
    have L2' : Live M H2 := L.mono s2
    refine ⟨t, xs, rfl, SqL.of ht0, fun p hp => ?_⟩
    have hp0 : H p = none := s2.free hp
    refine ⟨fun i m Hx => m + i = xs.length ∧ Same H2 Hx ∧ ∃ acc, Hx p = some (.lst acc) ∧ DqAll X.K (hid (p :: M) Hx) acc (enumM g 0 (ds.take i)), ⟨xs.length, rfl, same_new hp, [], upd_same, .nil⟩, fun i m Hx w => ?_⟩
    obtain ⟨hmi, sx, acc, hacc, hda⟩ := w
    have gt : SqL X.K Hx t xs := SqL.of (sx _ _ ht0)
    cases ex : xs[i]? with
    | none =>
      have hge : xs.length ≤ i := List.getElem?_eq_none_iff.mp ex
      have ei : ds.take i = ds := List.take_of_length_le (by rw [← dpa_len hx]; exact hge)
      rw [ei] at hda
      exact .inl ⟨⟨xs, gt, hge⟩, q p acc Hx (s2.trans sx) (s2.free hp) hacc (out_of hda)⟩
    | some x0 =>
      have hlt := (List.getElem?_eq_some_iff.mp ex).1
      refine .inr ⟨⟨xs, x0, gt, ex⟩, fun Hy => Same H2 Hy ∧ ∃ acc, Hy p = some (.lst acc) ∧ DqAll X.K (hid (p :: M) Hy) acc (enumM g 0 (ds.take (i + 1))), fun Hy hy => ⟨m - 1, by omega, by omega, hy⟩, fun v Hy hyl => ?_⟩
      obtain ⟨T, y, rfl, hT, rfl, h1⟩ := hyl
      obtain ⟨d, hd1, hd2⟩ := dpa_get' hx (h1 xs gt)
      have sy : Same Hx (upd Hx T (.tup [.int (i : Nat), y])) := same_new hT
      have hpy := sy _ _ hacc
      have Lp : Live (p :: M) (upd Hx T (.tup [.int (i : Nat), y])) := fun b hb => by
        rcases List.mem_cons.mp hb with z | hb
        · subst z; rw [hpy]; simp
        · exact (L2'.mono sx).mono sy b hb
      have hids : Same (hid M H2) (hid (p :: M) (upd Hx T (.tup [.int (i : Nat), y]))) := hid_step hp (sx.trans sy)
      refine bg_mono (hst p i d T y _ hd1 hp0 ((s2.trans sx).trans sy) Lp (hd2.up hids) upd_same) fun τ Ha ⟨hw, sa, hbe⟩ => ⟨hw, bt_nil (iteT (be_mono hbe fun u Hb ⟨sb, hu⟩ => ?_))⟩
      have sd := (sy.trans sa).trans sb
      refine ⟨acc, sd _ _ hacc, ?_, fun b o e => ?_, acc ++ [u], upd_same, ?_⟩
      · have h4 : 100000 < sizeLine := by decide
        have h5 : (enumM g 0 (ds.take i)).length ≤ i := by rw [enumM_len, List.length_take]; omega
        have h6 := dpa_len hx
        rw [dpa_len hda]
        omega
      · rw [upd_ne (ne_of_none e hp)]
        exact sd _ _ (sx _ _ e)
      · rw [hid_upd_ne, List.take_add_one, hd1]
        show DqAll X.K (hid (p :: M) Hb) (acc ++ [u]) (enumM g 0 (ds.take i ++ [d]))
        have hl : (ds.take i).length = i := by rw [List.length_take]; have := (List.getElem?_eq_some_iff.mp hd1).1; omega
        rw [enumM_snoc, hl, Nat.zero_add]
        exact dpa_app (hda.up (hid_mono sd)) (.cons hu .nil)) he1
/-- [elt for (x, y) in zip(a, b)] -/
theorem lc_zip {elts : List Expr} {kk : Nat} (g : PyData → PyData → PyData) (L : Live M H) (ha : XD X M σ H a (.list ds)) (hb : XD X M σ H b (.list ds2)) (hz : ds.length ≤ 100000)
    (hst : ∀ p (i : Nat) d d2 T y z H1, ds[i]? = some d → ds2[i]? = some d2 → H p = none → Same H H1 → Live (p :: M) H1 → Dq X.K (hid (p :: M) H1) y d → Dq X.K (hid (p :: M) H1) z d2 → H1 T = some (.tup [y, z]) → BG X scope (.Tuple elts kk tpos) (.ref T) (wipe σ (own.map (·.2))) H1 fun τ H2 => wipe τ (own.map (·.2)) = wipe σ (own.map (·.2)) ∧ Same H1 H2 ∧
      BE X scope elt τ H2 fun u H3 => Same H2 H3 ∧ Dq X.K (hid (p :: M) H3) u (g d d2))
    (q : ∀ p xs H2, Same H H2 → H p = none → H2 p = some (.lst xs) → DqAll X.K (hid M H2) xs (List.zipWith g ds ds2) → Q (.ref p) H2)
    (he : starEach [a, b] X.env = (false, eval a X.env) :: starEach [b] X.env := by rfl) (he2 : starEach [b] X.env = (false, eval b X.env) :: starEach [] X.env := by rfl) :
    tLc (iZip X.K (RA X [a, b])) (BG X scope (.Tuple elts kk tpos)) (BT X scope []) (BE X scope elt) (own.map (·.2)) σ H Q :=
  ra_cons (ha H (Same.refl H) _ fun v H2 s2 hv => ra_1 (hb H2 s2 _ fun u H3 s3 hu => by
    obtain ⟨pa, xs, rfl, hpa, hx⟩ := dp_lst (hv.up (hid_mono s3))
    obtain ⟨pb, ys, rfl, hpb, hy⟩ := dp_lst hu
    have s03 := s2.trans s3
    have L3 : Live M H3 := L.mono s03
    refine ⟨pa, pb, xs, ys, rfl, SqL.of (hid_le _ _ hpa), SqL.of (hid_le _ _ hpb), fun p hp => ?_⟩
    have hp0 : H p = none := s03.free hp
    have hlx := dpa_len hx
    have hly := dpa_len hy
    refine ⟨fun i m Hx => m + i = min xs.length ys.length ∧ Same H3 Hx ∧ ∃ acc, Hx p = some (.lst acc) ∧ DqAll X.K (hid (p :: M) Hx) acc ((List.zipWith g ds ds2).take i), ⟨min xs.length ys.length, rfl, same_new hp, [], upd_same, .nil⟩, fun i m Hx w => ?_⟩
    obtain ⟨hmi, sx, acc, hacc, hda⟩ := w
    have ga : SqL X.K Hx pa xs := SqL.of (sx _ _ (hid_le _ _ hpa))
    have gb : SqL X.K Hx pb ys := SqL.of (sx _ _ (hid_le _ _ hpb))
    by_cases hlt : i < min xs.length ys.length
    · have l1 : i < xs.length := by omega
      have l2 : i < ys.length := by omega
      refine .inr ⟨⟨xs, ys, xs[i], ys[i], ga, gb, List.getElem?_eq_getElem l1, List.getElem?_eq_getElem l2⟩, fun Hy => Same H3 Hy ∧ ∃ acc, Hy p = some (.lst acc) ∧ DqAll X.K (hid (p :: M) Hy) acc ((List.zipWith g ds ds2).take (i + 1)), fun Hy hy => ⟨m - 1, by omega, by omega, hy⟩, fun v Hy hyl => ?_⟩
      obtain ⟨T, y, z, rfl, hT, rfl, h1, h2⟩ := hyl
      obtain ⟨d, hd1, hd2⟩ := dpa_get' hx (h1 xs ga)
      obtain ⟨d2, hd3, hd4⟩ := dpa_get' hy (h2 ys gb)
      have sy : Same Hx (upd Hx T (.tup [y, z])) := same_new hT
      have hpy := sy _ _ hacc
      have Lp : Live (p :: M) (upd Hx T (.tup [y, z])) := fun b hb => by
        rcases List.mem_cons.mp hb with z | hb
        · subst z; rw [hpy]; simp
        · exact (L3.mono sx).mono sy b hb
      have hids : Same (hid M H3) (hid (p :: M) (upd Hx T (.tup [y, z]))) := hid_step hp (sx.trans sy)
      refine bg_mono (hst p i d d2 T y z _ hd1 hd3 hp0 ((s03.trans sx).trans sy) Lp (hd2.up hids) (hd4.up hids) upd_same) fun τ Ha ⟨hw, sa, hbe⟩ => ⟨hw, bt_nil (iteT (be_mono hbe fun u Hb ⟨sb, hu⟩ => ?_))⟩
      have sd := (sy.trans sa).trans sb
      refine ⟨acc, sd _ _ hacc, ?_, fun b o e => ?_, acc ++ [u], upd_same, ?_⟩
      · have h4 : 100000 < sizeLine := by decide
        have h5 : ((List.zipWith g ds ds2).take i).length ≤ i := by rw [List.length_take]; omega
        rw [dpa_len hda]
        omega
      · rw [upd_ne (ne_of_none e hp)]
        exact sd _ _ (sx _ _ e)
      · rw [hid_upd_ne, zip_snoc g hd1 hd3]
        exact dpa_app (hda.up (hid_mono sd)) (.cons hu .nil)
    · have ei : (List.zipWith g ds ds2).take i = List.zipWith g ds ds2 := List.take_of_length_le (by rw [List.length_zipWith]; omega)
      rw [ei] at hda
      exact .inl ⟨⟨xs, ys, ga, gb, by omega⟩, q p acc Hx (s03.trans sx) hp0 hacc (out_of hda)⟩) he2) he
/-- [elt for tg in iter for tg1 in iter1], iter a list, iter1 always the tuple eds -/
theorem lc_comp2 {vs1 : List Nat} (g : PyData → PyData → PyData) (L : Live M H) (hit : XD X M σ H iter (.list ds)) (hz : ds.length * eds.length ≤ 100000)
    (hst : ∀ p d v H1, d ∈ ds → H p = none → Same H H1 → Live (p :: M) H1 → Dq X.K (hid (p :: M) H1) v d → BG X scope tg v (wipe σ (own.map (·.2))) H1 fun τ H2 => wipe τ (own.map (·.2)) = wipe σ (own.map (·.2)) ∧ Same H1 H2 ∧
      (∀ (s : Shared) (H0 : Hp) (C : Addr) (cl : List (Str × Addr)) (fp : List Addr), XD (X.blk s H0 scope (compEnvC scope cl C X.env) fp) (p :: M) τ H2 iter1 (.tuple eds)) ∧
      ∀ ed w H3, ed ∈ eds → (∀ b o, b ≠ p → H2 b = some o → H3 b = some o) → Live (p :: M) H3 → Dq X.K (hid (p :: M) H3) w ed → BG X scope tg1 w (wipe τ vs1) H3 fun τ2 H4 => wipe τ2 vs1 = wipe τ vs1 ∧ Same H3 H4 ∧ BE X scope elt τ2 H4 fun u H5 => Same H4 H5 ∧ Dq X.K (hid (p :: M) H5) u (g d ed))
    (q : ∀ p xs H2, Same H H2 → H p = none → H2 p = some (.lst xs) → DqAll X.K (hid M H2) xs (ds.flatMap fun d => eds.map (g d)) → Q (.ref p) H2) :
    tLc2 (iList X.K (RE X iter)) (BG X scope tg) (BT X scope []) (iTup X.K (BE X scope iter1)) (BG X scope tg1) (BT X scope []) (BE X scope elt) (own.map (·.2)) vs1 σ H Q :=
  hit H (Same.refl H) _ fun v H2 s2 hv => by
    obtain ⟨a, xs, rfl, ha, hx⟩ := dp_lst hv
    have L2' : Live M H2 := L.mono s2
    have hlx := dpa_len hx
    refine ⟨a, rfl, ⟨xs, SqL.of (hid_le _ _ ha)⟩, fun p hp => ?_⟩
    have hp0 : H p = none := s2.free hp
    have flen : ∀ l : List PyData, (l.flatMap fun d => eds.map (g d)).length = l.length * eds.length := fun l => by
      induction l with
      | nil => simp
      | cons x l ih => rw [List.flatMap_cons, List.length_append, ih, List.length_map, List.length_cons, Nat.succ_mul]; omega
    refine ⟨fun i m Hx => m + i = xs.length ∧ Same H2 Hx ∧ ∃ acc, Hx p = some (.lst acc) ∧ DqAll X.K (hid (p :: M) Hx) acc ((ds.take i).flatMap fun d => eds.map (g d)), ⟨xs.length, rfl, same_new hp, [], upd_same, .nil⟩, fun i m Hx w => ?_⟩
    obtain ⟨hmi, sx, acc, hacc, hda⟩ := w
    have gt : SqL X.K Hx a xs := SqL.of (sx _ _ (hid_le _ _ ha))
    cases ex : xs[i]? with
    | none =>
      have hge : xs.length ≤ i := List.getElem?_eq_none_iff.mp ex
      have ei : ds.take i = ds := List.take_of_length_le (by omega)
      rw [ei] at hda
      exact .inl ⟨⟨xs, gt, hge⟩, q p acc Hx (s2.trans sx) (s2.free hp) hacc (out_of hda)⟩
    | some x0 =>
      have hlt := (List.getElem?_eq_some_iff.mp ex).1
      refine .inr ⟨⟨xs, x0, gt, ex⟩, fun Hy => Same H2 Hy ∧ ∃ acc, Hy p = some (.lst acc) ∧ DqAll X.K (hid (p :: M) Hy) acc ((ds.take (i + 1)).flatMap fun d => eds.map (g d)), fun Hy hy => ⟨m - 1, by omega, by omega, hy⟩, fun v Hy hyl => ?_⟩
      obtain ⟨rfl, h1⟩ := hyl
      obtain ⟨d, hd1, hd2⟩ := dpa_get' hx (h1 xs gt)
      have hdi := (List.getElem?_eq_some_iff.mp hd1).1
      have Lp : Live (p :: M) Hy := fun b hb => by
        rcases List.mem_cons.mp hb with z | hb
        · subst z; rw [hacc]; simp
        · exact L2'.mono sx b hb
      refine bg_mono (hst p d v Hy (List.mem_of_getElem? hd1) hp0 (s2.trans sx) Lp (hd2.up (hid_step hp sx))) fun τ Ha ⟨hw, sa, hin, hel⟩ => ⟨hw, bt_nil (iteT fun s0 H0 C0 cl fp => ?_)⟩
      refine hin s0 H0 C0 cl fp Ha (Same.refl _) _ fun w Hb sb hwv => ?_
      obtain ⟨a1, ys, rfl, ha1, hy⟩ := dp_tup hwv
      have ha10 := same_seqT hid_le ha1
      have hly := dpa_len hy
      refine ⟨a1, rfl, ⟨ys, ha10⟩, ?_⟩
      have sab := sa.trans sb
      have pMem : p ∈ p :: M := List.mem_cons_self ..
      have hbp : Hb p = some (.lst acc) := sab _ _ hacc
      have upM : ∀ {Hz : Hp}, (∀ b o, b ≠ p → Hb b = some o → Hz b = some o) → Same (hid (p :: M) Hb) (hid (p :: M) Hz) := fun {Hz} z b o e => by
        have n1 : b ∉ p :: M := fun y => by unfold hid at e; rw [if_pos y] at e; cases e
        rw [hid_of n1]
        rw [hid_of n1] at e
        exact z b o (fun y => n1 (by rw [y]; exact pMem)) e
      refine ⟨fun j k Hz => k + j = ys.length ∧ (∀ b o, b ≠ p → Hb b = some o → Hz b = some o) ∧ ∃ acc', Hz p = some (.lst acc') ∧ DqAll X.K (hid (p :: M) Hz) acc' (((ds.take i).flatMap fun d => eds.map (g d)) ++ (eds.take j).map (g d)), ⟨ys.length, rfl, fun b o _ e => e, acc, hbp, ?_⟩, fun j k Hz hz => ?_⟩
      · simpa using hda.up (hid_mono sab)
      · obtain ⟨hkj, sz, acc', hacc', hda'⟩ := hz
        have gz : SqT X.K Hz a1 ys := by
          rcases ha1 with (h | ⟨o, h⟩) | h
          · exact .inl (.inl (hid_le _ _ (upM sz _ _ h)))
          · exact .inl (.inr ⟨o, hid_le _ _ (upM sz _ _ h)⟩)
          · exact .inr h
        have s2z : Same H2 Hz := fun b o e => sz b o (ne_of_none e hp) (sab b o (sx b o e))
        cases ey : ys[j]? with
        | none =>
          have hge : ys.length ≤ j := List.getElem?_eq_none_iff.mp ey
          have ej : eds.take j = eds := List.take_of_length_le (by omega)
          rw [ej] at hda'
          refine .inl ⟨⟨ys, gz, hge⟩, s2z, acc', hacc', ?_⟩
          rw [List.take_add_one, hd1]
          show DqAll X.K (hid (p :: M) Hz) acc' ((ds.take i ++ [d]).flatMap fun d => eds.map (g d))
          rw [List.flatMap_append]
          simpa using hda'
        | some y0 =>
          have hltj := (List.getElem?_eq_some_iff.mp ey).1
          refine .inr ⟨⟨ys, y0, gz, ey⟩, fun Hu => (∀ b o, b ≠ p → Hb b = some o → Hu b = some o) ∧ ∃ acc', Hu p = some (.lst acc') ∧ DqAll X.K (hid (p :: M) Hu) acc' (((ds.take i).flatMap fun d => eds.map (g d)) ++ (eds.take (j + 1)).map (g d)), fun Hu hu => ⟨k - 1, by omega, by omega, hu⟩, fun v Hu hyl => ?_⟩
          obtain ⟨rfl, h2⟩ := hyl
          obtain ⟨ed, he1, he2⟩ := dpa_get' hy (h2 ys gz)
          have Lz : Live (p :: M) Hu := fun b hb => by
            by_cases z : b = p
            · subst z; rw [hacc']; simp
            · intro q0
              rcases List.mem_cons.mp hb with y | hb
              · exact z y
              · cases q1 : Hb b with
                | none => exact ((L2'.mono sx).mono sab) b hb q1
                | some o => rw [sz b o z q1] at q0; cases q0
          refine bg_mono (hel ed v Hu (List.mem_of_getElem? he1) (fun b o nb e => sz b o nb (sb b o e)) Lz (he2.up (upM sz))) fun τ2 Hc ⟨hw2, sc, hbe⟩ => ⟨hw2, bt_nil (iteT (be_mono hbe fun u Hd ⟨sd, hu⟩ => ?_))⟩
          have scd := sc.trans sd
          refine ⟨acc', scd _ _ hacc', ?_, fun b o nb e => ?_, acc' ++ [u], upd_same, ?_⟩
          · have h4 : 100000 < sizeLine := by decide
            have h7 : i * eds.length + eds.length ≤ ds.length * eds.length := by
              have : (i + 1) * eds.length ≤ ds.length * eds.length := Nat.mul_le_mul_right _ hdi
              rw [Nat.succ_mul] at this; exact this
            have h8 : (ds.take i).length ≤ i := by rw [List.length_take]; omega
            have h9 := Nat.mul_le_mul_right eds.length h8
            have h10 : (eds.take j).length ≤ j := by rw [List.length_take]; omega
            rw [dpa_len hda', List.length_append, flen, List.length_map]
            omega
          · rw [upd_ne nb]
            exact scd _ _ (sz b o nb e)
          · rw [hid_upd_ne, List.take_add_one, he1]
            show DqAll X.K (hid (p :: M) Hd) (acc' ++ [u]) (((ds.take i).flatMap fun d => eds.map (g d)) ++ (eds.take j ++ [ed]).map (g d))
            rw [List.map_append, ← List.append_assoc]
            exact dpa_app (hda'.up (hid_mono scd)) (.cons hu .nil)
/-- x = .., such a comprehension, on one line -/
theorem rb_setC2 (i : Nat) {vs1 : List Nat} (g : PyData → PyData → PyData) (L : Live M H) (hN : X.N.Nodup) (hit : XD X M σ H iter (.list ds)) (ok : BlkOk X.N X.env.scope scope own) (hv : ∀ i ∈ vs1, i ∈ own.map (·.2)) (hz : ds.length * eds.length ≤ 100000)
    (hst : ∀ p d v H1, d ∈ ds → H p = none → Same H H1 → Live (p :: M) H1 → Dq X.K (hid (p :: M) H1) v d → BG X scope tg v (wipe σ (own.map (·.2))) H1 fun τ H2 => wipe τ (own.map (·.2)) = wipe σ (own.map (·.2)) ∧ Same H1 H2 ∧
      (∀ (s : Shared) (H0 : Hp) (C : Addr) (cl : List (Str × Addr)) (fp : List Addr), XD (X.blk s H0 scope (compEnvC scope cl C X.env) fp) (p :: M) τ H2 iter1 (.tuple eds)) ∧
      ∀ ed w H3, ed ∈ eds → (∀ b o, b ≠ p → H2 b = some o → H3 b = some o) → Live (p :: M) H3 → Dq X.K (hid (p :: M) H3) w ed → BG X scope tg1 w (wipe τ vs1) H3 fun τ2 H4 => wipe τ2 vs1 = wipe τ vs1 ∧ Same H3 H4 ∧ BE X scope elt τ2 H4 fun u H5 => Same H4 H5 ∧ Dq X.K (hid (p :: M) H5) u (g d ed))
    (q : ∀ p xs H2, Same H H2 → H p = none → H2 p = some (.lst xs) → DqAll X.K (hid M H2) xs (ds.flatMap fun d => eds.map (g d)) → RB X rest D (σ.set i (some (.ref p))) H2)
    (hi : X.N[i]? = some x := by rfl) (hx : X.env.scope.names.lookup x = some .local := by rfl) (hsw : swapsWith (.ListComp elt [⟨tg, iter, [], 0⟩, ⟨tg1, iter1, [], 0⟩] scope pos) (some (.Name x py)) spos.line X.env = pure true := by exact sw_true rfl rfl rfl rfl)
    (hc : X.calm = true := by rfl) (hs : ∀ x, foldedSetIterable iter X.env x = pure x := by intro _; rfl) (hs1 : ∀ env x, foldedSetIterable iter1 env x = pure x := by intro _ _; rfl) : RB X (.Assign [.Name x py] (.ListComp elt [⟨tg, iter, [], 0⟩, ⟨tg1, iter1, [], 0⟩] scope pos) spos :: rest) D σ H :=
  ⟨_, pss_cons (ps_setLc2 (own := own) (vs1 := vs1) hc hN hi hx hsw (pi_list re_) ok hv (fun _ _ _ _ _ => bg_) (fun _ _ _ _ _ => bt_) (fun _ _ _ _ _ => pi_tup be_) (fun _ _ _ _ _ => bg_) (fun _ _ _ _ _ => bt_) (fun _ _ _ _ _ => be_) hs hs1) rb_,
    lc_comp2 (own := own) (vs1 := vs1) (Q := fun v H1 => RB X rest D (σ.set i (some v)) H1) g L hit hz hst q⟩
/-- *e, e a tuple, in a display -/
theorem xa_starT {sp : Pos} (ha : XD X M σ H e (.tuple ds)) (hr : XA X M σ H es ds2) (hs : starEach (.Starred e sp :: es) X.env = (true, eval e X.env) :: starEach es X.env := by rfl) : XA X M σ H (.Starred e sp :: es) (ds ++ ds2) := fun H1 s Q q =>
  ⟨_, StX.pa_star re_ ra_ hs, ha H1 s _ fun v H2 s2 hv => by
    obtain ⟨p, xs, rfl, hp, hx⟩ := dp_tup hv
    exact ⟨p, xs, rfl, .inl (same_seqT hid_le hp), hr H2 (s.trans s2) _ fun vs H3 s3 hvs => q _ H3 (s2.trans s3) (dpa_app (hx.up (hid_mono s3)) hvs)⟩⟩
end
end Dl

set_option Elab.async false
set_option linter.all false
set_option maxRecDepth 100000
set_option maxHeartbeats 4000000
namespace Zn
open PySem PySem.Spec PyProof.Rows L2 Dl
def top (i : Nat) : Stmt := PySem.Challenge.pw_everyzone_k32_differences_of_days.main.body.getD i (.Pass ⟨0, 0, 0, 0⟩)
abbrev sWhole : Stmt := top 13
abbrev sPair : Stmt := top 14
abbrev sNeed : Stmt := top 16
abbrev sRows : Stmt := top 23
abbrev sFollow : Stmt := top 24
abbrev sIsJump : Stmt := top 25
abbrev sJump : Stmt := top 26
abbrev sTorn : Stmt := top 27
/-- built-in names that the module leaves alone -/
structure Nm (mg : Str → Option Value) : Prop where
  isi : mg "isinstance" = none
  int : mg "int" = none
  bool : mg "bool" = none
  lst : mg "list" = none
  tup : mg "tuple" = none
  len : mg "len" = none
  abs : mg "abs" = none
  min : mg "min" = none
  max : mg "max" = none
  rep : mg "repr" = none
  rng : mg "range" = none
/-- a def of the module -/
structure Df (K : PySem.W.Frag) (mg : Str → Option Value) (x : Str) (st : Stmt) (ps : List Str) (f : Addr) (fd : FuncData) : Prop where
  F : Fun K x x st f fd
  g : mg x = some (.ref f)
  b : Binds K fd ps []
section
variable {P : Program} {w : World} {K : PySem.W.Frag} {mg : Str → Option Value} {base : Heap}
/-! ### is_whole -/
def isI : PyData → Bool
  | .int _ => true
  | .bool _ => true
  | _ => false
def isBl : PyData → Bool
  | .bool _ => true
  | _ => false
def whole : PyData → Bool
  | .int _ => true
  | _ => false
theorem k_int (d : PyData) : kitB (tyN d) "int" = some (isI d) := by
  cases d with
  | none => exact (by decide +kernel : kitB "NoneType" "int" = some false)
  | bool b => exact (by decide +kernel : kitB "bool" "int" = some true)
  | int i => exact (by decide +kernel : kitB "int" "int" = some true)
  | str z => exact (by decide +kernel : kitB "str" "int" = some false)
  | list l => exact (by decide +kernel : kitB "list" "int" = some false)
  | tuple l => exact (by decide +kernel : kitB "tuple" "int" = some false)
  | dict l => exact (by decide +kernel : kitB "dict" "int" = some false)
theorem k_bool (d : PyData) : kitB (tyN d) "bool" = some (isBl d) := by
  cases d with
  | none => exact (by decide +kernel : kitB "NoneType" "bool" = some false)
  | bool b => exact (by decide +kernel : kitB "bool" "bool" = some true)
  | int i => exact (by decide +kernel : kitB "int" "bool" = some false)
  | str z => exact (by decide +kernel : kitB "str" "bool" = some false)
  | list l => exact (by decide +kernel : kitB "list" "bool" = some false)
  | tuple l => exact (by decide +kernel : kitB "tuple" "bool" = some false)
  | dict l => exact (by decide +kernel : kitB "dict" "bool" = some false)
theorem whole_eq (d : PyData) : (isI d && !isBl d) = whole d := by cases d <;> rfl
def RWhole (ds : List PyData) (d : PyData) : Prop := ∃ x, ds = [x] ∧ d = .bool (whole x)
theorem scWhole : FnScope ["value"] ["value"] (defScope sWhole) := ⟨rfl, rfl, rfl, by decide +kernel, rfl, by decide +kernel, by decide +kernel⟩
theorem ok_whole {f : Addr} {fd : FuncData} (T : Nm mg) (F : Df K mg "is_whole" sWhole ["value"] f fd) : FnOk P w K mg base CX0 1 f fd ["value"] (spR K RWhole) := by
  refine F.F.ok scWhole (fun vs H Q E h => ?_) (fun cdv A outer s H vs Q E hr h => ?_)
  · obtain ⟨M, ds, d, L, hd, ⟨x, rfl, rfl⟩, q⟩ := h
    exact dpa_len hd
  · obtain ⟨M, ds, d, L, hd, ⟨x, rfl, rfl⟩, q⟩ := h
    cases hd with
    | cons h1 h2 =>
      cases h2
      refine rb_ret (M := M) (xd_and2 (xd_is1 (k_int x) T.isi T.int (by decide +kernel) (xd_name 0 rfl h1)) fun _ => xd_not (xd_is1 (k_bool x) T.isi T.bool (by decide +kernel) (xd_name 0 rfl h1))) fun v H1 s hv => q v H1 s ?_
      rw [whole_eq] at hv
      exact hv

/-! ### need_integer -/
def RNeed (ds : List PyData) (d : PyData) : Prop := ∃ i : Int, ds = [.int i] ∧ d = .none
theorem scNeed : FnScope ["value"] ["value"] (defScope sNeed) := ⟨rfl, rfl, rfl, by decide +kernel, rfl, by decide +kernel, by decide +kernel⟩
theorem ok_need {f fW : Addr} {fd fdW : FuncData} (T : Nm mg) (FW : Df K mg "is_whole" sWhole ["value"] fW fdW) (F : Df K mg "need_integer" sNeed ["value"] f fd) : FnOk P w K mg base CX0 2 f fd ["value"] (spR K RNeed) := by
  have GW : FnOk P w K mg base CX0 1 fW fdW ["value"] (spR K RWhole) := ok_whole T FW
  refine F.F.ok scNeed (fun vs H Q E h => ?_) (fun cdv A outer s H vs Q E hr h => ?_)
  · obtain ⟨M, ds, d, L, hd, ⟨x, rfl, rfl⟩, q⟩ := h
    exact dpa_len hd
  · obtain ⟨M, ds, d, L, hd, ⟨x, rfl, rfl⟩, q⟩ := h
    cases hd with
    | cons h1 h2 =>
      cases h2
      refine rb_ifF ((xt_not (xt_val (M := M) (xd_call L GW hr FW.g FW.F.kp FW.b (xa_cons (xd_name 0 rfl h1) xa_nil) ⟨_, rfl, rfl⟩))).to rfl) fun H1 s => rb_nil (q _ H1 s .non)
/-! ### rows -/
abbrev Row := Int × Int × Int
def rowD (r : Row) : PyData := .tuple [.int r.1, .int r.2.1, .int r.2.2]
def jmp (r : Row) : Int := r.2.2 - r.2.1
def ab (n : Int) : Int := if n < 0 then -n else n
theorem pix {X : Cx} {n : Int} {j pos} : PlainIx (.Constant (.int n) j pos) := fun _ _ => rfl
def RJump (ds : List PyData) (d : PyData) : Prop := ∃ r : Row, ds = [rowD r] ∧ d = .int (jmp r)
theorem scJump : FnScope ["row"] ["row"] (defScope sJump) := ⟨rfl, rfl, rfl, by decide +kernel, rfl, by decide +kernel, by decide +kernel⟩
theorem ok_jump {f : Addr} {fd : FuncData} (F : Df K mg "jump_of" sJump ["row"] f fd) : FnOk P w K mg base CX0 1 f fd ["row"] (spR K RJump) := by
  refine F.F.ok scJump (fun vs H Q E h => ?_) (fun cdv A outer s H vs Q E hr h => ?_)
  · obtain ⟨M, ds, d, L, hd, ⟨x, rfl, rfl⟩, q⟩ := h
    exact dpa_len hd
  · obtain ⟨M, ds, d, L, hd, ⟨r, rfl, rfl⟩, q⟩ := h
    cases hd with
    | cons h1 h2 =>
      cases h2
      exact rb_ret (M := M) (xd_sub (xd_ixT (fun _ _ => rfl) (xd_name 0 rfl h1) xd_int rfl) (xd_ixT (fun _ _ => rfl) (xd_name 0 rfl h1) xd_int rfl)) q
def isJumpB (j : Int) : Bool := !decide (j = 0) && decide (ab j ≤ 720)
def RIsJump (ds : List PyData) (d : PyData) : Prop := ∃ j : Int, ds = [.int j] ∧ d = .bool (isJumpB j)
theorem scIsJump : FnScope ["value"] ["value"] (defScope sIsJump) := ⟨rfl, rfl, rfl, by decide +kernel, rfl, by decide +kernel, by decide +kernel⟩
theorem ok_isJump {f : Addr} {fd : FuncData} (T : Nm mg) (hG : ∃ t, mg "GREATEST_JUMP" = some (.int 720 t)) (F : Df K mg "is_jump" sIsJump ["value"] f fd) : FnOk P w K mg base CX0 1 f fd ["value"] (spR K RIsJump) := by
  obtain ⟨t, hG⟩ := hG
  refine F.F.ok scIsJump (fun vs H Q E h => ?_) (fun cdv A outer s H vs Q E hr h => ?_)
  · obtain ⟨M, ds, d, L, hd, ⟨x, rfl, rfl⟩, q⟩ := h
    exact dpa_len hd
  · obtain ⟨M, ds, d, L, hd, ⟨j, rfl, rfl⟩, q⟩ := h
    cases hd with
    | cons h1 h2 =>
      cases h2
      exact rb_ret (M := M) (xd_and2 (xd_neI (xd_name 0 rfl h1) xd_int) fun _ => xd_cmpI op_le (xd_abs T.abs (xd_name 0 rfl h1)) (xv_glob (v := .int 720) hG ⟨t, rfl⟩).int) q
def followB (rs : List Row) (r : Row) : Bool := match rs.getLast? with
  | none => true
  | some l => decide (ab (jmp l) + ab (jmp r) < r.1 - l.1)
def RFollow (ds : List PyData) (d : PyData) : Prop := ∃ (rs : List Row) (r : Row), ds = [.list (rs.map rowD), rowD r] ∧ d = .bool (isJumpB (jmp r) && followB rs r)
theorem scFollow : FnScope ["rows", "row", "last"] ["rows", "row"] (defScope sFollow) := ⟨rfl, rfl, rfl, by decide +kernel, rfl, by decide +kernel, by decide +kernel⟩
theorem at_last {rs : List Row} {l : Row} (h : rs.getLast? = some l) : atI (rs.map rowD) (-1) = some (rowD l) := by
  obtain ⟨ys, rfl⟩ := List.getLast?_eq_some_iff.mp h
  rw [List.map_append]
  exact atI_last _ _
theorem ok_follow {f fJ fI : Addr} {fd fdJ fdI : FuncData} (T : Nm mg) (hG : ∃ t, mg "GREATEST_JUMP" = some (.int 720 t)) (FJ : Df K mg "jump_of" sJump ["row"] fJ fdJ) (FI : Df K mg "is_jump" sIsJump ["value"] fI fdI) (F : Df K mg "can_follow" sFollow ["rows", "row"] f fd) : FnOk P w K mg base CX0 2 f fd ["rows", "row"] (spR K RFollow) := by
  have GJ : FnOk P w K mg base CX0 1 fJ fdJ ["row"] (spR K RJump) := ok_jump FJ
  have GI : FnOk P w K mg base CX0 1 fI fdI ["value"] (spR K RIsJump) := ok_isJump T hG FI
  refine F.F.ok scFollow (fun vs H Q E h => ?_) (fun cdv A outer s H vs Q E hr h => ?_)
  · obtain ⟨M, ds, d, L, hd, ⟨x, y, rfl, rfl⟩, q⟩ := h
    exact dpa_len hd
  · obtain ⟨M, ds, d, L, hd, ⟨rs, r, rfl, rfl⟩, q⟩ := h
    cases hd with
    | cons h1 h2 =>
      cases h2 with
      | cons h2 h3 =>
        cases h3
        refine rb_if (xt_not (xt_val (M := M) (xd_call L GI hr FI.g FI.F.kp FI.b (xa_cons (xd_call L GJ hr FJ.g FJ.F.kp FJ.b (xa_cons (xd_name 1 rfl h2) xa_nil) ⟨r, rfl, rfl⟩) xa_nil) ⟨_, rfl, rfl⟩))) (fun e H1 s => ?_) (fun e0 H0 s0 => rb_nil ?_)
        · refine rb_ret (M := M) xd_bl fun v H2 s2 hv => q v H2 (s.trans s2) ?_
          have ej : isJumpB (jmp r) = false := by
            cases z : isJumpB (jmp r)
            · rfl
            · rw [z] at e; exact absurd e Bool.false_ne_true
          rw [ej]
          exact hv
        have ej : isJumpB (jmp r) = true := by
          cases z : isJumpB (jmp r)
          · rw [z] at e0; exact absurd e0.symm Bool.false_ne_true
          · rfl
        have L := L.mono s0
        have h1 := h1.up (hid_mono (M := M) s0)
        have h2 := h2.up (hid_mono (M := M) s0)
        rw [ej] at q
        refine rb_if (xt_eqI (M := M) (xd_len T.len (xd_name 0 rfl h1)) xd_int) (fun e H1 s => ?_) (fun e H1 s => rb_nil ?_)
        · have e0 : rs = [] := by
            have z := of_decide_eq_true e
            rw [List.length_map] at z
            exact List.length_eq_zero_iff.mp (by omega)
          subst e0
          exact rb_ret (M := M) xd_bl fun v H2 s2 hv => q v H2 ((s0.trans s).trans s2) hv
        · have e0 : rs ≠ [] := fun z => by
            subst z
            simp at e
          obtain ⟨l, hl⟩ : ∃ l, rs.getLast? = some l := ⟨_, List.getLast?_eq_some_getLast e0⟩
          have g1 := h1.up (hid_mono (M := M) s)
          have g2 := h2.up (hid_mono (M := M) s)
          refine rb_set 2 (M := M) (xd_ixL (fun _ _ => rfl) (xd_name 0 rfl g1) (xd_neg xd_int) (at_last hl)) (fun v H2 s2 hv => ?_) scFollow.nd
          have g3 := g2.up (hid_mono (M := M) s2)
          have L2' := (L.mono s).mono s2
          refine rb_ret (M := M) (xd_cmpI op_gt (xd_sub (xd_ixT (fun _ _ => rfl) (xd_name 1 rfl g3) xd_int rfl) (xd_ixT (fun _ _ => rfl) (xd_name 2 rfl hv) xd_int rfl))
            (xd_add (xd_abs T.abs (xd_call L2' GJ hr FJ.g FJ.F.kp FJ.b (xa_cons (xd_name 2 rfl hv) xa_nil) ⟨l, rfl, rfl⟩)) (xd_abs T.abs (xd_call L2' GJ hr FJ.g FJ.F.kp FJ.b (xa_cons (xd_name 1 rfl g3) xa_nil) ⟨r, rfl, rfl⟩)))) fun v' H3 s3 hv' => q v' H3 (((s0.trans s).trans s2).trans s3) ?_
          unfold followB
          rw [hl, Bool.true_and]
          exact hv'
def tornD (r : Row) : PyData := .tuple [.int (r.1 + (if r.2.2 < r.2.1 then r.2.2 else r.2.1)), .int (r.1 + (if r.2.2 > r.2.1 then r.2.2 else r.2.1))]
def RTorn (ds : List PyData) (d : PyData) : Prop := ∃ r : Row, ds = [rowD r] ∧ d = tornD r
theorem scTorn : FnScope ["row", "moment", "before", "after"] ["row"] (defScope sTorn) := ⟨rfl, rfl, rfl, by decide +kernel, rfl, by decide +kernel, by decide +kernel⟩
theorem ok_torn {f : Addr} {fd : FuncData} (T : Nm mg) (F : Df K mg "torn_readings" sTorn ["row"] f fd) : FnOk P w K mg base CX0 1 f fd ["row"] (spR K RTorn) := by
  refine F.F.ok scTorn (fun vs H Q E h => ?_) (fun cdv A outer s H vs Q E hr h => ?_)
  · obtain ⟨M, ds, d, L, hd, ⟨x, rfl, rfl⟩, q⟩ := h
    exact dpa_len hd
  · obtain ⟨M, ds, d, L, hd, ⟨r, rfl, rfl⟩, q⟩ := h
    cases hd with
    | cons h1 h2 =>
      cases h2
      refine rb_asgR (XD.go (M := M) (xd_name 0 rfl h1) fun v H1 s1 hv => ?_)
      obtain ⟨p, xs, rfl, hp, hx⟩ := dp_tup hv
      cases hx with
      | cons a1 hx => cases hx with
        | cons a2 hx => cases hx with
          | cons a3 hx =>
            cases hx
            rw [dp_int a1, dp_int a2, dp_int a3] at hp
            refine rg_tup (same_seqT hid_le hp) (rgs_cons (rg_name 1 (rgs_cons (rg_name 2 (rgs_cons (rg_name 3 (rgs_nil ?_) scTorn.nd)) scTorn.nd)) scTorn.nd))
            exact rb_ret (M := M) (xd_tup (L.mono s1) (xa_cons (xd_add (xd_name 1 rfl (.int r.1)) (xd_min T.min (xa_cons (xd_name 2 rfl (.int r.2.1)) (xa_cons (xd_name 3 rfl (.int r.2.2)) xa_nil))))
              (xa_cons (xd_add (xd_name 1 rfl (.int r.1)) (xd_max T.max (xa_cons (xd_name 2 rfl (.int r.2.1)) (xa_cons (xd_name 3 rfl (.int r.2.2)) xa_nil)))) xa_nil))) fun v' H2 s2 hv' => q v' H2 (s1.trans s2) hv'
end
end Zn

set_option Elab.async false
set_option linter.all false
set_option maxRecDepth 100000
set_option maxHeartbeats 4000000
namespace Zn
open PySem PySem.Spec PyProof.Rows L2 Dl
/-! ### rows of changes: the mathematics -/
def rowsOf : Int → List (Int × Int) → List Row
  | _, [] => []
  | b, c :: cs => (c.1, b, c.2) :: rowsOf c.2 cs
def lastOff : Int → List (Int × Int) → Int
  | b, [] => b
  | _, c :: cs => lastOff c.2 cs
theorem rows_len : ∀ (b : Int) (cs : List (Int × Int)), (rowsOf b cs).length = cs.length
  | _, [] => rfl
  | _, c :: cs => by unfold rowsOf; rw [List.length_cons, List.length_cons, rows_len c.2 cs]
theorem rows_take : ∀ (b : Int) (cs : List (Int × Int)) (k : Nat), (rowsOf b cs).take k = rowsOf b (cs.take k)
  | _, [], k => by unfold rowsOf; cases k <;> rfl
  | _, c :: cs, 0 => rfl
  | _, c :: cs, k + 1 => by unfold rowsOf; rw [List.take_succ_cons, List.take_succ_cons, rows_take c.2 cs k]
theorem rows_get : ∀ (b : Int) (cs : List (Int × Int)) (k : Nat) (c : Int × Int), cs[k]? = some c → (rowsOf b cs)[k]? = some (c.1, lastOff b (cs.take k), c.2)
  | _, [], k, c, h => by simp at h
  | _, c' :: cs, 0, c, h => by simp at h; subst h; rfl
  | _, c' :: cs, k + 1, c, h => by
    have q := rows_get c'.2 cs k c (by simpa using h)
    unfold rowsOf lastOff
    rw [List.take_succ_cons]
    simpa using q
theorem last_snoc : ∀ (b : Int) (cs : List (Int × Int)) (c : Int × Int), lastOff b (cs ++ [c]) = c.2
  | _, [], c => rfl
  | _, c' :: cs, c => last_snoc c'.2 cs c
theorem rows_snoc : ∀ (b : Int) (cs : List (Int × Int)) (c : Int × Int), rowsOf b (cs ++ [c]) = rowsOf b cs ++ [(c.1, lastOff b cs, c.2)]
  | _, [], c => rfl
  | _, c' :: cs, c => by
    show (c'.1, _, c'.2) :: rowsOf c'.2 (cs ++ [c]) = _
    rw [rows_snoc c'.2 cs c]
    rfl
/-- each row passes the checks behind the ones ahead of it -/
def okR (rs : List Row) : Prop := ∀ (k : Nat) (r : Row), rs[k]? = some r → isJumpB (jmp r) = true ∧ followB (rs.take k) r = true
def IsPr (it : PyData) (c : Int × Int) : Prop := it = .tuple [.int c.1, .int c.2] ∨ it = .list [.int c.1, .int c.2]
def Items (items : List PyData) (cs : List (Int × Int)) : Prop := items.length = cs.length ∧ ∀ (i : Nat) (it : PyData), items[i]? = some it → ∃ c, cs[i]? = some c ∧ IsPr it c
def RPair (ds : List PyData) (d : PyData) : Prop := ∃ it c, ds = [it] ∧ IsPr it c ∧ d = .bool true
def RRows (ds es : List PyData) : Prop := ∃ (off : Int) (sq : PyData) (items : List PyData) (cs : List (Int × Int)), ds = [.int off, sq] ∧ (sq = .list items ∨ sq = .tuple items) ∧ Items items cs ∧ okR (rowsOf off cs) ∧ cs.length ≤ 1000 ∧ es = (rowsOf off cs).map rowD
theorem hid_weak {p : Addr} {M : List Addr} {H : Hp} : Same (hid (p :: M) H) (hid M H) := fun b o e => by
  have n : b ∉ p :: M := fun z => by unfold hid at e; rw [if_pos z] at e; cases e
  rw [hid_of (fun z => n (List.mem_cons_of_mem _ z))]
  exact hid_le _ _ e
theorem hid_cons_upd {p : Addr} {M : List Addr} {H : Hp} {o : HO} : hid (p :: M) (upd H p o) = hid (p :: M) H := hid_upd_mem (List.mem_cons_self ..)
theorem Live.tail {p : Addr} {M : List Addr} {H : Hp} (L : Live (p :: M) H) : Live M H := fun b hb => L b (List.mem_cons_of_mem _ hb)
theorem same_upd {H H' : Hp} {p : Addr} {o : HO} (s : Same H H') (hp : H p = none) : Same H (upd H' p o) := fun b u e => by rw [upd_ne (ne_of_none e hp)]; exact s b u e
theorem take_snoc {α : Type} {l : List α} {k : Nat} {x : α} (h : l[k]? = some x) : l.take (k + 1) = l.take k ++ [x] := by rw [List.take_add_one, h]; rfl
theorem k_tl : kitB "tuple" "list" = some false := by decide +kernel
theorem k_tt : kitB "tuple" "tuple" = some true := by decide +kernel
theorem k_ll : kitB "list" "list" = some true := by decide +kernel
theorem k_lt : kitB "list" "tuple" = some false := by decide +kernel
section
variable {P : Program} {w : World} {K : PySem.W.Frag} {mg : Str → Option Value} {base : Heap}
theorem scPair : FnScope ["value"] ["value"] (defScope sPair) := ⟨rfl, rfl, rfl, by decide +kernel, rfl, by decide +kernel, by decide +kernel⟩
theorem ok_pair {f fW : Addr} {fd fdW : FuncData} (T : Nm mg) (FW : Df K mg "is_whole" sWhole ["value"] fW fdW) (F : Df K mg "is_whole_pair" sPair ["value"] f fd) : FnOk P w K mg base CX0 2 f fd ["value"] (spR K RPair) := by
  have GW : FnOk P w K mg base CX0 1 fW fdW ["value"] (spR K RWhole) := ok_whole T FW
  refine F.F.ok scPair (fun vs H Q E h => ?_) (fun cdv A outer s H vs Q E hr h => ?_)
  · obtain ⟨M, ds, d, L, hd, ⟨x, c, rfl, _, rfl⟩, q⟩ := h
    exact dpa_len hd
  · obtain ⟨M, ds, d, L, hd, ⟨x, c, rfl, hx, rfl⟩, q⟩ := h
    cases hd with
    | cons h1 h2 =>
      cases h2
      rcases hx with rfl | rfl
      · refine rb_ret (M := M) (xd_andT ((xd_is2 (d := .tuple [.int c.1, .int c.2]) (r1 := false) (r2 := true) (T1 := "list") (T2 := "tuple") k_tl k_tt T.isi T.lst (by decide +kernel) T.tup (by decide +kernel) (xd_name 0 rfl h1)).to rfl)
          (xd_andT ((xd_eqI (xd_lenT T.len (xd_name 0 rfl h1)) xd_int).to rfl) (xd_andT (xd_call L GW hr FW.g FW.F.kp FW.b (xa_cons (xd_ixT (fun _ _ => rfl) (xd_name 0 rfl h1) xd_int rfl) xa_nil) ⟨.int c.1, rfl, rfl⟩)
            (xd_one (xd_call L GW hr FW.g FW.F.kp FW.b (xa_cons (xd_ixT (fun _ _ => rfl) (xd_name 0 rfl h1) xd_int rfl) xa_nil) ⟨.int c.2, rfl, rfl⟩))))) q
      · refine rb_ret (M := M) (xd_andT ((xd_is2 (d := .list [.int c.1, .int c.2]) (r1 := true) (r2 := false) (T1 := "list") (T2 := "tuple") k_ll k_lt T.isi T.lst (by decide +kernel) T.tup (by decide +kernel) (xd_name 0 rfl h1)).to rfl)
          (xd_andT ((xd_eqI (xd_len T.len (xd_name 0 rfl h1)) xd_int).to rfl) (xd_andT (xd_call L GW hr FW.g FW.F.kp FW.b (xa_cons (xd_ixL (fun _ _ => rfl) (xd_name 0 rfl h1) xd_int rfl) xa_nil) ⟨.int c.1, rfl, rfl⟩)
            (xd_one (xd_call L GW hr FW.g FW.F.kp FW.b (xa_cons (xd_ixL (fun _ _ => rfl) (xd_name 0 rfl h1) xd_int rfl) xa_nil) ⟨.int c.2, rfl, rfl⟩))))) q
/-- item[0], item[1] -/
theorem pr_ix {X : Cx} {M : List Addr} {σ : L2.St} {H : Hp} {a : Expr} {it : PyData} {c : Int × Int} {j : Nat} {p1 pos : Pos} (h : IsPr it c) (ha : XD X M σ H a it) {n : Int} {y : Int} (hn : atI [PyData.int c.1, PyData.int c.2] n = some (.int y)) : XD X M σ H (.Subscript a (.Constant (.int n) j p1) pos) (.int y) := by
  rcases h with rfl | rfl
  · exact xd_ixT (fun _ _ => rfl) ha xd_int hn
  · exact xd_ixL (fun _ _ => rfl) ha xd_int hn
theorem scRows : FnScope ["offset", "changes", "rows", "before", "item", "row"] ["offset", "changes"] (defScope sRows) := ⟨rfl, rfl, rfl, by decide +kernel, rfl, by decide +kernel, by decide +kernel⟩
theorem ok_rows {f fW fP fJ fI fF : Addr} {fd fdW fdP fdJ fdI fdF : FuncData} (T : Nm mg) (hG : ∃ t, mg "GREATEST_JUMP" = some (.int 720 t)) (FW : Df K mg "is_whole" sWhole ["value"] fW fdW) (FP : Df K mg "is_whole_pair" sPair ["value"] fP fdP)
    (FJ : Df K mg "jump_of" sJump ["row"] fJ fdJ) (FI : Df K mg "is_jump" sIsJump ["value"] fI fdI) (FF : Df K mg "can_follow" sFollow ["rows", "row"] fF fdF) (F : Df K mg "rows_of" sRows ["offset", "changes"] f fd) : FnOk P w K mg base CX0 3 f fd ["offset", "changes"] (spL K RRows) := by
  have GP : FnOk P w K mg base CX0 2 fP fdP ["value"] (spR K RPair) := ok_pair T FW FP
  have GF : FnOk P w K mg base CX0 2 fF fdF ["rows", "row"] (spR K RFollow) := ok_follow T hG FJ FI FF
  refine F.F.ok scRows (fun vs H Q E h => ?_) (fun cdv A outer s H vs Q E hr h => ?_)
  · obtain ⟨M, ds, es, L, hd, ⟨off, sq, items, cs, rfl, _⟩, q⟩ := h
    exact dpa_len hd
  · obtain ⟨M, ds, es, L, hd, ⟨off, sq, items, cs, rfl, hsq, hit, hok, hlen, rfl⟩, q⟩ := h
    cases hd with
    | cons h1 h2 =>
      cases h2 with
      | cons h2 h3 =>
        cases h3
        rename_i v0 v1
        have e0 := dp_int h1
        subst e0
        refine rb_setL 2 (xl_lst L xa_nil) (fun p xs H1 s1 hp h1p hxs => ?_) scRows.nd
        cases hxs
        have g0 : Same (hid M H) (hid (p :: M) H1) := hid_step hp s1
        have Lp : Live (p :: M) H1 := fun b hb => by
          rcases List.mem_cons.mp hb with z | hb
          · subst z; rw [h1p]; simp
          · exact L.mono s1 b hb
        have k2 := h2.up g0
        refine rb_set 3 (M := p :: M) (xd_name 0 rfl (.int off)) (fun v H2 s2 hv => ?_) scRows.nd
        have e3 := dp_int hv
        subst e3
        have k3 := k2.up (hid_mono (M := p :: M) s2)
        have Lp2 := Lp.mono s2
        rcases hsq with rfl | rfl
        · refine rb_for (M := p :: M) (xd_name 1 rfl k3) fun H3 s3 => ⟨fun k σ' H' => Same (hid (p :: M) H3) (hid (p :: M) H') ∧ Live (p :: M) H' ∧ Same H H' ∧ ∃ (xs : List V) (a4 a5 : Option V), σ' = [some (.int off), some v1, some (.ref p), some (.int (lastOff off (cs.take k))), a4, a5] ∧ H' p = some (.lst xs) ∧ DqAll K (hid (p :: M) H') xs ((rowsOf off (cs.take k)).map rowD),
            ⟨Same.refl _, Lp2.mono s3, (s1.trans s2).trans s3, [], none, none, rfl, s3 _ _ (s2 _ _ h1p), .nil⟩, fun k σ' H' w => w.1, fun k it hk σ' H' v hw hv => ?_, fun σ' H' hw => ?_⟩
          · obtain ⟨z1, L4, z2, xs, a4, a5, rfl, hp4, hx4⟩ := hw
            obtain ⟨c, hc, hpr⟩ := hit.2 k it hk
            have hklt : k < cs.length := (List.getElem?_eq_some_iff.mp hc).1
            have hrow := rows_get off cs k c hc
            obtain ⟨c1, c2⟩ := hok k _ hrow
            rw [rows_take] at c2
            have hxl : xs.length < 100000 := by
              rw [dpa_len hx4, List.length_map, rows_len, List.length_take]
              omega
            refine rg_name 4 ?_ scRows.nd
            refine rb_ifF ((xt_not (xt_val (M := p :: M) (xd_call L4 GP hr FP.g FP.F.kp FP.b (xa_cons (xd_name 4 rfl hv) xa_nil) ⟨it, c, rfl, hpr, rfl⟩))).to rfl) fun H5 s5 => ?_
            have hv5 := hv.up (hid_mono (M := p :: M) s5)
            have L5 := L4.mono s5
            refine rb_set 5 (M := p :: M) (xd_tup L5 (xa_cons (pr_ix hpr (xd_name 4 rfl hv5) rfl) (xa_cons (xd_name 3 rfl (.int _)) (xa_cons (pr_ix hpr (xd_name 4 rfl hv5) rfl) xa_nil)))) (fun v6 H6 s6 hv6 => ?_) scRows.nd
            have L6 := L5.mono s6
            have s46 := s5.trans s6
            have hx6 := hx4.up (hid_mono (M := p :: M) s46)
            have LM := Live.tail L6
            have hp6 : H6 p = some (.lst xs) := s46 _ _ hp4
            have kp : Dq K (hid M H6) (.ref p) (.list ((rowsOf off (cs.take k)).map rowD)) := .lst (by rw [hid_of (fun z => (L.fresh hp) z)]; exact hp6) (hx6.up hid_weak)
            refine rb_ifF ((xt_not (xt_val (M := M) (xd_call LM GF hr FF.g FF.F.kp FF.b (xa_cons (xd_name 2 rfl kp) (xa_cons (xd_name 5 rfl (hv6.up hid_weak)) xa_nil)) ⟨_, (c.1, lastOff off (cs.take k), c.2), rfl, rfl⟩))).to (by rw [c1, c2]; rfl)) fun H7 s7 => ?_
            refine rb_append (M := p :: M) (xs := xs) (List.mem_cons_self ..) (xv_name 2 rfl) (s7 _ _ (s46 _ _ hp4)) (xd_name 5 rfl (hv6.up (hid_mono s7))) hxl fun v8 H8 s8 hv8 => ?_
            have s68 := s7.trans s8
            have s48 := s46.trans s68
            have hv9 : Dq K (hid (p :: M) (upd H8 p (.lst (xs ++ [v8])))) v it := by rw [hid_cons_upd]; exact hv5.up (hid_mono (s6.trans s68))
            refine rb_set 3 (M := p :: M) (pr_ix hpr (xd_name 4 rfl hv9) rfl) (fun v10 H10 s10 hv10 => rb_nil ?_) scRows.nd
            have e10 := dp_int hv10
            subst e10
            have s4x : Same (hid (p :: M) H') (hid (p :: M) H10) := by
              refine (hid_mono (M := p :: M) s48).trans ?_
              have z := hid_mono (M := p :: M) s10
              rw [hid_cons_upd] at z
              exact z
            refine ⟨z1.trans s4x, (Live.upd (L6.mono s68)).mono s10, (same_upd (z2.trans s48) hp).trans s10, xs ++ [v8], some v, some v6, ?_, s10 _ _ upd_same, ?_⟩
            · rw [take_snoc hc, last_snoc]
              rfl
            · rw [take_snoc hc, rows_snoc, List.map_append]
              refine dpa_app (hx4.up s4x) (.cons (hv8.up ?_) .nil)
              have z := hid_mono (M := p :: M) s10
              rw [hid_cons_upd] at z
              exact z
          · obtain ⟨z1, L4, z2, xs, a4, a5, rfl, hp4, hx4⟩ := hw
            refine rb_retR (XV.go (xv_name 2 rfl) fun H5 s5 => q p xs H5 (z2.trans s5) hp (s5 _ _ hp4) ?_)
            rw [hit.1, List.take_length] at hx4
            exact (hx4.up (hid_mono (M := p :: M) s5)).up hid_weak
        · refine rb_forT (M := p :: M) (xd_name 1 rfl k3) fun H3 s3 => ⟨fun k σ' H' => Same (hid (p :: M) H3) (hid (p :: M) H') ∧ Live (p :: M) H' ∧ Same H H' ∧ ∃ (xs : List V) (a4 a5 : Option V), σ' = [some (.int off), some v1, some (.ref p), some (.int (lastOff off (cs.take k))), a4, a5] ∧ H' p = some (.lst xs) ∧ DqAll K (hid (p :: M) H') xs ((rowsOf off (cs.take k)).map rowD),
            ⟨Same.refl _, Lp2.mono s3, (s1.trans s2).trans s3, [], none, none, rfl, s3 _ _ (s2 _ _ h1p), .nil⟩, fun k σ' H' w => w.1, fun k it hk σ' H' v hw hv => ?_, fun σ' H' hw => ?_⟩
          · obtain ⟨z1, L4, z2, xs, a4, a5, rfl, hp4, hx4⟩ := hw
            obtain ⟨c, hc, hpr⟩ := hit.2 k it hk
            have hklt : k < cs.length := (List.getElem?_eq_some_iff.mp hc).1
            have hrow := rows_get off cs k c hc
            obtain ⟨c1, c2⟩ := hok k _ hrow
            rw [rows_take] at c2
            have hxl : xs.length < 100000 := by
              rw [dpa_len hx4, List.length_map, rows_len, List.length_take]
              omega
            refine rg_name 4 ?_ scRows.nd
            refine rb_ifF ((xt_not (xt_val (M := p :: M) (xd_call L4 GP hr FP.g FP.F.kp FP.b (xa_cons (xd_name 4 rfl hv) xa_nil) ⟨it, c, rfl, hpr, rfl⟩))).to rfl) fun H5 s5 => ?_
            have hv5 := hv.up (hid_mono (M := p :: M) s5)
            have L5 := L4.mono s5
            refine rb_set 5 (M := p :: M) (xd_tup L5 (xa_cons (pr_ix hpr (xd_name 4 rfl hv5) rfl) (xa_cons (xd_name 3 rfl (.int _)) (xa_cons (pr_ix hpr (xd_name 4 rfl hv5) rfl) xa_nil)))) (fun v6 H6 s6 hv6 => ?_) scRows.nd
            have L6 := L5.mono s6
            have s46 := s5.trans s6
            have hx6 := hx4.up (hid_mono (M := p :: M) s46)
            have LM := Live.tail L6
            have hp6 : H6 p = some (.lst xs) := s46 _ _ hp4
            have kp : Dq K (hid M H6) (.ref p) (.list ((rowsOf off (cs.take k)).map rowD)) := .lst (by rw [hid_of (fun z => (L.fresh hp) z)]; exact hp6) (hx6.up hid_weak)
            refine rb_ifF ((xt_not (xt_val (M := M) (xd_call LM GF hr FF.g FF.F.kp FF.b (xa_cons (xd_name 2 rfl kp) (xa_cons (xd_name 5 rfl (hv6.up hid_weak)) xa_nil)) ⟨_, (c.1, lastOff off (cs.take k), c.2), rfl, rfl⟩))).to (by rw [c1, c2]; rfl)) fun H7 s7 => ?_
            refine rb_append (M := p :: M) (xs := xs) (List.mem_cons_self ..) (xv_name 2 rfl) (s7 _ _ (s46 _ _ hp4)) (xd_name 5 rfl (hv6.up (hid_mono s7))) hxl fun v8 H8 s8 hv8 => ?_
            have s68 := s7.trans s8
            have s48 := s46.trans s68
            have hv9 : Dq K (hid (p :: M) (upd H8 p (.lst (xs ++ [v8])))) v it := by rw [hid_cons_upd]; exact hv5.up (hid_mono (s6.trans s68))
            refine rb_set 3 (M := p :: M) (pr_ix hpr (xd_name 4 rfl hv9) rfl) (fun v10 H10 s10 hv10 => rb_nil ?_) scRows.nd
            have e10 := dp_int hv10
            subst e10
            have s4x : Same (hid (p :: M) H') (hid (p :: M) H10) := by
              refine (hid_mono (M := p :: M) s48).trans ?_
              have z := hid_mono (M := p :: M) s10
              rw [hid_cons_upd] at z
              exact z
            refine ⟨z1.trans s4x, (Live.upd (L6.mono s68)).mono s10, (same_upd (z2.trans s48) hp).trans s10, xs ++ [v8], some v, some v6, ?_, s10 _ _ upd_same, ?_⟩
            · rw [take_snoc hc, last_snoc]
              rfl
            · rw [take_snoc hc, rows_snoc, List.map_append]
              refine dpa_app (hx4.up s4x) (.cons (hv8.up ?_) .nil)
              have z := hid_mono (M := p :: M) s10
              rw [hid_cons_upd] at z
              exact z
          · obtain ⟨z1, L4, z2, xs, a4, a5, rfl, hp4, hx4⟩ := hw
            refine rb_retR (XV.go (xv_name 2 rfl) fun H5 s5 => q p xs H5 (z2.trans s5) hp (s5 _ _ hp4) ?_)
            rw [hit.1, List.take_length] at hx4
            exact (hx4.up (hid_mono (M := p :: M) s5)).up hid_weak
end
end Zn

set_option Elab.async false
set_option linter.all false
set_option maxRecDepth 100000
set_option maxHeartbeats 4000000
namespace Zn
open PySem PySem.Spec PyProof.Rows L2 Dl
abbrev sInit : Stmt := inClass (top 22) 0
abbrev sFirst : Stmt := inClass (top 22) 1
abbrev sChanges : Stmt := inClass (top 22) 2
abbrev sJumps : Stmt := inClass (top 22) 3
abbrev sLen : Stmt := inClass (top 22) 4
abbrev sCont : Stmt := inClass (top 22) 5
abbrev sEq : Stmt := inClass (top 22) 6
abbrev sGaps : Stmt := inClass (top 22) 10
abbrev sFolds : Stmt := inClass (top 22) 11
/-! ### a zone -/
def zf (off : Int) (r : Addr) : List (Str × V) := [("base", .int off), ("rows", .ref r)]
theorem zf_base (off : Int) (r : Addr) : (zf off r).lookup ("base" : Str) = some (.int off) := by
  unfold zf
  simp [List.lookup]
theorem zf_rows (off : Int) (r : Addr) : (zf off r).lookup ("rows" : Str) = some (.ref r) := by
  unfold zf
  simp [List.lookup, show (("rows" : Str) == ("base" : Str)) = false by decide +kernel]
theorem zf_put (off : Int) (r : Addr) : putF "rows" (.ref r) [(("base" : Str), V.int off)] = zf off r := by
  show (if ("base" : Str) = "rows" then _ else (("base" : Str), V.int off) :: [(("rows" : Str), V.ref r)]) = _
  rw [if_neg (by decide +kernel)]
  rfl
theorem zf_none {m : Str} (off : Int) (r : Addr) (h1 : (m == ("base" : Str)) = false) (h2 : (m == ("rows" : Str)) = false) : (zf off r).lookup m = none := by
  unfold zf
  simp [List.lookup, h1, h2]
/-- at a a zone of the class at C: first offset off, rows rs -/
def ZAt (K : PySem.W.Frag) (C : Addr) (H : Hp) (a : Addr) (off : Int) (rs : List Row) : Prop := ∃ dx r, H a = some (.ins C dx (zf off r)) ∧ Dq K H (.ref r) (.list (rs.map rowD))
theorem ZAt.up {K : PySem.W.Frag} {C : Addr} {H H' : Hp} {a : Addr} {off : Int} {rs : List Row} (h : ZAt K C H a off rs) (s : Same H H') : ZAt K C H' a off rs := by
  obtain ⟨dx, r, h1, h2⟩ := h
  exact ⟨dx, r, s _ _ h1, h2.up s⟩
/-- what the written part says of the class -/
structure ZT (K : PySem.W.Frag) (mg : Str → Option Value) (C : Addr) : Prop where
  cl : Cls K C
  nB : NoAttr K C "base"
  nR : NoAttr K C "rows"
  mgC : mg "Zone" = some (.ref C)
/-- a method of the class -/
structure Mt (K : PySem.W.Frag) (C : Addr) (x q : Str) (st : Stmt) (ps : List Str) (f : Addr) (fd : FuncData) : Prop where
  F : Fun K x q st f fd
  b : Binds K fd ps []
  m : Meth K C x f
section
variable {X : Cx} {M : List Addr} {σ : L2.St} {H H' : Hp} {o : Expr} {pos : Pos} {K : PySem.W.Frag} {C pa : Addr} {off : Int} {rs : List Row}
/-- self.base, self.rows -/
theorem xv_base (hZ : ∃ mg, ZT X.K mg C) (h : ZAt X.K C (hid M H) pa off rs) (ho : XV X σ H o (.ref pa)) (hb : attributeBase o "base" X.env (eval o X.env) = eval o X.env := by rfl) : XV X σ H (.Attribute o "base" pos) (.int off) := by
  obtain ⟨dx, r, h1, h2⟩ := h
  obtain ⟨_, Z⟩ := hZ
  exact xv_fld ho (hid_le _ _ h1) Z.cl Z.nB (zf_base off r) hb
theorem xd_rows (hZ : ∃ mg, ZT X.K mg C) (h : ZAt X.K C (hid M H) pa off rs) (ho : XV X σ H o (.ref pa)) (hb : attributeBase o "rows" X.env (eval o X.env) = eval o X.env := by rfl) : XD X M σ H (.Attribute o "rows" pos) (.list (rs.map rowD)) := by
  obtain ⟨dx, r, h1, h2⟩ := h
  obtain ⟨_, Z⟩ := hZ
  exact (xv_fld ho (hid_le _ _ h1) Z.cl Z.nR (zf_rows off r) hb).dd h2
end
/-- a method without further arguments on a zone: a new list of the data f off rs; any data -/
def spML (K : PySem.W.Frag) (C : Addr) (f : Int → List Row → List PyData) : Sp := fun vs H Q _ => ∃ (M : List Addr) (a : Addr) (off : Int) (rs : List Row), vs = [.ref a] ∧ Live M H ∧ ZAt K C (hid M H) a off rs ∧ rs.length ≤ 1000 ∧
  ∀ p xs H1, Same H H1 → H p = none → H1 p = some (.lst xs) → DqAll K (hid M H1) xs (f off rs) → Q (.ref p) H1
def spMD (K : PySem.W.Frag) (C : Addr) (f : Int → List Row → PyData) : Sp := fun vs H Q _ => ∃ (M : List Addr) (a : Addr) (off : Int) (rs : List Row), vs = [.ref a] ∧ Live M H ∧ ZAt K C (hid M H) a off rs ∧ rs.length ≤ 1000 ∧
  ∀ v H1, Same H H1 → Dq K (hid M H1) v (f off rs) → Q v H1
section
variable {P : Program} {w : World} {K : PySem.W.Frag} {mg : Str → Option Value} {base : Heap} {C : Addr}
theorem fm_map {α : Type} (g : α → PyData) (f : PyData → Option PyData) (h : α → PyData) (e : ∀ r, f (g r) = some (h r)) : ∀ rs : List α, (rs.map g).filterMap f = rs.map h
  | [] => rfl
  | r :: rs => by rw [List.map_cons, List.filterMap_cons, e r, List.map_cons, fm_map g f h e rs]
theorem row_at {K : PySem.W.Frag} {H : Hp} {v : V} {r : Row} (h : Dq K H v (rowD r)) : ∃ p, v = .ref p ∧ SqT K H p [.int r.1, .int r.2.1, .int r.2.2] := by
  obtain ⟨p, xs, rfl, hp, hx⟩ := dp_tup h
  cases hx with
  | cons a1 hx => cases hx with
    | cons a2 hx => cases hx with
      | cons a3 hx => cases hx; rw [dp_int a1, dp_int a2, dp_int a3] at hp; exact ⟨p, rfl, hp⟩
/-- the row of an item -/
theorem mem_row {rs : List Row} {d : PyData} (h : d ∈ rs.map rowD) : ∃ r ∈ rs, d = rowD r := by
  obtain ⟨r, h1, h2⟩ := List.mem_map.mp h
  exact ⟨r, h1, h2.symm⟩
/-! first, len -/
theorem scFirst : FnScope ["self"] ["self"] (defScope sFirst) := ⟨rfl, rfl, rfl, by decide +kernel, rfl, by decide +kernel, by decide +kernel⟩
theorem ok_first {f : Addr} {fd : FuncData} (Z : ZT K mg C) (F : Fun K "first" "Zone.first" sFirst f fd) : FnOk P w K mg base CX0 1 f fd ["self"] (spMD K C fun off _ => .int off) := by
  refine F.ok scFirst (fun vs H Q E h => ?_) (fun cdv A outer s H vs Q E hr h => ?_)
  · obtain ⟨M, a, off, rs, rfl, _⟩ := h; rfl
  · obtain ⟨M, a, off, rs, rfl, L, hz, _, q⟩ := h
    exact rb_retR (XV.go (xv_base ⟨_, Z⟩ hz (xv_name 0 rfl)) fun H1 s => q _ H1 s (.int off))
theorem scLen : FnScope ["self"] ["self"] (defScope sLen) := ⟨rfl, rfl, rfl, by decide +kernel, rfl, by decide +kernel, by decide +kernel⟩
theorem ok_len {f : Addr} {fd : FuncData} (T : Nm mg) (Z : ZT K mg C) (F : Fun K "__len__" "Zone.__len__" sLen f fd) : FnOk P w K mg base CX0 1 f fd ["self"] (spMD K C fun _ rs => .int rs.length) := by
  refine F.ok scLen (fun vs H Q E h => ?_) (fun cdv A outer s H vs Q E hr h => ?_)
  · obtain ⟨M, a, off, rs, rfl, _⟩ := h; rfl
  · obtain ⟨M, a, off, rs, rfl, L, hz, _, q⟩ := h
    exact rb_ret (M := M) ((xd_len T.len (xd_rows ⟨_, Z⟩ hz (xv_name 0 rfl))).to (by rw [List.length_map])) q
/-! changes -/
def chD (r : Row) : PyData := .tuple [.int r.1, .int r.2.2]
theorem scChanges : FnScope ["self", "moment", "before", "after"] ["self"] (defScope sChanges) := ⟨rfl, rfl, rfl, by decide +kernel, rfl, by decide +kernel, by decide +kernel⟩
theorem ok_changes {f : Addr} {fd : FuncData} (Z : ZT K mg C) (F : Fun K "changes" "Zone.changes" sChanges f fd) : FnOk P w K mg base CX0 1 f fd ["self"] (spML K C fun _ rs => rs.map chD) := by
  refine F.ok scChanges (fun vs H Q E h => ?_) (fun cdv A outer s H vs Q E hr h => ?_)
  · obtain ⟨M, a, off, rs, rfl, _⟩ := h; rfl
  · obtain ⟨M, a, off, rs, rfl, L, hz, hlen, q⟩ := h
    refine rb_retR (XL.go (M := M) ((xl_comp (own := [("moment", 1), ("before", 2), ("after", 3)]) (fun d => match d with | .tuple [x, _, z] => some (.tuple [x, z]) | _ => none) L scChanges.nd (xd_rows ⟨_, Z⟩ hz (xv_name 0 rfl))
      (blkOk_by (own := [("moment", 1), ("before", 2), ("after", 3)]) (N := ["self", "moment", "before", "after"]) (sc := defScope sChanges) (by decide +kernel)) (by rw [List.length_map]; omega) (fun p d v H1 hd hp s1 Lp hv => ?_)).to (fm_map rowD _ chD (fun _ => rfl) rs)) q)
    obtain ⟨r, _, rfl⟩ := mem_row hd
    obtain ⟨t, rfl, ht⟩ := row_at hv
    intro s0 H0 C0 cl fp
    refine rg_tup (same_seqT hid_le ht) (rgs_cons (rg_name 1 (rgs_cons (rg_name 2 (rgs_cons (rg_name 3 (rgs_nil ?_) scChanges.nd)) scChanges.nd)) scChanges.nd))
    refine ⟨rfl, bt_nil ⟨Same.refl _, .inl ⟨rfl, _, rfl, fun s0 H0 C0 cl fp => ?_⟩⟩⟩
    exact XD.go (xd_tup Lp (xa_cons (xd_name 1 rfl (.int r.1)) (xa_cons (xd_name 3 rfl (.int r.2.2)) xa_nil))) fun v H2 s2 hv2 => ⟨s2, hv2⟩
/-! jump_list, gaps, folds -/
theorem scJumps : FnScope ["self", "row"] ["self"] (defScope sJumps) := ⟨rfl, rfl, rfl, by decide +kernel, rfl, by decide +kernel, by decide +kernel⟩
theorem ok_jumps {f fJ : Addr} {fd fdJ : FuncData} (Z : ZT K mg C) (FJ : Df K mg "jump_of" sJump ["row"] fJ fdJ) (F : Fun K "jump_list" "Zone.jump_list" sJumps f fd) : FnOk P w K mg base CX0 2 f fd ["self"] (spML K C fun _ rs => rs.map fun r => .int (jmp r)) := by
  have GJ : FnOk P w K mg base CX0 1 fJ fdJ ["row"] (spR K RJump) := ok_jump FJ
  refine F.ok scJumps (fun vs H Q E h => ?_) (fun cdv A outer s H vs Q E hr h => ?_)
  · obtain ⟨M, a, off, rs, rfl, _⟩ := h; rfl
  · obtain ⟨M, a, off, rs, rfl, L, hz, hlen, q⟩ := h
    refine rb_retR (XL.go (M := M) ((xl_comp (own := [("row", 1)]) (fun d => match d with | .tuple [_, .int y, .int z] => some (.int (z - y)) | _ => none) L scJumps.nd (xd_rows ⟨_, Z⟩ hz (xv_name 0 rfl))
      (blkOk_by (own := [("row", 1)]) (N := ["self", "row"]) (sc := defScope sJumps) (by decide +kernel)) (by rw [List.length_map]; omega) (fun p d v H1 hd hp s1 Lp hv => ?_)).to (fm_map rowD _ (fun r => .int (jmp r)) (fun _ => rfl) rs)) q)
    obtain ⟨r, _, rfl⟩ := mem_row hd
    intro s0 H0 C0 cl fp
    refine rg_name 1 ?_ scJumps.nd
    refine ⟨rfl, bt_nil ⟨Same.refl _, .inl ⟨rfl, _, rfl, fun s0 H0 C0 cl fp => ?_⟩⟩⟩
    exact XD.go (xd_call Lp GJ hr FJ.g FJ.F.kp FJ.b (xa_cons (xd_name 1 rfl hv) xa_nil) ⟨r, rfl, rfl⟩) fun v H2 s2 hv2 => ⟨s2, hv2⟩
end
end Zn

set_option Elab.async false
set_option linter.all false
set_option maxRecDepth 100000
set_option maxHeartbeats 4000000
namespace Zn
open PySem PySem.Spec PyProof.Rows L2 Dl
/-! ### data of rows compared -/
theorem eqv_row (r r' : Row) : PyData.eqv (rowD r) (rowD r') = decide (r = r') := by
  obtain ⟨a, b, c⟩ := r
  obtain ⟨a', b', c'⟩ := r'
  by_cases h : ((a, b, c) : Row) = (a', b', c')
  · cases h
    simp [rowD, PyData.eqv, PyData.eqvAll]
  · rw [decide_eq_false h]
    simp only [rowD, PyData.eqv, PyData.eqvAll, Bool.and_true]
    by_cases h1 : a = a'
    · by_cases h2 : b = b'
      · by_cases h3 : c = c'
        · subst h1; subst h2; subst h3; exact absurd rfl h
        · simp [h3]
      · simp [h2]
    · simp [h1]
theorem eqv_rows : ∀ (rs rs' : List Row), PyData.eqvAll (rs.map rowD) (rs'.map rowD) = decide (rs = rs')
  | [], [] => by simp [PyData.eqvAll]
  | [], r' :: rs' => by simp [PyData.eqvAll]
  | r :: rs, [] => by simp [PyData.eqvAll]
  | r :: rs, r' :: rs' => by
    rw [List.map_cons, List.map_cons]
    show (PyData.eqv (rowD r) (rowD r') && PyData.eqvAll (rs.map rowD) (rs'.map rowD)) = _
    rw [eqv_row, eqv_rows rs rs']
    by_cases h1 : r = r'
    · by_cases h2 : rs = rs'
      · simp [h1, h2]
      · simp [h1, h2]
    · simp [h1]
theorem lay_rows : ∀ rs : List Row, PyData.canLayAll0 (rs.map rowD) = true
  | [] => by simp [PyData.canLayAll0]
  | r :: rs => by
    rw [List.map_cons]
    show (PyData.canLay0 (rowD r) && PyData.canLayAll0 (rs.map rowD)) = true
    rw [lay_rows rs]
    simp [rowD, PyData.canLay0, PyData.canLayAll0]
theorem depth_rows : ∀ rs : List Row, PyData.depthAll (rs.map rowD) ≤ 1
  | [] => by simp [PyData.depthAll]
  | r :: rs => by
    rw [List.map_cons]
    show max (PyData.depth (rowD r)) (PyData.depthAll (rs.map rowD)) ≤ 1
    have := depth_rows rs
    have e : PyData.depth (rowD r) = 1 := by simp [rowD, PyData.depth, PyData.depthAll]
    omega
theorem shaped_rows (rs : List Row) : SeqAt.shaped (.list (rs.map rowD)) = true := by
  unfold SeqAt.shaped
  have h := depth_rows rs
  have e : PyData.depth (.list (rs.map rowD)) = PyData.depthAll (rs.map rowD) + 1 := by simp [PyData.depth]
  rw [show PyData.canLay0 (.list (rs.map rowD)) = PyData.canLayAll0 (rs.map rowD) by simp [PyData.canLay0], lay_rows, e]
  simp
  omega
/-! ### gaps, folds -/
def gapsOf (rs : List Row) : List PyData := rs.filterMap fun r => if 0 < jmp r then some (tornD r) else none
def foldsOf (rs : List Row) : List PyData := rs.filterMap fun r => if jmp r < 0 then some (tornD r) else none
theorem fm_fm {α : Type} (g : α → PyData) (f : PyData → Option PyData) (h : α → Option PyData) (e : ∀ r, f (g r) = h r) : ∀ rs : List α, (rs.map g).filterMap f = rs.filterMap h
  | [] => rfl
  | r :: rs => by rw [List.map_cons, List.filterMap_cons, List.filterMap_cons, e r, fm_fm g f h e rs]
theorem int_all {K : PySem.W.Frag} {H : Hp} : ∀ {ns : List Int} {xs : List V}, DqAll K H xs (ns.map PyData.int) → xs = ns.map V.int
  | [], _, h => by cases h; rfl
  | n :: ns, _, h => by
    cases h with
    | cons a b => rw [dp_int a, int_all b]; rfl
theorem inV_int (n : Int) : ∀ ns : List Int, inV (.int n) (ns.map V.int) = ns.any (fun m => m == n)
  | [] => rfl
  | m :: ns => by
    show (eqV (.int m) (.int n) || inV (.int n) (ns.map V.int)) = _
    rw [inV_int n ns]
    rfl
theorem flat_int : ∀ ns : List Int, (ns.map V.int).all flatV = true
  | [] => rfl
  | n :: ns => flat_int ns
section
variable {X : Cx} {M : List Addr} {σ : L2.St} {H H' : Hp} {a b : Expr} {pos : Pos}
theorem xd_inI {n : Int} {ns : List Int} (ha : XD X M σ H a (.int n)) (hb : XD X M σ H b (.list (ns.map PyData.int))) (hm : behindInMarks .In b = false := by rfl) : XD X M σ H (.Compare a [.In] [b] pos) (.bool (ns.any fun m => m == n)) :=
  xd_cmp op_in_seq ha hb (fun H1 v w s hv hw Q q => by
    obtain ⟨p, xs, rfl, hp, hx⟩ := dp_lst hw
    have e := int_all hx
    subst e
    rw [dp_int hv]
    exact ⟨p, _, rfl, .inl (SqL.of (hid_le _ _ hp)), rfl, flat_int ns, by rw [inV_int]; exact q _ H1 (Same.refl _) (.bl _)⟩) hm
end
section
variable {P : Program} {w : World} {K : PySem.W.Frag} {mg : Str → Option Value} {base : Heap} {C : Addr}
/-! ### in -/
def inB (rs : List Row) : PyData → Bool
  | .int n => (rs.map (·.1)).any fun m => m == n
  | _ => false
def spCont (K : PySem.W.Frag) (C : Addr) : Sp := fun vs H Q _ => ∃ (M : List Addr) (a : Addr) (off : Int) (rs : List Row) (v : V) (d : PyData), vs = [.ref a, v] ∧ Live M H ∧ ZAt K C (hid M H) a off rs ∧ rs.length ≤ 1000 ∧ Dq K (hid M H) v d ∧
  ∀ H1, Same H H1 → Q (.bl (inB rs d)) H1
theorem scCont : FnScope ["self", "x", "row"] ["self", "x"] (defScope sCont) := ⟨rfl, rfl, rfl, by decide +kernel, rfl, by decide +kernel, by decide +kernel⟩
theorem ok_cont {f fW : Addr} {fd fdW : FuncData} (T : Nm mg) (Z : ZT K mg C) (FW : Df K mg "is_whole" sWhole ["value"] fW fdW) (F : Fun K "__contains__" "Zone.__contains__" sCont f fd) : FnOk P w K mg base CX0 2 f fd ["self", "x"] (spCont K C) := by
  have GW : FnOk P w K mg base CX0 1 fW fdW ["value"] (spR K RWhole) := ok_whole T FW
  refine F.ok scCont (fun vs H Q E h => ?_) (fun cdv A outer s H vs Q E hr h => ?_)
  · obtain ⟨M, a, off, rs, v, d, rfl, _⟩ := h; rfl
  · obtain ⟨M, a, off, rs, v, d, rfl, L, hz, hlen, hd, q⟩ := h
    by_cases hwh : whole d = true
    · obtain ⟨n, rfl⟩ : ∃ n, d = .int n := by
        cases d <;> first | exact ⟨_, rfl⟩ | exact absurd hwh Bool.false_ne_true
      refine rb_ret (M := M) (xd_andT (xd_call L GW hr FW.g FW.F.kp FW.b (xa_cons (xd_name 1 rfl hd) xa_nil) ⟨.int n, rfl, rfl⟩) (xd_one (xd_inI (ns := rs.map (·.1)) (xd_name 1 rfl hd) (((xl_comp (own := [("row", 2)]) (fun d => match d with | .tuple [x, _, _] => some x | _ => none) L scCont.nd (xd_rows ⟨_, Z⟩ hz (xv_name 0 rfl))
        (blkOk_by (own := [("row", 2)]) (N := ["self", "x", "row"]) (sc := defScope sCont) (by decide +kernel)) (by rw [List.length_map]; omega) (fun p d v H1 hd hp s1 Lp hv => ?_)).to ((fm_map rowD _ (fun r => .int r.1) (fun _ => rfl) rs).trans (by rw [List.map_map]; rfl))).dd L)))) fun v H1 s1 hv => by
        rw [dp_bl hv]
        exact q H1 s1
      obtain ⟨r, _, rfl⟩ := mem_row hd
      intro s0 H0 C0 cl fp
      refine rg_name 2 ?_ scCont.nd
      refine ⟨rfl, bt_nil ⟨Same.refl _, .inl ⟨rfl, _, rfl, fun s0 H0 C0 cl fp => ?_⟩⟩⟩
      exact XD.go (xd_ixT (fun _ _ => rfl) (xd_name 2 rfl hv) xd_int rfl) fun v H2 s2 hv2 => ⟨s2, hv2⟩
    · have e : whole d = false := by cases h : whole d <;> simp_all
      refine rb_ret (M := M) (xd_andF ((xd_call L GW hr FW.g FW.F.kp FW.b (xa_cons (xd_name 1 rfl hd) xa_nil) ⟨d, rfl, rfl⟩).to (by rw [e]))) fun v H1 s1 hv => ?_
      rw [dp_bl hv]
      have e2 : inB rs d = false := by cases d <;> first | rfl | exact absurd rfl hwh
      rw [← e2]
      exact q H1 s1
end
end Zn

set_option Elab.async false
set_option linter.all false
set_option maxRecDepth 100000
set_option maxHeartbeats 4000000
namespace Zn
open PySem PySem.Spec PyProof.Rows L2 Dl
/-! ### == -/
/-- what the written part says of isinstance(.., Zone) -/
structure ZI (K : PySem.W.Frag) (C : Addr) : Prop where
  ha : PySem.W.findIn K (.ref C) "__class__" = some (some (.builtin "object.__class__"))
  hn : PySem.W.specialIn K (.builtin "object.__class__") "__get__" = some (some (.builtin "getset_descriptor.__get__"))
  htk : PySem.W.takesIn K (.builtin "object.__class__") = some true
  hm : PySem.W.mroIn K C (.type "object") = some true
  yes : PySem.W.kitOne K (.ref C) (.ref C) = some true
  no : PySem.W.kitOne K (.type "list") (.ref C) = some false
def spEqZ (K : PySem.W.Frag) (C : Addr) : Sp := fun vs H Q _ => ∃ (M : List Addr) (a b : Addr) (off : Int) (rs : List Row), vs = [.ref a, .ref b] ∧ Live M H ∧ ZAt K C (hid M H) a off rs ∧
  ((∃ off' rs', ZAt K C (hid M H) b off' rs' ∧ ∀ H1, Same H H1 → Q (.bl (decide (off = off' ∧ rs = rs'))) H1) ∨ (∃ xs, H b = some (.lst xs) ∧ ∀ H1, Same H H1 → Q (.bl false) H1))
section
variable {P : Program} {w : World} {K : PySem.W.Frag} {mg : Str → Option Value} {base : Heap} {C : Addr}
/-- isinstance(o, Zone) -/
theorem xd_isZ {X : Cx} {M : List Addr} {σ : L2.St} {H : Hp} {o : Expr} {pos p1 p2 : Pos} {t : Value} {r : Bool} {v : V} (hm : X.mg "isinstance" = none) (hC : X.mg "Zone" = some (.ref C)) (ho : XV X σ H o v) (hty : TyX X.K H v t) (hup : ∀ H1, Same H H1 → TyX X.K H1 v t) (hk : PySem.W.kitOne X.K t (.ref C) = some r) (hg : Gl X "isinstance" := by rfl) (hgZ : Gl X "Zone" := by rfl)
    (he : starEach [o, .Name "Zone" p2] X.env = (false, eval o X.env) :: starEach [.Name "Zone" p2] X.env := by rfl) (he2 : starEach [.Name "Zone" p2] X.env = (false, eval (.Name "Zone" p2) X.env) :: starEach [] X.env := by rfl) (hpl : (backTo pos (starEach [.Name "Zone" p2] X.env)).any (·.1) = false := by rfl) :
    XD X M σ H (.Call (.Name "isinstance" p1) [o, .Name "Zone" p2] [] pos) (.bool r) := fun H1 s Q q =>
  re_B call_isi (ra_cons (ho H1 s _ fun H2 s2 => ra_1 (xv_glob (v := .ref C) hC rfl hgZ (by decide) H2 (Same.refl _) _ fun H3 s3 => ⟨v, .ref C, t, .ref C, r, rfl, .own C, hup H3 ((s.trans s2).trans s3), hk, q _ H3 (s2.trans s3) (.bl _)⟩) he2) he) hm (by decide +kernel) hg (by decide) (by decide) he hpl
theorem scEq : FnScope ["self", "other"] ["self", "other"] (defScope sEq) := ⟨rfl, rfl, rfl, by decide +kernel, rfl, by decide +kernel, by decide +kernel⟩
theorem ok_eq {f : Addr} {fd : FuncData} (T : Nm mg) (Z : ZT K mg C) (I : ZI K C) (F : Fun K "__eq__" "Zone.__eq__" sEq f fd) : FnOk P w K mg base CX0 1 f fd ["self", "other"] (spEqZ K C) := by
  refine F.ok scEq (fun vs H Q E h => ?_) (fun cdv A outer s H vs Q E hr h => ?_)
  · obtain ⟨M, a, b, off, rs, rfl, _⟩ := h; rfl
  · obtain ⟨M, a, b, off, rs, rfl, L, hz, h⟩ := h
    rcases h with ⟨off', rs', hz', q⟩ | ⟨xs, hb, q⟩
    · have hty : ∀ H1, Same H H1 → TyX K H1 (.ref b) (.ref C) := fun H1 s1 => by
        obtain ⟨dx, r, e1, _⟩ := hz'
        exact .base (.ins (s1 _ _ (hid_le _ _ e1)) Z.cl I.ha I.hn I.htk I.hm)
      have e : (decide (off = off') && decide (rs = rs')) = decide (off = off' ∧ rs = rs') := by rw [Bool.decide_and]
      refine rb_ret (M := M) (xd_andT (xd_isZ T.isi Z.mgC (xv_name 1 rfl) (hty H (Same.refl H)) hty I.yes) (xd_and2 (xd_eqI (xv_base ⟨_, Z⟩ hz (xv_name 0 rfl)).int (xv_base ⟨_, Z⟩ hz' (xv_name 1 rfl)).int) fun _ =>
        ((xd_eqD hr.units (xd_rows ⟨_, Z⟩ hz (xv_name 0 rfl)) (xd_rows ⟨_, Z⟩ hz' (xv_name 1 rfl)) (shaped_rows rs) (shaped_rows rs')).to (by rw [show PyData.eqv (.list (rs.map rowD)) (.list (rs'.map rowD)) = PyData.eqvAll (rs.map rowD) (rs'.map rowD) by simp [PyData.eqv], eqv_rows])))) fun v H1 s1 hv => ?_
      rw [dp_bl hv, e]
      exact q H1 s1
    · have hty : ∀ H1, Same H H1 → TyX K H1 (.ref b) (.type "list") := fun H1 s1 => .base (.lst (s1 _ _ hb))
      refine rb_ret (M := M) (xd_andF (xd_isZ T.isi Z.mgC (xv_name 1 rfl) (hty H (Same.refl H)) hty I.no)) fun v H1 s1 hv => ?_
      rw [dp_bl hv]
      exact q H1 s1
/-! ### Zone(..) -/
/-- a zone just made: neither it nor its list of rows was there before -/
def ZNew (K : PySem.W.Frag) (C : Addr) (H0 : Hp) (M : List Addr) (H1 : Hp) (y : Addr) (off : Int) (rs : List Row) : Prop := H0 y = none ∧ ∃ dx r, H0 r = none ∧ hid M H1 y = some (.ins C dx (zf off r)) ∧ Dq K (hid M H1) (.ref r) (.list (rs.map rowD))
theorem ZNew.at {K : PySem.W.Frag} {C : Addr} {H0 : Hp} {M : List Addr} {H1 : Hp} {y : Addr} {off : Int} {rs : List Row} (h : ZNew K C H0 M H1 y off rs) : ZAt K C (hid M H1) y off rs := by
  obtain ⟨_, dx, r, _, h1, h2⟩ := h
  exact ⟨dx, r, h1, h2⟩
def spInit (K : PySem.W.Frag) (C : Addr) : Sp := fun vs H Q _ => ∃ (M : List Addr) (H0 : Hp) (y dx : Addr) (off : Int) (vq : V) (sq : PyData) (items : List PyData) (cs : List (Int × Int)), vs = [.ref y, .int off, vq] ∧ H = upd (upd H0 dx (.own y)) y (.ins C dx []) ∧ H0 y = none ∧ H0 dx = none ∧ dx ≠ y ∧ Live M H0 ∧
  Dq K (hid M H0) vq sq ∧ (sq = .list items ∨ sq = .tuple items) ∧ Items items cs ∧ okR (rowsOf off cs) ∧ cs.length ≤ 1000 ∧ ∀ H1, Same H0 H1 → ZNew K C H0 M H1 y off (rowsOf off cs) → Q .non H1
theorem scInit : FnScope ["self", "offset", "changes"] ["self", "offset", "changes"] (defScope sInit) := ⟨rfl, rfl, rfl, by decide +kernel, rfl, by decide +kernel, by decide +kernel⟩
theorem ok_init {f fN fR fW fP fJ fI fF : Addr} {fd fdN fdR fdW fdP fdJ fdI fdF : FuncData} (T : Nm mg) (Z : ZT K mg C) (hG : ∃ t, mg "GREATEST_JUMP" = some (.int 720 t)) (FW : Df K mg "is_whole" sWhole ["value"] fW fdW) (FP : Df K mg "is_whole_pair" sPair ["value"] fP fdP)
    (FJ : Df K mg "jump_of" sJump ["row"] fJ fdJ) (FI : Df K mg "is_jump" sIsJump ["value"] fI fdI) (FF : Df K mg "can_follow" sFollow ["rows", "row"] fF fdF) (FR : Df K mg "rows_of" sRows ["offset", "changes"] fR fdR) (FN : Df K mg "need_integer" sNeed ["value"] fN fdN)
    {kV dc pm cd ct oc dV : Value} {od an : Option Addr} {osl : Array (Option Value)} (lk : K.lookup f = some ⟨oc, od, .func (PySem.W.fnOf "__init__" "Zone.__init__" (defArgs sInit) (defBody sInit) (defScope sInit) dV kV dc pm an cd ct), osl⟩) (hcd : PySem.W.codeIn K cd "Zone.__init__" = true) :
    FnOk P w K mg base CX0 4 f (PySem.W.fnOf "__init__" "Zone.__init__" (defArgs sInit) (defBody sInit) (defScope sInit) dV kV dc pm an cd ct) ["self", "offset", "changes"] (spInit K C) := by
  have GN : FnOk P w K mg base CX0 3 fN fdN ["value"] (spR K RNeed) := (ok_need T FW FN).mono (by decide)
  have GR : FnOk P w K mg base CX0 3 fR fdR ["offset", "changes"] (spL K RRows) := ok_rows T hG FW FP FJ FI FF FR
  refine fn_of lk hcd scInit (fun vs H Q E h => ?_) (fun A outer s H vs Q E hr h => ?_)
  · obtain ⟨M, H0, y, dx, off, vq, sq, items, cs, rfl, _⟩ := h; rfl
  · obtain ⟨M, H0, y, dx, off, vq, sq, items, cs, rfl, rfl, hy, hdx, hne, L, hq, hsq, hit, hok, hlen, q⟩ := h
    suffices h : RB (cxOf CX0 P w K mg base ["self", "offset", "changes"] "Zone.__init__" (defScope sInit) f cd A outer s (upd (upd H0 dx (.own y)) y (.ins C dx [])) E).nox (defBody sInit) { nx := fun _ H' => Q .non H', rt := Q } (start ["self", "offset", "changes"] [V.ref y, V.int off, vq]) (upd (upd H0 dx (.own y)) y (.ins C dx [])) by
      obtain ⟨t, h1, h2⟩ := h
      exact ⟨t, h1.nox, h2⟩
    have hy1 : upd H0 dx (.own y) y = none := by rw [upd_ne (Ne.symm hne)]; exact hy
    have s0 : Same H0 (upd (upd H0 dx (.own y)) y (.ins C dx [])) := (same_new hdx).trans (same_new hy1)
    have eh : hid (y :: M) (upd (upd H0 dx (.own y)) y (.ins C dx [])) = hid M (upd H0 dx (.own y)) := hid_cons hy1
    have Ly : Live (y :: M) (upd (upd H0 dx (.own y)) y (.ins C dx [])) := (L.mono (same_new hdx)).cons hy1
    have hq1 : Dq K (hid (y :: M) (upd (upd H0 dx (.own y)) y (.ins C dx []))) vq sq := by rw [eh]; exact hq.up (hid_mono (same_new hdx))
    generalize hH : upd (upd H0 dx (.own y)) y (.ins C dx []) = H at s0 Ly hq1
    have hyH : H y = some (.ins C dx []) := by rw [← hH]; exact upd_same
    -- need_integer(offset)
    refine rb_expr (M := y :: M) (d := .none) (xd_call Ly GN hr FN.g FN.F.kp FN.b (xa_cons (xd_name 1 rfl (.int off)) xa_nil) ⟨off, rfl, rfl⟩) fun H1 s1 => ?_
    have hq2 := hq1.up (hid_mono (M := y :: M) s1)
    have Ly1 := Ly.mono s1
    -- isinstance(changes, (list, tuple))
    have ist : ∀ {p1 p2 p3 p4 p5 p6 : Pos} {k3}, XD (cxOf CX0 P w K mg base ["self", "offset", "changes"] "Zone.__init__" (defScope sInit) f cd A outer s H E).nox (y :: M) (start ["self", "offset", "changes"] [V.ref y, V.int off, vq]) H1 (.Call (.Name "isinstance" p1) [.Name "changes" p2, .Tuple [.Name "list" p3, .Name "tuple" p4] k3 p5] [] p6) (.bool true) := fun {p1 p2 p3 p4 p5 p6 k3} => by
      rcases hsq with rfl | rfl
      · exact (xd_is2 (d := .list items) (r1 := true) (r2 := false) (T1 := "list") (T2 := "tuple") k_ll k_lt T.isi T.lst (by decide +kernel) T.tup (by decide +kernel) (xd_name 2 rfl hq2)).to rfl
      · exact (xd_is2 (d := .tuple items) (r1 := false) (r2 := true) (T1 := "list") (T2 := "tuple") k_tl k_tt T.isi T.lst (by decide +kernel) T.tup (by decide +kernel) (xd_name 2 rfl hq2)).to rfl
    refine rb_ifF ((xt_not (xt_val (M := y :: M) ist)).to rfl) fun H2 s2 => ?_
    -- self.base = offset
    refine rb_fld (pa := y) (dx := dx) (fs := []) (XV.go (xv_name 1 rfl) fun H3 s3 => ⟨s3 _ _ (s2 _ _ (s1 _ _ hyH)), (by decide), xv_name 0 rfl, fun H4 s4 => ?_⟩) Z.cl Z.nB
    have s24 := (s2.trans s3).trans s4
    have hq5 : Dq K (hid (y :: M) (upd H4 y (.ins C dx (putF "base" (.int off) [])))) vq sq := by rw [hid_cons_upd]; exact hq2.up (hid_mono s24)
    have L5 : Live (y :: M) (upd H4 y (.ins C dx (putF "base" (.int off) []))) := (Ly1.mono s24).upd
    have s05 : Same H0 (upd H4 y (.ins C dx (putF "base" (.int off) []))) := same_upd ((s0.trans s1).trans s24) hy
    have h5y : upd H4 y (.ins C dx (putF "base" (.int off) [])) y = some (.ins C dx [("base", .int off)]) := upd_same
    generalize upd H4 y (.ins C dx (putF "base" (.int off) [])) = H5 at hq5 L5 s05 h5y
    -- self.rows = rows_of(offset, changes)
    refine rb_fld (pa := y) (dx := dx) (fs := [("base", .int off)]) (XL.go (M := y :: M) (xl_call L5 GR hr FR.g FR.F.kp FR.b (xa_cons (xd_name 1 rfl (.int off)) (xa_cons (xd_name 2 rfl hq5) xa_nil)) ⟨off, sq, items, cs, rfl, hsq, hit, hok, hlen, rfl⟩) fun p xs H6 s6 hp6 h6 hx6 =>
      ⟨s6 _ _ h5y, (by show 1 < 1000; decide), xv_name 0 rfl, fun H7 s7 => rb_nil (q _ (same_upd ((s05.trans s6).trans s7) hy) ?_)⟩) Z.cl Z.nR
    rw [zf_put]
    have npy : p ≠ y := fun z => by rw [z, h5y] at hp6; cases hp6
    have npM : p ∉ M := fun z => (Live.tail L5) p z hp6
    refine ⟨hy, dx, p, s05.free hp6, by rw [hid_of (L.fresh hy)]; exact upd_same, .lst (xs := xs) ?_ (hx6.up ?_)⟩
    · rw [hid_of npM, upd_ne npy]
      exact s7 _ _ h6
    · have z := (hid_mono (M := y :: M) s7)
      have z2 : Same (hid (y :: M) (upd H7 y (.ins C dx (zf off p)))) (hid M (upd H7 y (.ins C dx (zf off p)))) := hid_weak
      rw [hid_cons_upd] at z2
      exact z.trans z2
/-! ### a zone is made -/
/-- the expression makes a new zone -/
def XZ (C : Addr) (X : Cx) (M : List Addr) (σ : L2.St) (H : Hp) (e : Expr) (off : Int) (rs : List Row) : Prop := ∀ H1, Same H H1 → ∀ Q : VK, (∀ y H2, Same H1 H2 → ZAt X.K C (hid M H2) y off rs → Q (.ref y) H2) → RE X e σ H1 Q
theorem XZ.go {X : Cx} {M : List Addr} {σ : L2.St} {H : Hp} {e : Expr} {off : Int} {rs : List Row} {Q : VK} (h : XZ C X M σ H e off rs) (k : ∀ y H2, Same H H2 → ZAt X.K C (hid M H2) y off rs → Q (.ref y) H2) : RE X e σ H Q := h H (Same.refl H) Q k
/-- all that making a zone wants -/
structure ZMk (P : Program) (w : World) (K : PySem.W.Frag) (mg : Str → Option Value) (base : Heap) (C f : Addr) (fd : FuncData) (et : Addr) : Prop where
  Z : ZT K mg C
  mkk : Mk K C f
  G : FnOk P w K mg base CX0 4 f fd ["self", "offset", "changes"] (spInit K C)
  b2 : Binds K fd ["self", "offset", "changes"] []
  b1 : Binds K fd ["self", "offset", "changes"] [.ref et]
  et : SqT K (fun _ => none) et []
theorem xzn_make {X : Cx} {M : List Addr} {σ : L2.St} {H : Hp} {a b : Expr} {pos p1 : Pos} {off : Int} {sq : PyData} {items : List PyData} {cs : List (Int × Int)} {f et : Addr} {fd : FuncData} (L : Live M H) (W : ZMk X.prog X.w X.K X.mg X.base C f fd et) (hr : Room 5 X.A)
    (ha : XD X M σ H a (.int off)) (hb : XD X M σ H b sq) (hsq : sq = .list items ∨ sq = .tuple items) (hit : Items items cs) (hok : okR (rowsOf off cs)) (hlen : cs.length ≤ 1000) (hg : Gl X "Zone" := by rfl)
    (he : starEach [a, b] X.env = (false, eval a X.env) :: starEach [b] X.env := by rfl) (he2 : starEach [b] X.env = (false, eval b X.env) :: starEach [] X.env := by rfl) (hpl : (backTo pos (starEach [b] X.env)).any (·.1) = false := by rfl) : ∀ H1, Same H H1 → ∀ Q : VK, (∀ y H0 H2, Same H1 H0 → Same H0 H2 → ZNew X.K C H0 M H2 y off (rowsOf off cs) → Q (.ref y) H2) → RE X (.Call (.Name "Zone" p1) [a, b] [] pos) σ H1 Q := fun H1 s Q q =>
  re_make W.mkk W.G hr W.Z.mgC W.b2 .nil (ra_cons (ha H1 s _ fun v H2 s2 hv => ra_1 (hb H2 (s.trans s2) _ fun u H3 s3 hu y dx hy hdx hne => by
    rw [dp_int hv]
    refine ⟨M, H3, y, dx, off, u, sq, items, cs, rfl, rfl, hy, hdx, hne, L.mono ((s.trans s2).trans s3), hu, hsq, hit, hok, hlen, fun H4 s4 hz => ⟨rfl, q y H3 H4 (s2.trans s3) s4 hz⟩⟩) he2) he) hg (by decide) he hpl
theorem xz_make {X : Cx} {M : List Addr} {σ : L2.St} {H : Hp} {a b : Expr} {pos p1 : Pos} {off : Int} {sq : PyData} {items : List PyData} {cs : List (Int × Int)} {f et : Addr} {fd : FuncData} (L : Live M H) (W : ZMk X.prog X.w X.K X.mg X.base C f fd et) (hr : Room 5 X.A)
    (ha : XD X M σ H a (.int off)) (hb : XD X M σ H b sq) (hsq : sq = .list items ∨ sq = .tuple items) (hit : Items items cs) (hok : okR (rowsOf off cs)) (hlen : cs.length ≤ 1000) (hg : Gl X "Zone" := by rfl)
    (he : starEach [a, b] X.env = (false, eval a X.env) :: starEach [b] X.env := by rfl) (he2 : starEach [b] X.env = (false, eval b X.env) :: starEach [] X.env := by rfl) (hpl : (backTo pos (starEach [b] X.env)).any (·.1) = false := by rfl) : XZ C X M σ H (.Call (.Name "Zone" p1) [a, b] [] pos) off (rowsOf off cs) := fun H1 s Q q =>
  xzn_make L W hr ha hb hsq hit hok hlen hg he he2 hpl H1 s Q fun y H0 H2 s1 s2 hz => q y H2 (s1.trans s2) hz.at
theorem xz_make1 {X : Cx} {M : List Addr} {σ : L2.St} {H : Hp} {a : Expr} {pos p1 : Pos} {off : Int} {f et : Addr} {fd : FuncData} (L : Live M H) (W : ZMk X.prog X.w X.K X.mg X.base C f fd et) (hr : Room 5 X.A)
    (ha : XD X M σ H a (.int off)) (hg : Gl X "Zone" := by rfl) (he : starEach [a] X.env = (false, eval a X.env) :: starEach [] X.env := by rfl) (hpl : (backTo pos (starEach [] X.env)).any (·.1) = false := by rfl) : XZ C X M σ H (.Call (.Name "Zone" p1) [a] [] pos) off [] := fun H1 s Q q =>
  re_make (dvs := [.ref et]) W.mkk W.G hr W.Z.mgC W.b1 (.cons rfl .nil) (ra_1 (ha H1 s _ fun v H2 s2 hv y dx hy hdx hne => by
    rw [dp_int hv]
    refine ⟨M, H2, y, dx, off, .ref et, .tuple [], [], [], rfl, rfl, hy, hdx, hne, L.mono (s.trans s2), .tup (same_seqT (fun _ _ z => by cases z) W.et) .nil, .inr rfl, ⟨rfl, fun i it z => by simp at z⟩, fun k r z => by simp [rowsOf] at z, Nat.zero_le _, fun H4 s4 hz => ⟨rfl, q y H4 (s2.trans s4) hz.at⟩⟩) he) hg (by decide) he hpl
end
end Zn

set_option Elab.async false
set_option linter.all false
set_option maxRecDepth 100000
set_option maxHeartbeats 4000000
namespace Zn
open PySem PySem.Spec PyProof.Rows L2 Dl
section
variable {X : Cx} {M : List Addr} {σ : L2.St} {H H' : Hp} {e a b o ie : Expr} {d : PyData} {ds : List PyData} {pos p1 p2 p3 : Pos} {D : Ends} {rest : List Stmt} {v : V} {xs : List V}
/-! ### lists by the values themselves -/
theorem xv_lenS {p : Addr} (hm : X.mg "len" = none) (ha : XV X σ H e (.ref p)) (hS : SqL X.K H p xs) (hg : Gl X "len" := by rfl) (he : starEach [e] X.env = (false, eval e X.env) :: starEach [] X.env := by rfl) (hpl : (backTo pos (starEach [] X.env)).any (·.1) = false := by rfl) :
    XV X σ H (.Call (.Name "len" p1) [e] [] pos) (.int xs.length) := fun H1 s Q q =>
  re_B call_len_seq (ra_1 (ha H1 s _ fun H2 s2 => ⟨p, xs, rfl, .inl ((s.trans s2).seq hS), q H2 s2⟩) he) hm PySem.boot_len hg (by decide) (by decide) he hpl
theorem xv_ixS {p : Addr} {n : Int} (hs : PlainIx b) (ha : XV X σ H a (.ref p)) (hS : SqL X.K H p xs) (hb : XV X σ H b (.int n)) (h : atI xs n = some v) : XV X σ H (.Subscript a b pos) v := fun H1 s Q q =>
  ⟨_, pe_ix ix_list re_ re_ hs, ha H1 s _ fun H2 s2 => hb H2 (s.trans s2) _ fun H3 s3 => ⟨p, xs, n, v, rfl, rfl, ((s.trans s2).trans s3).seq hS, h, q H3 (s2.trans s3)⟩⟩
/-- o[i] = e -/
theorem rb_setIx {l : Addr} {n : Int} {j : Nat} (hl : H l = some (.lst xs)) (he : XD X M σ H e d) (ho : XV X σ H o (.ref l)) (hi : XV X σ H ie (.int n)) (hj : ixN xs.length n = some j) (k : ∀ v H1, Same H H1 → Dq X.K (hid M H1) v d → RB X rest D σ (upd H1 l (.lst (xs.set j v))))
    (hs : swapsWithSole [.Subscript o ie p1] e pos.line X.env = pure false := by rfl) (hw : swappedStores [.Subscript o ie p1] e X.env = pure none := by rfl) (h1 : (assignEach [.Subscript o ie p1] X.env).map (·.2) = [assign (.Subscript o ie p1) X.env] := by rfl)
    (hg : PG X (.Subscript o ie p1) (gSub (RE X o) (RE X ie) rSetL) := by exact pg_sub re_ re_ set_list) : RB X (.Assign [.Subscript o ie p1] e pos :: rest) D σ H :=
  rb_asgR (he.go fun v H1 s1 hv => ⟨_, hg, ho H1 s1 _ fun H2 s2 => hi H2 (s1.trans s2) _ fun H3 s3 => ⟨l, xs, n, j, rfl, rfl, ((s1.trans s2).trans s3) _ _ hl, hj, k v H3 ((s1.trans s2).trans s3) (hv.up (hid_mono (s2.trans s3)))⟩⟩) hs hw h1
theorem xd_pow {m n : Int} (ha : XD X M σ H a (.int m)) (hb : XD X M σ H b (.int n)) (hc : CPow m n) : XD X M σ H (.BinOp a .Pow b pos) (.int (m ^ n.toNat)) := xd_binI op_pow ha hb hc
theorem xd_mod {m n : Int} (ha : XD X M σ H a (.int m)) (hb : XD X M σ H b (.int n)) (hc : 0 < n) : XD X M σ H (.BinOp a .Mod b pos) (.int (m % n)) := xd_binI op_mod ha hb hc
theorem xd_div {m n : Int} (ha : XD X M σ H a (.int m)) (hb : XD X M σ H b (.int n)) (hc : CDivW m n) : XD X M σ H (.BinOp a .FloorDiv b pos) (.int (m / n)) := xd_binI op_fdivW ha hb hc
end
abbrev sCell : Stmt := top 51
abbrev sBag : Stmt := top 52
abbrev sTake : Stmt := top 53
/-- the bag: a great rest, a seed, a count up to n -/
def BagAt (H : Hp) (b : Addr) (n : Nat) : Prop := ∃ (g m c : Int), H b = some (.lst [.int g, .int m, .int c]) ∧ 0 ≤ m ∧ m < 2147483648 ∧ 0 ≤ c ∧ c ≤ n
theorem BagAt.up {H H' : Hp} {b : Addr} {n n' : Nat} (h : BagAt H b n) (s : Same H H') (hn : n ≤ n') : BagAt H' b n' := by
  obtain ⟨g, m, c, h1, h2, h3, h4, h5⟩ := h
  exact ⟨g, m, c, s _ _ h1, h2, h3, h4, by omega⟩
/-- all but b stands -/
def SameB (b : Addr) (H H' : Hp) : Prop := ∀ a o, a ≠ b → H a = some o → H' a = some o
theorem SameB.of {b : Addr} {H H' : Hp} (s : Same H H') : SameB b H H' := fun a o _ e => s a o e
theorem SameB.trans {b : Addr} {H H1 H2 : Hp} (s : SameB b H H1) (t : SameB b H1 H2) : SameB b H H2 := fun a o n e => t a o n (s a o n e)
theorem SameB.upd {b : Addr} {H H' : Hp} {o : HO} (s : SameB b H H') : SameB b H (upd H' b o) := fun a u n e => by rw [upd_ne n]; exact s a u n e
theorem SameB.hid {b : Addr} {M : List Addr} {H H' : Hp} (s : SameB b H H') (h : b ∈ M) : Same (hid M H) (hid M H') := fun a o e => by
  have n : a ∉ M := fun z => by unfold Dl.hid at e; rw [if_pos z] at e; cases e
  have nb : a ≠ b := fun z => n (z ▸ h)
  rw [hid_of n]
  exact s a o nb (hid_le _ _ e)
theorem SameB.live {b : Addr} {M : List Addr} {H H' : Hp} (s : SameB b H H') (L : Live M H) (hb : H' b ≠ none) : Live M H' := fun a ha z => by
  by_cases e : a = b
  · subst e; exact hb z
  · cases q : H a with
    | none => exact L a ha q
    | some o => rw [s a o e q] at z; cases z
theorem BagAt.some {H : Hp} {b : Addr} {n : Nat} (h : BagAt H b n) : H b ≠ none := by
  obtain ⟨g, m, c, h1, _⟩ := h
  rw [h1]; simp
def spCell (K : PySem.W.Frag) : Sp := fun vs H Q _ => ∃ (a : Addr) (ns : List Int) (j : Nat), vs = [.ref a, .int j] ∧ SqL K H a (ns.map V.int) ∧ ∀ (n : Int) H1, Same H H1 → Q (.int n) H1
def spBag : Sp := fun vs H Q _ => ∃ (n : Int), vs = [.int n] ∧ ∀ b H1, Same H H1 → H b = none → BagAt H1 b 0 → Q (.ref b) H1
def spTake : Sp := fun vs H Q _ => ∃ (b : Addr) (many : Int) (n : Nat), vs = [.ref b, .int many] ∧ 0 < many ∧ many.natAbs < 2 ^ 200 ∧ n ≤ 1000000 ∧ BagAt H b n ∧
  ∀ (r : Int) H1, 0 ≤ r → r < many → SameB b H H1 → BagAt H1 b (n + 1) → Q (.int r) H1
section
variable {P : Program} {w : World} {K : PySem.W.Frag} {mg : Str → Option Value} {base : Heap}
theorem scCell : FnScope ["_law_script", "_law_index"] ["_law_script", "_law_index"] (defScope sCell) := ⟨rfl, rfl, rfl, by decide +kernel, rfl, by decide +kernel, by decide +kernel⟩
theorem ok_cell {f : Addr} {fd : FuncData} (T : Nm mg) (F : Df K mg "_law_cell" sCell ["_law_script", "_law_index"] f fd) : FnOk P w K mg base CX0 1 f fd ["_law_script", "_law_index"] (spCell K) := by
  refine F.F.ok scCell (fun vs H Q E h => ?_) (fun cdv A outer s H vs Q E hr h => ?_)
  · obtain ⟨a, ns, j, rfl, _⟩ := h; rfl
  · obtain ⟨a, ns, j, rfl, hS, q⟩ := h
    refine rb_if (xt_cmpI (M := []) op_lt (xv_name 1 rfl).int (xv_lenS T.len (xv_name 0 rfl) hS).int) (fun e H1 s1 => ?_) (fun e H1 s1 => rb_nil ?_)
    · have hj : j < ns.length := by
        have z := of_decide_eq_true e
        rw [List.length_map] at z
        omega
      have ha : atI (ns.map V.int) ((j : Nat) : Int) = some (V.int ns[j]) := atI_nat (by rw [List.getElem?_map, List.getElem?_eq_getElem hj]; rfl)
      exact rb_retR (XV.go (xv_ixS (fun _ _ => rfl) (xv_name 0 rfl) (s1.seq hS) (xv_name 1 rfl) ha) fun H2 s2 => q _ H2 (s1.trans s2))
    · exact rb_ret (M := []) (xd_add (xd_mul xd_int (xv_name 1 rfl).int (.inl ⟨by decide, by decide⟩)) xd_int) fun v H2 s2 hv => by
        rw [dp_int hv]
        exact q _ H2 (s1.trans s2)
theorem scBag : FnScope ["_law_cell_here"] ["_law_cell_here"] (defScope sBag) := ⟨rfl, rfl, rfl, by decide +kernel, rfl, by decide +kernel, by decide +kernel⟩
theorem ok_bag {f : Addr} {fd : FuncData} (T : Nm mg) (F : Df K mg "_law_bag" sBag ["_law_cell_here"] f fd) : FnOk P w K mg base CX0 1 f fd ["_law_cell_here"] spBag := by
  refine F.F.ok scBag (fun vs H Q E h => ?_) (fun cdv A outer s H vs Q E hr h => ?_)
  · obtain ⟨n, rfl, _⟩ := h; rfl
  · obtain ⟨n, rfl, q⟩ := h
    refine rb_retR (XL.go (M := []) (xl_lst Live.nil (xa_cons (xd_max T.max (xa_cons xd_int (xa_cons (xd_sub (xv_name 0 rfl).int (xd_pow xd_int xd_int ⟨by decide, by decide, by decide⟩)) xa_nil))) (xa_cons (xd_mod (xv_name 0 rfl).int xd_int (by decide)) (xa_cons xd_int xa_nil)))) fun p xs H1 s1 hp h1 hx => ?_)
    cases hx with
    | cons a1 hx => cases hx with
      | cons a2 hx => cases hx with
        | cons a3 hx =>
          cases hx
          rw [dp_int a1, dp_int a2, dp_int a3] at h1
          exact q p H1 s1 hp ⟨_, _, _, h1, by omega, by omega, by decide, by decide⟩
theorem scTake : FnScope ["_law_bag_here", "_law_many", "_law_digit", "_law_mixed"] ["_law_bag_here", "_law_many"] (defScope sTake) := ⟨rfl, rfl, rfl, by decide +kernel, rfl, by decide +kernel, by decide +kernel⟩
theorem cdiv {m n : Int} (h : 0 < n) (h2 : n.natAbs < 2 ^ 200) : CDivW m n := wide_div h h2 (by decide) (by decide)
theorem ok_take {f : Addr} {fd : FuncData} (F : Df K mg "_law_take" sTake ["_law_bag_here", "_law_many"] f fd) : FnOk P w K mg base CX0 1 f fd ["_law_bag_here", "_law_many"] spTake := by
  refine F.F.ok scTake (fun vs H Q E h => ?_) (fun cdv A outer s H vs Q E hr h => ?_)
  · obtain ⟨b, many, n, rfl, _⟩ := h; rfl
  · obtain ⟨b, many, n, rfl, hm, hm2, hn, ⟨g, m, c, hb, m0, m1, c0, c1⟩, q⟩ := h
    have at0 : ∀ {x y z : V}, atI [x, y, z] 0 = some x := fun {x y z} => rfl
    have at1 : ∀ {x y z : V}, atI [x, y, z] 1 = some y := fun {x y z} => rfl
    have at2 : ∀ {x y z : V}, atI [x, y, z] 2 = some z := fun {x y z} => rfl
    refine rb_if (xt_cmpI (M := []) op_gt (xv_ixS (fun _ _ => rfl) (xv_name 0 rfl) (SqL.of hb) xv_int at0).int xd_int) (fun e H1 s1 => ?_) (fun e H1 s1 => rb_nil ?_)
    · have hb1 := s1 _ _ hb
      refine rb_set 2 (M := []) (xd_mod (xv_ixS (fun _ _ => rfl) (xv_name 0 rfl) (SqL.of hb1) xv_int at0).int (xv_name 1 rfl).int hm) (fun v H2 s2 hv => ?_) scTake.nd
      have ev := dp_int hv
      subst ev
      have hb2 := s2 _ _ hb1
      refine rb_setIx (M := []) (n := 0) (j := 0) hb2 (xd_div (xv_ixS (fun _ _ => rfl) (xv_name 0 rfl) (SqL.of hb2) xv_int at0).int (xv_name 1 rfl).int (cdiv hm hm2)) (xv_name 0 rfl) xv_int rfl fun v H3 s3 hv => ?_
      have ev := dp_int hv
      subst ev
      refine rb_retR (XV.go (xv_name 2 rfl) fun H4 s4 => q _ H4 (Int.emod_nonneg _ (by omega)) (Int.emod_lt_of_pos _ hm) ((((SameB.of s1).trans (.of s2)).trans (.of s3)).upd.trans (.of s4)) ⟨g / many, m, c, s4 _ _ upd_same, m0, m1, c0, by omega⟩)
    · have hb1 := s1 _ _ hb
      refine rb_setIx (M := []) (n := 2) (j := 2) hb1 (xd_add (xv_ixS (fun _ _ => rfl) (xv_name 0 rfl) (SqL.of hb1) xv_int at2).int xd_int) (xv_name 0 rfl) xv_int rfl fun v H2 s2 hv => ?_
      have ev := dp_int hv
      subst ev
      have hb3 : upd H2 b (.lst [V.int g, V.int m, V.int (c + 1)]) b = some (.lst [V.int g, V.int m, V.int (c + 1)]) := upd_same
      have sB : SameB b H (upd H2 b (.lst [V.int g, V.int m, V.int (c + 1)])) := ((SameB.of s1).trans (.of s2)).upd
      show RB _ _ _ _ (upd H2 b (.lst [V.int g, V.int m, V.int (c + 1)]))
      generalize upd H2 b (.lst [V.int g, V.int m, V.int (c + 1)]) = H3 at hb3 sB
      refine rb_set 3 (M := []) (xd_mod (xd_pow (xd_add (xd_add (xv_ixS (fun _ _ => rfl) (xv_name 0 rfl) (SqL.of hb3) xv_int at1).int (xd_mul xd_int (xv_ixS (fun _ _ => rfl) (xv_name 0 rfl) (SqL.of hb3) xv_int at2).int (.inl ⟨by decide, by decide⟩))) xd_int) xd_int ⟨by decide, by decide, by omega⟩) xd_int (by decide)) (fun v H4 s4 hv => ?_) scTake.nd
      have ev := dp_int hv
      subst ev
      generalize hx : ((m + 179424691 * (c + 1) + 563) ^ (5 : Int).toNat % 2147483647 : Int) = x1
      have x0 : 0 ≤ x1 := by rw [← hx]; exact Int.emod_nonneg _ (by decide)
      have x2 : x1 < 2147483647 := by rw [← hx]; exact Int.emod_lt_of_pos _ (by decide)
      have hb4 := s4 _ _ hb3
      refine rb_set 3 (M := []) (xd_mod (xd_pow (xd_add (xv_name 3 rfl).int (xd_mul xd_int (xv_ixS (fun _ _ => rfl) (xv_name 0 rfl) (SqL.of hb4) xv_int at2).int (.inl ⟨by decide, by decide⟩))) xd_int ⟨by decide, by decide, by omega⟩) xd_int (by decide)) (fun v H5 s5 hv => ?_) scTake.nd
      have ev := dp_int hv
      subst ev
      refine rb_ret (M := []) (xd_mod (xd_div (xv_name 3 rfl).int xd_int (cdiv (by decide) (by decide))) (xv_name 1 rfl).int hm) fun v H6 s6 hv => ?_
      rw [dp_int hv]
      exact q _ H6 (Int.emod_nonneg _ (by omega)) (Int.emod_lt_of_pos _ hm) (((sB.trans (.of s4)).trans (.of s5)).trans (.of s6)) ⟨g, m, c + 1, s6 _ _ (s5 _ _ hb4), m0, m1, by omega, by omega⟩
end
end Zn

set_option Elab.async false
set_option linter.all false
set_option maxRecDepth 100000
set_option maxHeartbeats 8000000
namespace Zn
open PySem PySem.Spec PyProof.Rows L2 Dl
/-! ### plans -/
abbrev Step := Int × Int
def stepD (s : Step) : PyData := .tuple [.int s.1, .int s.2]
def planD (f : Int) (st : List Step) : PyData := .tuple [.int f, .list (st.map stepD)]
def okJ (j : Int) : Prop := j ≠ 0 ∧ -720 ≤ j ∧ j ≤ 720
def gapJ (s t : Step) : Prop := ab s.2 + ab t.2 < t.1 - s.1
def okS (st : List Step) : Prop := (∀ s ∈ st, okJ s.2) ∧ ∀ (k : Nat) (s t : Step), st[k]? = some s → st[k + 1]? = some t → gapJ s t
def bigS (n : Int) (st : List Step) : Prop := ∀ s ∈ st, -n ≤ s.1 ∧ s.1 ≤ n
structure PlanOk (f : Int) (st : List Step) : Prop where
  len : st.length ≤ 19
  ok : okS st
  f0 : -850 ≤ f
  f1 : f ≤ 850
  big : bigS 2000000000000 st
theorem okS_nil : okS [] := ⟨fun _ h => by simp at h, fun k s t h => by simp at h⟩
theorem okS_one {t : Step} (h : okJ t.2) : okS [t] := ⟨fun s hs => by rw [List.mem_singleton.mp hs]; exact h, fun k s u h1 h2 => by simp at h2⟩
theorem okS_snoc {st : List Step} {l t : Step} (h : okS st) (hl : st.getLast? = some l) (hj : okJ t.2) (hg : gapJ l t) : okS (st ++ [t]) := by
  refine ⟨fun s hs => ?_, fun k s u h1 h2 => ?_⟩
  · rcases List.mem_append.mp hs with z | z
    · exact h.1 s z
    · rw [List.mem_singleton.mp z]; exact hj
  · have hk : k + 1 < (st ++ [t]).length := (List.getElem?_eq_some_iff.mp h2).1
    rw [List.length_append, List.length_singleton] at hk
    by_cases e : k + 1 < st.length
    · rw [List.getElem?_append_left (by omega)] at h1
      rw [List.getElem?_append_left e] at h2
      exact h.2 k s u h1 h2
    · have ek : k + 1 = st.length := by omega
      rw [List.getElem?_append_left (by omega)] at h1
      rw [List.getElem?_append_right (by omega), ek, Nat.sub_self] at h2
      cases h2
      have e2 : st.getLast? = st[k]? := by rw [List.getLast?_eq_getElem?, ← ek]; rfl
      rw [e2, h1] at hl
      cases hl
      exact hg
theorem bigS_snoc {n n' : Int} {st : List Step} {t : Step} (h : bigS n st) (hn : n ≤ n') (h0 : -n' ≤ t.1) (h1 : t.1 ≤ n') : bigS n' (st ++ [t]) := fun s hs => by
  rcases List.mem_append.mp hs with z | z
  · have := h s z; omega
  · rw [List.mem_singleton.mp z]; omega
section
variable {X : Cx} {M : List Addr} {σ : L2.St} {H H' : Hp} {e a b o ie : Expr} {es : List Expr} {d : PyData} {ds : List PyData} {pos p1 p2 p3 : Pos} {D : Ends} {rest : List Stmt} {v : V} {xs : List V} {Q : VK}
theorem re_bin {op : Operator} {r : R2} (ho : OpR X (binaryOp op) r) (h : RE X a σ H fun x H1 => RE X b σ H1 fun y H2 => r x y H2 Q) : RE X (.BinOp a op b pos) σ H Q := ⟨_, pe_op ho re_ re_, h⟩
theorem re_addI (h : RE X a σ H fun x H1 => ∃ i, x = .int i ∧ RE X b σ H1 fun y H2 => ∃ j, y = .int j ∧ Q (.int (i + j)) H2) : RE X (.BinOp a .Add b pos) σ H Q :=
  re_bin op_add (re_mono h fun x H1 ⟨i, ei, h1⟩ => re_mono h1 fun y H2 ⟨j, ej, q⟩ => ⟨i, j, ei, ej, q⟩)
theorem re_subI (h : RE X a σ H fun x H1 => ∃ i, x = .int i ∧ RE X b σ H1 fun y H2 => ∃ j, y = .int j ∧ Q (.int (i - j)) H2) : RE X (.BinOp a .Sub b pos) σ H Q :=
  re_bin op_sub (re_mono h fun x H1 ⟨i, ei, h1⟩ => re_mono h1 fun y H2 ⟨j, ej, q⟩ => ⟨i, j, ei, ej, q⟩)
theorem re_mulI (h : RE X a σ H fun x H1 => ∃ i, x = .int i ∧ (-(2 ^ 64) < i ∧ i < 2 ^ 64) ∧ RE X b σ H1 fun y H2 => ∃ j, y = .int j ∧ Q (.int (i * j)) H2) : RE X (.BinOp a .Mult b pos) σ H Q :=
  re_bin op_mul (re_mono h fun x H1 ⟨i, ei, hi, h1⟩ => re_mono h1 fun y H2 ⟨j, ej, q⟩ => ⟨i, j, ei, ej, .inl hi, q⟩)
theorem at_menu {ms : List Int} {r : Int} (h0 : 0 ≤ r) (h1 : r.toNat < ms.length) : atI (ms.map V.int) r = some (V.int (ms[r.toNat])) := by
  have h : atI (ms.map V.int) ((r.toNat : Nat) : Int) = some (V.int (ms[r.toNat])) := atI_nat (by rw [List.getElem?_map, List.getElem?_eq_getElem h1]; rfl)
  rw [Int.toNat_of_nonneg h0] at h
  exact h
/-- [ints][e] -/
theorem re_menu {esl : List Expr} {n : Nat} (hs : PlainIx b) (hn : n ≤ 1000) (h : RA X esl σ H fun vs H1 => ∃ ms : List Int, vs = ms.map V.int ∧ ms.length = n ∧ ∀ l, H1 l = none → RE X b σ (upd H1 l (.lst vs)) fun y H3 => ∃ r : Int, y = .int r ∧ 0 ≤ r ∧ r < n ∧ H3 l = some (.lst vs) ∧ ∀ z, z ∈ ms → Q (.int z) H3) :
    RE X (.Subscript (.List esl p1) b pos) σ H Q :=
  ⟨_, pe_ix ix_list (pe_lst ra_) re_ hs, ra_mono h fun vs H1 ⟨ms, e1, e2, k⟩ => ⟨by rw [e1, List.length_map, e2]; exact Nat.le_trans hn (by decide), fun l hl => re_mono (k l hl) fun y H3 ⟨r, ey, r0, r1, h3, q⟩ => by
    subst ey
    have hlt : r.toNat < ms.length := by omega
    exact ⟨l, vs, r, .int (ms[r.toNat]), rfl, rfl, SqL.of h3, by rw [e1]; exact at_menu r0 hlt, q _ (List.getElem_mem hlt)⟩⟩⟩
theorem ra_int {n : Int} {Q : List V → Hp → Prop} (h : XV X σ H e (.int n)) (k : ∀ H1, Same H H1 → RA X es σ H1 fun vs H2 => Q (.int n :: vs) H2) (hs : starEach (e :: es) X.env = (false, eval e X.env) :: starEach es X.env := by rfl) : RA X (e :: es) σ H Q := ra_cons (h.go fun H1 s => k H1 s) hs
theorem re_int {n : Int} (h : XV X σ H e (.int n)) (k : ∀ H1, Same H H1 → Q (.int n) H1) : RE X e σ H Q := h.go k
end
/-- a draw -/
theorem re_take {X : Cx} {σ : L2.St} {H : Hp} {o e : Expr} {pos p1 : Pos} {Q : VK} {k n : Nat} {f b : Addr} {fd : FuncData} {many : Int} (G : FnOk X.prog X.w X.K X.mg X.base CX0 k f fd ["_law_bag_here", "_law_many"] spTake) (F : Df X.K X.mg "_law_take" sTake ["_law_bag_here", "_law_many"] f fd) (hr : Room k X.A)
    (ho : XV X σ H o (.ref b)) (he : XV X σ H e (.int many)) (hB : BagAt H b n) (q : ∀ (r : Int) H1, 0 ≤ r → r < many → SameB b H H1 → BagAt H1 b (n + 1) → Q (.int r) H1) (h0 : 0 < many := by decide) (h1 : many.natAbs < 2 ^ 200 := by decide) (hn : n ≤ 1000000 := by omega) (hg : Gl X "_law_take" := by rfl)
    (hs : starEach [o, e] X.env = (false, eval o X.env) :: starEach [e] X.env := by rfl) (hs2 : starEach [e] X.env = (false, eval e X.env) :: starEach [] X.env := by rfl) (hpl : (backTo pos (starEach [e] X.env)).any (·.1) = false := by rfl) : RE X (.Call (.Name "_law_take" p1) [o, e] [] pos) σ H Q :=
  re_call G hr F.g F.F.kp F.b (ra_cons (ho.go fun H1 s1 => ra_1 ((he.up s1).go fun H2 s2 => ⟨b, many, n, rfl, h0, h1, hn, hB.up (s1.trans s2) (Nat.le_refl _), fun r H3 r0 r1 sB hB3 => q r H3 r0 r1 ((SameB.of (s1.trans s2)).trans sB) hB3⟩) hs2) hs) hg (by decide) hs hpl
theorem sameB_new {b l : Addr} {H : Hp} {o : HO} (h : H l = none) : SameB b H (upd H l o) := SameB.of (same_new h)
theorem bag_new {H : Hp} {b l : Addr} {n : Nat} {o : HO} (h : BagAt H b n) (hl : H l = none) : BagAt (upd H l o) b n := h.up (same_new hl) (Nat.le_refl _)
theorem bag_sameB {H H' : Hp} {b : Addr} {n : Nat} (h : BagAt H b n) (s : Same H H') : BagAt H' b n := h.up s (Nat.le_refl _)
end Zn

set_option Elab.async false
set_option linter.all false
set_option maxRecDepth 100000
set_option maxHeartbeats 8000000
namespace Zn
open PySem PySem.Spec PyProof.Rows L2 Dl
theorem mem4 {z a b c d : Int} (h : z ∈ [a, b, c, d]) : z = a ∨ z = b ∨ z = c ∨ z = d := by simpa using h
section
variable {P : Program} {w : World} {K : PySem.W.Frag} {mg : Str → Option Value} {base : Heap}
theorem eqv_steps (st : List Step) : PyData.eqv (.list (st.map stepD)) (.list []) = decide (st = []) := by
  cases st with
  | nil => simp [PyData.eqv, PyData.eqvAll]
  | cons s st => simp [PyData.eqv, PyData.eqvAll]
theorem lay_steps : ∀ st : List Step, PyData.canLayAll0 (st.map stepD) = true
  | [] => by simp [PyData.canLayAll0]
  | r :: rs => by
    rw [List.map_cons]
    show (PyData.canLay0 (stepD r) && PyData.canLayAll0 (rs.map stepD)) = true
    rw [lay_steps rs]
    simp [stepD, PyData.canLay0, PyData.canLayAll0]
theorem depth_steps : ∀ st : List Step, PyData.depthAll (st.map stepD) ≤ 1
  | [] => by simp [PyData.depthAll]
  | r :: rs => by
    rw [List.map_cons]
    show max (PyData.depth (stepD r)) (PyData.depthAll (rs.map stepD)) ≤ 1
    have := depth_steps rs
    have e : PyData.depth (stepD r) = 1 := by simp [stepD, PyData.depth, PyData.depthAll]
    omega
theorem shaped_steps (st : List Step) : SeqAt.shaped (.list (st.map stepD)) = true := by
  unfold SeqAt.shaped
  have h := depth_steps st
  have e : PyData.depth (.list (st.map stepD)) = PyData.depthAll (st.map stepD) + 1 := by simp [PyData.depth]
  rw [show PyData.canLay0 (.list (st.map stepD)) = PyData.canLayAll0 (st.map stepD) by simp [PyData.canLay0], lay_steps, e]
  simp
  omega
theorem shaped_nil : SeqAt.shaped (.list []) = true := by decide +kernel
theorem mem5 {z a b c d e : Int} (h : z ∈ [a, b, c, d, e]) : z = a ∨ z = b ∨ z = c ∨ z = d ∨ z = e := by simpa using h
theorem mem10 {z a b c d e f g h i j : Int} (q : z ∈ [a, b, c, d, e, f, g, h, i, j]) : z = a ∨ z = b ∨ z = c ∨ z = d ∨ z = e ∨ z = f ∨ z = g ∨ z = h ∨ z = i ∨ z = j := by simpa using q
theorem last_step {st : List Step} {l : Step} (h : st.getLast? = some l) : atI (st.map stepD) (-1) = some (stepD l) := by
  obtain ⟨ys, rfl⟩ := List.getLast?_eq_some_iff.mp h
  rw [List.map_append]
  exact atI_last _ _
theorem ab_eq (n : Int) : ab n = (if n < 0 then -n else n) := rfl
end
end Zn

set_option Elab.async false
set_option linter.all false
set_option maxRecDepth 100000
set_option maxHeartbeats 8000000
namespace Zn
open PySem PySem.Spec PyProof.Rows L2 Dl
abbrev sLChanges : Stmt := top 57
abbrev sLMade : Stmt := top 58
abbrev sLSpans : Stmt := top 0 /- not in this text -/
/-! ### the mathematics of plans -/
def chOf : Int → List Step → List (Int × Int)
  | _, [] => []
  | o, s :: st => (s.1, o + s.2) :: chOf (o + s.2) st
def offS : Int → List Step → Int
  | o, [] => o
  | o, s :: st => offS (o + s.2) st
/-- the rows of a plan -/
def rowsP (f : Int) (st : List Step) : List Row := rowsOf f (chOf f st)
theorem ch_len : ∀ (o : Int) (st : List Step), (chOf o st).length = st.length
  | _, [] => rfl
  | o, s :: st => by unfold chOf; rw [List.length_cons, List.length_cons, ch_len]
theorem ch_snoc : ∀ (o : Int) (st : List Step) (s : Step), chOf o (st ++ [s]) = chOf o st ++ [(s.1, offS o st + s.2)]
  | _, [], s => rfl
  | o, t :: st, s => by
    show (t.1, o + t.2) :: chOf (o + t.2) (st ++ [s]) = _
    rw [ch_snoc (o + t.2) st s]
    rfl
theorem off_snoc : ∀ (o : Int) (st : List Step) (s : Step), offS o (st ++ [s]) = offS o st + s.2
  | _, [], s => rfl
  | o, t :: st, s => off_snoc (o + t.2) st s
theorem last_ch : ∀ (o : Int) (st : List Step), lastOff o (chOf o st) = offS o st
  | _, [] => rfl
  | o, s :: st => last_ch (o + s.2) st
theorem rowsP_snoc (f : Int) (st : List Step) (s : Step) : rowsP f (st ++ [s]) = rowsP f st ++ [(s.1, offS f st, offS f st + s.2)] := by
  unfold rowsP
  rw [ch_snoc, rows_snoc, last_ch]
theorem rowsP_len (f : Int) (st : List Step) : (rowsP f st).length = st.length := by unfold rowsP; rw [rows_len, ch_len]
theorem rowsP_cons (f : Int) (s : Step) (st : List Step) : rowsP f (s :: st) = (s.1, f, f + s.2) :: rowsP (f + s.2) st := rfl
theorem rowsP_get : ∀ (f : Int) (st : List Step) (k : Nat) (s : Step), st[k]? = some s → ∃ o, (rowsP f st)[k]? = some (s.1, o, o + s.2)
  | _, [], k, s, h => by simp at h
  | f, t :: st, 0, s, h => by simp at h; subst h; exact ⟨f, rfl⟩
  | f, t :: st, k + 1, s, h => by
    obtain ⟨o, ho⟩ := rowsP_get (f + t.2) st k s (by simpa using h)
    exact ⟨o, by rw [rowsP_cons]; simpa using ho⟩
theorem ab_le {j : Int} (h : okJ j) : isJumpB j = true := by
  unfold isJumpB ab
  unfold okJ at h
  simp
  refine ⟨h.1, ?_⟩
  split <;> omega
/-- a plan's rows pass all checks -/
theorem okR_of {f : Int} {st : List Step} (h : okS st) : okR (rowsP f st) := by
  intro k r hr
  have hk : k < st.length := by rw [← rowsP_len f st]; exact (List.getElem?_eq_some_iff.mp hr).1
  obtain ⟨o, ho⟩ := rowsP_get f st k st[k] (List.getElem?_eq_getElem hk)
  rw [hr] at ho
  cases ho
  have ej : jmp (st[k].1, o, o + st[k].2) = st[k].2 := by show o + st[k].2 - o = _; omega
  refine ⟨by rw [ej]; exact ab_le (h.1 _ (List.getElem_mem hk)), ?_⟩
  unfold followB
  cases k with
  | zero => rfl
  | succ k =>
    have hk2 : k < st.length := by omega
    obtain ⟨o2, ho2⟩ := rowsP_get f st k st[k] (List.getElem?_eq_getElem hk2)
    have hl : ((rowsP f st).take (k + 1)).getLast? = some (st[k].1, o2, o2 + st[k].2) := by
      rw [take_snoc ho2, List.getLast?_append]
      simp
    rw [hl]
    have ej2 : jmp (st[k].1, o2, o2 + st[k].2) = st[k].2 := by show o2 + st[k].2 - o2 = _; omega
    show decide (ab (jmp (st[k].1, o2, o2 + st[k].2)) + ab (jmp (st[k + 1].1, o, o + st[k + 1].2)) < st[k + 1].1 - st[k].1) = true
    rw [ej, ej2]
    exact decide_eq_true (h.2 k _ _ (List.getElem?_eq_getElem hk2) (List.getElem?_eq_getElem hk))
def RLChanges (ds es : List PyData) : Prop := ∃ (f : Int) (st : List Step), ds = [planD f st] ∧ st.length ≤ 1000 ∧ es = (chOf f st).map stepD
theorem items_ch : ∀ cs : List (Int × Int), Items (cs.map stepD) cs := fun cs => ⟨by rw [List.length_map], fun i it h => by
  rw [List.getElem?_map] at h
  cases e : cs[i]? with
  | none => rw [e] at h; cases h
  | some c => rw [e] at h; cases h; exact ⟨c, rfl, .inl rfl⟩⟩
theorem step_at {K : PySem.W.Frag} {H : Hp} {v : V} {s : Step} (h : Dq K H v (stepD s)) : ∃ p, v = .ref p ∧ SqT K H p [.int s.1, .int s.2] := by
  obtain ⟨p, xs, rfl, hp, hx⟩ := dp_tup h
  cases hx with
  | cons a1 hx => cases hx with
    | cons a2 hx => cases hx; rw [dp_int a1, dp_int a2] at hp; exact ⟨p, rfl, hp⟩
theorem map_get {α : Type} {g : α → PyData} {xs : List α} {k : Nat} {d : PyData} (h : (xs.map g)[k]? = some d) : ∃ x, xs[k]? = some x ∧ d = g x := by
  rw [List.getElem?_map] at h
  cases e : xs[k]? with
  | none => rw [e] at h; cases h
  | some x => rw [e] at h; cases h; exact ⟨x, rfl, rfl⟩
section
variable {X : Cx} {M : List Addr} {σ : L2.St} {H H' : Hp} {e a b o ie : Expr} {pos p1 p2 p3 : Pos} {D : Ends} {rest : List Stmt}
theorem rb_parR (i j : Nat) {x y : Str} {px py pt : Pos} {kt k2 pt2} (ha : RA X [a, b] σ H fun vs H1 => ∃ v w, vs = [v, w] ∧ RB X rest D ((σ.set i (some v)).set j (some w)) H1) (hN : X.N.Nodup)
    (hw : swappedStores [.Tuple [.Name x px, .Name y py] kt pt] (.Tuple [a, b] k2 pt2) X.env = pure (some [x, y]) := by rfl) (hc : X.calm = true := by rfl) (hi : X.N[i]? = some x := by rfl) (hj : X.N[j]? = some y := by rfl) (hij : i ≠ j := by decide)
    (hx : X.env.scope.names.lookup x = some .local := by rfl) (hy : X.env.scope.names.lookup y = some .local := by rfl)
    (hs : swapsWithSole [.Tuple [.Name x px, .Name y py] kt pt] (.Tuple [a, b] k2 pt2) pos.line X.env = pure false := by rfl) : RB X (.Assign [.Tuple [.Name x px, .Name y py] kt pt] (.Tuple [a, b] k2 pt2) pos :: rest) D σ H :=
  ⟨_, pss_cons (ps_par hc hN hi hj hij hx hy ra_ hw hs) rb_, ha⟩
end
section
variable {P : Program} {w : World} {K : PySem.W.Frag} {mg : Str → Option Value} {base : Heap} {C : Addr}
theorem scLChanges : FnScope ["_law_plan", "_law_found", "_law_offset_here", "_law_moment", "_law_jump"] ["_law_plan"] (defScope sLChanges) := ⟨rfl, rfl, rfl, by decide +kernel, rfl, by decide +kernel, by decide +kernel⟩
theorem ok_lchanges {f : Addr} {fd : FuncData} (F : Df K mg "_law_changes" sLChanges ["_law_plan"] f fd) : FnOk P w K mg base CX0 1 f fd ["_law_plan"] (spL K RLChanges) := by
  refine F.F.ok scLChanges (fun vs H Q E h => ?_) (fun cdv A outer s H vs Q E hr h => ?_)
  · obtain ⟨M, ds, es, L, hd, ⟨f, st, rfl, _⟩, q⟩ := h
    exact dpa_len hd
  · obtain ⟨M, ds, es, L, hd, ⟨f, st, rfl, hlen, rfl⟩, q⟩ := h
    cases hd with
    | cons h1 h2 =>
      cases h2
      rename_i v0
      refine rb_parR 1 2 (ra_cons (XL.go (xl_lst L xa_nil) fun p xs H1 s1 hp h1p hxs => ra_1 (XD.go (xd_ixT (fun _ _ => rfl) (xd_name 0 rfl (h1.up (hid_mono s1))) xd_int (show atI [PyData.int f, .list (st.map stepD)] 0 = some (.int f) from rfl)) fun v2 H2 s2 hv2 => ⟨_, _, rfl, ?_⟩))) scLChanges.nd
      cases hxs
      have e2 := dp_int hv2
      subst e2
      have s12 := s1.trans s2
      have g0 : Same (hid M H) (hid (p :: M) H2) := hid_step hp s12
      have Lp : Live (p :: M) H2 := fun b hb => by
        rcases List.mem_cons.mp hb with z | hb
        · subst z; rw [s2 _ _ h1p]; simp
        · exact L.mono s12 b hb
      have k1 := h1.up g0
      refine rb_for (M := p :: M) (xd_ixT (fun _ _ => rfl) (xd_name 0 rfl k1) xd_int (show atI [PyData.int f, .list (st.map stepD)] 1 = some (.list (st.map stepD)) from rfl)) fun H3 s3 => ⟨fun k σ' H' => Same (hid (p :: M) H3) (hid (p :: M) H') ∧ Live (p :: M) H' ∧ Same H H' ∧ ∃ (xs : List V) (a3 a4 : Option V), σ' = [some v0, some (.ref p), some (.int (offS f (st.take k))), a3, a4] ∧ H' p = some (.lst xs) ∧ DqAll K (hid (p :: M) H') xs ((chOf f (st.take k)).map stepD),
        ⟨Same.refl _, Lp.mono s3, s12.trans s3, [], none, none, rfl, s3 _ _ (s2 _ _ h1p), .nil⟩, fun k σ' H' w => w.1, fun k it hk σ' H' v hw hv => ?_, fun σ' H' hw => ?_⟩
      · obtain ⟨z1, L4, z2, xs, a3, a4, rfl, hp4, hx4⟩ := hw
        obtain ⟨sx, hsx, rfl⟩ := map_get hk
        have hklt : k < st.length := (List.getElem?_eq_some_iff.mp hsx).1
        have hxl : xs.length < 100000 := by
          rw [dpa_len hx4, List.length_map, ch_len, List.length_take]
          omega
        obtain ⟨t, rfl, ht⟩ := step_at hv
        refine rg_tup (same_seqT hid_le ht) (rgs_cons (rg_name 3 (rgs_cons (rg_name 4 (rgs_nil ?_) scLChanges.nd)) scLChanges.nd))
        refine rb_set 2 (M := p :: M) (xd_add (xv_name 2 rfl).int (xv_name 4 rfl).int) (fun v5 H5 s5 hv5 => ?_) scLChanges.nd
        have e5 := dp_int hv5
        subst e5
        refine rb_append (M := p :: M) (xs := xs) (List.mem_cons_self ..) (xv_name 1 rfl) (s5 _ _ hp4) (xd_tup (L4.mono s5) (xa_cons (xv_name 3 rfl).int (xa_cons (xv_name 2 rfl).int xa_nil))) hxl fun v6 H6 s6 hv6 => rb_nil ?_
        have s46 := s5.trans s6
        refine ⟨?_, (L4.mono s46).upd, same_upd (z2.trans s46) hp, xs ++ [v6], some (.int sx.1), some (.int sx.2), ?_, upd_same, ?_⟩
        · rw [hid_cons_upd]; exact z1.trans (hid_mono s46)
        · rw [take_snoc hsx, off_snoc]; rfl
        · rw [hid_cons_upd, take_snoc hsx, ch_snoc, List.map_append]
          exact dpa_app (hx4.up (hid_mono s46)) (.cons hv6 .nil)
      · obtain ⟨z1, L4, z2, xs, a3, a4, rfl, hp4, hx4⟩ := hw
        refine rb_retR (XV.go (xv_name 1 rfl) fun H5 s5 => q p xs H5 (z2.trans s5) hp (s5 _ _ hp4) ?_)
        rw [List.length_map, List.take_length] at hx4
        exact (hx4.up (hid_mono (M := p :: M) s5)).up hid_weak
/-! made -/
def spMade (K : PySem.W.Frag) (C : Addr) : Sp := fun vs H Q _ => ∃ (M : List Addr) (v : V) (f : Int) (st : List Step), vs = [v] ∧ Live M H ∧ Dq K (hid M H) v (planD f st) ∧ st.length ≤ 1000 ∧ okS st ∧ ∀ y H1, Same H H1 → ZAt K C (hid M H1) y f (rowsP f st) → Q (.ref y) H1
theorem scLMade : FnScope ["_law_plan"] ["_law_plan"] (defScope sLMade) := ⟨rfl, rfl, rfl, by decide +kernel, rfl, by decide +kernel, by decide +kernel⟩
theorem ok_lmade {f fC fZ et : Addr} {fd fdC fdZ : FuncData} (W : ZMk P w K mg base C fZ fdZ et) (FC : Df K mg "_law_changes" sLChanges ["_law_plan"] fC fdC) (F : Df K mg "_law_made" sLMade ["_law_plan"] f fd) : FnOk P w K mg base CX0 6 f fd ["_law_plan"] (spMade K C) := by
  have GC : FnOk P w K mg base CX0 5 fC fdC ["_law_plan"] (spL K RLChanges) := (ok_lchanges FC).mono (by decide)
  refine F.F.ok scLMade (fun vs H Q E h => ?_) (fun cdv A outer s H vs Q E hr h => ?_)
  · obtain ⟨M, v, f, st, rfl, _⟩ := h; rfl
  · obtain ⟨M, v, f, st, rfl, L, h1, hlen, hok, q⟩ := h
    refine rb_retR ((xz_make (items := (chOf f st).map stepD) (cs := chOf f st) L W hr (xd_ixT (fun _ _ => rfl) (xd_name 0 rfl h1) xd_int (show atI [PyData.int f, .list (st.map stepD)] 0 = some (.int f) from rfl))
      (XL.dd (xl_call L GC hr FC.g FC.F.kp FC.b (xa_cons (xd_name 0 rfl h1) xa_nil) ⟨f, st, rfl, hlen, rfl⟩) L) (.inl rfl) (items_ch _) (okR_of hok) (by rw [ch_len]; exact hlen)).go q)
/-! spans -/
end
end Zn

set_option Elab.async false
set_option linter.all false
set_option maxRecDepth 100000
set_option maxHeartbeats 8000000
namespace Zn
open PySem PySem.Spec PyProof.Rows L2 Dl
/-! k08: is_integer, need_zone, checked_jumps, zone_with -/
abbrev sIsInt : Stmt := top 15
abbrev sNeedZ : Stmt := top 30
abbrev sChk : Stmt := top 35
abbrev sZW : Stmt := top 37
theorem ch_rows : ∀ (f : Int) (st : List Step), (rowsP f st).map chD = (chOf f st).map stepD
  | _, [] => rfl
  | f, s :: st => by
    rw [rowsP_cons, List.map_cons, ch_rows]
    rfl
theorem rowsP_at : ∀ (f : Int) (st : List Step) (k : Nat) (s : Step), st[k]? = some s → (rowsP f st)[k]? = some (s.1, offS f (st.take k), offS f (st.take k) + s.2)
  | _, [], k, s, h => by simp at h
  | f, t :: st, 0, s, h => by simp at h; subst h; rfl
  | f, t :: st, k + 1, s, h => by
    rw [rowsP_cons, List.take_succ_cons]
    show (rowsP (f + t.2) st)[k]? = some (s.1, offS (f + t.2) (st.take k), _)
    exact rowsP_at (f + t.2) st k s (by simpa using h)
theorem rowsP_take : ∀ (f : Int) (st : List Step) (k : Nat), (rowsP f st).take k = rowsP f (st.take k)
  | _, [], k => by cases k <;> rfl
  | f, s :: st, 0 => rfl
  | f, s :: st, k + 1 => by rw [rowsP_cons, List.take_succ_cons, List.take_succ_cons, rowsP_cons, rowsP_take]
theorem plan0 {f : Int} {st : List Step} : atI [PyData.int f, .list (st.map stepD)] 0 = some (.int f) := rfl
theorem plan1 {f : Int} {st : List Step} : atI [PyData.int f, .list (st.map stepD)] 1 = some (.list (st.map stepD)) := rfl
theorem mem_step {st : List Step} {d : PyData} (h : d ∈ st.map stepD) : ∃ s ∈ st, d = stepD s := by
  obtain ⟨s, h1, h2⟩ := List.mem_map.mp h
  exact ⟨s, h1, h2.symm⟩
section
variable {X : Cx} {M : List Addr} {σ : L2.St} {H H' : Hp} {e a b c o : Expr} {d sq : PyData} {ds : List PyData} {pos p1 p2 : Pos} {D : Ends} {rest : List Stmt} {C pa : Addr} {off : Int} {rs : List Row}
theorem xz_v (ho : XV X σ H o (.ref pa)) (hz : ZAt X.K C (hid M H) pa off rs) : XZ C X M σ H o off rs := fun H1 s Q q => ho H1 s Q fun H2 s2 => q pa H2 s2 (hz.up (hid_mono (s.trans s2)))
/-- over a list or a tuple -/
theorem rb_forS {tg : Expr} {body : List Stmt} (hsq : sq = .list ds ∨ sq = .tuple ds) (hit : XD X M σ H e sq)
    (h : ∀ H1, Same H H1 → ∃ Pv : Nat → L2.St → Hp → Prop, Pv 0 σ H1 ∧ (∀ k σ' H', Pv k σ' H' → Same (hid M H1) (hid M H')) ∧
      (∀ k d, ds[k]? = some d → ∀ σ' H' v, Pv k σ' H' → Dq X.K (hid M H') v d → RG X tg v σ' H' fun σ2 H2 => RB X body { D with nx := Pv (k + 1), ct := Pv (k + 1), bk := RB X rest D } σ2 H2) ∧ ∀ σ' H', Pv ds.length σ' H' → RB X rest D σ' H')
    (hp : PassesOwn (model X.prog X.w) X.A X.env X.xe := by exact PassesOwn.never) (hc : X.calm = true := by rfl) (hs : ∀ x, foldedSetIterable e X.env x = pure x := by intro _; rfl) : RB X (.For tg e body [] pos :: rest) D σ H := by
  rcases hsq with rfl | rfl
  · exact rb_for hit h hp hc hs
  · exact rb_forT hit h hp hc hs
/-- isinstance(a, (list, tuple)) -/
theorem xd_isS {q1 q2 q3 : Pos} {k3} (T1 : X.mg "isinstance" = none) (T2 : X.mg "list" = none) (T3 : X.mg "tuple" = none) (hsq : sq = .list ds ∨ sq = .tuple ds) (ha : XD X M σ H a sq) (hg : Gl X "isinstance" := by rfl) (hg1 : Gl X "list" := by rfl) (hg2 : Gl X "tuple" := by rfl)
    (he : starEach [a, .Tuple [.Name "list" q1, .Name "tuple" q2] k3 q3] X.env = (false, eval a X.env) :: starEach [.Tuple [.Name "list" q1, .Name "tuple" q2] k3 q3] X.env := by rfl) (he2 : starEach [.Tuple [.Name "list" q1, .Name "tuple" q2] k3 q3] X.env = (false, eval (.Tuple [.Name "list" q1, .Name "tuple" q2] k3 q3) X.env) :: starEach [] X.env := by rfl)
    (hs1 : starEach [.Name "list" q1, .Name "tuple" q2] X.env = (false, eval (.Name "list" q1) X.env) :: starEach [.Name "tuple" q2] X.env := by rfl) (hs2 : starEach [.Name "tuple" q2] X.env = (false, eval (.Name "tuple" q2) X.env) :: starEach [] X.env := by rfl)
    (hpl : (backTo pos (starEach [.Tuple [.Name "list" q1, .Name "tuple" q2] k3 q3] X.env)).any (·.1) = false := by rfl) : XD X M σ H (.Call (.Name "isinstance" p1) [a, .Tuple [.Name "list" q1, .Name "tuple" q2] k3 q3] [] pos) (.bool true) := by
  rcases hsq with rfl | rfl
  · exact (xd_is2 (d := .list ds) (r1 := true) (r2 := false) (T1 := "list") (T2 := "tuple") k_ll k_lt T1 T2 (by decide +kernel) T3 (by decide +kernel) ha hg hg1 hg2 (by decide) (by decide) (by decide) (by decide) he he2 hs1 hs2 hpl).to rfl
  · exact (xd_is2 (d := .tuple ds) (r1 := false) (r2 := true) (T1 := "list") (T2 := "tuple") k_tl k_tt T1 T2 (by decide +kernel) T3 (by decide +kernel) ha hg hg1 hg2 (by decide) (by decide) (by decide) (by decide) he he2 hs1 hs2 hpl).to rfl
/-- l <= x <= h, as a value -/
theorem xd_chainI {op op' : CmpOp} {g g' : Int → Int → Bool} {l m n : Int} (ho : OpR X (compareOp op) (rI0 fun i j => .bl (g i j))) (ho' : OpR X (compareOp op') (rI0 fun i j => .bl (g' i j))) (ha : XD X M σ H a (.int l)) (hb : XD X M σ H b (.int m)) (hc : XD X M σ H c (.int n))
    (hm : lastMarks [op, op'] [b, c] = false := by with_unfolding_all rfl) : XD X M σ H (.Compare a [op, op'] [b, c] pos) (.bool (g l m && g' m n)) := fun H1 s Q q =>
  ⟨_, pe_chain ho ho' re_ re_ re_ hm, ha H1 s _ fun v H2 s2 hv => hb H2 (s.trans s2) _ fun u H3 s3 hu => ⟨l, m, dp_int hv, dp_int hu, g l m, rfl, by
    cases e : g l m with
    | false =>
      rw [e] at q
      exact iteF (q _ H3 (s2.trans s3) (.bl _))
    | true =>
      rw [e] at q
      exact iteT (hc H3 ((s.trans s2).trans s3) _ fun y H4 s4 hy => ⟨m, n, dp_int hu, dp_int hy, q _ H4 ((s2.trans s3).trans s4) (.bl _)⟩)⟩⟩
/-- xs + [x]: a list that is being made -/
theorem live_new {p : Addr} (L : Live M H) (s : Same H H') (h : H' p ≠ none) : Live (p :: M) H' := fun b hb => by
  rcases List.mem_cons.mp hb with z | hb
  · subst z; exact h
  · exact L.mono s b hb
end
section
variable {P : Program} {w : World} {K : PySem.W.Frag} {mg : Str → Option Value} {base : Heap} {C : Addr}
def RInt (ds : List PyData) (d : PyData) : Prop := ∃ x lo hi : Int, ds = [.int x, .int lo, .int hi] ∧ d = .bool (decide (lo ≤ x) && decide (x ≤ hi))
theorem scIsInt : FnScope ["value", "low", "high"] ["value", "low", "high"] (defScope sIsInt) := ⟨rfl, rfl, rfl, by decide +kernel, rfl, by decide +kernel, by decide +kernel⟩
theorem ok_isInt {f fW : Addr} {fd fdW : FuncData} (T : Nm mg) (FW : Df K mg "is_whole" sWhole ["value"] fW fdW) (F : Df K mg "is_integer" sIsInt ["value", "low", "high"] f fd) : FnOk P w K mg base CX0 2 f fd ["value", "low", "high"] (spR K RInt) := by
  have GW : FnOk P w K mg base CX0 1 fW fdW ["value"] (spR K RWhole) := ok_whole T FW
  refine F.F.ok scIsInt (fun vs H Q E h => ?_) (fun cdv A outer s H vs Q E hr h => ?_)
  · obtain ⟨M, ds, d, L, hd, ⟨x, lo, hi, rfl, _⟩, q⟩ := h
    exact dpa_len hd
  · obtain ⟨M, ds, d, L, hd, ⟨x, lo, hi, rfl, rfl⟩, q⟩ := h
    cases hd with
    | cons h1 hd => cases hd with
      | cons h2 hd => cases hd with
        | cons h3 hd =>
          cases hd
          exact rb_ret (M := M) (xd_andT (xd_call L GW hr FW.g FW.F.kp FW.b (xa_cons (xd_name 0 rfl h1) xa_nil) ⟨.int x, rfl, rfl⟩) (xd_one (xd_chainI op_le op_le (xd_name 1 rfl h2) (xd_name 0 rfl h1) (xd_name 2 rfl h3)))) q
def spNeedZ (K : PySem.W.Frag) (C : Addr) : Sp := fun vs H Q _ => ∃ (M : List Addr) (a : Addr) (off : Int) (rs : List Row), vs = [.ref a] ∧ ZAt K C (hid M H) a off rs ∧ ∀ H1, Same H H1 → Q .non H1
theorem scNeedZ : FnScope ["value"] ["value"] (defScope sNeedZ) := ⟨rfl, rfl, rfl, by decide +kernel, rfl, by decide +kernel, by decide +kernel⟩
theorem ok_needZ {f : Addr} {fd : FuncData} (T : Nm mg) (Z : ZT K mg C) (I : ZI K C) (F : Df K mg "need_zone" sNeedZ ["value"] f fd) : FnOk P w K mg base CX0 1 f fd ["value"] (spNeedZ K C) := by
  refine F.F.ok scNeedZ (fun vs H Q E h => ?_) (fun cdv A outer s H vs Q E hr h => ?_)
  · obtain ⟨M, a, off, rs, rfl, _⟩ := h; rfl
  · obtain ⟨M, a, off, rs, rfl, hz, q⟩ := h
    have hty : ∀ H1, Same H H1 → TyX K H1 (.ref a) (.ref C) := fun H1 s1 => by
      obtain ⟨dx, r, e1, _⟩ := hz
      exact .base (.ins (s1 _ _ (hid_le _ _ e1)) Z.cl I.ha I.hn I.htk I.hm)
    exact rb_ifF ((xt_not (xt_val (M := M) (xd_isZ T.isi Z.mgC (xv_name 0 rfl) (hty H (Same.refl H)) hty I.yes))).to rfl) fun H1 s1 => rb_nil (q H1 s1)
/-! jumps -/
theorem any_int (ns : List Int) (n : Int) : (ns.any fun m => m == n) = decide (n ∈ ns) := by
  induction ns with
  | nil => simp
  | cons m ns ih =>
    rw [List.any_cons, ih]
    by_cases h : m = n
    · subst h; simp
    · have e : (m == n) = false := by simpa using h
      rw [e, Bool.false_or]
      have h' : n ≠ m := fun z => h z.symm
      by_cases k : n ∈ ns
      · rw [decide_eq_true k, decide_eq_true (List.mem_cons_of_mem _ k)]
      · rw [decide_eq_false k, decide_eq_false (by simp [h', k])]
theorem inI_R {X : Cx} {M : List Addr} {H : Hp} {v w : V} {n : Int} {ns : List Int} (hv : Dq X.K (hid M H) v (.int n)) (hw : Dq X.K (hid M H) w (.list (ns.map PyData.int)) ∨ Dq X.K (hid M H) w (.tuple (ns.map PyData.int))) {Q : VK} (q : Q (.bl (decide (n ∈ ns))) H) : rIn X.K false v w H Q := by
  rw [dp_int hv]
  rcases hw with hw | hw
  · obtain ⟨p, xs, rfl, hp, hx⟩ := dp_lst hw
    have e := int_all hx
    subst e
    exact ⟨p, _, rfl, .inl (SqL.of (hid_le _ _ hp)), rfl, flat_int ns, by rw [inV_int, any_int]; exact q⟩
  · obtain ⟨p, xs, rfl, hp, hx⟩ := dp_tup hw
    have e := int_all hx
    subst e
    exact ⟨p, _, rfl, .inr (same_seqT hid_le hp), rfl, flat_int ns, by rw [inV_int, any_int]; exact q⟩
theorem notInI_R {X : Cx} {M : List Addr} {H : Hp} {v w : V} {n : Int} {ns : List Int} (hv : Dq X.K (hid M H) v (.int n)) (hw : Dq X.K (hid M H) w (.list (ns.map PyData.int)) ∨ Dq X.K (hid M H) w (.tuple (ns.map PyData.int))) {Q : VK} (q : Q (.bl (!decide (n ∈ ns))) H) : rIn X.K true v w H Q := by
  rw [dp_int hv]
  rcases hw with hw | hw
  · obtain ⟨p, xs, rfl, hp, hx⟩ := dp_lst hw
    have e := int_all hx
    subst e
    exact ⟨p, _, rfl, .inl (SqL.of (hid_le _ _ hp)), rfl, flat_int ns, by rw [inV_int, any_int]; exact q⟩
  · obtain ⟨p, xs, rfl, hp, hx⟩ := dp_tup hw
    have e := int_all hx
    subst e
    exact ⟨p, _, rfl, .inr (same_seqT hid_le hp), rfl, flat_int ns, by rw [inV_int, any_int]; exact q⟩
section
variable {X : Cx} {M : List Addr} {σ : L2.St} {H : Hp} {a b : Expr} {pos : Pos} {n : Int} {ns : List Int} {sq : PyData}
theorem seq_of {K : PySem.W.Frag} {H : Hp} {w : V} (hs : sq = .list (ns.map PyData.int) ∨ sq = .tuple (ns.map PyData.int)) (h : Dq K H w sq) : Dq K H w (.list (ns.map PyData.int)) ∨ Dq K H w (.tuple (ns.map PyData.int)) := by
  rcases hs with rfl | rfl
  · exact .inl h
  · exact .inr h
theorem xt_inS (hs : sq = .list (ns.map PyData.int) ∨ sq = .tuple (ns.map PyData.int)) (ha : XD X M σ H a (.int n)) (hb : XD X M σ H b sq) (hm : behindInMarks .In b = false := by rfl) : XT X σ H (.Compare a [.In] [b] pos) (decide (n ∈ ns)) :=
  xt_cmp op_in_seq ha hb (fun H1 v w s hv hw Q q => inI_R hv (seq_of hs hw) (q H1 (Same.refl _))) hm
theorem xd_inS (hs : sq = .list (ns.map PyData.int) ∨ sq = .tuple (ns.map PyData.int)) (ha : XD X M σ H a (.int n)) (hb : XD X M σ H b sq) (hm : behindInMarks .In b = false := by rfl) : XD X M σ H (.Compare a [.In] [b] pos) (.bool (decide (n ∈ ns))) :=
  xd_cmp op_in_seq ha hb (fun H1 v w s hv hw Q q => inI_R hv (seq_of hs hw) (q _ H1 (Same.refl _) (.bl _))) hm
theorem xt_notInS (hs : sq = .list (ns.map PyData.int) ∨ sq = .tuple (ns.map PyData.int)) (ha : XD X M σ H a (.int n)) (hb : XD X M σ H b sq) (hm : behindInMarks .NotIn b = false := by rfl) : XT X σ H (.Compare a [.NotIn] [b] pos) (!decide (n ∈ ns)) :=
  xt_cmp op_notIn_seq ha hb (fun H1 v w s hv hw Q q => notInI_R hv (seq_of hs hw) (q H1 (Same.refl _))) hm
end
def okJs (js : List Int) : Prop := (∀ j ∈ js, okJ j) ∧ js.Nodup ∧ 1 ≤ js.length ∧ js.length ≤ 4
def RChk (ds es : List PyData) : Prop := ∃ (sq : PyData) (js : List Int), ds = [sq] ∧ (sq = .list (js.map PyData.int) ∨ sq = .tuple (js.map PyData.int)) ∧ okJs js ∧ es = js.map PyData.int
theorem okJ_B {j : Int} (h : okJ j) : isJumpB j = true := ab_le h
theorem scChk : FnScope ["jumps", "found", "item"] ["jumps"] (defScope sChk) := ⟨rfl, rfl, rfl, by decide +kernel, rfl, by decide +kernel, by decide +kernel⟩
theorem ok_chk {f fW fI : Addr} {fd fdW fdI : FuncData} (T : Nm mg) (hG : ∃ t, mg "GREATEST_JUMP" = some (.int 720 t)) (FW : Df K mg "is_whole" sWhole ["value"] fW fdW) (FI : Df K mg "is_jump" sIsJump ["value"] fI fdI) (F : Df K mg "checked_jumps" sChk ["jumps"] f fd) : FnOk P w K mg base CX0 2 f fd ["jumps"] (spL K RChk) := by
  have GW : FnOk P w K mg base CX0 1 fW fdW ["value"] (spR K RWhole) := ok_whole T FW
  have GI : FnOk P w K mg base CX0 1 fI fdI ["value"] (spR K RIsJump) := ok_isJump T hG FI
  refine F.F.ok scChk (fun vs H Q E h => ?_) (fun cdv A outer s H vs Q E hr h => ?_)
  · obtain ⟨M, ds, es, L, hd, ⟨sq, js, rfl, _⟩, q⟩ := h
    exact dpa_len hd
  · obtain ⟨M, ds, es, L, hd, ⟨sq, js, rfl, hsq, hjs, rfl⟩, q⟩ := h
    cases hd with
    | cons h1 h2 =>
      cases h2
      rename_i v0
      refine rb_setL 1 (xl_lst L xa_nil) (fun p xs H1 s1 hp h1p hxs => ?_) scChk.nd
      cases hxs
      have g0 : Same (hid M H) (hid (p :: M) H1) := hid_step hp s1
      have Lp : Live (p :: M) H1 := live_new L s1 (by rw [h1p]; simp)
      refine rb_forS (M := p :: M) hsq (xd_name 0 rfl (h1.up g0)) fun H3 s3 => ⟨fun k σ' H' => Same (hid (p :: M) H3) (hid (p :: M) H') ∧ Live (p :: M) H' ∧ Same H H' ∧ ∃ (a2 : Option V), σ' = [some v0, some (.ref p), a2] ∧ H' p = some (.lst ((js.take k).map V.int)),
        ⟨Same.refl _, Lp.mono s3, s1.trans s3, none, rfl, s3 _ _ h1p⟩, fun k σ' H' w => w.1, fun k it hk σ' H' v hw hv => ?_, fun σ' H' hw => ?_⟩
      · obtain ⟨z1, L4, z2, a2, rfl, hp4⟩ := hw
        obtain ⟨j, hj, rfl⟩ := map_get hk
        have hjm : j ∈ js := List.mem_of_getElem? hj
        have hnew : j ∉ js.take k := fun z => by
          have e : js = js.take k ++ j :: js.drop (k + 1) := by
            obtain ⟨hl, e⟩ := List.getElem?_eq_some_iff.mp hj
            rw [← e, List.getElem_cons_drop, List.take_append_drop]
          have nd := hjs.2.1
          rw [e, List.nodup_append] at nd
          exact nd.2.2 j z j (List.mem_cons_self ..) rfl
        have ev := dp_int hv
        subst ev
        refine rg_name 2 ?_ scChk.nd
        refine rb_ifF ((xt_or2 (xt_not (xt_val (M := p :: M) (xd_call L4 GW hr FW.g FW.F.kp FW.b (xa_cons (xv_name 2 rfl).int xa_nil) ⟨.int j, rfl, rfl⟩))) fun _ => xt_not (xt_val (M := p :: M) (xd_call L4 GI hr FI.g FI.F.kp FI.b (xa_cons (xv_name 2 rfl).int xa_nil) ⟨j, rfl, rfl⟩))).to (by rw [okJ_B (hjs.1 j hjm)]; rfl)) fun H5 s5 => ?_
        have hpM : p ∉ M := L.fresh hp
        refine rb_ifF ((xt_inS (M := M) (ns := js.take k) (.inl rfl) (xv_name 2 rfl).int (xd_name 1 rfl (.lst (by rw [hid_of hpM]; exact s5 _ _ hp4) (ints_dq _)))).to (decide_eq_false hnew)) fun H6 s6 => ?_
        have s46 := s5.trans s6
        refine rb_append (M := p :: M) (xs := (js.take k).map V.int) (List.mem_cons_self ..) (xv_name 1 rfl) (s46 _ _ hp4) (xv_name 2 rfl).int (by rw [List.length_map, List.length_take]; have := hjs.2.2.2; omega) fun v7 H7 s7 hv7 => rb_nil ?_
        have e7 := dp_int hv7
        subst e7
        have s47 := s46.trans s7
        refine ⟨?_, (L4.mono s47).upd, same_upd (z2.trans s47) hp, some (.int j), rfl, ?_⟩
        · rw [hid_cons_upd]; exact z1.trans (hid_mono s47)
        · rw [take_snoc hj, List.map_append]; exact upd_same
      · obtain ⟨z1, L4, z2, a2, rfl, hp4⟩ := hw
        rw [List.length_map, List.take_length] at hp4
        exact rb_retR (XV.go (xv_name 1 rfl) fun H5 s5 => q p _ H5 (z2.trans s5) hp (s5 _ _ hp4) (ints_dq _))
/-! zone_with -/
def spZW (K : PySem.W.Frag) (C : Addr) : Sp := fun vs H Q _ => ∃ (M : List Addr) (v : V) (f : Int) (sq : PyData) (items : List PyData) (st : List Step), vs = [.int f, v] ∧ Live M H ∧ Dq K (hid M H) v sq ∧ (sq = .list items ∨ sq = .tuple items) ∧ Items items st ∧ st.length ≤ 1000 ∧ okS st ∧
  ∀ y H1, Same H H1 → ZAt K C (hid M H1) y f (rowsP f st) → Q (.ref y) H1
theorem scZW : FnScope ["offset", "steps", "rows", "before", "item", "row"] ["offset", "steps"] (defScope sZW) := ⟨rfl, rfl, rfl, by decide +kernel, rfl, by decide +kernel, by decide +kernel⟩
theorem ok_zw {f fW fN fP fJ fI fF fZ et : Addr} {fd fdW fdN fdP fdJ fdI fdF fdZ : FuncData} (T : Nm mg) (hG : ∃ t, mg "GREATEST_JUMP" = some (.int 720 t)) (W : ZMk P w K mg base C fZ fdZ et) (FW : Df K mg "is_whole" sWhole ["value"] fW fdW) (FN : Df K mg "need_integer" sNeed ["value"] fN fdN) (FP : Df K mg "is_whole_pair" sPair ["value"] fP fdP)
    (FJ : Df K mg "jump_of" sJump ["row"] fJ fdJ) (FI : Df K mg "is_jump" sIsJump ["value"] fI fdI) (FF : Df K mg "can_follow" sFollow ["rows", "row"] fF fdF) (F : Df K mg "zone_with" sZW ["offset", "steps"] f fd) : FnOk P w K mg base CX0 6 f fd ["offset", "steps"] (spZW K C) := by
  have GN : FnOk P w K mg base CX0 5 fN fdN ["value"] (spR K RNeed) := (ok_need T FW FN).mono (by decide)
  have GP : FnOk P w K mg base CX0 5 fP fdP ["value"] (spR K RPair) := (ok_pair T FW FP).mono (by decide)
  have GF : FnOk P w K mg base CX0 5 fF fdF ["rows", "row"] (spR K RFollow) := (ok_follow T hG FJ FI FF).mono (by decide)
  refine F.F.ok scZW (fun vs H Q E h => ?_) (fun cdv A outer s H vs Q E hr h => ?_)
  · obtain ⟨M, v, f, sq, items, st, rfl, _⟩ := h; rfl
  · obtain ⟨M, v1, f, sq, items, st, rfl, L, h2, hsq, hit, hlen, ok, q⟩ := h
    have okr := okR_of (f := f) ok
    refine rb_expr (M := M) (d := .none) (xd_call L GN hr FN.g FN.F.kp FN.b (xa_cons (xv_name 0 rfl).int xa_nil) ⟨f, rfl, rfl⟩) fun Ha sa => ?_
    refine rb_ifF ((xt_not (xt_val (M := M) (xd_isS T.isi T.lst T.tup hsq (xd_name 1 rfl (h2.up (hid_mono sa)))))).to rfl) fun Hb sb => ?_
    have sab := sa.trans sb
    have La := L.mono sab
    refine rb_setL 2 (xl_lst La xa_nil) (fun p xs H1 s1 hp h1p hxs => ?_) scZW.nd
    cases hxs
    have k2 := (h2.up (hid_mono (M := M) sab)).up (hid_step hp s1)
    have Lp : Live (p :: M) H1 := live_new La s1 (by rw [h1p]; simp)
    refine rb_set 3 (M := p :: M) (xd_name 0 rfl (.int f)) (fun v H2 s2 hv => ?_) scZW.nd
    have e3 := dp_int hv
    subst e3
    have k3 := k2.up (hid_mono (M := p :: M) s2)
    have hp0 : H p = none := sab.free hp
    have s02 := (sab.trans s1).trans s2
    have hpM : p ∉ M := La.fresh hp
    refine rb_forS (M := p :: M) hsq (xd_name 1 rfl k3) fun H3 s3 => ⟨fun k σ' H' => Same (hid (p :: M) H3) (hid (p :: M) H') ∧ Live (p :: M) H' ∧ Same H H' ∧ ∃ (xs : List V) (a4 a5 : Option V), σ' = [some (.int f), some v1, some (.ref p), some (.int (offS f (st.take k))), a4, a5] ∧ H' p = some (.lst xs) ∧ DqAll K (hid (p :: M) H') xs ((rowsP f (st.take k)).map rowD),
      ⟨Same.refl _, (Lp.mono s2).mono s3, s02.trans s3, [], none, none, rfl, s3 _ _ (s2 _ _ h1p), .nil⟩, fun k σ' H' w => w.1, fun k it hk σ' H' v hw hv => ?_, fun σ' H' hw => ?_⟩
    · obtain ⟨z1, L4, z2, xs, a4, a5, rfl, hp4, hx4⟩ := hw
      obtain ⟨c, hc, hpr⟩ := hit.2 k it hk
      have hklt : k < st.length := (List.getElem?_eq_some_iff.mp hc).1
      obtain ⟨c1, c2⟩ := okr k _ (rowsP_at f st k c hc)
      rw [rowsP_take] at c2
      have hxl : xs.length < 100000 := by
        rw [dpa_len hx4, List.length_map, rowsP_len, List.length_take]
        omega
      refine rg_name 4 ?_ scZW.nd
      refine rb_ifF ((xt_not (xt_val (M := p :: M) (xd_call L4 GP hr FP.g FP.F.kp FP.b (xa_cons (xd_name 4 rfl hv) xa_nil) ⟨it, c, rfl, hpr, rfl⟩))).to rfl) fun H5 s5 => ?_
      have hv5 := hv.up (hid_mono (M := p :: M) s5)
      have L5 := L4.mono s5
      refine rb_set 5 (M := p :: M) (xd_tup L5 (xa_cons (pr_ix hpr (xd_name 4 rfl hv5) rfl) (xa_cons (xd_name 3 rfl (.int _)) (xa_cons (xd_add (xd_name 3 rfl (.int _)) (pr_ix hpr (xd_name 4 rfl hv5) rfl)) xa_nil)))) (fun v6 H6 s6 hv6 => ?_) scZW.nd
      have L6 := L5.mono s6
      have s46 := s5.trans s6
      have hx6 := hx4.up (hid_mono (M := p :: M) s46)
      have LM := Live.tail L6
      have hp6 : H6 p = some (.lst xs) := s46 _ _ hp4
      have kp : Dq K (hid M H6) (.ref p) (.list ((rowsP f (st.take k)).map rowD)) := .lst (by rw [hid_of hpM]; exact hp6) (hx6.up hid_weak)
      refine rb_ifF ((xt_not (xt_val (M := M) (xd_call LM GF hr FF.g FF.F.kp FF.b (xa_cons (xd_name 2 rfl kp) (xa_cons (xd_name 5 rfl (hv6.up hid_weak)) xa_nil)) ⟨_, (c.1, offS f (st.take k), offS f (st.take k) + c.2), rfl, rfl⟩))).to (by rw [c1, c2]; rfl)) fun H7 s7 => ?_
      refine rb_append (M := p :: M) (xs := xs) (List.mem_cons_self ..) (xv_name 2 rfl) (s7 _ _ hp6) (xd_name 5 rfl (hv6.up (hid_mono s7))) hxl fun v8 H8 s8 hv8 => ?_
      have s68 := s7.trans s8
      have s48 := s46.trans s68
      have hv9 : Dq K (hid (p :: M) (upd H8 p (.lst (xs ++ [v8])))) v6 (rowD (c.1, offS f (st.take k), offS f (st.take k) + c.2)) := by rw [hid_cons_upd]; exact hv6.up (hid_mono s68)
      refine rb_set 3 (M := p :: M) (xd_ixT (fun _ _ => rfl) (xd_name 5 rfl hv9) xd_int (show atI [PyData.int c.1, .int (offS f (st.take k)), .int (offS f (st.take k) + c.2)] 2 = some (.int (offS f (st.take k) + c.2)) from rfl)) (fun v10 H10 s10 hv10 => rb_nil ?_) scZW.nd
      have e10 := dp_int hv10
      subst e10
      have s4x : Same (hid (p :: M) H') (hid (p :: M) H10) := by
        refine (hid_mono (M := p :: M) s48).trans ?_
        have z := hid_mono (M := p :: M) s10
        rw [hid_cons_upd] at z
        exact z
      refine ⟨z1.trans s4x, (Live.upd (L6.mono s68)).mono s10, (same_upd (z2.trans s48) hp0).trans s10, xs ++ [v8], some v, some v6, ?_, s10 _ _ upd_same, ?_⟩
      · rw [take_snoc hc, off_snoc]
        rfl
      · rw [take_snoc hc, rowsP_snoc, List.map_append]
        refine dpa_app (hx4.up s4x) (.cons (hv8.up ?_) .nil)
        have z := hid_mono (M := p :: M) s10
        rw [hid_cons_upd] at z
        exact z
    · obtain ⟨z1, L4, z2, xs, a4, a5, rfl, hp4, hx4⟩ := hw
      rw [hit.1, List.take_length] at hx4
      have LM := Live.tail L4
      have kp : Dq K (hid M H') (.ref p) (.list ((rowsP f st).map rowD)) := .lst (by rw [hid_of hpM]; exact hp4) (hx4.up hid_weak)
      refine rb_retR ((xz_make (items := (chOf f st).map stepD) (cs := chOf f st) LM W hr (xd_name 0 rfl (.int f)) (XL.dd ((xl_comp (own := [("row", 5)]) (fun d => match d with | .tuple [x, _, z] => some (.tuple [x, z]) | _ => none) LM scZW.nd (xd_name 2 rfl kp)
        (blkOk_by (own := [("row", 5)]) (N := ["offset", "steps", "rows", "before", "item", "row"]) (sc := defScope sZW) (by decide +kernel)) (by rw [List.length_map, rowsP_len]; omega) (fun p d v H1 hd hp s1 Lp hv => ?_)).to ((fm_map rowD _ chD (fun _ => rfl) (rowsP f st)).trans (ch_rows f st))) LM) (.inl rfl) (items_ch _) okr (by rw [ch_len]; exact hlen)).go fun y H5 s5 hz => q y H5 (z2.trans s5) hz)
      obtain ⟨r, _, rfl⟩ := mem_row hd
      intro s0 H0 C0 cl fp
      refine rg_name 5 ?_ scZW.nd
      refine ⟨rfl, bt_nil ⟨Same.refl _, .inl ⟨rfl, _, rfl, fun s0 H0 C0 cl fp => ?_⟩⟩⟩
      exact XD.go (xd_tup Lp (xa_cons (xd_ixT (fun _ _ => rfl) (xd_name 5 rfl hv) xd_int rfl) (xa_cons (xd_ixT (fun _ _ => rfl) (xd_name 5 rfl hv) xd_int rfl) xa_nil))) fun v H2 s2 hv2 => ⟨s2, hv2⟩
end
end Zn

set_option Elab.async false
set_option linter.all false
set_option maxRecDepth 100000
set_option maxHeartbeats 8000000
namespace Dl
open PySem PySem.Spec PyProof.Rows L2
section
variable {X : Cx} {M : List Addr} {σ : L2.St} {H H' : Hp} {e a b c o elt tg iter : Expr} {ifs : List Expr} {scope : Scope} {own : List (Str × Nat)} {d d1 d2 : PyData} {ds ds2 es' : List PyData} {v : V} {pos p1 p2 p3 : Pos}
/-- [elt for tg in iter if ..], iter a tuple -/
theorem xl_compT (f : PyData → Option PyData) (L : Live M H) (hN : X.N.Nodup) (hit : XD X M σ H iter (.tuple ds)) (ok : BlkOk X.N X.env.scope scope own) (hz : ds.length ≤ 100000)
    (hst : ∀ p d v H1, d ∈ ds → H p = none → Same H H1 → Live (p :: M) H1 → Dq X.K (hid (p :: M) H1) v d → BG X scope tg v (wipe σ (own.map (·.2))) H1 fun σ2 H2 => wipe σ2 (own.map (·.2)) = wipe σ (own.map (·.2)) ∧ BT X scope ifs σ2 H2 fun k H3 =>
      Same H1 H3 ∧ ((k = true ∧ ∃ d', f d = some d' ∧ BE X scope elt σ2 H3 fun y H4 => Same H3 H4 ∧ Dq X.K (hid (p :: M) H4) y d') ∨ (k = false ∧ f d = none)))
    (hc : X.calm = true := by rfl) (hs : ∀ x, foldedSetIterable iter X.env x = pure x := by intro _; rfl) : XL X M σ H (.ListComp elt [⟨tg, iter, ifs, 0⟩] scope pos) (ds.filterMap f) := fun H1 s1 Q q =>
  ⟨_, pe_lc (own := own) hc hN (pi_tup re_) ok (fun _ _ _ _ _ => bg_) (fun _ _ _ _ _ => bt_) (fun _ _ _ _ _ => be_) hs, hit H1 s1 _ fun v H2 s2 hv => by
    obtain ⟨a, xs, rfl, ha, hx⟩ := dp_tup hv
    have L2' : Live M H2 := L.mono (s1.trans s2)
    refine ⟨a, rfl, ⟨xs, same_seqT hid_le ha⟩, fun p hp => ?_⟩
    have hp0 : H p = none := (s1.trans s2).free hp
    refine lc_tup (xs := xs) (a := a) (fun i H' => Same H2 H' ∧ ∃ acc, H' p = some (.lst acc) ∧ DqAll X.K (hid (p :: M) H') acc ((ds.take i).filterMap f)) ⟨same_new hp, [], upd_same, by simpa using DqAll.nil⟩ (fun i H' _ w => same_seqT w.1 (same_seqT hid_le ha)) (fun i x H' hi w => ?_) (fun H' w => ?_)
    · obtain ⟨sH, acc, hacc, hda⟩ := w
      obtain ⟨d, hd1, hd2⟩ := dpa_get' hx hi
      have etake : ds.take (i + 1) = ds.take i ++ [d] := by rw [List.take_add_one, hd1]; rfl
      have hlen : acc.length < sizeLine := by
        rw [dpa_len hda]
        have h1 : ((ds.take i).filterMap f).length ≤ (ds.take i).length := List.length_filterMap_le ..
        have h2 : (ds.take i).length ≤ i := by rw [List.length_take]; omega
        have h3 : i < ds.length := (List.getElem?_eq_some_iff.mp hd1).1
        have h4 : 100000 < sizeLine := by decide
        omega
      have Lp : Live (p :: M) H' := fun b hb => by
        rcases List.mem_cons.mp hb with z | hb
        · subst z; rw [hacc]; simp
        · exact L2'.mono sH b hb
      refine bg_mono (hst p d x H' (List.mem_of_getElem? hd1) hp0 ((s1.trans s2).trans sH) Lp (hd2.up (hid_step hp sH))) fun σ2 Ha ⟨hw, hbt⟩ => ⟨hw, bt_mono hbt fun k Hb ⟨sb, hk⟩ => ?_⟩
      rcases hk with ⟨hk, d', hf, hbe⟩ | ⟨hk, hf⟩
      · subst hk
        refine iteT (be_mono hbe fun y Hc ⟨sc, hy⟩ => ?_)
        have sd := sb.trans sc
        refine ⟨acc, sd _ _ hacc, hlen, fun b o e => ?_, acc ++ [y], upd_same, ?_⟩
        · rw [upd_ne (ne_of_none e hp)]
          exact sd _ _ (sH _ _ e)
        · have eh : hid (p :: M) (upd Hc p (.lst (acc ++ [y]))) = hid (p :: M) Hc := hid_upd_mem (List.mem_cons_self ..)
          rw [eh, etake, List.filterMap_append]
          have e2 : [d].filterMap f = [d'] := by simp [hf]
          rw [e2]
          exact dpa_app (hda.up (hid_mono sd)) (.cons hy .nil)
      · subst hk
        refine iteF ⟨sH.trans sb, acc, sb _ _ hacc, ?_⟩
        rw [etake, List.filterMap_append]
        have e2 : [d].filterMap f = [] := by simp [hf]
        rw [e2, List.append_nil]
        exact hda.up (hid_mono sb)
    · obtain ⟨sH, acc, hacc, hda⟩ := w
      have e1 : ds.take xs.length = ds := by rw [dpa_len hx]; exact List.take_length
      rw [e1] at hda
      refine q p acc H' (s2.trans sH) (s2.free hp) hacc (hda.up fun b o e => ?_)
      have n1 : b ∉ p :: M := fun z => by unfold hid at e; rw [if_pos z] at e; cases e
      rw [hid_of (fun z => n1 (List.mem_cons_of_mem _ z))]
      exact hid_le _ _ e⟩
/-- the greatest of some -/
def mx : List Int → Int
  | [] => 0
  | [x] => x
  | x :: y :: r => if mx (y :: r) ≤ x then x else mx (y :: r)
theorem mx_ok : ∀ {ns : List Int}, ns ≠ [] → mx ns ∈ ns ∧ ∀ y ∈ ns, y ≤ mx ns
  | [], h => absurd rfl h
  | [x], _ => ⟨List.mem_cons_self .., fun y hy => by rw [List.mem_singleton.mp hy]; exact Int.le_refl _⟩
  | x :: y :: r, _ => by
    obtain ⟨a, b⟩ := mx_ok (ns := y :: r) (by simp)
    unfold mx
    split
    · rename_i z
      refine ⟨List.mem_cons_self .., fun u hu => ?_⟩
      rcases List.mem_cons.mp hu with e | hu
      · rw [e]; exact Int.le_refl _
      · exact Int.le_trans (b u hu) z
    · rename_i z
      refine ⟨List.mem_cons_of_mem _ a, fun u hu => ?_⟩
      rcases List.mem_cons.mp hu with e | hu
      · rw [e]; omega
      · exact b u hu
theorem mx_same {ns ms : List Int} (h : ∀ k, k ∈ ns ↔ k ∈ ms) (hn : ns ≠ []) (hm : ms ≠ []) : mx ns = mx ms := by
  obtain ⟨a1, b1⟩ := mx_ok hn
  obtain ⟨a2, b2⟩ := mx_ok hm
  have := b2 _ ((h _).mp a1)
  have := b1 _ ((h _).mpr a2)
  omega
theorem xd_maxL {ns : List Int} (hm : X.mg "max" = none) (hn : ns ≠ []) (ha : XD X M σ H e (.list (ns.map PyData.int))) (hc : X.calm = true := by rfl) (hg : Gl X "max" := by rfl)
    (he : starEach [e] X.env = (false, eval e X.env) :: starEach [] X.env := by rfl) (hpl : (backTo p2 (starEach [] X.env)).any (·.1) = false := by rfl) : XD X M σ H (.Call (.Name "max" p1) [e] [] p2) (.int (mx ns)) := fun H1 s1 Q q =>
  re_B (cr_max hc) (ra_1 (ha H1 s1 _ fun v H2 s2 hv => by
    obtain ⟨a, xs, rfl, ha, hx⟩ := dp_lst hv
    have ex := ints_v hx
    subst ex
    refine ⟨a, ns, rfl, SqL.of (hid_le _ _ ha), by have := List.length_pos_iff.mpr hn; omega, fun m h1 h2 => ?_⟩
    obtain ⟨a1, b1⟩ := mx_ok hn
    have e : m = mx ns := by
      have := h2 _ a1
      have := b1 _ h1
      omega
    rw [e]
    exact q _ H2 s2 (.int _)) he) hm (by decide +kernel) hg (by decide) (by decide) he hpl
/-- sorted, as a list -/
def insI (x : Int) : List Int → List Int
  | [] => [x]
  | y :: ys => if x ≤ y then x :: y :: ys else y :: insI x ys
def isort : List Int → List Int
  | [] => []
  | x :: xs => insI x (isort xs)
theorem mem_ins (x k : Int) : ∀ ys : List Int, k ∈ insI x ys ↔ k = x ∨ k ∈ ys
  | [] => by simp [insI]
  | y :: ys => by
    unfold insI
    split
    · rw [List.mem_cons]
    · rw [List.mem_cons, mem_ins x k ys, List.mem_cons]
      constructor
      · rintro (h | h | h)
        · exact .inr (.inl h)
        · exact .inl h
        · exact .inr (.inr h)
      · rintro (h | h | h)
        · exact .inr (.inl h)
        · exact .inl h
        · exact .inr (.inr h)
theorem mem_isort (k : Int) : ∀ xs : List Int, k ∈ isort xs ↔ k ∈ xs
  | [] => Iff.rfl
  | x :: xs => by
    unfold isort
    rw [mem_ins, mem_isort k xs, List.mem_cons]
theorem asc_ins {x : Int} : ∀ {ys : List Int}, ys.Pairwise (· < ·) → x ∉ ys → (insI x ys).Pairwise (· < ·)
  | [], _, _ => List.pairwise_singleton _ _
  | y :: ys, h, n => by
    obtain ⟨h1, h2⟩ := List.pairwise_cons.mp h
    have ne : x ≠ y := fun z => n (z ▸ List.mem_cons_self ..)
    unfold insI
    split
    · refine List.pairwise_cons.mpr ⟨fun u hu => ?_, h⟩
      rcases List.mem_cons.mp hu with e | hu
      · rw [e]; omega
      · have := h1 u hu; omega
    · refine List.pairwise_cons.mpr ⟨fun u hu => ?_, asc_ins h2 fun z => n (List.mem_cons_of_mem _ z)⟩
      rcases (mem_ins x u ys).mp hu with e | hu
      · rw [e]; omega
      · exact h1 u hu
theorem asc_isort : ∀ {xs : List Int}, xs.Nodup → (isort xs).Pairwise (· < ·)
  | [], _ => .nil
  | x :: xs, h => by
    obtain ⟨h1, h2⟩ := List.nodup_cons.mp h
    exact asc_ins (asc_isort h2) fun z => h1 ((mem_isort x xs).mp z)
theorem len_ins (x : Int) : ∀ ys : List Int, (insI x ys).length = ys.length + 1
  | [] => rfl
  | y :: ys => by
    unfold insI
    split
    · rfl
    · rw [List.length_cons, len_ins x ys, List.length_cons]
theorem len_isort : ∀ xs : List Int, (isort xs).length = xs.length
  | [] => rfl
  | x :: xs => by unfold isort; rw [len_ins, len_isort xs]; rfl
end
end Dl
namespace Zn
open PySem PySem.Spec PyProof.Rows L2 Dl
/-! ### kinds -/
abbrev sKInit : Stmt := inClass (top 34) 0
abbrev sKJumps : Stmt := inClass (top 34) 1
abbrev sKApart : Stmt := inClass (top 34) 2
abbrev sKMost : Stmt := inClass (top 34) 3
abbrev sKCont : Stmt := inClass (top 34) 4
abbrev sKEq : Stmt := inClass (top 34) 5
abbrev sHas : Stmt := inClass (top 34) 6
abbrev sWhy : Stmt := inClass (top 34) 7
def kf (t : Addr) (ap mo : Int) : List (Str × V) := [("sizes", .ref t), ("distance", .int ap), ("many", .int mo)]
theorem kf_s (t : Addr) (ap mo : Int) : (kf t ap mo).lookup ("sizes" : Str) = some (.ref t) := by
  unfold kf
  simp [List.lookup]
theorem kf_d (t : Addr) (ap mo : Int) : (kf t ap mo).lookup ("distance" : Str) = some (.int ap) := by
  unfold kf
  simp [List.lookup, show (("distance" : Str) == ("sizes" : Str)) = false by decide +kernel]
theorem kf_m (t : Addr) (ap mo : Int) : (kf t ap mo).lookup ("many" : Str) = some (.int mo) := by
  unfold kf
  simp [List.lookup, show (("many" : Str) == ("sizes" : Str)) = false by decide +kernel, show (("many" : Str) == ("distance" : Str)) = false by decide +kernel]
theorem kf_none {m : Str} (t : Addr) (ap mo : Int) (h1 : (m == ("sizes" : Str)) = false) (h2 : (m == ("distance" : Str)) = false) (h3 : (m == ("many" : Str)) = false) : (kf t ap mo).lookup m = none := by
  unfold kf
  simp [List.lookup, h1, h2, h3]
theorem kf_put1 (t : Addr) (ap : Int) : putF "distance" (.int ap) [(("sizes" : Str), V.ref t)] = [(("sizes" : Str), V.ref t), (("distance" : Str), V.int ap)] := by
  show (if ("sizes" : Str) = "distance" then _ else (("sizes" : Str), V.ref t) :: [(("distance" : Str), V.int ap)]) = _
  rw [if_neg (by decide +kernel)]
theorem kf_put2 (t : Addr) (ap mo : Int) : putF "many" (.int mo) [(("sizes" : Str), V.ref t), (("distance" : Str), V.int ap)] = kf t ap mo := by
  show (if ("sizes" : Str) = "many" then _ else (("sizes" : Str), V.ref t) :: (if ("distance" : Str) = "many" then _ else (("distance" : Str), V.int ap) :: [(("many" : Str), V.int mo)])) = _
  rw [if_neg (by decide +kernel), if_neg (by decide +kernel)]
  rfl
/-- a kind as it was told -/
structure Kd where
  js : List Int
  ap : Int
  mo : Int
def floorK (js : List Int) : Int := 2 * mx (js.map ab)
structure KOk (k : Kd) : Prop where
  js : okJs k.js
  ap : floorK k.js < k.ap
  m0 : 0 ≤ k.mo
  m1 : k.mo ≤ 3
/-- at a a kind of the class at C -/
def KAt (K : PySem.W.Frag) (C : Addr) (H : Hp) (a : Addr) (k : Kd) : Prop := ∃ dx t, H a = some (.ins C dx (kf t k.ap k.mo)) ∧ Dq K H (.ref t) (.tuple ((isort k.js).map PyData.int))
theorem KAt.up {K : PySem.W.Frag} {C : Addr} {H H' : Hp} {a : Addr} {k : Kd} (h : KAt K C H a k) (s : Same H H') : KAt K C H' a k := by
  obtain ⟨dx, r, h1, h2⟩ := h
  exact ⟨dx, r, s _ _ h1, h2.up s⟩
structure KT (K : PySem.W.Frag) (mg : Str → Option Value) (C : Addr) : Prop where
  cl : Cls K C
  nS : NoAttr K C "sizes"
  nD : NoAttr K C "distance"
  nM : NoAttr K C "many"
  mgC : mg "Kind" = some (.ref C)
section
variable {X : Cx} {M : List Addr} {σ : L2.St} {H H' : Hp} {o : Expr} {pos : Pos} {K : PySem.W.Frag} {C pa : Addr} {k : Kd}
theorem xd_sizes (hZ : ∃ mg, KT X.K mg C) (h : KAt X.K C (hid M H) pa k) (ho : XV X σ H o (.ref pa)) (hb : attributeBase o "sizes" X.env (eval o X.env) = eval o X.env := by rfl) : XD X M σ H (.Attribute o "sizes" pos) (.tuple ((isort k.js).map PyData.int)) := by
  obtain ⟨dx, r, h1, h2⟩ := h
  obtain ⟨_, Z⟩ := hZ
  exact (xv_fld ho (hid_le _ _ h1) Z.cl Z.nS (kf_s r _ _) hb).dd h2
theorem xv_dist (hZ : ∃ mg, KT X.K mg C) (h : KAt X.K C (hid M H) pa k) (ho : XV X σ H o (.ref pa)) (hb : attributeBase o "distance" X.env (eval o X.env) = eval o X.env := by rfl) : XV X σ H (.Attribute o "distance" pos) (.int k.ap) := by
  obtain ⟨dx, r, h1, h2⟩ := h
  obtain ⟨_, Z⟩ := hZ
  exact xv_fld ho (hid_le _ _ h1) Z.cl Z.nD (kf_d r _ _) hb
theorem xv_many (hZ : ∃ mg, KT X.K mg C) (h : KAt X.K C (hid M H) pa k) (ho : XV X σ H o (.ref pa)) (hb : attributeBase o "many" X.env (eval o X.env) = eval o X.env := by rfl) : XV X σ H (.Attribute o "many" pos) (.int k.mo) := by
  obtain ⟨dx, r, h1, h2⟩ := h
  obtain ⟨_, Z⟩ := hZ
  exact xv_fld ho (hid_le _ _ h1) Z.cl Z.nM (kf_m r _ _) hb
end
def spKInit (K : PySem.W.Frag) (C : Addr) : Sp := fun vs H Q _ => ∃ (M : List Addr) (H0 : Hp) (y dx : Addr) (vq : V) (sq : PyData) (k : Kd), vs = [.ref y, vq, .int k.ap, .int k.mo] ∧ H = upd (upd H0 dx (.own y)) y (.ins C dx []) ∧ H0 y = none ∧ H0 dx = none ∧ dx ≠ y ∧ Live M H0 ∧
  Dq K (hid M H0) vq sq ∧ (sq = .list (k.js.map PyData.int) ∨ sq = .tuple (k.js.map PyData.int)) ∧ KOk k ∧ ∀ H1, Same H0 H1 → KAt K C (hid M H1) y k → Q .non H1
section
variable {P : Program} {w : World} {K : PySem.W.Frag} {mg : Str → Option Value} {base : Heap} {C : Addr}
theorem scKInit : FnScope ["self", "jumps", "apart", "most", "jump"] ["self", "jumps", "apart", "most"] (defScope sKInit) := ⟨rfl, rfl, rfl, by decide +kernel, rfl, by decide +kernel, by decide +kernel⟩
theorem fm_abs : ∀ js : List Int, (js.map PyData.int).filterMap (fun d => match d with | .int j => some (PyData.int (ab j)) | _ => none) = (js.map ab).map PyData.int
  | [] => rfl
  | j :: js => by rw [List.map_cons, List.filterMap_cons, List.map_cons, List.map_cons, ← fm_abs js]
theorem okJs_ne {js : List Int} (h : okJs js) : js ≠ [] := fun z => by
  have := h.2.2.1
  rw [z] at this
  simp at this
theorem ne_sort {js : List Int} (h : js ≠ []) : (isort js).map ab ≠ [] := fun z => by
  have e := congrArg List.length z
  rw [List.length_map, len_isort] at e
  exact h (List.length_eq_zero_iff.mp e)
theorem floor_sort {js : List Int} (h : js ≠ []) : 2 * mx ((isort js).map ab) = floorK js := by
  unfold floorK
  rw [mx_same (ns := (isort js).map ab) (ms := js.map ab) (fun k => ?_) (ne_sort h) (fun z => h (List.map_eq_nil_iff.mp z))]
  rw [List.mem_map, List.mem_map]
  constructor
  · rintro ⟨j, hj, e⟩; exact ⟨j, (mem_isort j js).mp hj, e⟩
  · rintro ⟨j, hj, e⟩; exact ⟨j, (mem_isort j js).mpr hj, e⟩
theorem ok_kinit {f fW fI fC fJ : Addr} {fd fdW fdI fdC fdJ : FuncData} (T : Nm mg) (hS : mg "sorted" = none) (Z : KT K mg C) (hG : ∃ t, mg "GREATEST_JUMP" = some (.int 720 t)) (hJ : ∃ t, mg "MOST_JUMPS" = some (.int 4 t)) (hM : ∃ t, mg "MOST_CHANGES" = some (.int 3 t)) (FW : Df K mg "is_whole" sWhole ["value"] fW fdW) (FI : Df K mg "is_integer" sIsInt ["value", "low", "high"] fI fdI)
    (FJ : Df K mg "is_jump" sIsJump ["value"] fJ fdJ) (FC : Df K mg "checked_jumps" sChk ["jumps"] fC fdC)
    {kV dc pm cd ct oc dV : Value} {od an : Option Addr} {osl : Array (Option Value)} (lk : K.lookup f = some ⟨oc, od, .func (PySem.W.fnOf "__init__" "Kind.__init__" (defArgs sKInit) (defBody sKInit) (defScope sKInit) dV kV dc pm an cd ct), osl⟩) (hcd : PySem.W.codeIn K cd "Kind.__init__" = true) :
    FnOk P w K mg base CX0 3 f (PySem.W.fnOf "__init__" "Kind.__init__" (defArgs sKInit) (defBody sKInit) (defScope sKInit) dV kV dc pm an cd ct) ["self", "jumps", "apart", "most"] (spKInit K C) := by
  have GW : FnOk P w K mg base CX0 2 fW fdW ["value"] (spR K RWhole) := (ok_whole T FW).mono (by decide)
  have GI : FnOk P w K mg base CX0 2 fI fdI ["value", "low", "high"] (spR K RInt) := ok_isInt T FW FI
  have GC : FnOk P w K mg base CX0 2 fC fdC ["jumps"] (spL K RChk) := ok_chk T hG FW FJ FC
  obtain ⟨tj, hJ⟩ := hJ
  obtain ⟨tm, hM⟩ := hM
  refine fn_of lk hcd scKInit (fun vs H Q E h => ?_) (fun A outer s H vs Q E hr h => ?_)
  · obtain ⟨M, H0, y, dx, vq, sq, k, rfl, _⟩ := h; rfl
  · obtain ⟨M, H0, y, dx, vq, sq, k, rfl, rfl, hy, hdx, hne, L, hq, hsq, hok, q⟩ := h
    suffices h : RB (cxOf CX0 P w K mg base ["self", "jumps", "apart", "most", "jump"] "Kind.__init__" (defScope sKInit) f cd A outer s (upd (upd H0 dx (.own y)) y (.ins C dx [])) E).nox (defBody sKInit) { nx := fun _ H' => Q .non H', rt := Q } (start ["self", "jumps", "apart", "most", "jump"] [V.ref y, vq, V.int k.ap, V.int k.mo]) (upd (upd H0 dx (.own y)) y (.ins C dx [])) by
      obtain ⟨t, h1, h2⟩ := h
      exact ⟨t, h1.nox, h2⟩
    have hjs := hok.js
    have hjl : (k.js.map PyData.int).length = k.js.length := List.length_map ..
    have hy1 : upd H0 dx (.own y) y = none := by rw [upd_ne (Ne.symm hne)]; exact hy
    have s0 : Same H0 (upd (upd H0 dx (.own y)) y (.ins C dx [])) := (same_new hdx).trans (same_new hy1)
    have eh : hid (y :: M) (upd (upd H0 dx (.own y)) y (.ins C dx [])) = hid M (upd H0 dx (.own y)) := hid_cons hy1
    have Ly : Live (y :: M) (upd (upd H0 dx (.own y)) y (.ins C dx [])) := (L.mono (same_new hdx)).cons hy1
    have hq1 : Dq K (hid (y :: M) (upd (upd H0 dx (.own y)) y (.ins C dx []))) vq sq := by rw [eh]; exact hq.up (hid_mono (same_new hdx))
    generalize hH : upd (upd H0 dx (.own y)) y (.ins C dx []) = H at s0 Ly hq1
    have hyH : H y = some (.ins C dx []) := by rw [← hH]; exact upd_same
    have lenS : ∀ {p1 p2 p3 : Pos}, XD (cxOf CX0 P w K mg base ["self", "jumps", "apart", "most", "jump"] "Kind.__init__" (defScope sKInit) f cd A outer s H E).nox (y :: M) (start ["self", "jumps", "apart", "most", "jump"] [V.ref y, vq, V.int k.ap, V.int k.mo]) H (.Call (.Name "len" p1) [.Name "jumps" p2] [] p3) (.int k.js.length) := fun {p1 p2 p3} => by
      rcases hsq with rfl | rfl
      · exact (xd_len T.len (xd_name 1 rfl hq1)).to (by rw [hjl])
      · exact (xd_lenT T.len (xd_name 1 rfl hq1)).to (by rw [hjl])
    refine rb_ifF ((xt_or2 (xt_not (xt_val (M := y :: M) (xd_isS T.isi T.lst T.tup hsq (xd_name 1 rfl hq1)))) fun _ => xt_not (xt_chainI (M := y :: M) op_le op_le xd_int lenS (xv_glob (v := .int 4) hJ ⟨tj, rfl⟩).int)).to (by
      have h1 := hjs.2.2.1
      have h2 := hjs.2.2.2
      rw [decide_eq_true (show (1 : Int) ≤ (k.js.length : Int) by omega), decide_eq_true (show (k.js.length : Int) ≤ 4 by omega)]
      rfl)) fun H1 s1 => ?_
    have hq2 := hq1.up (hid_mono (M := y :: M) s1)
    have L1 := Ly.mono s1
    refine rb_fld (pa := y) (dx := dx) (fs := []) (XD.go (M := y :: M) (xd_tupleL T.tup L1 (XL.dd (xl_sortedI (isort k.js) hS L1 (XL.dd (xl_call L1 GC hr FC.g FC.F.kp FC.b (xa_cons (xd_name 1 rfl hq2) xa_nil) ⟨sq, k.js, rfl, hsq, hjs, rfl⟩) L1) (by have := hjs.2.2.2; omega) hjs.2.1 (asc_isort hjs.2.1) (fun j => mem_isort j k.js)) L1)) fun v3 H3 s3 hv3 =>
      ⟨s3 _ _ (s1 _ _ hyH), (by decide), xv_name 0 rfl, fun H4 s4 => ?_⟩) Z.cl Z.nS
    obtain ⟨t, xs, rfl, ht, hxs⟩ := dp_tup hv3
    have s14 := s3.trans s4
    have L5 : Live (y :: M) (upd H4 y (.ins C dx (putF "sizes" (.ref t) []))) := (L1.mono s14).upd
    have s05 : Same H0 (upd H4 y (.ins C dx (putF "sizes" (.ref t) []))) := same_upd ((s0.trans s1).trans s14) hy
    have h5y : upd H4 y (.ins C dx (putF "sizes" (.ref t) [])) y = some (.ins C dx [("sizes", .ref t)]) := upd_same
    have ht5 : Dq K (hid (y :: M) (upd H4 y (.ins C dx (putF "sizes" (.ref t) [])))) (.ref t) (.tuple ((isort k.js).map PyData.int)) := by
      rw [hid_cons_upd]
      exact hv3.up (hid_mono s4)
    generalize upd H4 y (.ins C dx (putF "sizes" (.ref t) [])) = H5 at L5 s05 h5y ht5
    have ne := ne_sort (okJs_ne hjs)
    refine rb_ifF ((xt_or2 (xt_not (xt_val (M := y :: M) (xd_call L5 GW hr FW.g FW.F.kp FW.b (xa_cons (xv_name 2 rfl).int xa_nil) ⟨.int k.ap, rfl, rfl⟩))) fun _ => xt_cmpI (M := y :: M) op_le (xv_name 2 rfl).int (xd_mul xd_int (xd_maxL T.max ne (XL.dd ((xl_compT (own := [("jump", 4)]) (fun d => match d with | .int j => some (PyData.int (ab j)) | _ => none) L5 scKInit.nd
        ((xv_fld (xv_name 0 rfl) h5y Z.cl Z.nS (by simp [List.lookup])).dd ht5) (blkOk_by (own := [("jump", 4)]) (N := ["self", "jumps", "apart", "most", "jump"]) (sc := defScope sKInit) (by decide +kernel)) (by rw [List.length_map, len_isort]; have := hjs.2.2.2; omega) (fun p d v Hx hd hp sx Lp hv => ?cmp)).to (fm_abs _)) L5)) (.inl ⟨by decide, by decide⟩))).to (by
          rw [floor_sort (okJs_ne hjs), decide_eq_false (by have := hok.ap; omega)]
          rfl)) fun H6 s6 => ?_
    case cmp =>
      obtain ⟨j, _, rfl⟩ := List.mem_map.mp hd
      have ej := dp_int hv
      subst ej
      intro s0 H0 C0 cl fp
      refine rg_name 4 ?_ scKInit.nd
      refine ⟨rfl, bt_nil ⟨Same.refl _, .inl ⟨rfl, _, rfl, fun s0 H0 C0 cl fp => ?_⟩⟩⟩
      exact XD.go (xd_abs T.abs (xv_name 4 rfl).int) fun v H2 s2 hv2 => ⟨s2, hv2⟩
    have L6 := L5.mono s6
    refine rb_ifF ((xt_not (xt_val (M := y :: M) (xd_call L6 GI hr FI.g FI.F.kp FI.b (xa_cons (xv_name 3 rfl).int (xa_cons xd_int (xa_cons (xv_glob (v := .int 3) hM ⟨tm, rfl⟩).int xa_nil))) ⟨k.mo, 0, 3, rfl, rfl⟩))).to (by
      rw [decide_eq_true hok.m0, decide_eq_true hok.m1]
      rfl)) fun H7 s7 => ?_
    have s57 := s6.trans s7
    have ht7 := ht5.up (hid_mono (M := y :: M) s57)
    refine rb_fld (pa := y) (dx := dx) (fs := [("sizes", .ref t)]) (XV.go (xv_name 2 rfl) fun H8 s8 => ⟨s8 _ _ (s57 _ _ h5y), (by show 1 < 1000; decide), xv_name 0 rfl, fun H9 s9 => ?_⟩) Z.cl Z.nD
    rw [kf_put1]
    have s79 := s8.trans s9
    have ht9 : Dq K (hid (y :: M) (upd H9 y (.ins C dx [("sizes", .ref t), ("distance", .int k.ap)]))) (.ref t) (.tuple ((isort k.js).map PyData.int)) := by
      rw [hid_cons_upd]
      exact ht7.up (hid_mono s79)
    have s09 : Same H0 (upd H9 y (.ins C dx [("sizes", .ref t), ("distance", .int k.ap)])) := same_upd ((s05.trans s57).trans s79) hy
    have h9y : upd H9 y (.ins C dx [("sizes", .ref t), ("distance", .int k.ap)]) y = some (.ins C dx [("sizes", .ref t), ("distance", .int k.ap)]) := upd_same
    generalize upd H9 y (.ins C dx [("sizes", .ref t), ("distance", .int k.ap)]) = Ha at ht9 s09 h9y
    refine rb_fld (pa := y) (dx := dx) (fs := [("sizes", .ref t), ("distance", .int k.ap)]) (XV.go (xv_name 3 rfl) fun Hb sb => ⟨sb _ _ h9y, (by show 2 < 1000; decide), xv_name 0 rfl, fun Hc sc => rb_nil (q _ (same_upd ((s09.trans sb).trans sc) hy) ?_)⟩) Z.cl Z.nM
    rw [kf_put2]
    refine ⟨dx, t, by rw [hid_of (L.fresh hy)]; exact upd_same, ?_⟩
    have hz : Same (hid (y :: M) Ha) (hid (y :: M) (upd Hc y (.ins C dx (kf t k.ap k.mo)))) := by
      rw [hid_cons_upd]
      exact hid_mono (sb.trans sc)
    exact (ht9.up hz).up hid_weak
/-! properties -/
def spKD (K : PySem.W.Frag) (C : Addr) (f : Kd → PyData) : Sp := fun vs H Q _ => ∃ (M : List Addr) (a : Addr) (k : Kd), vs = [.ref a] ∧ Live M H ∧ KAt K C (hid M H) a k ∧ ∀ v H1, Same H H1 → Dq K (hid M H1) v (f k) → Q v H1
theorem scKJumps : FnScope ["self"] ["self"] (defScope sKJumps) := ⟨rfl, rfl, rfl, by decide +kernel, rfl, by decide +kernel, by decide +kernel⟩
theorem ok_kjumps {f : Addr} {fd : FuncData} (Z : KT K mg C) (F : Fun K "jumps" "Kind.jumps" sKJumps f fd) : FnOk P w K mg base CX0 1 f fd ["self"] (spKD K C fun k => .tuple ((isort k.js).map PyData.int)) := by
  refine F.ok scKJumps (fun vs H Q E h => ?_) (fun cdv A outer s H vs Q E hr h => ?_)
  · obtain ⟨M, a, k, rfl, _⟩ := h; rfl
  · obtain ⟨M, a, k, rfl, L, hk, q⟩ := h
    exact rb_ret (M := M) (xd_sizes ⟨_, Z⟩ hk (xv_name 0 rfl)) q
theorem scKApart : FnScope ["self"] ["self"] (defScope sKApart) := ⟨rfl, rfl, rfl, by decide +kernel, rfl, by decide +kernel, by decide +kernel⟩
theorem ok_kapart {f : Addr} {fd : FuncData} (Z : KT K mg C) (F : Fun K "apart" "Kind.apart" sKApart f fd) : FnOk P w K mg base CX0 1 f fd ["self"] (spKD K C fun k => .int k.ap) := by
  refine F.ok scKApart (fun vs H Q E h => ?_) (fun cdv A outer s H vs Q E hr h => ?_)
  · obtain ⟨M, a, k, rfl, _⟩ := h; rfl
  · obtain ⟨M, a, k, rfl, L, hk, q⟩ := h
    exact rb_ret (M := M) (xv_dist ⟨_, Z⟩ hk (xv_name 0 rfl)).int q
theorem scKMost : FnScope ["self"] ["self"] (defScope sKMost) := ⟨rfl, rfl, rfl, by decide +kernel, rfl, by decide +kernel, by decide +kernel⟩
theorem ok_kmost {f : Addr} {fd : FuncData} (Z : KT K mg C) (F : Fun K "most" "Kind.most" sKMost f fd) : FnOk P w K mg base CX0 1 f fd ["self"] (spKD K C fun k => .int k.mo) := by
  refine F.ok scKMost (fun vs H Q E h => ?_) (fun cdv A outer s H vs Q E hr h => ?_)
  · obtain ⟨M, a, k, rfl, _⟩ := h; rfl
  · obtain ⟨M, a, k, rfl, L, hk, q⟩ := h
    exact rb_ret (M := M) (xv_many ⟨_, Z⟩ hk (xv_name 0 rfl)).int q
end
end Zn

set_option Elab.async false
set_option linter.all false
set_option maxRecDepth 100000
set_option maxHeartbeats 8000000
namespace Dl
open PySem PySem.Spec PyProof.Rows L2
section
variable {X : Cx} {M : List Addr} {σ : L2.St} {H H' : Hp} {e a b c o : Expr} {d d1 d2 : PyData} {ds ds2 : List PyData} {v : V} {pos p1 p2 p3 tpos : Pos} {D : Ends} {rest : List Stmt}
/-- for i, x in enumerate(e): .. -/
theorem rb_enum {elts : List Expr} {kk : Nat} {body : List Stmt} (hm : X.mg "enumerate" = none) (hit : XD X M σ H e (.list ds))
    (h : ∀ H1, Same H H1 → ∃ Pv : Nat → L2.St → Hp → Prop, Pv 0 σ H1 ∧ (∀ k σ' H', Pv k σ' H' → Same (hid M H1) (hid M H')) ∧
      (∀ k d, ds[k]? = some d → ∀ σ' H' T x, Pv k σ' H' → H' T = none → Dq X.K (hid M H') x d → RG X (.Tuple elts kk tpos) (.ref T) σ' (upd H' T (.tup [.int (k : Nat), x])) fun σ2 H2 => RB X body { D with nx := Pv (k + 1), ct := Pv (k + 1), bk := RB X rest D } σ2 H2) ∧ ∀ σ' H', Pv ds.length σ' H' → RB X rest D σ' H')
    (hg : Gl X "enumerate" := by rfl) (he : starEach [e] X.env = [(false, eval e X.env)] := by rfl) (hp : PassesOwn (model X.prog X.w) X.A X.env X.xe := by exact PassesOwn.never) (hc : X.calm = true := by rfl) (hs : ∀ x, foldedSetIterable (.Call (.Name "enumerate" p1) [e] [] p2) X.env x = pure x := by intro _; rfl) :
    RB X (.For (.Tuple elts kk tpos) (.Call (.Name "enumerate" p1) [e] [] p2) body [] pos :: rest) D σ H :=
  ⟨_, pss_cons (ps_for hp hc (pi_enum hg hm ra_ he) rg_ rb_ hs) rb_, ra_1 (hit H (Same.refl H) _ fun v H1 s1 hv => by
    obtain ⟨a, xs, rfl, ha, hx⟩ := dp_lst hv
    obtain ⟨Pv, h0, hk, hst, hd⟩ := h H1 s1
    have hlen := dpa_len hx
    refine ⟨a, xs, rfl, SqL.of (hid_le _ _ ha), fun i m σ' H' => m + i = xs.length ∧ Pv i σ' H', ⟨xs.length, rfl, h0⟩, fun i m σ' H' w => ?_⟩
    obtain ⟨hmi, hp⟩ := w
    have here : SqL X.K H' a xs := SqL.of (hid_le _ _ (hk i σ' H' hp _ _ ha))
    cases ex : xs[i]? with
    | none =>
      have hge : xs.length ≤ i := List.getElem?_eq_none_iff.mp ex
      have ei : i = ds.length := by omega
      subst ei
      exact .inl ⟨⟨xs, here, hge⟩, hd σ' H' hp⟩
    | some x0 =>
      have hlt := (List.getElem?_eq_some_iff.mp ex).1
      refine .inr ⟨⟨xs, x0, here, ex⟩, Pv (i + 1), fun σ2 H2 h2 => ⟨m - 1, by omega, by omega, h2⟩, fun v H2 hy => ?_⟩
      obtain ⟨T, x, rfl, hT, rfl, hx0⟩ := hy
      obtain ⟨d, hd1, hd2⟩ := dpa_get' hx (hx0 xs here)
      exact hst i d hd1 σ' H' T x hp hT (hd2.up (hk i σ' H' hp))) he⟩
/-- for tg in range(a, b): .. -/
theorem rb_range2 {tg : Expr} {body : List Stmt} {lo hi : Int} {n : Nat} (hm : X.mg "range" = none) (ha : XD X M σ H a (.int lo)) (hb : XD X M σ H b (.int hi)) (hn : (hi - lo).toNat = n) (hz : (-(1000000 : Int) ≤ lo ∧ lo ≤ 1000000) ∧ (-(1000000 : Int) ≤ hi ∧ hi ≤ 1000000))
    (h : ∀ H1, Same H H1 → ∃ Pv : Nat → L2.St → Hp → Prop, Pv 0 σ H1 ∧ (∀ k σ' H', k < n → Pv k σ' H' → RG X tg (.int (lo + (k : Int))) σ' H' fun σ2 H2 => RB X body { D with nx := Pv (k + 1), ct := Pv (k + 1), bk := RB X rest D } σ2 H2) ∧ ∀ σ' H', Pv n σ' H' → RB X rest D σ' H')
    (hg : Gl X "range" := by rfl) (he : starEach [a, b] X.env = (false, eval a X.env) :: starEach [b] X.env := by rfl) (he2 : starEach [b] X.env = (false, eval b X.env) :: starEach [] X.env := by rfl) (he3 : starEach [b] X.env = [(false, eval b X.env)] := by rfl)
    (hp : PassesOwn (model X.prog X.w) X.A X.env X.xe := by exact PassesOwn.never) (hc : X.calm = true := by rfl) (hs : ∀ x, foldedSetIterable (.Call (.Name "range" p1) [a, b] [] p2) X.env x = pure x := by intro _; rfl) : RB X (.For tg (.Call (.Name "range" p1) [a, b] [] p2) body [] pos :: rest) D σ H :=
  ⟨_, pss_cons (ps_for hp hc (pi_range2 hg hm ra_ (by rw [he, he3]) he3) rg_ rb_ hs) rb_, ra_cons (ha H (Same.refl H) _ fun v H1 s1 hv => ra_1 (hb H1 s1 _ fun u H2 s2 hu => by
    have b1 : (1000000 : Int) < 2 ^ 62 := by decide
    obtain ⟨Pv, h0, hst, hd⟩ := h H2 (s1.trans s2)
    refine ⟨lo, hi, by rw [dp_int hv, dp_int hu], ⟨by omega, by omega, by omega, by omega⟩, ?_⟩
    rw [hn]
    exact for_range Pv h0 (fun i σ' H' hi' p => hst i σ' H' hi' p) hd) he2) he⟩
/-- e is None -/
def isN : PyData → Bool
  | .none => true
  | _ => false
theorem dec_non {K : PySem.W.Frag} {H : Hp} {v : V} {d : PyData} (h : Dq K H v d) : decide (v = V.non) = isN d := by
  cases h <;> first | exact decide_eq_true rfl | exact decide_eq_false (fun z => V.noConfusion z)
theorem xd_isNone {j} (ha : XD X M σ H a d) (hm : behindInMarks .Is (.Constant .none j p1) = false := by rfl) : XD X M σ H (.Compare a [.Is] [.Constant .none j p1] pos) (.bool (isN d)) :=
  xd_cmp op_isN ha xd_non (fun H1 v w s hv hw Q q => ⟨dp_non hw, by rw [dec_non hv]; exact q _ H1 (Same.refl _) (.bl _)⟩) hm
theorem xt_isNone {j} (ha : XD X M σ H a d) (hm : behindInMarks .Is (.Constant .none j p1) = false := by rfl) : XT X σ H (.Compare a [.Is] [.Constant .none j p1] pos) (isN d) :=
  xt_cmp op_isN ha (xd_non (M := M)) (fun H1 v w s hv hw Q q => ⟨dp_non hw, by rw [dec_non hv]; exact q H1 (Same.refl _)⟩) hm
/-- the first number below n with p -/
def first (p : Nat → Bool) : Nat → Option Nat
  | 0 => none
  | n + 1 => match first p n with
    | some i => some i
    | none => if p n = true then some n else none
theorem first_snoc {p : Nat → Bool} {k : Nat} (h : first p k = none) (hp : p k = false) : first p (k + 1) = none := by
  unfold first
  rw [h]
  simp [hp]
theorem first_hit {p : Nat → Bool} {k : Nat} (h : first p k = none) (hp : p k = true) : ∀ {n : Nat}, k < n → first p n = some k
  | 0, hn => by omega
  | n + 1, hn => by
    by_cases z : k = n
    · subst z
      unfold first
      rw [h]
      simp [hp]
    · have q := first_hit h hp (n := n) (by omega)
      unfold first
      rw [q]
/-- tuples and lists of whole numbers, compared -/
theorem eqv_ints2 : ∀ ns ms : List Int, PyData.eqvAll (ns.map PyData.int) (ms.map PyData.int) = decide (ns = ms)
  | [], [] => by simp [PyData.eqvAll]
  | [], m :: ms => by simp [PyData.eqvAll]
  | n :: ns, [] => by simp [PyData.eqvAll]
  | n :: ns, m :: ms => by
    rw [List.map_cons, List.map_cons]
    show (PyData.eqv (.int n) (.int m) && PyData.eqvAll (ns.map PyData.int) (ms.map PyData.int)) = _
    rw [eqv_ints2 ns ms]
    by_cases h1 : n = m
    · by_cases h2 : ns = ms
      · simp [h1, h2, PyData.eqv]
      · simp [h1, h2, PyData.eqv]
    · simp [h1, PyData.eqv]
theorem lay_ints : ∀ ns : List Int, PyData.canLayAll0 (ns.map PyData.int) = true
  | [] => by simp [PyData.canLayAll0]
  | r :: rs => by
    rw [List.map_cons]
    show (PyData.canLay0 (.int r) && PyData.canLayAll0 (rs.map PyData.int)) = true
    rw [lay_ints rs]
    simp [PyData.canLay0]
theorem depth_ints : ∀ ns : List Int, PyData.depthAll (ns.map PyData.int) = 0
  | [] => by simp [PyData.depthAll]
  | r :: rs => by
    rw [List.map_cons]
    show max (PyData.depth (.int r)) (PyData.depthAll (rs.map PyData.int)) = 0
    rw [depth_ints rs]
    simp [PyData.depth]
theorem shaped_intsT (ns : List Int) : SeqAt.shaped (.tuple (ns.map PyData.int)) = true := by
  unfold SeqAt.shaped
  rw [show PyData.canLay0 (.tuple (ns.map PyData.int)) = PyData.canLayAll0 (ns.map PyData.int) by simp [PyData.canLay0], lay_ints, show PyData.depth (.tuple (ns.map PyData.int)) = PyData.depthAll (ns.map PyData.int) + 1 by simp [PyData.depth], depth_ints]
  simp
theorem shaped_ints (ns : List Int) : SeqAt.shaped (.list (ns.map PyData.int)) = true := by
  unfold SeqAt.shaped
  rw [show PyData.canLay0 (.list (ns.map PyData.int)) = PyData.canLayAll0 (ns.map PyData.int) by simp [PyData.canLay0], lay_ints, show PyData.depth (.list (ns.map PyData.int)) = PyData.depthAll (ns.map PyData.int) + 1 by simp [PyData.depth], depth_ints]
  simp
end
end Dl
namespace Zn
open PySem PySem.Spec PyProof.Rows L2 Dl
theorem jmp_rows : ∀ (f : Int) (st : List Step), (rowsP f st).map jmp = st.map (·.2)
  | _, [] => rfl
  | f, s :: st => by
    rw [rowsP_cons, List.map_cons, List.map_cons, jmp_rows]
    have e : jmp (s.1, f, f + s.2) = s.2 := by show f + s.2 - f = _; omega
    rw [e]
theorem jumps_rows (f : Int) (st : List Step) : (rowsP f st).map (fun r => PyData.int (jmp r)) = (st.map (·.2)).map PyData.int := by
  have h := congrArg (List.map PyData.int) (jmp_rows f st)
  rw [List.map_map] at h
  exact h
section
variable {X : Cx} {M : List Addr} {σ : L2.St} {H : Hp} {e o : Expr} {C : Addr} {off : Int} {rs : List Row} {pos apos p1 p2 : Pos} {f : Addr} {fd : FuncData}
/-- o.m(), a new list -/
theorem xl_z {m : Str} {g : Int → List Row → List PyData} {k : Nat} {pl : Sem Bool} (L : Live M H) (hc : Cls X.K C) (hM : Meth X.K C m f) (h1 : (m == ("base" : Str)) = false) (h2 : (m == ("rows" : Str)) = false) (F : FnOk X.prog X.w X.K X.mg X.base CX0 k f fd ["self"] (spML X.K C g)) (hr : Room k X.A) (hb : Binds X.K fd ["self"] [])
    (ho : XZ C X M σ H o off rs) (hlen : rs.length ≤ 1000)
    (ht : eval (.Call (.Attribute o m apos) [] [] pos) X.env = (do
      let ov ← eval o X.env
      standAt apos.atName
      let (f, first) ← holding [ov] (getMethod ov m pl)
      callWith pos f first (backTo pos (starEach [] X.env)) (backToKw pos (keywordEach [] X.env))) := by rfl) : XL X M σ H (.Call (.Attribute o m apos) [] [] pos) (g off rs) := fun H1 s Q q =>
  ⟨_, pe_meth0 re_ hc hM F hr hb .nil pass0 ht, ho H1 s _ fun y H2 s2 hz => by
    obtain ⟨dx, r, e1, e2⟩ := hz
    exact ⟨y, dx, _, rfl, hid_le _ _ e1, zf_none off r h1 h2, M, y, off, rs, rfl, L.mono (s.trans s2), ⟨dx, r, e1, e2⟩, hlen, fun p xs H3 s3 hp h3 hd => q p xs H3 (s2.trans s3) (s2.free hp) h3 hd⟩⟩
theorem xd_lenX (L : Live M H) (hs : PySem.W.findIn X.K (.ref C) "__len__" = some (some (.ref f))) (hf : PySem.W.isFn X.K (.ref f) = true) (F : FnOk X.prog X.w X.K X.mg X.base CX0 1 f fd ["self"] (spMD X.K C fun _ rs => .int rs.length)) (hr : Room 2 X.A) (hb : Binds X.K fd ["self"] []) (hm : X.mg "len" = none)
    (ho : XZ C X M σ H o off rs) (hlen : rs.length ≤ 1000) (hg : Gl X "len" := by rfl) (he : starEach [o] X.env = (false, eval o X.env) :: starEach [] X.env := by rfl) (hpl : (backTo pos (starEach [] X.env)).any (·.1) = false := by rfl) :
    XD X M σ H (.Call (.Name "len" p1) [o] [] pos) (.int rs.length) := fun H1 s Q q =>
  re_B (call_lenO hs hf F hr hb) (ra_1 (ho H1 s _ fun y H2 s2 hz => by
    have hz0 := hz
    obtain ⟨dx, r, e1, e2⟩ := hz
    exact ⟨y, dx, _, rfl, hid_le _ _ e1, M, y, off, rs, rfl, L.mono (s.trans s2), hz0, hlen, fun v H3 s3 hv => ⟨rs.length, dp_int hv, by omega, q _ H3 (s2.trans s3) (.int _)⟩⟩) he) hm (by decide +kernel) hg (by decide) (by decide) he hpl
/-- the expression tells a kind -/
def XK (C : Addr) (X : Cx) (M : List Addr) (σ : L2.St) (H : Hp) (e : Expr) (k : Kd) : Prop := ∀ H1, Same H H1 → ∀ Q : VK, (∀ y H2, Same H1 H2 → KAt X.K C (hid M H2) y k → Q (.ref y) H2) → RE X e σ H1 Q
theorem XK.go {Q : VK} {k : Kd} (h : XK C X M σ H e k) (q : ∀ y H2, Same H H2 → KAt X.K C (hid M H2) y k → Q (.ref y) H2) : RE X e σ H Q := h H (Same.refl H) Q q
theorem xk_v {pa : Addr} {k : Kd} (ho : XV X σ H o (.ref pa)) (hk : KAt X.K C (hid M H) pa k) : XK C X M σ H o k := fun H1 s Q q => ho H1 s Q fun H2 s2 => q pa H2 s2 (hk.up (hid_mono (s.trans s2)))
/-- isinstance(o, Kind) -/
theorem xd_isK {t : Value} {r : Bool} {v : V} (hm : X.mg "isinstance" = none) (hC : X.mg "Kind" = some (.ref C)) (ho : XV X σ H o v) (hup : ∀ H1, Same H H1 → TyX X.K H1 v t) (hk : PySem.W.kitOne X.K t (.ref C) = some r) (hg : Gl X "isinstance" := by rfl) (hgZ : Gl X "Kind" := by rfl)
    (he : starEach [o, .Name "Kind" p2] X.env = (false, eval o X.env) :: starEach [.Name "Kind" p2] X.env := by rfl) (he2 : starEach [.Name "Kind" p2] X.env = (false, eval (.Name "Kind" p2) X.env) :: starEach [] X.env := by rfl) (hpl : (backTo pos (starEach [.Name "Kind" p2] X.env)).any (·.1) = false := by rfl) :
    XD X M σ H (.Call (.Name "isinstance" p1) [o, .Name "Kind" p2] [] pos) (.bool r) := fun H1 s Q q =>
  re_B call_isi (ra_cons (ho H1 s _ fun H2 s2 => ra_1 (xv_glob (v := .ref C) hC rfl hgZ (by decide) H2 (Same.refl _) _ fun H3 s3 => ⟨v, .ref C, t, .ref C, r, rfl, .own C, hup H3 ((s.trans s2).trans s3), hk, q _ H3 (s2.trans s3) (.bl _)⟩) he2) he) hm (by decide +kernel) hg (by decide) (by decide) he hpl
end
/-! ### why_not -/
def pJ (js : List Int) (st : List Step) (i : Nat) : Bool := match st[i]? with
  | some s => !decide (s.2 ∈ js)
  | none => false
def pA (ap : Int) (st : List Step) (i : Nat) : Bool := match st[i]?, st[i + 1]? with
  | some s, some t => decide (t.1 - s.1 < ap)
  | _, _ => false
def whyD (k : Kd) (st : List Step) : PyData :=
  if (st.length : Int) > k.mo then .tuple [.str "most", .int st.length]
  else match first (pJ k.js st) st.length with
    | some i => .tuple [.str "jump", .int i]
    | none => match first (pA k.ap st) (st.length - 1) with
      | some i => .tuple [.str "apart", .int (1 + i)]
      | none => .none
def spWhy (K : PySem.W.Frag) (CZ CK : Addr) (f : Kd → List Step → PyData) : Sp := fun vs H Q _ => ∃ (M : List Addr) (a z : Addr) (k : Kd) (off : Int) (st : List Step), vs = [.ref a, .ref z] ∧ Live M H ∧ KAt K CK (hid M H) a k ∧ ZAt K CZ (hid M H) z off (rowsP off st) ∧ st.length ≤ 50 ∧ ∀ v H1, Same H H1 → Dq K (hid M H1) v (f k st) → Q v H1
section
variable {P : Program} {w : World} {K : PySem.W.Frag} {mg : Str → Option Value} {base : Heap} {CZ CK : Addr}
theorem isort_mem (js : List Int) (n : Int) : decide (n ∈ isort js) = decide (n ∈ js) := by
  by_cases h : n ∈ js
  · rw [decide_eq_true h, decide_eq_true ((mem_isort n js).mpr h)]
  · rw [decide_eq_false h, decide_eq_false fun z => h ((mem_isort n js).mp z)]
theorem moms_fm : ∀ cs : List (Int × Int), (cs.map stepD).filterMap (fun d => match d with | .tuple [x, _] => some x | _ => none) = (cs.map (·.1)).map PyData.int
  | [] => rfl
  | c :: cs => by rw [List.map_cons, List.filterMap_cons, List.map_cons, List.map_cons, ← moms_fm cs]; rfl
theorem moms_ch : ∀ (o : Int) (st : List Step), (chOf o st).map (·.1) = st.map (·.1)
  | _, [] => rfl
  | o, s :: st => by
    show s.1 :: (chOf (o + s.2) st).map (·.1) = _
    rw [moms_ch]
    rfl
theorem scWhy : FnScope ["self", "zone", "index", "jump", "moments", "moment", "offset"] ["self", "zone"] (defScope sWhy) := ⟨rfl, rfl, rfl, by decide +kernel, rfl, by decide +kernel, by decide +kernel⟩
theorem atN {ns : List Int} {i : Nat} {n : Int} (h : ns[i]? = some n) {j : Int} (hj : j = (i : Int)) : atI (ns.map PyData.int) j = some (.int n) := by
  rw [hj]
  exact atI_nat (by rw [List.getElem?_map, h]; rfl)
theorem ok_why {f fN fC fJ fL : Addr} {fd fdN fdC fdJ fdL : FuncData} (T : Nm mg) (hE : mg "enumerate" = none) (Z : ZT K mg CZ) (Y : KT K mg CK)
    (GN : FnOk P w K mg base CX0 2 fN fdN ["value"] (spNeedZ K CZ)) (FN : Df K mg "need_zone" sNeedZ ["value"] fN fdN)
    (GC : FnOk P w K mg base CX0 2 fC fdC ["self"] (spML K CZ fun _ rs => rs.map chD)) (MC : Mt K CZ "changes" "Zone.changes" sChanges ["self"] fC fdC)
    (GJ : FnOk P w K mg base CX0 2 fJ fdJ ["self"] (spML K CZ fun _ rs => rs.map fun r => .int (jmp r))) (MJ : Mt K CZ "jump_list" "Zone.jump_list" sJumps ["self"] fJ fdJ)
    (GL : FnOk P w K mg base CX0 1 fL fdL ["self"] (spMD K CZ fun _ rs => .int rs.length)) (ML : Mt K CZ "__len__" "Zone.__len__" sLen ["self"] fL fdL)
    (F : Fun K "why_not" "Kind.why_not" sWhy f fd) : FnOk P w K mg base CX0 3 f fd ["self", "zone"] (spWhy K CZ CK whyD) := by
  refine F.ok scWhy (fun vs H Q E h => ?_) (fun cdv A outer s H vs Q E hr h => ?_)
  · obtain ⟨M, a, z, k, off, st, rfl, _⟩ := h; rfl
  · obtain ⟨M, a, z, k, off, st, rfl, L, hk, hz, hlen, q⟩ := h
    have hrl : (rowsP off st).length ≤ 1000 := by rw [rowsP_len]; omega
    refine rb_exprR (re_call GN hr FN.g FN.F.kp FN.b (ra_1 (XV.go (xv_name 1 rfl) fun H1 s1 => ⟨M, z, off, _, rfl, hz.up (hid_mono s1), fun H2 s2 => ?_⟩)))
    have s02 := s1.trans s2
    have L2' := L.mono s02
    have hk2 := hk.up (hid_mono (M := M) s02)
    have hz2 := hz.up (hid_mono (M := M) s02)
    refine rb_if (xt_cmpI (M := M) op_gt (xd_lenX L2' ML.m.at_ ML.m.fn GL hr ML.b T.len (xz_v (xv_name 1 rfl) hz2) hrl) (xv_many ⟨_, Y⟩ hk2 (xv_name 0 rfl)).int) (fun e H3 s3 => ?_) (fun e H3 s3 => rb_nil ?_)
    · have e1 := of_decide_eq_true e
      rw [rowsP_len] at e1
      refine rb_ret (M := M) (xd_tup (L2'.mono s3) (xa_cons xd_str (xa_cons (xd_lenX (L2'.mono s3) ML.m.at_ ML.m.fn GL hr ML.b T.len (xz_v (xv_name 1 rfl) (hz2.up (hid_mono s3))) hrl) xa_nil))) fun v H4 s4 hv => q v H4 ((s02.trans s3).trans s4) ?_
      unfold whyD
      rw [if_pos e1]
      rw [rowsP_len] at hv
      exact hv
    · have e1 := of_decide_eq_false e
      rw [rowsP_len] at e1
      have s03 := s02.trans s3
      have L3 := L.mono s03
      have hz3 := hz.up (hid_mono (M := M) s03)
      refine rb_enum (M := M) hE (XL.dd ((xl_z L3 Z.cl MJ.m (by decide +kernel) (by decide +kernel) GJ hr MJ.b (xz_v (xv_name 1 rfl) hz3) hrl).to (jumps_rows off st)) L3) fun H4 s4 => ⟨fun i σ' H' => Same H4 H' ∧ first (pJ k.js st) i = none ∧ ∃ a2 a3, σ' = [some (.ref a), some (.ref z), a2, a3, none, none, none], ⟨Same.refl _, rfl, none, none, rfl⟩, fun i σ' H' w => hid_mono w.1, fun i it hi σ' H' t x w ht hv => ?_, fun σ' H' w => ?_⟩
      · obtain ⟨z1, hf, a2, a3, rfl⟩ := w
        obtain ⟨j, hj, rfl⟩ := map_get hi
        rw [List.getElem?_map] at hj
        cases es : st[i]? with
        | none => rw [es] at hj; cases hj
        | some sx =>
          rw [es] at hj
          cases hj
          have ev := dp_int hv
          subst ev
          have z2 : Same H4 (upd H' t (.tup [.int (i : Nat), .int sx.2])) := z1.trans (same_new ht)
          refine rg_tup (SqT.of upd_same) (rgs_cons (rg_name 2 (rgs_cons (rg_name 3 (rgs_nil ?_) scWhy.nd)) scWhy.nd))
          show RB _ _ _ _ (upd H' t (.tup [.int (i : Nat), .int sx.2]))
          generalize upd H' t (.tup [.int (i : Nat), .int sx.2]) = H5 at z2
          have s05 := (s03.trans s4).trans z2
          have hk5 := hk.up (hid_mono (M := M) s05)
          have ep : pJ k.js st i = !decide (sx.2 ∈ k.js) := by unfold pJ; rw [es]
          refine rb_if ((xt_notInS (M := M) (ns := isort k.js) (.inr rfl) (xv_name 3 rfl).int (xd_sizes ⟨_, Y⟩ hk5 (xv_name 0 rfl))).to (by rw [isort_mem, ← ep])) (fun e H6 s6 => ?_) (fun e H6 s6 => rb_nil (rb_nil ?_))
          · refine rb_ret (M := M) (xd_tup ((L.mono s05).mono s6) (xa_cons xd_str (xa_cons (xv_name 2 rfl).int xa_nil))) fun v H7 s7 hv => q v H7 ((s05.trans s6).trans s7) ?_
            unfold whyD
            rw [if_neg e1, first_hit hf e (List.getElem?_eq_some_iff.mp es).1]
            exact hv
          · exact ⟨z2.trans s6, first_snoc hf e, some (.int i), some (.int sx.2), rfl⟩
      · obtain ⟨z1, hf, a2, a3, rfl⟩ := w
        rw [List.length_map, List.length_map] at hf
        have s04 := (s03.trans s4).trans z1
        have L4 := L.mono s04
        have hz4 := hz.up (hid_mono (M := M) s04)
        refine rb_setC0 4 (M := M) (own := [("moment", 5), ("offset", 6)]) (fun d => match d with | .tuple [x, _] => some x | _ => none) L4 scWhy.nd (XL.dd ((xl_z L4 Z.cl MC.m (by decide +kernel) (by decide +kernel) GC hr MC.b (xz_v (xv_name 1 rfl) hz4) hrl).to (ch_rows off st)) L4)
          (blkOk_by (own := [("moment", 5), ("offset", 6)]) (N := ["self", "zone", "index", "jump", "moments", "moment", "offset"]) (sc := defScope sWhy) (by decide +kernel)) (by rw [List.length_map, ch_len]; omega) (fun p d v H1 hd hp s1 Lp hv => ?_) (fun p xs H5 s5 hp h5 hx => ?_)
        · obtain ⟨c, _, rfl⟩ := mem_step hd
          obtain ⟨t, rfl, ht⟩ := step_at hv
          intro s0 H0 C0 cl fp
          refine rg_tup (same_seqT hid_le ht) (rgs_cons (rg_name 5 (rgs_cons (rg_name 6 (rgs_nil ?_) scWhy.nd)) scWhy.nd))
          refine ⟨rfl, bt_nil ⟨Same.refl _, .inl ⟨rfl, _, rfl, fun s0 H0 C0 cl fp => ?_⟩⟩⟩
          exact XV.go (xv_name 5 rfl) fun H3 s3 => ⟨s3, .int c.1⟩
        rw [moms_fm (chOf off st), moms_ch] at hx
        have kp : Dq K (hid M H5) (.ref p) (.list ((st.map (·.1)).map PyData.int)) := .lst (by rw [hid_of (L4.fresh hp)]; exact h5) hx
        refine rb_range2 (M := M) (n := st.length - 1) T.rng xd_int (xd_len T.len (xd_name 4 rfl kp)) (by rw [List.length_map, List.length_map]; omega) ⟨⟨by decide, by decide⟩, by rw [List.length_map, List.length_map]; omega, by rw [List.length_map, List.length_map]; omega⟩ fun H6 s6 => ⟨fun i σ' H' => Same H6 H' ∧ first (pA k.ap st) i = none ∧ ∃ b2, σ' = [some (.ref a), some (.ref z), b2, a3, some (.ref p), none, none], ⟨Same.refl _, rfl, a2, rfl⟩, fun i σ' H' hi w => ?_, fun σ' H' w => ?_⟩
        · obtain ⟨y1, hf2, b2, rfl⟩ := w
          have s07 := ((s04.trans s5).trans s6).trans y1
          have hk7 := hk.up (hid_mono (M := M) s07)
          have kp7 := kp.up (hid_mono (M := M) (s6.trans y1))
          have l1 : i < st.length := by omega
          have l2 : i + 1 < st.length := by omega
          have g1 : (st.map (·.1))[i]? = some st[i].1 := by rw [List.getElem?_map, List.getElem?_eq_getElem l1]; rfl
          have g2 : (st.map (·.1))[i + 1]? = some st[i + 1].1 := by rw [List.getElem?_map, List.getElem?_eq_getElem l2]; rfl
          have ep : pA k.ap st i = decide (st[i + 1].1 - st[i].1 < k.ap) := by unfold pA; rw [List.getElem?_eq_getElem l1, List.getElem?_eq_getElem l2]
          refine rg_name 2 ?_ scWhy.nd
          refine rb_if ((xt_cmpI (M := M) op_lt (xd_sub (xd_ixL (fun _ _ => rfl) (xd_name 4 rfl kp7) (xv_name 2 rfl).int (atN g2 (by omega))) (xd_ixL (fun _ _ => rfl) (xd_name 4 rfl kp7) (xd_sub (xv_name 2 rfl).int xd_int) (atN g1 (by omega)))) (xv_dist ⟨_, Y⟩ hk7 (xv_name 0 rfl)).int).to ep.symm) (fun e H8 s8 => ?_) (fun e H8 s8 => rb_nil (rb_nil ?_))
          · refine rb_ret (M := M) (xd_tup ((L.mono s07).mono s8) (xa_cons xd_str (xa_cons (xv_name 2 rfl).int xa_nil))) fun v H9 s9 hv => q v H9 ((s07.trans s8).trans s9) ?_
            unfold whyD
            rw [if_neg e1, hf, first_hit hf2 e hi]
            exact hv
          · exact ⟨y1.trans s8, first_snoc hf2 e, _, rfl⟩
        · obtain ⟨y1, hf2, b2, rfl⟩ := w
          have s07 := ((s04.trans s5).trans s6).trans y1
          refine rb_ret (M := M) xd_non fun v H9 s9 hv => q v H9 (s07.trans s9) ?_
          unfold whyD
          rw [if_neg e1, hf, hf2]
          exact hv
end
end Zn

set_option Elab.async false
set_option linter.all false
set_option maxRecDepth 100000
set_option maxHeartbeats 8000000
namespace Zn
open PySem PySem.Spec PyProof.Rows L2 Dl
section
variable {X : Cx} {M : List Addr} {σ : L2.St} {H : Hp} {a b c e o : Expr} {CZ CK : Addr} {off : Int} {st : List Step} {pos apos p1 p2 : Pos} {f : Addr} {fd : FuncData} {kd kd' : Kd} {sq : PyData}
/-- o.why_not(e) -/
theorem xd_why {n : Nat} {g : Kd → List Step → PyData} {pl : Sem Bool} {m : Str} (L : Live M H) (hc : Cls X.K CK) (hM : Meth X.K CK m f) (h1 : (m == ("sizes" : Str)) = false) (h2 : (m == ("distance" : Str)) = false) (h3 : (m == ("many" : Str)) = false) (F : FnOk X.prog X.w X.K X.mg X.base CX0 n f fd ["self", "zone"] (spWhy X.K CZ CK g)) (hr : Room n X.A) (hb : Binds X.K fd ["self", "zone"] [])
    (ho : XK CK X M σ H o kd) (he : XZ CZ X M σ H e off (rowsP off st)) (hlen : st.length ≤ 50) (hst : starEach [e] X.env = (false, eval e X.env) :: starEach [] X.env := by rfl) (hpl : (backTo pos (starEach [] X.env)).any (·.1) = false := by rfl)
    (ht : eval (.Call (.Attribute o m apos) [e] [] pos) X.env = (do
      let ov ← eval o X.env
      standAt apos.atName
      let (f, first) ← holding [ov] (getMethod ov m pl)
      callWith pos f first (backTo pos (starEach [e] X.env)) (backToKw pos (keywordEach [] X.env))) := by rfl) : XD X M σ H (.Call (.Attribute o m apos) [e] [] pos) (g kd st) := fun H1 s Q q =>
  ⟨_, pe_meth re_ hc hM F hr hb .nil pass0 ra_ hst hpl ht, ho H1 s _ fun y H2 s2 hk => by
    have hk0 := hk
    obtain ⟨dx, r, e1, e2⟩ := hk
    refine ⟨y, dx, _, rfl, hid_le _ _ e1, kf_none _ _ _ h1 h2 h3, ra_1 (he H2 (s.trans s2) _ fun z H3 s3 hz => ?_) hst⟩
    rw [List.append_nil]
    exact ⟨M, y, z, kd, off, st, rfl, L.mono ((s.trans s2).trans s3), hk0.up (hid_mono s3), hz, hlen, fun v H4 s4 hv => q v H4 ((s2.trans s3).trans s4) hv⟩⟩
end
def hasD (k : Kd) (st : List Step) : PyData := .bool (isN (whyD k st))
def inK (js : List Int) : PyData → Bool
  | .int n => decide (n ∈ js)
  | _ => false
def spKCont (K : PySem.W.Frag) (C : Addr) : Sp := fun vs H Q _ => ∃ (M : List Addr) (a : Addr) (k : Kd) (v : V) (d : PyData), vs = [.ref a, v] ∧ Live M H ∧ KAt K C (hid M H) a k ∧ Dq K (hid M H) v d ∧ ∀ H1, Same H H1 → Q (.bl (inK k.js d)) H1
def sameK (k k' : Kd) : Bool := decide (isort k.js = isort k'.js) && (decide (k.ap = k'.ap) && decide (k.mo = k'.mo))
def spKEq (K : PySem.W.Frag) (C : Addr) : Sp := fun vs H Q _ => ∃ (M : List Addr) (a b : Addr) (k k' : Kd), vs = [.ref a, .ref b] ∧ Live M H ∧ KAt K C (hid M H) a k ∧ KAt K C (hid M H) b k' ∧ ∀ H1, Same H H1 → Q (.bl (sameK k k')) H1
section
variable {P : Program} {w : World} {K : PySem.W.Frag} {mg : Str → Option Value} {base : Heap} {CZ CK : Addr}
theorem scHas : FnScope ["self", "zone"] ["self", "zone"] (defScope sHas) := ⟨rfl, rfl, rfl, by decide +kernel, rfl, by decide +kernel, by decide +kernel⟩
theorem ok_has {f fW : Addr} {fd fdW : FuncData} (Y : KT K mg CK) (GW : FnOk P w K mg base CX0 3 fW fdW ["self", "zone"] (spWhy K CZ CK whyD)) (MW : Mt K CK "why_not" "Kind.why_not" sWhy ["self", "zone"] fW fdW) (F : Fun K "has" "Kind.has" sHas f fd) : FnOk P w K mg base CX0 4 f fd ["self", "zone"] (spWhy K CZ CK hasD) := by
  refine F.ok scHas (fun vs H Q E h => ?_) (fun cdv A outer s H vs Q E hr h => ?_)
  · obtain ⟨M, a, z, k, off, st, rfl, _⟩ := h; rfl
  · obtain ⟨M, a, z, k, off, st, rfl, L, hk, hz, hlen, q⟩ := h
    exact rb_ret (M := M) (xd_isNone (xd_why L Y.cl MW.m (by decide +kernel) (by decide +kernel) (by decide +kernel) GW hr MW.b (xk_v (xv_name 0 rfl) hk) (xz_v (xv_name 1 rfl) hz) hlen)) q
theorem scKCont : FnScope ["self", "x"] ["self", "x"] (defScope sKCont) := ⟨rfl, rfl, rfl, by decide +kernel, rfl, by decide +kernel, by decide +kernel⟩
theorem ok_kcont {f fW : Addr} {fd fdW : FuncData} (T : Nm mg) (Y : KT K mg CK) (FW : Df K mg "is_whole" sWhole ["value"] fW fdW) (F : Fun K "__contains__" "Kind.__contains__" sKCont f fd) : FnOk P w K mg base CX0 2 f fd ["self", "x"] (spKCont K CK) := by
  have GW : FnOk P w K mg base CX0 1 fW fdW ["value"] (spR K RWhole) := ok_whole T FW
  refine F.ok scKCont (fun vs H Q E h => ?_) (fun cdv A outer s H vs Q E hr h => ?_)
  · obtain ⟨M, a, k, v, d, rfl, _⟩ := h; rfl
  · obtain ⟨M, a, k, v, d, rfl, L, hk, hd, q⟩ := h
    by_cases hwh : whole d = true
    · obtain ⟨n, rfl⟩ : ∃ n, d = .int n := by
        cases d <;> first | exact ⟨_, rfl⟩ | exact absurd hwh Bool.false_ne_true
      refine rb_ret (M := M) (xd_andT (xd_call L GW hr FW.g FW.F.kp FW.b (xa_cons (xd_name 1 rfl hd) xa_nil) ⟨.int n, rfl, rfl⟩) (xd_one ((xd_inS (ns := isort k.js) (.inr rfl) (xd_name 1 rfl hd) (xd_sizes ⟨_, Y⟩ hk (xv_name 0 rfl))).to (by rw [isort_mem])))) fun v H1 s1 hv => ?_
      rw [dp_bl hv]
      exact q H1 s1
    · have e : whole d = false := by cases h : whole d <;> simp_all
      refine rb_ret (M := M) (xd_andF ((xd_call L GW hr FW.g FW.F.kp FW.b (xa_cons (xd_name 1 rfl hd) xa_nil) ⟨d, rfl, rfl⟩).to (by rw [e]))) fun v H1 s1 hv => ?_
      rw [dp_bl hv]
      have e2 : inK k.js d = false := by cases d <;> first | rfl | exact absurd rfl hwh
      rw [← e2]
      exact q H1 s1
/-- what the written part says of isinstance(.., Kind) -/
structure KI (K : PySem.W.Frag) (C : Addr) : Prop where
  ha : PySem.W.findIn K (.ref C) "__class__" = some (some (.builtin "object.__class__"))
  hn : PySem.W.specialIn K (.builtin "object.__class__") "__get__" = some (some (.builtin "getset_descriptor.__get__"))
  htk : PySem.W.takesIn K (.builtin "object.__class__") = some true
  hm : PySem.W.mroIn K C (.type "object") = some true
  yes : PySem.W.kitOne K (.ref C) (.ref C) = some true
theorem scKEq : FnScope ["self", "other"] ["self", "other"] (defScope sKEq) := ⟨rfl, rfl, rfl, by decide +kernel, rfl, by decide +kernel, by decide +kernel⟩
theorem ok_keq {f : Addr} {fd : FuncData} (T : Nm mg) (Y : KT K mg CK) (I : KI K CK) (F : Fun K "__eq__" "Kind.__eq__" sKEq f fd) : FnOk P w K mg base CX0 1 f fd ["self", "other"] (spKEq K CK) := by
  refine F.ok scKEq (fun vs H Q E h => ?_) (fun cdv A outer s H vs Q E hr h => ?_)
  · obtain ⟨M, a, b, k, k', rfl, _⟩ := h; rfl
  · obtain ⟨M, a, b, k, k', rfl, L, hk, hk', q⟩ := h
    have hty : ∀ H1, Same H H1 → TyX K H1 (.ref b) (.ref CK) := fun H1 s1 => by
      obtain ⟨dx, r, e1, _⟩ := hk'
      exact .base (.ins (s1 _ _ (hid_le _ _ e1)) Y.cl I.ha I.hn I.htk I.hm)
    refine rb_ifF ((xt_not (xt_val (M := M) (xd_isK T.isi Y.mgC (xv_name 1 rfl) hty I.yes))).to rfl) fun H1 s1 => ?_
    have h1 := hk.up (hid_mono (M := M) s1)
    have h2 := hk'.up (hid_mono (M := M) s1)
    have ee : PyData.eqv (.tuple ((isort k.js).map PyData.int)) (.tuple ((isort k'.js).map PyData.int)) = decide (isort k.js = isort k'.js) := by
      simp only [PyData.eqv]
      exact eqv_ints2 _ _
    refine rb_ret (M := M) (d := .bool (sameK k k')) ?_ fun v H2 s2 hv => by
      rw [dp_bl hv]
      exact q H2 (s1.trans s2)
    unfold sameK
    cases c1 : decide (isort k.js = isort k'.js) with
    | false => exact xd_andF ((xd_eqD hr.units (xd_sizes ⟨_, Y⟩ h1 (xv_name 0 rfl)) (xd_sizes ⟨_, Y⟩ h2 (xv_name 1 rfl)) (shaped_intsT _) (shaped_intsT _)).to (by rw [ee, c1]))
    | true =>
      refine xd_andT ((xd_eqD hr.units (xd_sizes ⟨_, Y⟩ h1 (xv_name 0 rfl)) (xd_sizes ⟨_, Y⟩ h2 (xv_name 1 rfl)) (shaped_intsT _) (shaped_intsT _)).to (by rw [ee, c1])) ?_
      rw [Bool.true_and]
      exact xd_and2 (xd_eqI (xv_dist ⟨_, Y⟩ h1 (xv_name 0 rfl)).int (xv_dist ⟨_, Y⟩ h2 (xv_name 1 rfl)).int) fun _ => xd_eqI (xv_many ⟨_, Y⟩ h1 (xv_name 0 rfl)).int (xv_many ⟨_, Y⟩ h2 (xv_name 1 rfl)).int
end
/-! ### Kind(..) -/
structure KMk (P : Program) (w : World) (K : PySem.W.Frag) (mg : Str → Option Value) (base : Heap) (C f : Addr) (fd : FuncData) : Prop where
  Z : KT K mg C
  mkk : Mk K C f
  G : FnOk P w K mg base CX0 3 f fd ["self", "jumps", "apart", "most"] (spKInit K C)
  b3 : Binds K fd ["self", "jumps", "apart", "most"] []
  b2 : ∃ t, Binds K fd ["self", "jumps", "apart", "most"] [.int 2 t]
structure KQ (P : Program) (w : World) (K : PySem.W.Frag) (mg : Str → Option Value) (base : Heap) (C f : Addr) (fd : FuncData) : Prop where
  E : ClsEq K C f
  G : FnOk P w K mg base CX0 1 f fd ["self", "other"] (spKEq K C)
  b : Binds K fd ["self", "other"] []
structure ZQ (P : Program) (w : World) (K : PySem.W.Frag) (mg : Str → Option Value) (base : Heap) (C f : Addr) (fd : FuncData) : Prop where
  E : ClsEq K C f
  G : FnOk P w K mg base CX0 1 f fd ["self", "other"] (spEqZ K C)
  b : Binds K fd ["self", "other"] []
section
variable {X : Cx} {M : List Addr} {σ : L2.St} {H : Hp} {a b c e o : Expr} {CZ CK C : Addr} {off off' : Int} {rs rs' : List Row} {st : List Step} {pos apos p1 p2 : Pos} {f : Addr} {fd : FuncData} {k k' : Kd} {sq : PyData}
theorem xk_make (L : Live M H) (W : KMk X.prog X.w X.K X.mg X.base CK f fd) (hr : Room 4 X.A) (hok : KOk k) (hsq : sq = .list (k.js.map PyData.int) ∨ sq = .tuple (k.js.map PyData.int)) (ha : XD X M σ H a sq) (hb : XD X M σ H b (.int k.ap)) (hc : XD X M σ H c (.int k.mo)) (hg : Gl X "Kind" := by rfl)
    (he : starEach [a, b, c] X.env = (false, eval a X.env) :: starEach [b, c] X.env := by rfl) (he2 : starEach [b, c] X.env = (false, eval b X.env) :: starEach [c] X.env := by rfl) (he3 : starEach [c] X.env = (false, eval c X.env) :: starEach [] X.env := by rfl) (hpl : (backTo pos (starEach [b, c] X.env)).any (·.1) = false := by rfl) :
    XK CK X M σ H (.Call (.Name "Kind" p1) [a, b, c] [] pos) k := fun H1 s Q q =>
  re_make W.mkk W.G hr W.Z.mgC W.b3 .nil (ra_cons (ha H1 s _ fun v H2 s2 hv => ra_cons (hb H2 (s.trans s2) _ fun u H3 s3 hu => ra_1 (hc H3 ((s.trans s2).trans s3) _ fun t H4 s4 ht y dx hy hdx hne => by
    rw [dp_int hu, dp_int ht]
    exact ⟨M, H4, y, dx, v, sq, k, rfl, rfl, hy, hdx, hne, L.mono (((s.trans s2).trans s3).trans s4), hv.up (hid_mono (s3.trans s4)), hsq, hok, fun H5 s5 hk => ⟨rfl, q y H5 (((s2.trans s3).trans s4).trans s5) hk⟩⟩) he3) he2) he) hg (by decide) he hpl
theorem xk_make2 (L : Live M H) (W : KMk X.prog X.w X.K X.mg X.base CK f fd) (hr : Room 4 X.A) (hok : KOk k) (hm : k.mo = 2) (hsq : sq = .list (k.js.map PyData.int) ∨ sq = .tuple (k.js.map PyData.int)) (ha : XD X M σ H a sq) (hb : XD X M σ H b (.int k.ap)) (hg : Gl X "Kind" := by rfl)
    (he : starEach [a, b] X.env = (false, eval a X.env) :: starEach [b] X.env := by rfl) (he2 : starEach [b] X.env = (false, eval b X.env) :: starEach [] X.env := by rfl) (hpl : (backTo pos (starEach [b] X.env)).any (·.1) = false := by rfl) :
    XK CK X M σ H (.Call (.Name "Kind" p1) [a, b] [] pos) k := fun H1 s Q q => by
  obtain ⟨t, b2⟩ := W.b2
  exact re_make (dvs := [.int 2]) W.mkk W.G hr W.Z.mgC b2 (.cons ⟨t, rfl⟩ .nil) (ra_cons (ha H1 s _ fun v H2 s2 hv => ra_1 (hb H2 (s.trans s2) _ fun u H3 s3 hu y dx hy hdx hne => by
    rw [dp_int hu]
    exact ⟨M, H3, y, dx, v, sq, k, by rw [hm]; rfl, rfl, hy, hdx, hne, L.mono ((s.trans s2).trans s3), hv.up (hid_mono s3), hsq, hok, fun H5 s5 hk => ⟨rfl, q y H5 ((s2.trans s3).trans s5) hk⟩⟩) he2) he) hg (by decide) he hpl
theorem xt_neK (L : Live M H) (W : KQ X.prog X.w X.K X.mg X.base CK f fd) (hr : Room 2 X.A) (ha : XK CK X M σ H a k) (hb : XK CK X M σ H b k') (hm : behindInMarks .NotEq b = false := by first | exact nomark _ | rfl) : XT X σ H (.Compare a [.NotEq] [b] pos) (!sameK k k') := fun H1 s Q q =>
  ⟨_, pt_cmpR (op_neO W.E W.G hr W.b) re_ re_ hm, ha H1 s _ fun y H2 s2 hz => hb H2 (s.trans s2) _ fun y' H3 s3 hz' => by
    have hz3 := hz.up (hid_mono s3)
    have h1 := hz3
    have h2 := hz'
    obtain ⟨dx, r, e1, _⟩ := h1
    obtain ⟨dy, r', e2, _⟩ := h2
    exact ⟨y, dx, _, y', dy, _, rfl, hid_le _ _ e1, rfl, hid_le _ _ e2, M, y, y', k, k', rfl, L.mono ((s.trans s2).trans s3), hz3, hz', fun H4 s4 => ⟨_, rfl, _, rfl, q H4 ((s2.trans s3).trans s4)⟩⟩⟩
theorem xt_eqK (L : Live M H) (W : KQ X.prog X.w X.K X.mg X.base CK f fd) (hr : Room 1 X.A) (ha : XK CK X M σ H a k) (hb : XK CK X M σ H b k') (hm : behindInMarks .Eq b = false := by first | exact nomark _ | rfl) : XT X σ H (.Compare a [.Eq] [b] pos) (sameK k k') := fun H1 s Q q =>
  ⟨_, pt_cmpR (op_eqO (tb := fun _ => True) W.E W.G hr W.b) re_ re_ hm, ha H1 s _ fun y H2 s2 hz => hb H2 (s.trans s2) _ fun y' H3 s3 hz' => by
    have hz3 := hz.up (hid_mono s3)
    have h1 := hz3
    have h2 := hz'
    obtain ⟨dx, r, e1, _⟩ := h1
    obtain ⟨dy, r', e2, _⟩ := h2
    exact ⟨y, dx, _, rfl, hid_le _ _ e1, .inl ⟨y', dy, _, rfl, hid_le _ _ e2⟩, M, y, y', k, k', rfl, L.mono ((s.trans s2).trans s3), hz3, hz', fun H4 s4 => ⟨_, rfl, _, rfl, q H4 ((s2.trans s3).trans s4)⟩⟩⟩
theorem xd_eqK (L : Live M H) (W : KQ X.prog X.w X.K X.mg X.base CK f fd) (hr : Room 1 X.A) (ha : XK CK X M σ H a k) (hb : XK CK X M σ H b k') (hm : behindInMarks .Eq b = false := by first | exact nomark _ | rfl) : XD X M σ H (.Compare a [.Eq] [b] pos) (.bool (sameK k k')) := fun H1 s Q q =>
  ⟨_, pe_cmpR (op_eqO (tb := fun _ => True) W.E W.G hr W.b) re_ re_ hm, ha H1 s _ fun y H2 s2 hz => hb H2 (s.trans s2) _ fun y' H3 s3 hz' => by
    have hz3 := hz.up (hid_mono s3)
    have h1 := hz3
    have h2 := hz'
    obtain ⟨dx, r, e1, _⟩ := h1
    obtain ⟨dy, r', e2, _⟩ := h2
    exact ⟨y, dx, _, rfl, hid_le _ _ e1, .inl ⟨y', dy, _, rfl, hid_le _ _ e2⟩, M, y, y', k, k', rfl, L.mono ((s.trans s2).trans s3), hz3, hz', fun H4 s4 => ⟨_, rfl, q _ H4 ((s2.trans s3).trans s4) (.bl _)⟩⟩⟩
theorem xt_neZ (L : Live M H) (W : ZQ X.prog X.w X.K X.mg X.base C f fd) (hr : Room 2 X.A) (ha : XZ C X M σ H a off rs) (hb : XZ C X M σ H b off' rs') (hm : behindInMarks .NotEq b = false := by first | exact nomark _ | rfl) : XT X σ H (.Compare a [.NotEq] [b] pos) (!decide (off = off' ∧ rs = rs')) := fun H1 s Q q =>
  ⟨_, pt_cmpR (op_neO W.E W.G hr W.b) re_ re_ hm, ha H1 s _ fun y H2 s2 hz => hb H2 (s.trans s2) _ fun y' H3 s3 hz' => by
    have hz3 := hz.up (hid_mono s3)
    have h1 := hz3
    have h2 := hz'
    obtain ⟨dx, r, e1, _⟩ := h1
    obtain ⟨dy, r', e2, _⟩ := h2
    exact ⟨y, dx, _, y', dy, _, rfl, hid_le _ _ e1, rfl, hid_le _ _ e2, M, y, y', off, rs, rfl, L.mono ((s.trans s2).trans s3), hz3, .inl ⟨off', rs', hz', fun H4 s4 => ⟨_, rfl, _, rfl, q H4 ((s2.trans s3).trans s4)⟩⟩⟩⟩
/-- d in a kind -/
theorem xd_inKd {d : PyData} (L : Live M H) (hs : PySem.W.findIn X.K (.ref CK) "__contains__" = some (some (.ref f))) (hf : PySem.W.isFn X.K (.ref f) = true) (F : FnOk X.prog X.w X.K X.mg X.base CX0 2 f fd ["self", "x"] (spKCont X.K CK)) (hr : Room 2 X.A) (hb : Binds X.K fd ["self", "x"] [])
    (ha : XD X M σ H a d) (hz : XK CK X M σ H b k) (hm : behindInMarks .In b = false := by first | exact nomark _ | rfl) : XD X M σ H (.Compare a [.In] [b] pos) (.bool (inK k.js d)) := fun H1 s Q q =>
  ⟨_, pe_cmpR (op_inO hs hf F hr hb) re_ re_ hm, ha H1 s _ fun v H2 s2 hv => hz H2 (s.trans s2) _ fun y H3 s3 hk3 => by
    have h1 := hk3
    obtain ⟨dx, r, e1, _⟩ := h1
    exact ⟨y, dx, _, rfl, hid_le _ _ e1, M, y, k, v, d, rfl, L.mono ((s.trans s2).trans s3), hk3, hv.up (hid_mono s3), fun H4 s4 => ⟨_, rfl, q _ H4 ((s2.trans s3).trans s4) (.bl _)⟩⟩⟩
/-- o.p, a property of a kind -/
theorem xd_kprop {pp : Addr} {m : Str} {g : Kd → PyData} (L : Live M H) (hc : Cls X.K CK) (hp : PropOf X.K CK m pp f) (F : FnOk X.prog X.w X.K X.mg X.base CX0 1 f fd ["self"] (spKD X.K CK g)) (hr : Room 2 X.A) (hb : Binds X.K fd ["self"] [])
    {pa : Addr} (ho : XV X σ H o (.ref pa)) (hk : KAt X.K CK (hid M H) pa k) (hab : attributeBase o m X.env (eval o X.env) = eval o X.env := by rfl) : XD X M σ H (.Attribute o m pos) (g k) := fun H1 s Q q => by
  have hk0 := hk
  obtain ⟨dx, r, e1, e2⟩ := hk
  exact re_prop (ho.up s) (s _ _ (hid_le _ _ e1)) hc hp F hr hb (fun H2 s2 => ⟨M, pa, k, rfl, L.mono (s.trans s2), hk0.up (hid_mono (s.trans s2)), fun v H3 s3 hv => q v H3 (s2.trans s3) hv⟩) hab
/-- zone_with(a, b) -/
theorem xz_with {items : List PyData} (L : Live M H) (F : FnOk X.prog X.w X.K X.mg X.base CX0 6 f fd ["offset", "steps"] (spZW X.K CZ)) (hr : Room 6 X.A) (FF : Df X.K X.mg "zone_with" sZW ["offset", "steps"] f fd) (ha : XD X M σ H a (.int off)) (hb : XD X M σ H b sq) (hsq : sq = .list items ∨ sq = .tuple items) (hit : Items items st) (hlen : st.length ≤ 1000) (hok : okS st)
    (hg : Gl X "zone_with" := by rfl) (he : starEach [a, b] X.env = (false, eval a X.env) :: starEach [b] X.env := by rfl) (he2 : starEach [b] X.env = (false, eval b X.env) :: starEach [] X.env := by rfl) (hpl : (backTo pos (starEach [b] X.env)).any (·.1) = false := by rfl) : XZ CZ X M σ H (.Call (.Name "zone_with" p1) [a, b] [] pos) off (rowsP off st) := fun H1 s Q q =>
  re_call F hr FF.g FF.F.kp FF.b (ra_cons (ha H1 s _ fun v H2 s2 hv => ra_1 (hb H2 (s.trans s2) _ fun u H3 s3 hu => ⟨M, u, off, sq, items, st, by rw [dp_int hv], L.mono ((s.trans s2).trans s3), hu, hsq, hit, hlen, hok, fun y H4 s4 hz => q y H4 ((s2.trans s3).trans s4) hz⟩) he2) he) hg (by decide) he hpl
end
end Zn

set_option Elab.async false
set_option linter.all false
set_option maxRecDepth 100000
set_option maxHeartbeats 8000000
namespace Zn
open PySem PySem.Spec PyProof.Rows L2 Dl
/-! k08: the law's own kinds -/
abbrev sLKind : Stmt := top 54
abbrev sLSteps : Stmt := top 55
section
variable {X : Cx} {M : List Addr} {σ : L2.St} {H : Hp} {a b e o hi : Expr} {pos p1 p2 : Pos} {xs : List V} {l : Addr} {Q : VK}
/-- o.pop(e) -/
theorem re_pop (ho : XV X σ H o (.ref l)) (h1 : H l = some (.lst xs)) (hz : xs.length ≤ 100000) (hi : ∀ H1, Same H H1 → RE X e σ H1 fun v H2 => ∃ r : Nat, v = .int (r : Int) ∧ H2 l = some (.lst xs) ∧ ∃ y, xs[r]? = some y ∧ Q y (upd H2 l (.lst (xs.eraseIdx r))))
    (hbase : attributeBase o "pop" X.env (eval o X.env) = eval o X.env := by rfl)
    (hfew : ((backTo p2 (starEach [e] X.env)).all (fun x => !x.1) && (backToKw p2 (keywordEach [] X.env)).all (fun x => x.1.isSome) && decide ([e].length + ([] : List Keyword).length + (if ([] : List Keyword).isEmpty then 0 else 1) < 30)) = true := by rfl)
    (hline : (p1.endLine == p2.line) = true := by rfl) (hs : starEach [e] X.env = (false, eval e X.env) :: starEach [] X.env := by rfl) (hplain : (backTo p2 (starEach [] X.env)).any (·.1) = false := by rfl) : RE X (.Call (.Attribute o "pop" p1) [e] [] p2) σ H Q :=
  ⟨_, pe_bm PySem.F.plainAttrs_list PySem.F.slot_list_pop PySem.F.type_list_pop mt_popAt re_ ra_ hbase hfew hline hs hplain,
    ho H (Same.refl H) _ fun H1 s1 => ⟨.inl ⟨rfl, xs, SqL.of (s1 _ _ h1)⟩, ra_1 (re_mono (hi H1 s1) fun v H2 ⟨r, ev, h2, y, hy, q⟩ => by
      have hr : r < xs.length := (List.getElem?_eq_some_iff.mp hy).1
      have b1 : (100000 : Int) < 2 ^ 63 := by decide
      refine ⟨l, xs, r, r, y, rfl, by rw [ev], h2, by omega, by omega, ?_, hy, q⟩
      unfold seqIndex?
      simp
      omega) hs⟩⟩
/-- a == b, whatever happens on the way -/
theorem rt_eqI {Q : Bool → Hp → Prop} (h : RE X a σ H fun v H1 => ∃ i : Int, v = .int i ∧ RE X b σ H1 fun w H2 => ∃ j : Int, w = .int j ∧ Q (decide (i = j)) H2) (hm : behindInMarks .Eq b = false := by first | exact nomark _ | rfl) : RT X (.Compare a [.Eq] [b] pos) σ H Q :=
  ⟨_, pt_cmpR op_eq re_ re_ hm, re_mono h fun v H1 ⟨i, ev, h1⟩ => re_mono h1 fun w H2 ⟨j, ew, q⟩ => by
    subst ev
    subst ew
    exact ⟨rfl, by rw [Dl.dec_int]; exact ⟨_, rfl, q⟩⟩⟩
/-- a[:hi] -/
theorem re_cutHi (h : RE X a σ H fun v H1 => ∃ p, v = .ref p ∧ RE X hi σ H1 fun w H2 => ∃ n : Int, w = .int n ∧ H2 p = some (.lst xs) ∧ ∀ q, H2 q = none → Q (.ref q) (upd H2 q (.lst (cutV xs none (some n))))) : RE X (.Subscript a (.Slice none (some hi) none p2) pos) σ H Q :=
  ⟨_, pe_slice sl_list re_ po_none (po_some re_), re_mono h fun v H1 ⟨p, ev, h1⟩ => re_mono h1 fun w H2 ⟨n, ew, hp, q⟩ => ⟨n, ew, p, xs, ev, SqL.of hp, q⟩⟩
end
theorem erase_perm : ∀ (ss : List Int) (r : Nat) (h : r < ss.length), (ss[r] :: ss.eraseIdx r).Perm ss
  | s :: ss, 0, _ => List.Perm.refl _
  | s :: ss, r + 1, h => by
    have hr : r < ss.length := by simpa using h
    have ih := erase_perm ss r hr
    rw [List.getElem_cons_succ, List.eraseIdx_cons_succ]
    exact (List.Perm.swap s ss[r] _).trans (ih.cons s)
instance (j : Int) : Decidable (okJ j) := by unfold okJ; infer_instance
theorem pop_perm {ss js : List Int} {r : Nat} (h : r < ss.length) : (ss.eraseIdx r ++ (js ++ [ss[r]])).Perm (ss ++ js) := by
  rw [← List.append_assoc]
  refine (List.perm_append_singleton _ _).trans ?_
  rw [← List.cons_append]
  exact (erase_perm ss r h).append_right js
theorem map_erase (f : Int → V) : ∀ (ss : List Int) (r : Nat), (ss.map f).eraseIdx r = (ss.eraseIdx r).map f
  | [], r => rfl
  | s :: ss, 0 => rfl
  | s :: ss, r + 1 => by
    rw [List.map_cons, List.eraseIdx_cons_succ, List.eraseIdx_cons_succ, List.map_cons, map_erase f ss r]
def kindD (k : Kd) : PyData := .tuple [.list (k.js.map PyData.int), .int k.ap, .int k.mo]
def stock : List Int := [60, -60, 30, -30, 1, -1, 720, -720, 45, -120]
theorem mem6 {z a b c d e f : Int} (h : z ∈ [a, b, c, d, e, f]) : z = a ∨ z = b ∨ z = c ∨ z = d ∨ z = e ∨ z = f := by simpa using h
theorem mx_small {js : List Int} (h : ∀ j ∈ js, okJ j) (hn : js ≠ []) : 0 < mx (js.map ab) ∧ mx (js.map ab) ≤ 720 := by
  obtain ⟨a, _⟩ := mx_ok (ns := js.map ab) (fun z => hn (List.map_eq_nil_iff.mp z))
  obtain ⟨j, hj, e⟩ := List.mem_map.mp a
  have q := h j hj
  unfold okJ at q
  rw [← e]
  unfold ab
  split <;> omega
def spLKind (K : PySem.W.Frag) : Sp := fun vs H Q _ => ∃ (M : List Addr) (b : Addr) (n : Nat), vs = [.ref b] ∧ Live M H ∧ BagAt H b n ∧ n ≤ 900000 ∧
  ∀ (k : Kd) v H1, KOk k → k.ap ≤ 200000 → SameB b H H1 → BagAt H1 b (n + 30) → Dq K (hid (b :: M) H1) v (kindD k) → Q v H1
theorem live_bag {M : List Addr} {H H' : Hp} {b : Addr} {n : Nat} (L : Live M H) (s : SameB b H H') (hB : BagAt H' b n) : Live (b :: M) H' := fun a ha => by
  rcases List.mem_cons.mp ha with e | ha
  · subst e; exact hB.some
  · by_cases e : a = b
    · subst e; exact hB.some
    · intro q0
      cases q1 : H a with
      | none => exact L a ha q1
      | some o => rw [s a o e q1] at q0; cases q0
section
variable {P : Program} {w : World} {K : PySem.W.Frag} {mg : Str → Option Value} {base : Heap}
theorem scLKind : FnScope ["_law_bag_here", "_law_stock", "_law_jumps", "_law_lap", "_law_jump", "_law_floor", "_law_apart"] ["_law_bag_here"] (defScope sLKind) := ⟨rfl, rfl, rfl, by decide +kernel, rfl, by decide +kernel, by decide +kernel⟩
theorem ok_lkind {f fT : Addr} {fd fdT : FuncData} (T : Nm mg) (FT : Df K mg "_law_take" sTake ["_law_bag_here", "_law_many"] fT fdT) (F : Df K mg "_law_kind" sLKind ["_law_bag_here"] f fd) : FnOk P w K mg base CX0 2 f fd ["_law_bag_here"] (spLKind K) := by
  have GT : FnOk P w K mg base CX0 1 fT fdT ["_law_bag_here", "_law_many"] spTake := ok_take FT
  refine F.F.ok scLKind (fun vs H Q E h => ?_) (fun cdv A outer s0 H vs Q E hr h => ?_)
  · obtain ⟨M, b, n, rfl, _⟩ := h; rfl
  · obtain ⟨M, b, n, rfl, L, hB, hn, q⟩ := h
    refine rb_setL 1 (M := []) (ds := stock.map PyData.int) (xl_lst Live.nil (xa_cons xd_int (xa_cons (xd_neg xd_int) (xa_cons xd_int (xa_cons (xd_neg xd_int) (xa_cons xd_int (xa_cons (xd_neg xd_int) (xa_cons xd_int (xa_cons (xd_neg xd_int) (xa_cons xd_int (xa_cons (xd_neg xd_int) xa_nil)))))))))) (by decide)) (fun s xs H1 s1 hs h1 hx => ?_) scLKind.nd
    have ex := ints_v (ns := stock) hx
    subst ex
    refine rb_setL 2 (M := []) (xl_lst Live.nil xa_nil) (fun p xs H2 s2 hp h2 hx2 => ?_) scLKind.nd
    cases hx2
    have hp0 : H p = none := s1.free hp
    have hs2 := s2 _ _ h1
    have nps : p ≠ s := fun z => by rw [z, h1] at hp; cases hp
    have npb : p ≠ b := fun z => by subst z; exact hB.some hp0
    have nsb : s ≠ b := fun z => by subst z; exact hB.some hs
    have hB2 := bag_sameB hB (s1.trans s2)
    -- the laps
    refine rb_range T.rng ?_
    refine re_addI (re_int xv_int fun H3 s3 => ⟨1, rfl, ?_⟩)
    refine re_take GT FT hr (xv_name 0 rfl) xv_int (bag_sameB hB2 s3) fun t1 H4 t10 t11 sB4 hB4 => ⟨t1, rfl, ?_⟩
    have sB24 : SameB b H2 H4 := (SameB.of s3).trans sB4
    refine ⟨(1 + t1).toNat, by rw [Int.toNat_of_nonneg (by omega)], by omega, fun i σ' H' => ∃ (ss js : List Int) (a3 a4 : Option V), σ' = [some (.ref b), some (.ref s), some (.ref p), a3, a4, none, none] ∧ SameB b H H' ∧ H' s = some (.lst (ss.map V.int)) ∧ H' p = some (.lst (js.map V.int)) ∧ BagAt H' b (n + 2 + 2 * i) ∧
        js.length = i ∧ ss.length + i = 10 ∧ (ss ++ js).Nodup ∧ ∀ j ∈ ss ++ js, okJ j, ?_, ?_, ?_⟩
    · refine ⟨stock, [], none, none, rfl, (SameB.of (s1.trans s2)).trans sB24, sB24 _ _ nsb hs2, sB24 _ _ npb h2, hB4.up (Same.refl _) (by omega), rfl, rfl, by decide, fun j hj => ?_⟩
      rw [List.append_nil] at hj
      unfold okJ
      rcases mem10 hj with e | e | e | e | e | e | e | e | e | e <;> (rw [e]; decide)
    · intro i σ' H' hin hw
      obtain ⟨ss, js, a3, a4, rfl, sB, hss, hjs, hBi, hjl, hsl, hnd, hok⟩ := hw
      refine rg_name 3 ?_ scLKind.nd
      have hi4 : i < 4 := by omega
      refine rb_setR 4 (re_pop (xv_name 1 rfl) hss (by rw [List.length_map]; omega) fun H5 s5 => ?_) scLKind.nd
      have hlen : ((ss.map V.int).length : Int) = (ss.length : Int) := by rw [List.length_map]
      have c200 : (200 : Nat) < 2 ^ 200 := by decide
      refine re_take GT FT hr (xv_name 0 rfl) (xv_lenS T.len (xv_name 1 rfl) (SqL.of (s5 _ _ hss))) (hBi.up s5 (Nat.le_refl _)) (fun r H6 r0 r1 sB6 hB6 => ?_) (by rw [hlen]; omega) (by rw [hlen]; omega)
      rw [hlen] at r1
      have hrl : r.toNat < ss.length := by omega
      have sB56 : SameB b H' H6 := (SameB.of s5).trans sB6
      refine ⟨r.toNat, by rw [Int.toNat_of_nonneg r0], sB6 _ _ nsb (s5 _ _ hss), .int ss[r.toNat], by rw [List.getElem?_map, List.getElem?_eq_getElem hrl]; rfl, ?_⟩
      rw [map_erase]
      have hp6 : upd H6 s (.lst ((ss.eraseIdx r.toNat).map V.int)) p = some (.lst (js.map V.int)) := by rw [upd_ne nps]; exact sB56 _ _ npb hjs
      refine rb_append (M := [p]) (xs := js.map V.int) (List.mem_singleton.mpr rfl) (xv_name 2 rfl) hp6 (xv_name 4 rfl).int (by rw [List.length_map]; omega) fun v7 H7 s7 hv7 => rb_nil ?_
      have e7 := dp_int hv7
      subst e7
      have hs7 : H7 s = some (.lst ((ss.eraseIdx r.toNat).map V.int)) := s7 _ _ upd_same
      have pp := pop_perm (js := js) hrl
      refine ⟨ss.eraseIdx r.toNat, js ++ [ss[r.toNat]], some (.int (i : Int)), some (.int ss[r.toNat]), rfl, fun a o n e => ?_, by rw [upd_ne (Ne.symm nps)]; exact hs7, by rw [List.map_append]; exact upd_same, ?_, by rw [List.length_append, hjl]; rfl, by rw [List.length_eraseIdx_of_lt hrl]; omega, pp.nodup_iff.mpr hnd, fun j hj => hok j (pp.mem_iff.mp hj)⟩
      · have nas : a ≠ s := ne_of_none e hs
        have nap : a ≠ p := ne_of_none e hp0
        rw [upd_ne nap]
        refine s7 _ _ ?_
        rw [upd_ne nas]
        exact sB56 a o n (sB a o n e)
      · obtain ⟨g, m, c, e1, e2, e3, e4, e5⟩ := hB6
        exact ⟨g, m, c, by rw [upd_ne (Ne.symm npb)]; exact s7 _ _ (by rw [upd_ne (Ne.symm nsb)]; exact e1), e2, e3, e4, by omega⟩
    · intro σ' H' hw
      obtain ⟨ss, js, a3, a4, rfl, sB, hss, hjs, hBi, hjl, hsl, hnd, hok⟩ := hw
      have hjs1 : okJs js := ⟨fun j hj => hok j (List.mem_append_right _ hj), (List.nodup_append.mp hnd).2.1, by omega, by omega⟩
      have hBi' : BagAt H' b (n + 12) := hBi.up (Same.refl _) (by omega)
      clear hBi
      -- floor, apart, what is returned
      have fin : ∀ (js2 : List Int) (p2 : Addr) (H5 : Hp), okJs js2 → SameB b H H5 → BagAt H5 b (n + 20) → H p2 = none → H5 p2 = some (.lst (js2.map V.int)) →
          RB (cxOf CX0 P w K mg base ["_law_bag_here", "_law_stock", "_law_jumps", "_law_lap", "_law_jump", "_law_floor", "_law_apart"] "_law_kind" (defScope sLKind) f cdv A outer s0 H E).nox ((defBody sLKind).drop 4) { nx := fun _ H1 => Q .non H1, rt := Q } [some (.ref b), some (.ref s), some (.ref p2), a3, a4, none, none] H5 := fun js2 pj H5 hj2 sB5 hB5 hpj0 hpj => by
        have npj : pj ≠ b := fun z => by subst z; exact hB.some hpj0
        have kj : Dq K (hid [b] H5) (.ref pj) (.list (js2.map PyData.int)) := .lst (by rw [hid_of (by simp [npj])]; exact hpj) (ints_dq _)
        have Lb : Live [b] H5 := fun y hy => by rw [List.mem_singleton.mp hy]; exact hB5.some
        have ne2 : js2 ≠ [] := okJs_ne hj2
        have ne3 : js2.map ab ≠ [] := fun z => ne2 (List.map_eq_nil_iff.mp z)
        obtain ⟨m0, m1⟩ := mx_small hj2.1 ne2
        refine rb_set 5 (M := [b]) (xd_add (xd_mul xd_int (xd_maxL T.max ne3 (XL.dd ((xl_comp (own := [("_law_jump", 4)]) (fun d => match d with | .int j => some (PyData.int (ab j)) | _ => none) Lb scLKind.nd (xd_name 2 rfl kj)
          (blkOk_by (own := [("_law_jump", 4)]) (N := ["_law_bag_here", "_law_stock", "_law_jumps", "_law_lap", "_law_jump", "_law_floor", "_law_apart"]) (sc := defScope sLKind) (by decide +kernel)) (by rw [List.length_map]; have := hj2.2.2.2; omega) (fun q d v Hx hd hq sx Lq hv => ?cmp)).to (fm_abs _)) Lb)) (.inl ⟨by decide, by decide⟩)) xd_int) (fun v6 H6 s6 hv6 => ?_) scLKind.nd
        case cmp =>
          obtain ⟨j, _, rfl⟩ := List.mem_map.mp hd
          have ej := dp_int hv
          subst ej
          intro s0 H0 C0 cl fp
          refine rg_name 4 ?_ scLKind.nd
          refine ⟨rfl, bt_nil ⟨Same.refl _, .inl ⟨rfl, _, rfl, fun s0 H0 C0 cl fp => ?_⟩⟩⟩
          exact XD.go (xd_abs T.abs (xv_name 4 rfl).int) fun v H2 s2 hv2 => ⟨s2, hv2⟩
        have e6 := dp_int hv6
        subst e6
        -- apart
        refine rb_setR 6 ?_ scLKind.nd
        refine re_addI (re_int (xv_name 5 rfl) fun H7 s7 => ⟨_, rfl, ?_⟩)
        refine re_menu (n := 5) (fun _ _ => rfl) (by decide) ?_
        refine ra_int xv_int fun H8 s8 => ?_
        refine ra_cons (re_take GT FT hr (xv_name 0 rfl) xv_int (hB5.up ((s6.trans s7).trans s8) (Nat.le_refl _)) fun t2 H9 t20 t21 sB9 hB9 => ?_)
        refine ra_int xv_int fun Ha sa => ?_
        refine ra_int xv_int fun Hb sb => ?_
        refine ra_1 (re_int xv_int fun Hc sc => ⟨[0, t2, 1440, 5000, 100000], rfl, rfl, fun l hl => ?_⟩)
        refine re_take GT FT hr (xv_name 0 rfl) xv_int (bag_new (hB9.up ((sa.trans sb).trans sc) (Nat.le_refl _)) hl) fun t3 Hd t30 t31 sBd hBd => ⟨t3, rfl, t30, t31, sBd _ _ (fun z => by subst z; exact (hB9.up ((sa.trans sb).trans sc) (Nat.le_refl _)).some hl) upd_same, fun z hz => ⟨z, rfl, ?_⟩⟩
        have hz0 : 0 ≤ z ∧ z ≤ 100000 := by
          rcases mem5 hz with e | e | e | e | e
          · rw [e]; decide
          · omega
          · rw [e]; decide
          · rw [e]; decide
          · rw [e]; decide
        have sB5d : SameB b H5 Hd := (((SameB.of ((s6.trans s7).trans s8)).trans sB9).trans (.of ((sa.trans sb).trans sc))).trans ((sameB_new hl).trans sBd)
        generalize hap : 2 * mx (js2.map ab) + 1 + z = ap
        -- the tuple
        refine rb_retR ⟨_, pe_tup ra_, ra_cons (XV.go (xv_name 2 rfl) fun He se => ra_cons (XV.go (xv_name 6 rfl) fun Hf sf => ra_1 ?_))⟩
        refine re_menu (n := 6) (fun _ _ => rfl) (by decide) ?_
        refine ra_int xv_int fun H21 s21 => ?_
        refine ra_int xv_int fun H22 s22 => ?_
        refine ra_int xv_int fun H23 s23 => ?_
        refine ra_int xv_int fun H24 s24 => ?_
        refine ra_int xv_int fun H25 s25 => ?_
        refine ra_1 (re_int xv_int fun H26 s26 => ⟨[2, 1, 3, 0, 2, 1], rfl, rfl, fun l2 hl2 => ?_⟩)
        have sd26 := ((((((se.trans sf).trans s21).trans s22).trans s23).trans s24).trans s25).trans s26
        have hB26 := hBd.up sd26 (Nat.le_refl _)
        refine re_take GT FT hr (xv_name 0 rfl) xv_int (bag_new hB26 hl2) fun t4 H27 t40 t41 sB27 hB27 => ⟨t4, rfl, t40, t41, sB27 _ _ (fun z => by subst z; exact hB26.some hl2) upd_same, fun mo hmo => ⟨by show 3 ≤ sizeLine; decide, fun t ht => ?_⟩⟩
        have hmo3 : 0 ≤ mo ∧ mo ≤ 3 := by
          rcases mem6 hmo with e | e | e | e | e | e <;> omega
        have sB527 : SameB b H5 H27 := (sB5d.trans (.of sd26)).trans ((sameB_new hl2).trans sB27)
        have L27 : Live (b :: M) H27 := live_bag L (sB5.trans sB527) hB27
        refine q ⟨js2, ap, mo⟩ _ _ ⟨hj2, by show 2 * mx (js2.map ab) < ap; omega, hmo3.1, hmo3.2⟩ (by show ap ≤ 200000; omega) ((sB5.trans sB527).trans (sameB_new ht)) ((bag_new hB27 ht).up (Same.refl _) (by omega)) ?_
        rw [hid_new L27 ht]
        have npM : pj ∉ b :: M := fun z => by
          rcases List.mem_cons.mp z with e | e
          · exact npj e
          · exact L pj e hpj0
        exact .tup (SqT.of upd_same) (DqAll.up (.cons (.lst (by rw [hid_of npM]; exact sB527 _ _ npj hpj) (ints_dq _)) (.cons (.int _) (.cons (.int _) .nil))) (same_new (hid_free ht)))
      refine rb_ifR (rt_eqI (re_take GT FT hr (xv_name 0 rfl) xv_int hBi' fun t2 H5 t20 t21 sB5 hB5 => ⟨t2, rfl, re_int xv_int fun H6 s6 => ⟨0, rfl, ?_⟩⟩))
      have sB6 : SameB b H' H6 := sB5.trans (.of s6)
      have hB6 := hB5.up s6 (Nat.le_refl _)
      cases ec : decide (t2 = 0) with
      | false =>
        rw [if_neg Bool.false_ne_true]
        exact rb_nil (fin js p H6 hjs1 (sB.trans sB6) (hB6.up (Same.refl _) (by omega)) hp0 (sB6 _ _ npb hjs))
      | true =>
        rw [if_pos rfl]
        refine rb_setR 2 (re_cutHi (xs := [.int 60, .int (-60)]) (XL.go (M := []) (ds := [.int 60, .int (-60)]) (xl_lst Live.nil (xa_cons xd_int (xa_cons (xd_neg xd_int) xa_nil))) fun l xs H7 s7 hl h7 hx7 => ⟨l, rfl, ?_⟩)) scLKind.nd
        have ex := ints_v (ns := [60, -60]) hx7
        subst ex
        refine re_addI (re_int xv_int fun H8 s8 => ⟨1, rfl, ?_⟩)
        have hB8 := hB6.up (s7.trans s8) (Nat.le_refl _)
        have nlb : l ≠ b := fun z => by subst z; exact hB6.some hl
        refine re_take GT FT hr (xv_name 0 rfl) xv_int hB8 fun t3 H9 t30 t31 sB9 hB9 => ⟨t3, rfl, 1 + t3, rfl, sB9 _ _ nlb (s8 _ _ h7), fun l2 hl2 => rb_nil ?_⟩
        have sB69 : SameB b H6 H9 := (SameB.of (s7.trans s8)).trans sB9
        have t3c : t3 = 0 ∨ t3 = 1 := by omega
        have hl20 : H l2 = none := Classical.byContradiction fun z => by
          obtain ⟨o, ho⟩ := Option.ne_none_iff_exists'.mp z
          have nb : l2 ≠ b := fun y => by subst y; exact hB9.some hl2
          rw [((sB.trans sB6).trans sB69) l2 o nb ho] at hl2
          cases hl2
        rcases t3c with e | e
        · subst e
          exact fin [60] l2 _ ⟨by decide, by decide, by decide, by decide⟩ (((sB.trans sB6).trans sB69).trans (sameB_new hl2)) ((bag_new hB9 hl2).up (Same.refl _) (by omega)) hl20 upd_same
        · subst e
          exact fin [60, -60] l2 _ ⟨by decide, by decide, by decide, by decide⟩ (((sB.trans sB6).trans sB69).trans (sameB_new hl2)) ((bag_new hB9 hl2).up (Same.refl _) (by omega)) hl20 upd_same
end
end Zn

set_option Elab.async false
set_option linter.all false
set_option maxRecDepth 100000
set_option maxHeartbeats 8000000
namespace Zn
open PySem PySem.Spec PyProof.Rows L2 Dl
/-! k08: steps, is_of, equal, reason -/
abbrev sLIsOf : Stmt := top 56
/-- steps of a kind -/
structure OfK (k : Kd) (st : List Step) : Prop where
  js : ∀ s ∈ st, s.2 ∈ k.js
  gap : ∀ (i : Nat) (s t : Step), st[i]? = some s → st[i + 1]? = some t → k.ap ≤ t.1 - s.1
theorem mx_le {js : List Int} {j : Int} (h : j ∈ js) : ab j ≤ mx (js.map ab) := (mx_ok (ns := js.map ab) (fun z => by rw [List.map_eq_nil_iff] at z; rw [z] at h; simp at h)).2 _ (List.mem_map.mpr ⟨j, h, rfl⟩)
theorem ofK_ok {k : Kd} {st : List Step} (hk : KOk k) (h : OfK k st) : okS st := by
  refine ⟨fun s hs => hk.js.1 _ (h.js s hs), fun i s t h1 h2 => ?_⟩
  have a := mx_le (h.js s (List.mem_of_getElem? h1))
  have b := mx_le (h.js t (List.mem_of_getElem? h2))
  have c := h.gap i s t h1 h2
  have d := hk.ap
  unfold floorK at d
  unfold gapJ
  omega
theorem ofK_nil (k : Kd) : OfK k [] := ⟨fun s h => by simp at h, fun i s t h => by simp at h⟩
theorem ofK_snoc {k : Kd} {st : List Step} {t : Step} (h : OfK k st) (hj : t.2 ∈ k.js) (hl : ∀ l, st.getLast? = some l → k.ap ≤ t.1 - l.1) : OfK k (st ++ [t]) := by
  refine ⟨fun s hs => ?_, fun i s u h1 h2 => ?_⟩
  · rcases List.mem_append.mp hs with z | z
    · exact h.js s z
    · rw [List.mem_singleton.mp z]; exact hj
  · have hi : i + 1 < (st ++ [t]).length := (List.getElem?_eq_some_iff.mp h2).1
    rw [List.length_append, List.length_singleton] at hi
    by_cases e : i + 1 < st.length
    · rw [List.getElem?_append_left (by omega)] at h1
      rw [List.getElem?_append_left e] at h2
      exact h.gap i s u h1 h2
    · have ei : i + 1 = st.length := by omega
      rw [List.getElem?_append_left (by omega)] at h1
      rw [List.getElem?_append_right (by omega), ei, Nat.sub_self] at h2
      cases h2
      refine hl s ?_
      rw [List.getLast?_eq_getElem?, ← ei]
      exact h1
theorem first_none {p : Nat → Bool} : ∀ {n : Nat}, (∀ i, i < n → p i = false) → first p n = none
  | 0, _ => rfl
  | n + 1, h => first_snoc (first_none fun i hi => h i (by omega)) (h n (by omega))
theorem ofK_why {k : Kd} {st : List Step} (h : OfK k st) (hl : (st.length : Int) ≤ k.mo) : whyD k st = .none := by
  unfold whyD
  rw [if_neg (by omega)]
  have e1 : first (pJ k.js st) st.length = none := first_none fun i hi => by
    unfold pJ
    rw [List.getElem?_eq_getElem hi]
    simp [h.js _ (List.getElem_mem hi)]
  have e2 : first (pA k.ap st) (st.length - 1) = none := first_none fun i hi => by
    have l1 : i < st.length := by omega
    have l2 : i + 1 < st.length := by omega
    unfold pA
    rw [List.getElem?_eq_getElem l1, List.getElem?_eq_getElem l2]
    have := h.gap i _ _ (List.getElem?_eq_getElem l1) (List.getElem?_eq_getElem l2)
    exact decide_eq_false (by omega)
  rw [e1, e2]
theorem k0 {k : Kd} : atI [PyData.list (k.js.map PyData.int), .int k.ap, .int k.mo] 0 = some (.list (k.js.map PyData.int)) := rfl
theorem k1 {k : Kd} : atI [PyData.list (k.js.map PyData.int), .int k.ap, .int k.mo] 1 = some (.int k.ap) := rfl
theorem k2 {k : Kd} : atI [PyData.list (k.js.map PyData.int), .int k.ap, .int k.mo] 2 = some (.int k.mo) := rfl
section
variable {X : Cx} {M : List Addr} {σ : L2.St} {H : Hp} {a b e o : Expr} {pos p1 p2 p3 tpos : Pos} {xs : List V} {l : Addr} {D : Ends} {rest : List Stmt} {elt : Expr} {ifs : List Expr} {scope : Scope} {own : List (Str × Nat)} {ds ds2 : List PyData}
/-- o.append(e), whatever happens in e -/
theorem rb_appendE (ho : XV X σ H o (.ref l)) (h1 : H l = some (.lst xs)) (hz : xs.length < 100000) (he : ∀ H1, Same H H1 → RE X e σ H1 fun v H2 => H2 l = some (.lst xs) ∧ RB X rest D σ (upd H2 l (.lst (xs ++ [v]))))
    (hbase : attributeBase o "append" X.env (eval o X.env) = eval o X.env := by rfl)
    (hfew : ((backTo p2 (starEach [e] X.env)).all (fun x => !x.1) && (backToKw p2 (keywordEach [] X.env)).all (fun x => x.1.isSome) && decide ([e].length + ([] : List Keyword).length + (if ([] : List Keyword).isEmpty then 0 else 1) < 30)) = true := by rfl)
    (hline : (p1.endLine == p2.line) = true := by rfl) (hs : starEach [e] X.env = (false, eval e X.env) :: starEach [] X.env := by rfl) (hplain : (backTo p2 (starEach [] X.env)).any (·.1) = false := by rfl)
    (hsw : swapsWith (.Call (.Attribute o "append" p1) [e] [] p2) none pos.line X.env = pure false := by rfl) : RB X (.Expr (.Call (.Attribute o "append" p1) [e] [] p2) pos :: rest) D σ H :=
  rb_exprR ⟨_, pe_bm PySem.F.plainAttrs_list PySem.F.slot_list_append PySem.F.type_list_append mt_append re_ ra_ hbase hfew hline hs hplain,
    ho H (Same.refl H) _ fun H1 s1 => ⟨.inl ⟨rfl, xs, SqL.of (s1 _ _ h1)⟩, ra_1 (re_mono (he H1 s1) fun v H2 ⟨h2, q⟩ => ⟨l, xs, v, rfl, rfl, h2, Nat.lt_of_lt_of_le hz (by decide), q⟩) hs⟩⟩ hsw
theorem cut1 (xs : List PyData) : Dl.cutD xs (some 1) none = xs.drop 1 := by
  unfold Dl.cutD
  have e1 : HT.sIx xs.length 0 (some 1) = min 1 xs.length := HT.sIx_nat _ _ 1
  rw [HT.sIx_none, e1]
  cases xs with
  | nil => rfl
  | cons x xs =>
    have e2 : min 1 (x :: xs).length = 1 := by simp
    rw [e2]
    show List.take _ xs = xs
    exact List.take_of_length_le (by simp)
/-- a comprehension over zip that leaves all out -/
theorem xl_zipNone {elts : List Expr} {kk : Nat} (hm : X.mg "zip" = none) (L : Live M H) (hN : X.N.Nodup) (ha : XD X M σ H a (.list ds)) (hb : XD X M σ H b (.list ds2)) (ok : BlkOk X.N X.env.scope scope own)
    (hst : ∀ (i : Nat) d d2 T x y H1, ds[i]? = some d → ds2[i]? = some d2 → Same H H1 → Dq X.K (hid M H1) x d → Dq X.K (hid M H1) y d2 → H1 T = some (.tup [x, y]) → BG X scope (.Tuple elts kk tpos) (.ref T) (wipe σ (own.map (·.2))) H1 fun τ H2 => wipe τ (own.map (·.2)) = wipe σ (own.map (·.2)) ∧ BT X scope ifs τ H2 fun k H3 => Same H1 H3 ∧ k = false)
    (hc : X.calm = true := by rfl) (hs : ∀ x, foldedSetIterable (.Call (.Name "zip" p1) [a, b] [] p2) X.env x = pure x := by intro _; rfl) (hg : Gl X "zip" := by rfl)
    (he : starEach [a, b] X.env = (false, eval a X.env) :: starEach [b] X.env := by rfl) (he2 : starEach [b] X.env = (false, eval b X.env) :: starEach [] X.env := by rfl) (hpl : (backTo p2 (starEach [b] X.env)).any (·.1) = false := by rfl) :
    XL X M σ H (.ListComp elt [⟨.Tuple elts kk tpos, .Call (.Name "zip" p1) [a, b] [] p2, ifs, 0⟩] scope pos) [] := fun H1 s1 Q q =>
  ⟨_, pe_lc (own := own) hc hN (pi_zip hg hm ra_ he hpl) ok (fun _ _ _ _ _ => bg_) (fun _ _ _ _ _ => bt_) (fun _ _ _ _ _ => be_) hs, ra_cons (ha H1 s1 _ fun v H2 s2 hv => ra_1 (hb H2 (s1.trans s2) _ fun u H3 s3 hu => by
    obtain ⟨pa, xs, rfl, hpa, hx⟩ := dp_lst (hv.up (hid_mono s3))
    obtain ⟨pb, ys, rfl, hpb, hy⟩ := dp_lst hu
    have s03 := (s1.trans s2).trans s3
    refine ⟨pa, pb, xs, ys, rfl, SqL.of (hid_le _ _ hpa), SqL.of (hid_le _ _ hpb), fun p hp => ?_⟩
    refine ⟨fun i m Hx => m + i = min xs.length ys.length ∧ Same H3 Hx ∧ Hx p = some (.lst []), ⟨min xs.length ys.length, rfl, same_new hp, upd_same⟩, fun i m Hx w => ?_⟩
    obtain ⟨hmi, sx, hpx⟩ := w
    have ga : SqL X.K Hx pa xs := SqL.of (sx _ _ (hid_le _ _ hpa))
    have gb : SqL X.K Hx pb ys := SqL.of (sx _ _ (hid_le _ _ hpb))
    by_cases hlt : i < min xs.length ys.length
    · have l1 : i < xs.length := by omega
      have l2 : i < ys.length := by omega
      refine .inr ⟨⟨xs, ys, xs[i], ys[i], ga, gb, List.getElem?_eq_getElem l1, List.getElem?_eq_getElem l2⟩, fun Hy => Same H3 Hy ∧ Hy p = some (.lst []), fun Hy hy => ⟨m - 1, by omega, by omega, hy.1, hy.2⟩, fun v Hy hyl => ?_⟩
      obtain ⟨T, x, y, rfl, hT, rfl, h1, h2⟩ := hyl
      obtain ⟨d, hd1, hd2⟩ := dpa_get' hx (h1 xs ga)
      obtain ⟨d2, hd3, hd4⟩ := dpa_get' hy (h2 ys gb)
      have sy : Same Hx (upd Hx T (.tup [x, y])) := same_new hT
      refine bg_mono (hst i d d2 T x y _ hd1 hd3 ((s03.trans sx).trans sy) (hd2.up (hid_mono (sx.trans sy))) (hd4.up (hid_mono (sx.trans sy))) upd_same) fun τ Ha ⟨hw, hbt⟩ => ⟨hw, bt_mono hbt fun k Hb ⟨sb, hk⟩ => ?_⟩
      subst hk
      exact iteF ⟨(sx.trans sy).trans sb, sb _ _ (sy _ _ hpx)⟩
    · refine .inl ⟨⟨xs, ys, ga, gb, by omega⟩, q p [] Hx ((s2.trans s3).trans sx) ((s2.trans s3).free hp) hpx .nil⟩) he2) he⟩
end
section
variable {P : Program} {w : World} {K : PySem.W.Frag} {mg : Str → Option Value} {base : Heap} {CK : Addr}
end
end Zn

set_option Elab.async false
set_option linter.all false
set_option maxRecDepth 100000
set_option maxHeartbeats 8000000
namespace Zn
open PySem PySem.Spec PyProof.Rows L2 Dl
def RIsOf (ds : List PyData) (d : PyData) : Prop := ∃ (k : Kd) (f : Int) (st : List Step), ds = [kindD k, planD f st] ∧ OfK k st ∧ (st.length : Int) ≤ k.mo ∧ st.length ≤ 50 ∧ d = .bool true
theorem step0 {s : Step} : atI [PyData.int s.1, .int s.2] 0 = some (.int s.1) := rfl
theorem step1 {s : Step} : atI [PyData.int s.1, .int s.2] 1 = some (.int s.2) := rfl
theorem stepN {st : List Step} {i : Nat} {s : Step} (h : st[i]? = some s) {j : Int} (hj : j = (i : Int)) : atI (st.map stepD) j = some (stepD s) := by
  rw [hj]
  exact atI_nat (by rw [List.getElem?_map, h]; rfl)
section
variable {P : Program} {w : World} {K : PySem.W.Frag} {mg : Str → Option Value} {base : Heap} {CK : Addr}
theorem fm_none : ∀ st : List Step, (st.map stepD).filterMap (fun _ => (none : Option PyData)) = []
  | [] => rfl
  | s :: st => by rw [List.map_cons, List.filterMap_cons]; exact fm_none st
theorem eqv_nil : PyData.eqv (.list []) (.list []) = true := by simp [PyData.eqv, PyData.eqvAll]
theorem scLIsOf : FnScope ["_law_kind_here", "_law_plan", "_law_step", "_law_one", "_law_other"] ["_law_kind_here", "_law_plan"] (defScope sLIsOf) := ⟨rfl, rfl, rfl, by decide +kernel, rfl, by decide +kernel, by decide +kernel⟩
theorem ok_lisof {f : Addr} {fd : FuncData} (T : Nm mg) (hz : mg "zip" = none) (F : Df K mg "_law_is_of" sLIsOf ["_law_kind_here", "_law_plan"] f fd) : FnOk P w K mg base CX0 1 f fd ["_law_kind_here", "_law_plan"] (spR K RIsOf) := by
  refine F.F.ok scLIsOf (fun vs H Q E h => ?_) (fun cdv A outer s0 H vs Q E hr h => ?_)
  · obtain ⟨M, ds, d, L, hd, ⟨k, f, st, rfl, _⟩, q⟩ := h
    exact dpa_len hd
  · obtain ⟨M, ds, d, L, hd, ⟨k, f, st, rfl, hof, hmo, hlen, rfl⟩, q⟩ := h
    cases hd with
    | cons h1 hd => cases hd with
      | cons h2 hd =>
        cases hd
        refine rb_ifF ((xt_or2 (xt_cmpI (M := M) op_gt (xd_len T.len (xd_ixT (fun _ _ => rfl) (xd_name 1 rfl h2) xd_int plan1)) (xd_ixT (fun _ _ => rfl) (xd_name 0 rfl h1) xd_int k2)) fun _ =>
          xt_neD (M := M) hr.units (XL.dd ((xl_comp (own := [("_law_step", 2)]) (fun _ => (none : Option PyData)) L scLIsOf.nd (xd_ixT (fun _ _ => rfl) (xd_name 1 rfl h2) xd_int plan1) (blkOk_by (own := [("_law_step", 2)]) (N := ["_law_kind_here", "_law_plan", "_law_step", "_law_one", "_law_other"]) (sc := defScope sLIsOf) (by decide +kernel)) (by rw [List.length_map]; omega) (fun p d v H1 hd hp s1 Lp hv => ?cmp)).to (fm_none st)) L)
            (xd_lst L xa_nil) shaped_nil shaped_nil).to (by
              rw [List.length_map, decide_eq_false (by omega), eqv_nil]
              rfl)) fun H1 s1 => ?_
        case cmp =>
          obtain ⟨sx, hsx, rfl⟩ := mem_step hd
          intro s0 H0 C0 cl fp
          refine rg_name 2 ?_ scLIsOf.nd
          have h1' : Dq K (hid (p :: M) H1) _ (kindD k) := h1.up (hid_step hp s1)
          have hv : Dq K (hid (p :: M) H1) v (stepD sx) := hv
          refine ⟨rfl, bt_one (k := false) (fun s0 H0 C0 cl fp => ?_) fun H2 s2 => ⟨s2, .inr ⟨rfl, rfl⟩⟩⟩
          refine (xt_notInS (M := p :: M) (ns := k.js) (.inl rfl) (xd_ixT (fun _ _ => rfl) (xd_name 2 rfl hv) xd_int step1) (xd_ixT (fun _ _ => rfl) (xd_name 0 rfl h1') xd_int k0)).to ?_
          rw [decide_eq_true (hof.js sx hsx)]
          rfl
        have L1 := L.mono s1
        have g1 := h1.up (hid_mono (M := M) s1)
        have g2 := h2.up (hid_mono (M := M) s1)
        refine rb_ret (M := M) ((xd_eqD hr.units (XL.dd (xl_zipNone (own := [("_law_one", 3), ("_law_other", 4)]) hz L1 scLIsOf.nd (xd_ixT (fun _ _ => rfl) (xd_name 1 rfl g2) xd_int plan1) (XL.dd ((xl_cut L1 (xd_ixT (fun _ _ => rfl) (xd_name 1 rfl g2) xd_int plan1) (xo_some (M := M) xd_int) xo_none).to (cut1 _)) L1)
          (blkOk_by (own := [("_law_one", 3), ("_law_other", 4)]) (N := ["_law_kind_here", "_law_plan", "_law_step", "_law_one", "_law_other"]) (sc := defScope sLIsOf) (by decide +kernel)) (fun i d d2 T x y H2 hd hd2 s2 hx hy hT => ?cmz)) L1) (xd_lst L1 xa_nil) shaped_nil shaped_nil).to (by rw [eqv_nil])) fun v H2 s2 hv => q v H2 (s1.trans s2) hv
        obtain ⟨sx, hsx, rfl⟩ := map_get hd
        rw [List.getElem?_drop, List.getElem?_map, Nat.add_comm] at hd2
        cases es : st[i + 1]? with
        | none => rw [es] at hd2; cases hd2
        | some sy =>
          rw [es] at hd2
          cases hd2
          have hg := hof.gap i sx sy hsx es
          intro s0 H0 C0 cl fp
          refine rg_tup (SqT.of hT) (rgs_cons (rg_name 3 (rgs_cons (rg_name 4 (rgs_nil ?_) scLIsOf.nd)) scLIsOf.nd))
          have g1' : Dq K (hid M H2) _ (kindD k) := g1.up (hid_mono (M := M) s2)
          have hx : Dq K (hid M H2) x (stepD sx) := hx
          have hy : Dq K (hid M H2) y (stepD sy) := hy
          refine ⟨rfl, bt_one (k := false) (fun s0 H0 C0 cl fp => ?_) fun H3 s3 => ⟨s3, rfl⟩⟩
          refine (xt_cmpI (M := M) op_lt (xd_sub (xd_ixT (fun _ _ => rfl) (xd_name 4 rfl hy) xd_int step0) (xd_ixT (fun _ _ => rfl) (xd_name 3 rfl hx) xd_int step0)) (xd_ixT (fun _ _ => rfl) (xd_name 0 rfl g1') xd_int k1)).to ?_
          exact decide_eq_false (by omega)
/-! equal -/
/-! reason -/
end
end Zn

set_option Elab.async false
set_option linter.all false
set_option maxRecDepth 100000
set_option maxHeartbeats 8000000
namespace Zn
open PySem PySem.Spec PyProof.Rows L2 Dl
/-! k05: the row is everyzone_k05_readings_and_placing (texts by retarget.py) -/
abbrev sOffAt : Stmt := inClass (top 22) 7
abbrev sRead : Stmt := inClass (top 22) 8
def offAt (m : Int) : Int → List Row → Int
  | o, [] => o
  | o, r :: rs => offAt m (if r.1 ≤ m then r.2.2 else o) rs
theorem offAt_snoc (m : Int) : ∀ (o : Int) (rs : List Row) (r : Row), offAt m o (rs ++ [r]) = if r.1 ≤ m then r.2.2 else offAt m o rs
  | o, [], r => rfl
  | o, s :: rs, r => offAt_snoc m _ rs r
def spMI (K : PySem.W.Frag) (C : Addr) (f : Int → List Row → Int → Int) : Sp := fun vs H Q _ => ∃ (M : List Addr) (a : Addr) (off : Int) (rs : List Row) (m : Int), vs = [.ref a, .int m] ∧ Live M H ∧ ZAt K C (hid M H) a off rs ∧ rs.length ≤ 1000 ∧ ∀ H1, Same H H1 → Q (.int (f off rs m)) H1
section
variable {P : Program} {w : World} {K : PySem.W.Frag} {mg : Str → Option Value} {base : Heap} {C : Addr}
theorem scOffAt : FnScope ["self", "moment", "offset", "change", "before", "after"] ["self", "moment"] (defScope sOffAt) := ⟨rfl, rfl, rfl, by decide +kernel, rfl, by decide +kernel, by decide +kernel⟩
theorem ok_offsetAt {f fN fW : Addr} {fd fdN fdW : FuncData} (T : Nm mg) (Z : ZT K mg C) (FW : Df K mg "is_whole" sWhole ["value"] fW fdW) (FN : Df K mg "need_integer" sNeed ["value"] fN fdN) (F : Fun K "offset_at" "Zone.offset_at" sOffAt f fd) : FnOk P w K mg base CX0 3 f fd ["self", "moment"] (spMI K C fun off rs m => offAt m off rs) := by
  have GN : FnOk P w K mg base CX0 2 fN fdN ["value"] (spR K RNeed) := ok_need T FW FN
  refine F.ok scOffAt (fun vs H Q E h => ?_) (fun cdv A outer s H vs Q E hr h => ?_)
  · obtain ⟨M, a, off, rs, m, rfl, _⟩ := h; rfl
  · obtain ⟨M, a, off, rs, m, rfl, L, hz, hlen, q⟩ := h
    refine rb_expr (M := M) (d := .none) (xd_call L GN hr FN.g FN.F.kp FN.b (xa_cons (xv_name 1 rfl).int xa_nil) ⟨m, rfl, rfl⟩) fun H1 s1 => ?_
    have hz1 := hz.up (hid_mono (M := M) s1)
    refine rb_setV 2 (xv_base ⟨_, Z⟩ hz1 (xv_name 0 rfl)) (fun H2 s2 => ?_) scOffAt.nd
    have hz2 := hz1.up (hid_mono (M := M) s2)
    refine rb_for (M := M) (xd_rows ⟨_, Z⟩ hz2 (xv_name 0 rfl)) fun H3 s3 => ⟨fun k σ' H' => Same H3 H' ∧ ∃ a3 a4 a5, σ' = [some (.ref a), some (.int m), some (.int (offAt m off (rs.take k))), a3, a4, a5], ⟨Same.refl _, none, none, none, rfl⟩, fun k σ' H' w => hid_mono w.1, fun k it hk σ' H' v w hv => ?_, fun σ' H' w => ?_⟩
    · obtain ⟨z1, a3, a4, a5, rfl⟩ := w
      obtain ⟨r, hr1, rfl⟩ := map_get hk
      obtain ⟨t, rfl, ht⟩ := row_at hv
      refine rg_tup (same_seqT hid_le ht) (rgs_cons (rg_name 3 (rgs_cons (rg_name 4 (rgs_cons (rg_name 5 (rgs_nil ?_) scOffAt.nd)) scOffAt.nd)) scOffAt.nd))
      refine rb_if (xt_cmpI (M := []) op_le (xv_name 3 rfl).int (xv_name 1 rfl).int) (fun e H4 s4 => ?_) (fun e H4 s4 => rb_nil (rb_nil ?_))
      · refine rb_setV 2 (xv_name 5 rfl) (fun H5 s5 => rb_nil (rb_nil ?_)) scOffAt.nd
        refine ⟨(z1.trans s4).trans s5, some (.int r.1), some (.int r.2.1), some (.int r.2.2), ?_⟩
        rw [take_snoc hr1, offAt_snoc, if_pos (of_decide_eq_true e)]
        rfl
      · refine ⟨z1.trans s4, some (.int r.1), some (.int r.2.1), some (.int r.2.2), ?_⟩
        rw [take_snoc hr1, offAt_snoc, if_neg (of_decide_eq_false e)]
        rfl
    · obtain ⟨z1, a3, a4, a5, rfl⟩ := w
      rw [List.length_map, List.take_length]
      exact rb_retR (XV.go (xv_name 2 rfl) fun H5 s5 => q H5 ((((s1.trans s2).trans s3).trans z1).trans s5))
theorem scRead : FnScope ["self", "moment"] ["self", "moment"] (defScope sRead) := ⟨rfl, rfl, rfl, by decide +kernel, rfl, by decide +kernel, by decide +kernel⟩
theorem ok_read {f fO : Addr} {fd fdO : FuncData} (Z : ZT K mg C) (GO : FnOk P w K mg base CX0 3 fO fdO ["self", "moment"] (spMI K C fun off rs m => offAt m off rs)) (MO : Mt K C "offset_at" "Zone.offset_at" sOffAt ["self", "moment"] fO fdO) (F : Fun K "read" "Zone.read" sRead f fd) : FnOk P w K mg base CX0 4 f fd ["self", "moment"] (spMI K C fun off rs m => m + offAt m off rs) := by
  refine F.ok scRead (fun vs H Q E h => ?_) (fun cdv A outer s H vs Q E hr h => ?_)
  · obtain ⟨M, a, off, rs, m, rfl, _⟩ := h; rfl
  · obtain ⟨M, a, off, rs, m, rfl, L, hz, hlen, q⟩ := h
    have hz0 := hz
    obtain ⟨dx, r, e1, e2⟩ := hz
    have off1 : ∀ {H1 : Hp} {Q' : VK}, Same H H1 → (∀ H2, Same H1 H2 → Q' (.int (offAt m off rs)) H2) → spMI K C (fun off rs m => offAt m off rs) [.ref a, .int m] H1 Q' E0 := fun {H1 Q'} s1 k => ⟨M, a, off, rs, m, rfl, L.mono s1, hz0.up (hid_mono s1), hlen, k⟩
    refine rb_retR (re_addI (re_int (xv_name 1 rfl) fun H1 s1 => ⟨m, rfl, ?_⟩))
    refine re_meth (xv_name 0 rfl) (s1 _ _ (hid_le _ _ e1)) Z.cl MO.m (zf_none off r (by decide +kernel) (by decide +kernel)) GO hr MO.b (fun H2 s2 => ra_1 (XV.go (xv_name 1 rfl) fun H3 s3 => off1 ((s1.trans s2).trans s3) fun H4 s4 => ⟨_, rfl, q H4 (((s1.trans s2).trans s3).trans s4)⟩))
end
end Zn

set_option Elab.async false
set_option linter.all false
set_option maxRecDepth 100000
set_option maxHeartbeats 8000000
namespace Zn
open PySem PySem.Spec PyProof.Rows L2 Dl
/-! ### readings of a plan: the mathematics -/
/-- the sum of the jumps up to a moment -/
def sumJ (m : Int) : List Step → Int
  | [] => 0
  | s :: st => (if s.1 ≤ m then s.2 else 0) + sumJ m st
def Asc (st : List Step) : Prop := st.Pairwise fun s t => s.1 < t.1
theorem ab_nn (n : Int) : 0 ≤ ab n ∧ n ≤ ab n ∧ -n ≤ ab n := by unfold ab; split <;> omega
theorem okS_tail {s : Step} {st : List Step} (h : okS (s :: st)) : okS st :=
  ⟨fun t ht => h.1 t (List.mem_cons_of_mem _ ht), fun k t u h1 h2 => h.2 (k + 1) t u (by simpa using h1) (by simpa using h2)⟩
theorem okS_gap {s t : Step} {st : List Step} (h : okS (s :: t :: st)) : ab s.2 + ab t.2 < t.1 - s.1 := h.2 0 s t rfl rfl
theorem asc_first : ∀ {s : Step} {st : List Step}, okS (s :: st) → ∀ t ∈ st, s.1 < t.1
  | s, [], _, t, ht => by simp at ht
  | s, u :: st, h, t, ht => by
    have g := okS_gap h
    have a1 := ab_nn s.2
    have a2 := ab_nn u.2
    rcases List.mem_cons.mp ht with e | ht
    · rw [e]; omega
    · have z := asc_first (okS_tail h) t ht
      omega
theorem sum_small : ∀ {m : Int} {st : List Step}, (∀ t ∈ st, m < t.1) → sumJ m st = 0
  | m, [], _ => rfl
  | m, s :: st, h => by
    unfold sumJ
    have h1 := h s (List.mem_cons_self ..)
    rw [if_neg (by omega), sum_small fun t ht => h t (List.mem_cons_of_mem _ ht)]
    rfl
/-- from a change on readings do not fall below the one at the change -/
theorem sum_low : ∀ {m : Int} {s : Step} {st : List Step}, okS (s :: st) → s.1 ≤ m → s.1 ≤ m + sumJ m st
  | m, s, [], _, h => by unfold sumJ; omega
  | m, s, t :: st, ok, h => by
    have g := okS_gap ok
    have a1 := ab_nn s.2
    have a2 := ab_nn t.2
    by_cases z : t.1 ≤ m
    · have q := sum_low (okS_tail ok) z
      unfold sumJ
      rw [if_pos z]
      omega
    · rw [sum_small (m := m)]
      · omega
      · intro u hu
        rcases List.mem_cons.mp hu with e | hu
        · rw [e]; omega
        · have := asc_first (okS_tail ok) u hu; omega
/-- the moments of a reading, in ascending order -/
def solP (r : Int) : Int → List Step → List Int
  | o, [] => [r - o]
  | o, s :: st => (if r < s.1 + o then [r - o] else []) ++ (if r < s.1 + o + s.2 then [] else solP r (o + s.2) st)
theorem sol_mem (r : Int) : ∀ (o : Int) {st : List Step}, okS st → ∀ m, m ∈ solP r o st ↔ m + (o + sumJ m st) = r
  | o, [], _, m => by
    unfold solP sumJ
    rw [List.mem_singleton]
    omega
  | o, s :: st, ok, m => by
    have ih := sol_mem r (o + s.2) (okS_tail ok) m
    have up : m < s.1 → sumJ m st = 0 := fun h => sum_small fun t ht => by
      have := asc_first ok t ht
      omega
    unfold solP
    rw [List.mem_append]
    have e : sumJ m (s :: st) = (if s.1 ≤ m then s.2 else 0) + sumJ m st := rfl
    rw [e]
    constructor
    · rintro (h | h)
      · split at h
        · rw [List.mem_singleton] at h
          rw [up (by omega), if_neg (by omega)]
          omega
        · simp at h
      · split at h
        · simp at h
        · have q := ih.mp h
          by_cases z : s.1 ≤ m
          · rw [if_pos z]; omega
          · have := up (by omega)
            omega
    · intro h
      by_cases z : s.1 ≤ m
      · rw [if_pos z] at h
        have low := sum_low ok z
        right
        rw [if_neg (by omega)]
        exact ih.mpr (by omega)
      · rw [if_neg z, up (by omega)] at h
        left
        rw [if_pos (by omega), List.mem_singleton]
        omega
theorem sol_asc (r : Int) : ∀ (o : Int) {st : List Step}, okS st → (solP r o st).Pairwise (· < ·)
  | o, [], _ => by unfold solP; exact List.pairwise_singleton _ _
  | o, s :: st, ok => by
    unfold solP
    rw [List.pairwise_append]
    refine ⟨by split <;> simp, ?_, ?_⟩
    · split
      · exact List.Pairwise.nil
      · exact sol_asc r (o + s.2) (okS_tail ok)
    · intro a ha b hb
      split at ha
      · rw [List.mem_singleton] at ha
        split at hb
        · simp at hb
        · have q := (sol_mem r (o + s.2) (okS_tail ok) b).mp hb
          by_cases z : s.1 ≤ b
          · omega
          · have e : sumJ b st = 0 := sum_small fun t ht => by
              have := asc_first ok t ht
              omega
            omega
      · simp at ha
/-- the first gap or fold with a reading: the offsets before and behind it -/
def tornP (r : Int) : Int → List Step → Option (Int × Int)
  | _, [] => none
  | o, s :: st => if s.1 + (if o + s.2 < o then o + s.2 else o) ≤ r ∧ r < s.1 + (if o + s.2 > o then o + s.2 else o) then some (o, o + s.2) else tornP r (o + s.2) st
theorem torn_low (r : Int) : ∀ (s : Step) (o : Int) {st : List Step}, okS (s :: st) → r < s.1 + o + ab s.2 → tornP r o st = none
  | s, o, [], _, _ => rfl
  | s, o, t :: st, ok, h => by
    have g := okS_gap ok
    have a2 := ab_nn t.2
    unfold tornP
    rw [if_neg (by split <;> omega)]
    exact torn_low r t (o + t.2) (okS_tail ok) (by omega)
theorem sol_torn (r : Int) : ∀ (o : Int) {st : List Step}, okS st → (tornP r o st = none → ∃ m, solP r o st = [m]) ∧ (tornP r o st ≠ none → (solP r o st).length ≠ 1)
  | o, [], _ => ⟨fun _ => ⟨_, rfl⟩, fun h => absurd rfl h⟩
  | o, s :: st, ok => by
    have ih := sol_torn r (o + s.2) (okS_tail ok)
    have a1 := ab_nn s.2
    have j0 := (ok.1 s (List.mem_cons_self ..)).1
    unfold tornP solP
    by_cases c : s.1 + (if o + s.2 < o then o + s.2 else o) ≤ r ∧ r < s.1 + (if o + s.2 > o then o + s.2 else o)
    · rw [if_pos c]
      refine ⟨fun h => (by cases h), fun _ => ?_⟩
      obtain ⟨c1, c2⟩ := c
      by_cases z : s.2 < 0
      · rw [if_pos (by omega)] at c1
        rw [if_neg (by omega)] at c2
        have tl := torn_low r s (o + s.2) ok (by omega)
        obtain ⟨m, hm⟩ := ih.1 tl
        rw [if_pos (by omega), if_neg (by omega), hm]
        simp
      · rw [if_neg (by omega)] at c1
        rw [if_pos (by omega)] at c2
        rw [if_neg (by omega), if_pos (by omega)]
        simp
    · rw [if_neg c]
      by_cases z : r < s.1 + (if o + s.2 < o then o + s.2 else o)
      · have tl := torn_low r s (o + s.2) ok (by split at z <;> omega)
        rw [tl]
        refine ⟨fun _ => ⟨r - o, ?_⟩, fun h => absurd rfl h⟩
        rw [if_pos (by split at z <;> omega), if_pos (by split at z <;> omega)]
        rfl
      · have hh : s.1 + (if o + s.2 > o then o + s.2 else o) ≤ r := by
          by_cases y : r < s.1 + (if o + s.2 > o then o + s.2 else o)
          · exact absurd ⟨by omega, y⟩ c
          · omega
        rw [if_neg (by split at hh <;> omega), if_neg (by split at hh <;> omega), List.nil_append]
        exact ih
/-- the offsets of a plan -/
def offsP : Int → List Step → List Int
  | o, [] => [o]
  | o, s :: st => o :: offsP (o + s.2) st
theorem offs_mem (m : Int) : ∀ (o : Int) {st : List Step}, okS st → o + sumJ m st ∈ offsP o st
  | o, [], _ => by unfold offsP sumJ; simp
  | o, s :: st, ok => by
    unfold offsP
    by_cases z : s.1 ≤ m
    · refine List.mem_cons_of_mem _ ?_
      have q := offs_mem m (o + s.2) (okS_tail ok)
      have e : o + sumJ m (s :: st) = o + s.2 + sumJ m st := by
        show o + ((if s.1 ≤ m then s.2 else 0) + sumJ m st) = _
        rw [if_pos z]; omega
      rw [e]; exact q
    · have e : sumJ m (s :: st) = 0 := by
        unfold sumJ
        rw [if_neg z, sum_small fun t ht => by have := asc_first ok t ht; omega]
        rfl
      rw [e]
      simp
/-- a moment is one of those that the offsets give just if it has the reading -/
theorem sol_offs {r o : Int} {st : List Step} (ok : okS st) (m : Int) : m ∈ solP r o st ↔ ∃ x ∈ offsP o st, (if o + sumJ (r - x) st = x then some (r - x) else none) = some m := by
  rw [sol_mem r o ok]
  constructor
  · intro h
    have e : r - (o + sumJ m st) = m := by omega
    refine ⟨o + sumJ m st, offs_mem m o ok, ?_⟩
    rw [e, if_pos rfl]
  · rintro ⟨x, _, h⟩
    split at h
    · rename_i q
      cases h
      omega
    · cases h

/-! ### the same by rows -/
theorem offAt_all (m : Int) : ∀ (o : Int) {rs : List Row}, (∀ r ∈ rs, m < r.1) → offAt m o rs = o
  | o, [], _ => rfl
  | o, r :: rs, h => by
    unfold offAt
    have := h r (List.mem_cons_self ..)
    rw [if_neg (by omega)]
    exact offAt_all m o fun r hr => h r (List.mem_cons_of_mem _ hr)
theorem rows_mom : ∀ (f : Int) (st : List Step) (r : Row), r ∈ rowsP f st → ∃ s ∈ st, r.1 = s.1
  | _, [], r, h => by simp [rowsP, rowsOf, chOf] at h
  | f, s :: st, r, h => by
    rw [rowsP_cons] at h
    rcases List.mem_cons.mp h with e | h
    · exact ⟨s, List.mem_cons_self .., by rw [e]⟩
    · obtain ⟨t, ht, e⟩ := rows_mom (f + s.2) st r h
      exact ⟨t, List.mem_cons_of_mem _ ht, e⟩
theorem offAt_plan (m : Int) : ∀ (f : Int) {st : List Step}, okS st → offAt m f (rowsP f st) = f + sumJ m st
  | f, [], _ => by show f = f + 0; omega
  | f, s :: st, ok => by
    rw [rowsP_cons]
    show offAt m (if s.1 ≤ m then f + s.2 else f) (rowsP (f + s.2) st) = f + ((if s.1 ≤ m then s.2 else 0) + sumJ m st)
    by_cases z : s.1 ≤ m
    · rw [if_pos z, if_pos z, offAt_plan m (f + s.2) (okS_tail ok)]
      omega
    · rw [if_neg z, if_neg z, offAt_all m f fun r hr => ?_, sum_small fun t ht => ?_]
      · omega
      · have := asc_first ok t ht; omega
      · obtain ⟨t, ht, e⟩ := rows_mom (f + s.2) st r hr
        have := asc_first ok t ht
        omega
theorem offs_rows : ∀ (f : Int) (st : List Step), offsP f st = f :: (rowsP f st).map (·.2.2)
  | f, [] => rfl
  | f, s :: st => by
    rw [rowsP_cons, List.map_cons, ← offs_rows (f + s.2) st]
    rfl
theorem offs_ch (f : Int) (st : List Step) : offsP f st = f :: (chOf f st).map (·.2) := by
  rw [offs_rows]
  congr 1
  have h : ∀ (o : Int) (cs : List (Int × Int)), (rowsOf o cs).map (·.2.2) = cs.map (·.2) := fun o cs => by
    induction cs generalizing o with
    | nil => rfl
    | cons c cs ih => show c.2 :: (rowsOf c.2 cs).map (·.2.2) = _; rw [ih]; rfl
  exact h f _
theorem offs_len (f : Int) (st : List Step) : (offsP f st).length = st.length + 1 := by rw [offs_ch, List.length_cons, List.length_map, ch_len]
def inTorn (x : Int) (r : Row) : Bool := decide (r.1 + (if r.2.2 < r.2.1 then r.2.2 else r.2.1) ≤ x) && decide (x < r.1 + (if r.2.2 > r.2.1 then r.2.2 else r.2.1))
theorem torn_find (x : Int) : ∀ (f : Int) (st : List Step), tornP x f st = ((rowsP f st).find? (inTorn x)).map (·.2)
  | _, [] => rfl
  | f, s :: st => by
    rw [rowsP_cons, List.find?_cons]
    unfold tornP
    by_cases c : s.1 + (if f + s.2 < f then f + s.2 else f) ≤ x ∧ x < s.1 + (if f + s.2 > f then f + s.2 else f)
    · rw [if_pos c]
      have e : inTorn x (s.1, f, f + s.2) = true := by
        unfold inTorn
        rw [Bool.and_eq_true, decide_eq_true_eq, decide_eq_true_eq]
        exact c
      rw [e]
      rfl
    · rw [if_neg c]
      have e : inTorn x (s.1, f, f + s.2) = false := by
        cases q : inTorn x (s.1, f, f + s.2) with
        | false => rfl
        | true =>
          unfold inTorn at q
          rw [Bool.and_eq_true, decide_eq_true_eq, decide_eq_true_eq] at q
          exact absurd q c
      rw [e]
      exact torn_find x (f + s.2) st
/-- what placing comes to -/
def placeD (x : Int) (rule : Str) (rs : List Row) (ms : List Int) : PyData :=
  match rs.find? (inTorn x) with
  | some r => if rule = "ahead" then .int (x - r.2.1) else if rule = "behind" then .int (x - r.2.2) else .none
  | none => .int (ms.headD 0)
theorem find_take {α : Type} {p : α → Bool} {l : List α} {k : Nat} {r : α} (hk : l[k]? = some r) (h : (l.take k).find? p = none) (hp : p r = true) : l.find? p = some r := by
  have e : l = l.take k ++ r :: l.drop (k + 1) := by
    have hl := (List.getElem?_eq_some_iff.mp hk)
    obtain ⟨hl, e⟩ := hl
    rw [← e, List.getElem_cons_drop, List.take_append_drop]
  rw [e, List.find?_append, h, List.find?_cons, hp]
  rfl
theorem find_snoc {α : Type} {p : α → Bool} {l : List α} {k : Nat} {r : α} (hk : l[k]? = some r) (h : (l.take k).find? p = none) (hp : p r = false) : (l.take (k + 1)).find? p = none := by
  rw [take_snoc hk, List.find?_append, h, List.find?_cons, hp]
  rfl
end Zn

set_option Elab.async false
set_option linter.all false
set_option maxRecDepth 100000
set_option maxHeartbeats 8000000
namespace Zn
open PySem PySem.Spec PyProof.Rows L2 Dl
/-! k05: moments_of, is_rule, placed_at_change, place -/
abbrev sMom : Stmt := inClass (top 22) 9
abbrev sPlace : Stmt := inClass (top 22) 12
abbrev sPlaced : Stmt := top 28
abbrev sIsRule : Stmt := top 29
section
variable {X : Cx} {M : List Addr} {σ : L2.St} {H : Hp} {e o : Expr} {C f : Addr} {fd : FuncData} {off n : Int} {rs : List Row} {k : Nat} {pos apos : Pos} {p : Str}
/-- o.m(e), a whole number -/
theorem xd_mi {m : Str} {g : Int → List Row → Int → Int} {pl : Sem Bool} {pa : Addr} (L : Live M H) (hc : Cls X.K C) (hM : Meth X.K C m f) (h1 : (m == ("base" : Str)) = false) (h2 : (m == ("rows" : Str)) = false) (F : FnOk X.prog X.w X.K X.mg X.base CX0 k f fd ["self", p] (spMI X.K C g)) (hr : Room k X.A) (hb : Binds X.K fd ["self", p] [])
    (ho : XV X σ H o (.ref pa)) (hz : ZAt X.K C (hid M H) pa off rs) (hlen : rs.length ≤ 1000) (ha : XD X M σ H e (.int n)) (hst : starEach [e] X.env = (false, eval e X.env) :: starEach [] X.env := by rfl) (hpl : (backTo pos (starEach [] X.env)).any (·.1) = false := by rfl)
    (ht : eval (.Call (.Attribute o m apos) [e] [] pos) X.env = (do
      let ov ← eval o X.env
      standAt apos.atName
      let (f, first) ← holding [ov] (getMethod ov m pl)
      callWith pos f first (backTo pos (starEach [e] X.env)) (backToKw pos (keywordEach [] X.env))) := by rfl) : XV X σ H (.Call (.Attribute o m apos) [e] [] pos) (.int (g off rs n)) := fun H1 s Q q => by
  have hz1 := hz.up (hid_mono (M := M) s)
  have hz0 := hz1
  obtain ⟨dx, r, e1, e2⟩ := hz1
  exact re_meth (ho.up s) (hid_le _ _ e1) hc hM (zf_none off r h1 h2) F hr hb (fun H2 s2 => ra_1 (ha H2 (s.trans s2) _ fun v H3 s3 hv => ⟨M, pa, off, rs, n, by rw [dp_int hv], L.mono ((s.trans s2).trans s3), hz0.up (hid_mono (s2.trans s3)), hlen, fun H4 s4 => q H4 ((s2.trans s3).trans s4)⟩) hst) hst hpl ht
end
def spMom (K : PySem.W.Frag) (C : Addr) : Sp := fun vs H Q _ => ∃ (M : List Addr) (a : Addr) (off : Int) (st : List Step) (x : Int), vs = [.ref a, .int x] ∧ Live M H ∧ ZAt K C (hid M H) a off (rowsP off st) ∧ okS st ∧ st.length ≤ 50 ∧
  ∀ p H1, Same H H1 → H p = none → H1 p = some (.lst ((solP x off st).map V.int)) → Q (.ref p) H1
section
variable {P : Program} {w : World} {K : PySem.W.Frag} {mg : Str → Option Value} {base : Heap} {C : Addr}
theorem scMom : FnScope ["self", "reading", "offsets", "moment", "before", "after", "offset"] ["self", "reading"] (defScope sMom) := ⟨rfl, rfl, rfl, by decide +kernel, rfl, by decide +kernel, by decide +kernel⟩
def fOff (o x : Int) (st : List Step) : PyData → Option Int
  | .int y => if o + sumJ (x - y) st = y then some (x - y) else none
  | _ => none
theorem ok_momentsOf {f fN fW fO : Addr} {fd fdN fdW fdO : FuncData} (T : Nm mg) (hS : mg "sorted" = none) (Z : ZT K mg C) (FW : Df K mg "is_whole" sWhole ["value"] fW fdW) (FN : Df K mg "need_integer" sNeed ["value"] fN fdN)
    (MO : Mt K C "offset_at" "Zone.offset_at" sOffAt ["self", "moment"] fO fdO) (F : Fun K "moments_of" "Zone.moments_of" sMom f fd) : FnOk P w K mg base CX0 4 f fd ["self", "reading"] (spMom K C) := by
  have GN : FnOk P w K mg base CX0 3 fN fdN ["value"] (spR K RNeed) := (ok_need T FW FN).mono (by decide)
  have GO : FnOk P w K mg base CX0 3 fO fdO ["self", "moment"] (spMI K C fun off rs m => offAt m off rs) := ok_offsetAt T Z FW FN MO.F
  refine F.ok scMom (fun vs H Q E h => ?_) (fun cdv A outer s H vs Q E hr h => ?_)
  · obtain ⟨M, a, off, st, x, rfl, _⟩ := h; rfl
  · obtain ⟨M, a, off, st, x, rfl, L, hz, ok, hlen, q⟩ := h
    refine rb_expr (M := M) (d := .none) (xd_call L GN hr FN.g FN.F.kp FN.b (xa_cons (xv_name 1 rfl).int xa_nil) ⟨x, rfl, rfl⟩) fun H1 s1 => ?_
    have hz1 := hz.up (hid_mono (M := M) s1)
    have L1 := L.mono s1
    have hrl : (rowsP off st).length ≤ 1000 := by rw [rowsP_len]; omega
    refine rb_setL (M := M) (ds := (offsP off st).map PyData.int) 2 ((xl_cat L1 (xd_lst L1 (xa_cons (xv_base ⟨_, Z⟩ hz1 (xv_name 0 rfl)).int xa_nil)) (XL.dd ((xl_comp (own := [("moment", 3), ("before", 4), ("after", 5)]) (fun d => match d with | .tuple [_, _, z] => some z | _ => none) L1 scMom.nd (xd_rows ⟨_, Z⟩ hz1 (xv_name 0 rfl))
      (blkOk_by (own := [("moment", 3), ("before", 4), ("after", 5)]) (N := ["self", "reading", "offsets", "moment", "before", "after", "offset"]) (sc := defScope sMom) (by decide +kernel)) (by rw [List.length_map]; omega) (fun p d v H2 hd hp s2 Lp hv => ?_)).to (fm_map rowD _ (fun r => .int r.2.2) (fun _ => rfl) (rowsP off st))) L1) ?_).to ?_) (fun p xs H2 s2 hp h2 hx => ?_) scMom.nd
    · obtain ⟨r, _, rfl⟩ := mem_row hd
      obtain ⟨t, rfl, ht⟩ := row_at hv
      intro s0 H0 C0 cl fp
      refine rg_tup (same_seqT hid_le ht) (rgs_cons (rg_name 3 (rgs_cons (rg_name 4 (rgs_cons (rg_name 5 (rgs_nil ?_) scMom.nd)) scMom.nd)) scMom.nd))
      refine ⟨rfl, bt_nil ⟨Same.refl _, .inl ⟨rfl, _, rfl, fun s0 H0 C0 cl fp => ?_⟩⟩⟩
      exact XV.go (xv_name 5 rfl) fun H3 s3 => ⟨s3, .int r.2.2⟩
    · rw [List.length_map, rowsP_len]
      show 1 + st.length ≤ 100000
      omega
    · rw [offs_rows, List.map_cons, List.map_map]
      rfl
    have hz2 := hz1.up (hid_mono (M := M) s2)
    have L2' := L1.mono s2
    have hpM : p ∉ M := L1.fresh hp
    have kp : Dq K (hid M H2) (.ref p) (.list ((offsP off st).map PyData.int)) := .lst (by rw [hid_of hpM]; exact h2) hx
    refine rb_retR (XL.go (xl_sortedSet (own := [("offset", 6)]) (fOff off x st) (solP x off st) hS L2' scMom.nd (xd_name 2 rfl kp)
      (blkOk_by (own := [("offset", 6)]) (N := ["self", "reading", "offsets", "moment", "before", "after", "offset"]) (sc := defScope sMom) (by decide +kernel)) (by rw [List.length_map, offs_len]; omega) (fun p d v H3 hd hp s3 Lp hv => ?_) (sol_asc x off ok) (fun m => ?_)) fun p xs H3 s3 hp h3 hx3 => ?_)
    · obtain ⟨y, _, rfl⟩ := List.mem_map.mp hd
      have ey := dp_int hv
      subst ey
      intro s0 H0 C0 cl fp
      refine rg_name 6 ?_ scMom.nd
      have hz3 : ZAt K C (hid (p :: M) H3) a off (rowsP off st) := hz2.up (hid_step hp s3)
      refine ⟨rfl, bt_one (k := decide (off + sumJ (x - y) st = y)) (fun s0 H0 C0 cl fp => ?_) fun H4 s4 => ⟨s4, ?_⟩⟩
      · refine (xt_eqI (M := p :: M) (XV.int (xd_mi (M := p :: M) (m := "offset_at") (g := fun off rs m => offAt m off rs) (n := x - y) Lp Z.cl MO.m (by decide +kernel) (by decide +kernel) GO hr MO.b (xv_name 0 rfl) hz3 hrl (xd_sub (xv_name 1 rfl).int (xv_name 6 rfl).int))) (XV.int (xv_name 6 rfl))).to ?_
        show decide (offAt (x - y) off (rowsP off st) = y) = _
        rw [offAt_plan _ off ok]
      · by_cases c : off + sumJ (x - y) st = y
        · refine .inl ⟨decide_eq_true c, x - y, if_pos c, fun s0 H0 C0 cl fp => ?_⟩
          exact XV.go (xd_sub (M := p :: M) (xv_name 1 rfl).int (xv_name 6 rfl).int).vint fun H5 s5 => ⟨s5, rfl⟩
        · exact .inr ⟨decide_eq_false c, if_neg c⟩
    · rw [sol_offs ok m]
      constructor
      · rintro ⟨y, hy, h⟩
        exact ⟨.int y, List.mem_map.mpr ⟨y, hy, rfl⟩, h⟩
      · rintro ⟨d, hd, h⟩
        obtain ⟨y, hy, rfl⟩ := List.mem_map.mp hd
        exact ⟨y, hy, h⟩
    · rw [ints_v hx3] at h3
      exact q p H3 ((s1.trans s2).trans s3) ((s1.trans s2).free hp) h3
end
end Zn

set_option Elab.async false
set_option linter.all false
set_option maxRecDepth 100000
set_option maxHeartbeats 8000000
namespace Zn
open PySem PySem.Spec PyProof.Rows L2 Dl
def isRuleS (x : Str) : Prop := x = "ahead" ∨ x = "behind" ∨ x = "strict"
section
variable {X : Cx} {M : List Addr} {σ : L2.St} {H : Hp} {a b e o : Expr} {pos apos p1 : Pos} {C f : Addr} {fd : FuncData} {off n : Int} {k : Nat}
theorem xt_eqS {x y : Str} (ha : XD X M σ H a (.str x)) (hb : XD X M σ H b (.str y)) : XT X σ H (.Compare a [.Eq] [b] pos) (decide (x = y)) :=
  xt_cmp op_eq ha hb fun H1 v w s hv hw Q q => by
    rw [dp_str hv, dp_str hw]
    have e : decide (V.str x = V.str y) = decide (x = y) := by
      by_cases h : x = y
      · subst h; simp
      · rw [decide_eq_false h, decide_eq_false fun z => h (V.str.inj z)]
    exact ⟨rfl, by rw [e]; exact q H1 (Same.refl _)⟩
/-- o.moments_of(e) -/
theorem xl_mom {pl : Sem Bool} {st : List Step} (L : Live M H) (hc : Cls X.K C) (hM : Meth X.K C "moments_of" f) (F : FnOk X.prog X.w X.K X.mg X.base CX0 k f fd ["self", "reading"] (spMom X.K C)) (hr : Room k X.A) (hb : Binds X.K fd ["self", "reading"] [])
    (ho : XZ C X M σ H o off (rowsP off st)) (ok : okS st) (hlen : st.length ≤ 50) (ha : XD X M σ H e (.int n)) (hst : starEach [e] X.env = (false, eval e X.env) :: starEach [] X.env := by rfl) (hpl : (backTo pos (starEach [] X.env)).any (·.1) = false := by rfl)
    (ht : eval (.Call (.Attribute o "moments_of" apos) [e] [] pos) X.env = (do
      let ov ← eval o X.env
      standAt apos.atName
      let (f, first) ← holding [ov] (getMethod ov "moments_of" pl)
      callWith pos f first (backTo pos (starEach [e] X.env)) (backToKw pos (keywordEach [] X.env))) := by rfl) : XL X M σ H (.Call (.Attribute o "moments_of" apos) [e] [] pos) ((solP n off st).map PyData.int) := fun H1 s Q q =>
  ⟨_, pe_meth re_ hc hM F hr hb .nil pass0 ra_ hst hpl ht, ho H1 s _ fun y H2 s2 hz => by
    have hz0 := hz
    obtain ⟨dx, r, e1, e2⟩ := hz
    refine ⟨y, dx, _, rfl, hid_le _ _ e1, zf_none off r (by decide +kernel) (by decide +kernel), ra_1 (ha H2 (s.trans s2) _ fun v H3 s3 hv => ?_) hst⟩
    rw [List.append_nil]
    exact ⟨M, y, off, st, n, by rw [dp_int hv], L.mono ((s.trans s2).trans s3), hz0.up (hid_mono s3), ok, hlen, fun p H4 s4 hp h4 => q p _ H4 ((s2.trans s3).trans s4) ((s2.trans s3).free hp) h4 (ints_dq _)⟩⟩
end
def RIsRule (ds : List PyData) (d : PyData) : Prop := ∃ x : Str, ds = [.str x] ∧ isRuleS x ∧ d = .bool true
/-- the tuple of the rules -/
def RulesAt (K : PySem.W.Frag) (mg : Str → Option Value) : Prop := ∃ a, mg "RULES" = some (.ref a) ∧ ∀ H, SqT K H a [.str "ahead", .str "behind", .str "strict"]
section
variable {P : Program} {w : World} {K : PySem.W.Frag} {mg : Str → Option Value} {base : Heap} {C : Addr}
theorem scIsRule : FnScope ["value"] ["value"] (defScope sIsRule) := ⟨rfl, rfl, rfl, by decide +kernel, rfl, by decide +kernel, by decide +kernel⟩
theorem ok_isRule {f : Addr} {fd : FuncData} (T : Nm mg) (hs : mg "str" = none) (hR : RulesAt K mg) (F : Df K mg "is_rule" sIsRule ["value"] f fd) : FnOk P w K mg base CX0 1 f fd ["value"] (spR K RIsRule) := by
  obtain ⟨ra, hR1, hR2⟩ := hR
  refine F.F.ok scIsRule (fun vs H Q E h => ?_) (fun cdv A outer s H vs Q E hr h => ?_)
  · obtain ⟨M, ds, d, L, hd, ⟨x, rfl, _⟩, q⟩ := h
    exact dpa_len hd
  · obtain ⟨M, ds, d, L, hd, ⟨x, rfl, hx, rfl⟩, q⟩ := h
    cases hd with
    | cons h1 h2 =>
      cases h2
      refine rb_ret (M := M) (xd_andT (xd_is1 (d := .str x) (r := true) (T := "str") (show kitB "str" "str" = some true by decide +kernel) T.isi hs (by decide +kernel) (xd_name 0 rfl h1)) (xd_one (xd_cmp (d1 := .str x) (d2 := .tuple [.str "ahead", .str "behind", .str "strict"]) op_in_seq (xd_name 0 rfl h1)
        ((xv_glob (v := .ref ra) hR1 rfl).dd (.tup (hR2 _) (.cons (.str _) (.cons (.str _) (.cons (.str _) .nil))))) (fun H1 v w s hv hw Q q => ?_)))) q
      obtain ⟨p, xs, rfl, hp, hxs⟩ := dp_tup hw
      cases hxs with
      | cons a1 hxs => cases hxs with
        | cons a2 hxs => cases hxs with
          | cons a3 hxs =>
            cases hxs
            rw [dp_str a1, dp_str a2, dp_str a3] at hp
            rw [dp_str hv]
            refine ⟨p, _, rfl, .inr (same_seqT hid_le hp), rfl, rfl, ?_⟩
            have e : inV (.str x) [.str "ahead", .str "behind", .str "strict"] = true := by
              rcases hx with rfl | rfl | rfl <;> decide +kernel
            rw [e]
            exact q _ H1 (Same.refl _) (.bl true)
def RPlaced (ds : List PyData) (d : PyData) : Prop := ∃ (r : Row) (x : Int) (rule : Str), ds = [rowD r, .int x, .str rule] ∧ d = if rule = "ahead" then .int (x - r.2.1) else if rule = "behind" then .int (x - r.2.2) else .none
theorem scPlaced : FnScope ["row", "reading", "rule"] ["row", "reading", "rule"] (defScope sPlaced) := ⟨rfl, rfl, rfl, by decide +kernel, rfl, by decide +kernel, by decide +kernel⟩
theorem ok_placed {f : Addr} {fd : FuncData} (F : Df K mg "placed_at_change" sPlaced ["row", "reading", "rule"] f fd) : FnOk P w K mg base CX0 1 f fd ["row", "reading", "rule"] (spR K RPlaced) := by
  refine F.F.ok scPlaced (fun vs H Q E h => ?_) (fun cdv A outer s H vs Q E hr h => ?_)
  · obtain ⟨M, ds, d, L, hd, ⟨r, x, rule, rfl, _⟩, q⟩ := h
    exact dpa_len hd
  · obtain ⟨M, ds, d, L, hd, ⟨r, x, rule, rfl, rfl⟩, q⟩ := h
    cases hd with
    | cons h1 hd => cases hd with
      | cons h2 hd => cases hd with
        | cons h3 hd =>
          cases hd
          refine rb_if (xt_eqS (M := M) (xd_name 2 rfl h3) xd_str) (fun e H1 s1 => ?_) (fun e H1 s1 => rb_nil ?_)
          · rw [if_pos (of_decide_eq_true e)] at q
            exact rb_ret (M := M) (xd_sub (xd_name 1 rfl (h2.up (hid_mono s1))) (xd_ixT (fun _ _ => rfl) (xd_name 0 rfl (h1.up (hid_mono s1))) xd_int rfl)) fun v H2 s2 hv => q v H2 (s1.trans s2) hv
          · rw [if_neg (of_decide_eq_false e)] at q
            refine rb_if (xt_eqS (M := M) (xd_name 2 rfl (h3.up (hid_mono s1))) xd_str) (fun e H2 s2 => ?_) (fun e H2 s2 => rb_nil ?_)
            · rw [if_pos (of_decide_eq_true e)] at q
              have s12 := s1.trans s2
              exact rb_ret (M := M) (xd_sub (xd_name 1 rfl (h2.up (hid_mono s12))) (xd_ixT (fun _ _ => rfl) (xd_name 0 rfl (h1.up (hid_mono s12))) xd_int rfl)) fun v H3 s3 hv => q v H3 (s12.trans s3) hv
            · rw [if_neg (of_decide_eq_false e)] at q
              exact rb_ret (M := M) xd_non fun v H3 s3 hv => q v H3 ((s1.trans s2).trans s3) hv
def spPlace (K : PySem.W.Frag) (C : Addr) : Sp := fun vs H Q _ => ∃ (M : List Addr) (a : Addr) (off : Int) (st : List Step) (x : Int) (rule : Str), vs = [.ref a, .int x, .str rule] ∧ isRuleS rule ∧ Live M H ∧ ZAt K C (hid M H) a off (rowsP off st) ∧ okS st ∧ st.length ≤ 50 ∧
  ∀ v H1, Same H H1 → Dq K (hid M H1) v (placeD x rule (rowsP off st) (solP x off st)) → Q v H1
theorem scPlace : FnScope ["self", "reading", "rule", "row", "low", "high"] ["self", "reading", "rule"] (defScope sPlace) := ⟨rfl, rfl, rfl, by decide +kernel, rfl, by decide +kernel, by decide +kernel⟩
theorem ok_place {f fN fW fT fR fP fm : Addr} {fd fdN fdW fdT fdR fdP fdm : FuncData} (T : Nm mg) (hs : mg "str" = none) (hR : RulesAt K mg) (Z : ZT K mg C) (FW : Df K mg "is_whole" sWhole ["value"] fW fdW) (FN : Df K mg "need_integer" sNeed ["value"] fN fdN)
    (FT : Df K mg "torn_readings" sTorn ["row"] fT fdT) (FR : Df K mg "is_rule" sIsRule ["value"] fR fdR) (FP : Df K mg "placed_at_change" sPlaced ["row", "reading", "rule"] fP fdP)
    (GM : FnOk P w K mg base CX0 4 fm fdm ["self", "reading"] (spMom K C)) (MM : Mt K C "moments_of" "Zone.moments_of" sMom ["self", "reading"] fm fdm)
    (F : Fun K "place" "Zone.place" sPlace f fd) : FnOk P w K mg base CX0 5 f fd ["self", "reading", "rule"] (spPlace K C) := by
  have GN : FnOk P w K mg base CX0 4 fN fdN ["value"] (spR K RNeed) := (ok_need T FW FN).mono (by decide)
  have GT : FnOk P w K mg base CX0 4 fT fdT ["row"] (spR K RTorn) := (ok_torn T FT).mono (by decide)
  have GR : FnOk P w K mg base CX0 4 fR fdR ["value"] (spR K RIsRule) := (ok_isRule T hs hR FR).mono (by decide)
  have GP : FnOk P w K mg base CX0 4 fP fdP ["row", "reading", "rule"] (spR K RPlaced) := (ok_placed FP).mono (by decide)
  refine F.ok scPlace (fun vs H Q E h => ?_) (fun cdv A outer s H vs Q E hr h => ?_)
  · obtain ⟨M, a, off, st, x, rule, rfl, _⟩ := h; rfl
  · obtain ⟨M, a, off, st, x, rule, rfl, hx, L, hz, ok, hlen, q⟩ := h
    refine rb_expr (M := M) (d := .none) (xd_call L GN hr FN.g FN.F.kp FN.b (xa_cons (xv_name 1 rfl).int xa_nil) ⟨x, rfl, rfl⟩) fun H1 s1 => ?_
    have L1 := L.mono s1
    refine rb_ifF ((xt_not (xt_val (M := M) (xd_call L1 GR hr FR.g FR.F.kp FR.b (xa_cons (xd_name 2 rfl (.str rule)) xa_nil) ⟨rule, rfl, hx, rfl⟩))).to rfl) fun H2 s2 => ?_
    have s12 := s1.trans s2
    have hz2 := hz.up (hid_mono (M := M) s12)
    refine rb_for (M := M) (xd_rows ⟨_, Z⟩ hz2 (xv_name 0 rfl)) fun H3 s3 => ⟨fun k σ' H' => Same H3 H' ∧ ((rowsP off st).take k).find? (inTorn x) = none ∧ ∃ a3 a4 a5, σ' = [some (.ref a), some (.int x), some (.str rule), a3, a4, a5], ⟨Same.refl _, rfl, none, none, none, rfl⟩, fun k σ' H' w => hid_mono w.1, fun k it hk σ' H' v w hv => ?_, fun σ' H' w => ?_⟩
    · obtain ⟨z1, hf, a3, a4, a5, rfl⟩ := w
      obtain ⟨r, hr1, rfl⟩ := map_get hk
      have s04 := (s12.trans s3).trans z1
      refine rg_name 3 ?_ scPlace.nd
      refine rb_asgR (XD.go (M := M) (xd_call (L.mono s04) GT hr FT.g FT.F.kp FT.b (xa_cons (xd_name 3 rfl hv) xa_nil) ⟨r, rfl, rfl⟩) fun v5 H5 s5 hv5 => ?_)
      obtain ⟨p, xs, rfl, hp, hxs⟩ := dp_tup hv5
      cases hxs with
      | cons a1 hxs => cases hxs with
        | cons a2 hxs =>
          cases hxs
          rw [dp_int a1, dp_int a2] at hp
          refine rg_tup (same_seqT hid_le hp) (rgs_cons (rg_name 4 (rgs_cons (rg_name 5 (rgs_nil ?_) scPlace.nd)) scPlace.nd))
          have hv' := hv.up (hid_mono (M := M) s5)
          refine rb_if ((xt_chainI (M := M) op_le op_lt (xv_name 4 rfl).int (xv_name 1 rfl).int (xv_name 5 rfl).int).to (show _ = inTorn x r from rfl)) (fun e H6 s6 => ?_) (fun e H6 s6 => rb_nil (rb_nil ?_))
          · have L6 := L.mono ((s04.trans s5).trans s6)
            refine rb_ret (M := M) (xd_call L6 GP hr FP.g FP.F.kp FP.b (xa_cons (xd_name 3 rfl (hv'.up (hid_mono s6))) (xa_cons (xd_name 1 rfl (.int x)) (xa_cons (xd_name 2 rfl (.str rule)) xa_nil))) ⟨r, x, rule, rfl, rfl⟩) fun v7 H7 s7 hv7 => q v7 H7 (((s04.trans s5).trans s6).trans s7) ?_
            unfold placeD
            rw [find_take hr1 hf e]
            exact hv7
          · exact ⟨(z1.trans s5).trans s6, find_snoc hr1 hf e, some v, _, _, rfl⟩
    · obtain ⟨z1, hf, a3, a4, a5, rfl⟩ := w
      rw [List.length_map, List.take_length] at hf
      have s04 := (s12.trans s3).trans z1
      have hz4 := hz.up (hid_mono (M := M) s04)
      have ht : tornP x off st = none := by rw [torn_find, hf]; rfl
      obtain ⟨m, hm⟩ := (sol_torn x off ok).1 ht
      refine rb_ret (M := M) (d := .int m) (xd_ixL (fun _ _ => rfl) (XL.dd (xl_mom (L.mono s04) Z.cl MM.m GM hr MM.b (xz_v (xv_name 0 rfl) hz4) ok hlen (xv_name 1 rfl).int) (L.mono s04)) xd_int (by rw [hm]; rfl)) fun v5 H5 s5 hv5 => q v5 H5 (s04.trans s5) ?_
      unfold placeD
      rw [hf, hm]
      exact hv5
end
end Zn

set_option Elab.async false
set_option linter.all false
set_option maxRecDepth 100000
set_option maxHeartbeats 8000000
namespace Zn
open PySem PySem.Spec PyProof.Rows L2 Dl
/-! k05: the law's own offset, moments, place, edges -/
abbrev sLOff : Stmt := top 59
abbrev sLMom : Stmt := top 60
abbrev sLPlace : Stmt := top 61
def upJ (m : Int) (s : Step) : Option Int := if s.1 ≤ m then some s.2 else none
def upD (m : Int) : PyData → Option PyData
  | .tuple [.int x, .int y] => if x ≤ m then some (.int y) else none
  | _ => none
theorem upD_all (m : Int) : ∀ st : List Step, (st.map stepD).filterMap (upD m) = (st.filterMap (upJ m)).map PyData.int
  | [] => rfl
  | s :: st => by
    rw [List.map_cons, List.filterMap_cons, List.filterMap_cons]
    have e : upD m (stepD s) = (upJ m s).map PyData.int := by
      show (if s.1 ≤ m then some (PyData.int s.2) else none) = (if s.1 ≤ m then some s.2 else none).map PyData.int
      split <;> rfl
    rw [e]
    cases upJ m s with
    | none => exact upD_all m st
    | some y => rw [List.map_cons, ← upD_all m st]; rfl
theorem sum_up (m : Int) : ∀ st : List Step, (st.filterMap (upJ m)).sum = sumJ m st
  | [] => rfl
  | s :: st => by
    rw [List.filterMap_cons]
    unfold sumJ
    by_cases z : s.1 ≤ m
    · have e : upJ m s = some s.2 := if_pos z
      rw [e, if_pos z]
      show (s.2 :: st.filterMap (upJ m)).sum = _
      rw [List.sum_cons, sum_up m st]
    · have e : upJ m s = none := if_neg z
      rw [e, if_neg z]
      show (st.filterMap (upJ m)).sum = _
      rw [sum_up m st]
      omega
def RLOff (ds : List PyData) (d : PyData) : Prop := ∃ (f : Int) (st : List Step) (m : Int), ds = [planD f st, .int m] ∧ st.length ≤ 1000 ∧ d = .int (f + sumJ m st)
def RLMom (ds es : List PyData) : Prop := ∃ (f : Int) (st : List Step) (x : Int), ds = [planD f st, .int x] ∧ okS st ∧ st.length ≤ 50 ∧ es = (solP x f st).map PyData.int
def RLPlace (ds : List PyData) (d : PyData) : Prop := ∃ (f : Int) (st : List Step) (x : Int) (rule : Str), ds = [planD f st, .int x, .str rule] ∧ okS st ∧ st.length ≤ 50 ∧ d = placeD x rule (rowsP f st) (solP x f st)
section
variable {X : Cx} {M : List Addr} {σ : L2.St} {H : Hp} {a b e o : Expr} {pos apos p1 : Pos}
theorem xt_notInI {n : Int} {ns : List Int} (ha : XD X M σ H a (.int n)) (hb : XD X M σ H b (.list (ns.map PyData.int))) (hm : behindInMarks .NotIn b = false := by rfl) : XT X σ H (.Compare a [.NotIn] [b] pos) (!decide (n ∈ ns)) :=
  xt_cmp op_notIn_seq ha hb (fun H1 v w s hv hw Q q => by
    obtain ⟨p, xs, rfl, hp, hx⟩ := dp_lst hw
    have e := int_all hx
    subst e
    rw [dp_int hv]
    exact ⟨p, _, rfl, .inl (SqL.of (hid_le _ _ hp)), rfl, flat_int ns, by rw [inV_int, any_int]; exact q H1 (Same.refl _)⟩) hm
end
section
variable {P : Program} {w : World} {K : PySem.W.Frag} {mg : Str → Option Value} {base : Heap} {C : Addr}
theorem scLOff : FnScope ["_law_plan", "_law_moment", "_law_change", "_law_jump"] ["_law_plan", "_law_moment"] (defScope sLOff) := ⟨rfl, rfl, rfl, by decide +kernel, rfl, by decide +kernel, by decide +kernel⟩
theorem ok_loff {f : Addr} {fd : FuncData} (hs : mg "sum" = none) (F : Df K mg "_law_offset" sLOff ["_law_plan", "_law_moment"] f fd) : FnOk P w K mg base CX0 1 f fd ["_law_plan", "_law_moment"] (spR K RLOff) := by
  refine F.F.ok scLOff (fun vs H Q E h => ?_) (fun cdv A outer s H vs Q E hr h => ?_)
  · obtain ⟨M, ds, d, L, hd, ⟨f, st, m, rfl, _⟩, q⟩ := h
    exact dpa_len hd
  · obtain ⟨M, ds, d, L, hd, ⟨f, st, m, rfl, hlen, rfl⟩, q⟩ := h
    cases hd with
    | cons h1 h2 =>
      cases h2 with
      | cons h2 h3 =>
        cases h3
        have e2 := dp_int h2
        subst e2
        refine rb_ret (M := M) (xd_add (xd_ixT (fun _ _ => rfl) (xd_name 0 rfl h1) xd_int plan0) ((xd_sum (ns := st.filterMap (upJ m)) hs (((xl_comp (own := [("_law_change", 2), ("_law_jump", 3)]) (upD m) L scLOff.nd (xd_ixT (fun _ _ => rfl) (xd_name 0 rfl h1) xd_int plan1)
          (blkOk_by (own := [("_law_change", 2), ("_law_jump", 3)]) (N := ["_law_plan", "_law_moment", "_law_change", "_law_jump"]) (sc := defScope sLOff) (by decide +kernel)) (by rw [List.length_map]; omega) (fun p d v H1 hd hp s1 Lp hv => ?_)).to (upD_all m st)).dd L)).to (by rw [sum_up]))) q
        obtain ⟨sx, _, rfl⟩ := mem_step hd
        obtain ⟨t, rfl, ht⟩ := step_at hv
        intro s0 H0 C0 cl fp
        refine rg_tup (same_seqT hid_le ht) (rgs_cons (rg_name 2 (rgs_cons (rg_name 3 (rgs_nil ?_) scLOff.nd)) scLOff.nd))
        refine ⟨rfl, bt_one (k := decide (sx.1 ≤ m)) (fun s0 H0 C0 cl fp => xt_cmpI (M := p :: M) op_le (xv_name 2 rfl).int (xv_name 1 rfl).int) fun H2 s2 => ⟨s2, ?_⟩⟩
        by_cases c : sx.1 ≤ m
        · exact .inl ⟨decide_eq_true c, .int sx.2, if_pos c, fun s0 H0 C0 cl fp => XV.go (xv_name 3 rfl) fun H3 s3 => ⟨s3, .int _⟩⟩
        · exact .inr ⟨decide_eq_false c, if_neg c⟩
theorem scLMom : FnScope ["_law_plan", "_law_reading", "_law_offsets", "_law_moment", "_law_offset_here", "_law_found"] ["_law_plan", "_law_reading"] (defScope sLMom) := ⟨rfl, rfl, rfl, by decide +kernel, rfl, by decide +kernel, by decide +kernel⟩
theorem ok_lmom {f fC fO : Addr} {fd fdC fdO : FuncData} (T : Nm mg) (hS : mg "sorted" = none) (FC : Df K mg "_law_changes" sLChanges ["_law_plan"] fC fdC) (GO : FnOk P w K mg base CX0 1 fO fdO ["_law_plan", "_law_moment"] (spR K RLOff)) (FO : Df K mg "_law_offset" sLOff ["_law_plan", "_law_moment"] fO fdO)
    (F : Df K mg "_law_moments" sLMom ["_law_plan", "_law_reading"] f fd) : FnOk P w K mg base CX0 2 f fd ["_law_plan", "_law_reading"] (spL K RLMom) := by
  have GC : FnOk P w K mg base CX0 1 fC fdC ["_law_plan"] (spL K RLChanges) := ok_lchanges FC
  refine F.F.ok scLMom (fun vs H Q E h => ?_) (fun cdv A outer s H vs Q E hr h => ?_)
  · obtain ⟨M, ds, es, L, hd, ⟨f, st, x, rfl, _⟩, q⟩ := h
    exact dpa_len hd
  · obtain ⟨M, ds, es, L, hd, ⟨f, st, x, rfl, ok, hlen, rfl⟩, q⟩ := h
    cases hd with
    | cons h1 h2 =>
      cases h2 with
      | cons h2 h3 =>
        cases h3
        rename_i v0 v1
        have e2 := dp_int h2
        subst e2
        refine rb_setL (M := M) (ds := (offsP f st).map PyData.int) 2 ((xl_cat L (xd_lst L (xa_cons (xd_ixT (fun _ _ => rfl) (xd_name 0 rfl h1) xd_int plan0) xa_nil)) (XL.dd ((xl_comp (own := [("_law_moment", 3), ("_law_offset_here", 4)]) (fun d => match d with | .tuple [_, z] => some z | _ => none) L scLMom.nd (XL.dd (xl_call L GC hr FC.g FC.F.kp FC.b (xa_cons (xd_name 0 rfl h1) xa_nil) ⟨f, st, rfl, by omega, rfl⟩) L)
          (blkOk_by (own := [("_law_moment", 3), ("_law_offset_here", 4)]) (N := ["_law_plan", "_law_reading", "_law_offsets", "_law_moment", "_law_offset_here", "_law_found"]) (sc := defScope sLMom) (by decide +kernel)) (by rw [List.length_map, ch_len]; omega) (fun p d v H2 hd hp s2 Lp hv => ?_)).to (fm_map stepD _ (fun r => .int r.2) (fun _ => rfl) (chOf f st))) L) ?_).to ?_) (fun p xs H1 s1 hp h1p hx => ?_) scLMom.nd
        · obtain ⟨r, _, rfl⟩ := mem_step hd
          obtain ⟨t, rfl, ht⟩ := step_at hv
          intro s0 H0 C0 cl fp
          refine rg_tup (same_seqT hid_le ht) (rgs_cons (rg_name 3 (rgs_cons (rg_name 4 (rgs_nil ?_) scLMom.nd)) scLMom.nd))
          refine ⟨rfl, bt_nil ⟨Same.refl _, .inl ⟨rfl, _, rfl, fun s0 H0 C0 cl fp => ?_⟩⟩⟩
          exact XV.go (xv_name 4 rfl) fun H3 s3 => ⟨s3, .int r.2⟩
        · rw [List.length_map, ch_len]
          show 1 + st.length ≤ 100000
          omega
        · rw [offs_ch, List.map_cons, List.map_map]
          rfl
        have L1 := L.mono s1
        have k1 : Dq K (hid M H1) (.ref p) (.list ((offsP f st).map PyData.int)) := .lst (by rw [hid_of (L.fresh hp)]; exact h1p) hx
        refine rb_setL 5 (xl_lst L1 xa_nil) (fun l xs2 H2 s2 hl h2l hx2 => ?_) scLMom.nd
        cases hx2
        have g0 : Same (hid M H1) (hid (l :: M) H2) := hid_step hl s2
        have Ll : Live (l :: M) H2 := fun b hb => by
          rcases List.mem_cons.mp hb with z | hb
          · subst z; rw [h2l]; simp
          · exact L1.mono s2 b hb
        have kf := (h1.up (hid_mono (M := M) s1)).up g0
        refine rb_for (M := l :: M) (xd_name 2 rfl (k1.up g0)) fun H3 s3 => ⟨fun k σ' H' => Same (hid (l :: M) H3) (hid (l :: M) H') ∧ Live (l :: M) H' ∧ Same H H' ∧ ∃ (acc : List Int) (a3 a4 : Option V), σ' = [some v0, some (.int x), some (.ref p), a3, a4, some (.ref l)] ∧ H' l = some (.lst (acc.map V.int)) ∧ acc.Nodup ∧ acc.length ≤ k ∧
            ∀ m, m ∈ acc ↔ ∃ y ∈ (offsP f st).take k, (if f + sumJ (x - y) st = y then some (x - y) else none) = some m,
          ⟨Same.refl _, Ll.mono s3, (s1.trans s2).trans s3, [], none, none, rfl, s3 _ _ h2l, List.nodup_nil, Nat.le_refl _, fun m => by simp⟩, fun k σ' H' w => w.1, fun k it hk σ' H' v hw hv => ?_, fun σ' H' hw => ?_⟩
        · obtain ⟨z1, L4, z2, acc, a3, a4, rfl, hl4, hnd, hle, hmem⟩ := hw
          obtain ⟨y, hy, rfl⟩ := map_get hk
          have hk50 : k ≤ 60 := by
            have z := (List.getElem?_eq_some_iff.mp hy).1
            rw [offs_len] at z
            omega
          have ey := dp_int hv
          subst ey
          refine rg_name 4 ?_ scLMom.nd
          refine rb_set 3 (M := l :: M) (xd_sub (xv_name 1 rfl).int (xv_name 4 rfl).int) (fun v5 H5 s5 hv5 => ?_) scLMom.nd
          have e5 := dp_int hv5
          subst e5
          have kf5 := (kf.up (hid_mono (M := l :: M) s3)).up (z1.trans (hid_mono (M := l :: M) s5))
          have L5 := L4.mono s5
          have snoc : ∀ m, (∃ z ∈ (offsP f st).take (k + 1), (if f + sumJ (x - z) st = z then some (x - z) else none) = some m) ↔ (∃ z ∈ (offsP f st).take k, (if f + sumJ (x - z) st = z then some (x - z) else none) = some m) ∨ ((if f + sumJ (x - y) st = y then some (x - y) else none) = some m) := fun m => by
            rw [take_snoc hy]
            constructor
            · rintro ⟨z, hz, e⟩
              rcases List.mem_append.mp hz with hz | hz
              · exact .inl ⟨z, hz, e⟩
              · rw [List.mem_singleton.mp hz] at e
                exact .inr e
            · rintro (⟨z, hz, e⟩ | e)
              · exact ⟨z, List.mem_append_left _ hz, e⟩
              · exact ⟨y, List.mem_append_right _ (List.mem_singleton.mpr rfl), e⟩
          have hlM : l ∉ M := L1.fresh hl
          refine rb_if (xt_and2 (xt_eqI (M := l :: M) (xd_call L5 GO hr FO.g FO.F.kp FO.b (xa_cons (xd_name 0 rfl kf5) (xa_cons (xv_name 3 rfl).int xa_nil)) ⟨f, st, x - y, rfl, by omega, rfl⟩) (xv_name 4 rfl).int) fun _ =>
            xt_notInI (M := M) (n := x - y) (ns := acc) (xv_name 3 rfl).int (xd_name 5 rfl (.lst (by rw [hid_of hlM]; exact s5 _ _ hl4) (ints_dq acc)))) (fun e H6 s6 => ?_) (fun e H6 s6 => rb_nil (rb_nil ?_))
          · rw [Bool.and_eq_true, decide_eq_true_eq] at e
            obtain ⟨e1, e2⟩ := e
            have e3 : x - y ∉ acc := by simpa using e2
            refine rb_append (M := l :: M) (xs := acc.map V.int) (List.mem_cons_self ..) (xv_name 5 rfl) (s6 _ _ (s5 _ _ hl4)) (xv_name 3 rfl).int (by rw [List.length_map]; omega) fun v7 H7 s7 hv7 => rb_nil (rb_nil ?_)
            have e7 := dp_int hv7
            subst e7
            have s47 := (s5.trans s6).trans s7
            refine ⟨?_, (L4.mono s47).upd, ?_, acc ++ [x - y], _, _, rfl, ?_, ?_, ?_, fun m => ?_⟩
            · rw [hid_cons_upd]; exact z1.trans (hid_mono s47)
            · exact same_upd (z2.trans s47) (s1.free hl)
            · rw [List.map_append]; exact upd_same
            · rw [List.nodup_append]
              refine ⟨hnd, by simp, fun u hu v hv => ?_⟩
              rw [List.mem_singleton.mp hv]
              exact fun z => e3 (z ▸ hu)
            · rw [List.length_append]; simp; omega
            · rw [List.mem_append, hmem m, snoc m, if_pos e1, List.mem_singleton]
              constructor
              · rintro (h | h)
                · exact .inl h
                · exact .inr (by rw [h])
              · rintro (h | h)
                · exact .inl h
                · exact .inr (Option.some.inj h).symm
          · have s46 := s5.trans s6
            refine ⟨z1.trans (hid_mono s46), L4.mono s46, z2.trans s46, acc, _, _, rfl, s46 _ _ hl4, hnd, by omega, fun m => ?_⟩
            rw [hmem m, snoc m]
            constructor
            · exact .inl
            · rintro (h | h)
              · exact h
              · by_cases c : f + sumJ (x - y) st = y
                · rw [if_pos c] at h
                  have h := Option.some.inj h
                  rw [decide_eq_true c, Bool.true_and] at e
                  have e3 : x - y ∈ acc := by simpa using e
                  rw [← h]
                  exact (hmem _).mp e3
                · rw [if_neg c] at h; cases h
        · obtain ⟨z1, L4, z2, acc, a3, a4, rfl, hl4, hnd, hle, hmem⟩ := hw
          have hlM : l ∉ M := L1.fresh hl
          rw [List.length_map, List.take_length] at hmem
          rw [List.length_map, offs_len] at hle
          refine rb_retR (XL.go (M := M) (xl_sortedI (solP x f st) hS (Live.tail L4) (xd_name 5 rfl (.lst (by rw [hid_of hlM]; exact hl4) (ints_dq acc))) (by omega) hnd (sol_asc x f ok) (fun m => (sol_offs ok m).trans (hmem m).symm)) fun r xs H5 s5 hr5 h5 hx5 => q r xs H5 (z2.trans s5) (z2.free hr5) h5 hx5)
end
end Zn

set_option Elab.async false
set_option linter.all false
set_option maxRecDepth 100000
set_option maxHeartbeats 8000000
namespace Zn
open PySem PySem.Spec PyProof.Rows L2 Dl
section
variable {P : Program} {w : World} {K : PySem.W.Frag} {mg : Str → Option Value} {base : Heap} {C : Addr}
theorem scLPlace : FnScope ["_law_plan", "_law_reading", "_law_rule", "_law_found", "_law_offset_here", "_law_moment", "_law_jump", "_law_low", "_law_high"] ["_law_plan", "_law_reading", "_law_rule"] (defScope sLPlace) := ⟨rfl, rfl, rfl, by decide +kernel, rfl, by decide +kernel, by decide +kernel⟩
theorem ok_lplace {f fM : Addr} {fd fdM : FuncData} (T : Nm mg) (GM : FnOk P w K mg base CX0 2 fM fdM ["_law_plan", "_law_reading"] (spL K RLMom)) (FM : Df K mg "_law_moments" sLMom ["_law_plan", "_law_reading"] fM fdM)
    (F : Df K mg "_law_place" sLPlace ["_law_plan", "_law_reading", "_law_rule"] f fd) : FnOk P w K mg base CX0 3 f fd ["_law_plan", "_law_reading", "_law_rule"] (spR K RLPlace) := by
  refine F.F.ok scLPlace (fun vs H Q E h => ?_) (fun cdv A outer s H vs Q E hr h => ?_)
  · obtain ⟨M, ds, d, L, hd, ⟨f, st, x, rule, rfl, _⟩, q⟩ := h
    exact dpa_len hd
  · obtain ⟨M, ds, d, L, hd, ⟨f, st, x, rule, rfl, ok, hlen, rfl⟩, q⟩ := h
    cases hd with
    | cons h1 hd => cases hd with
      | cons h2 hd => cases hd with
        | cons h3 hd =>
          cases hd
          rename_i v0 v1 v2
          have e2 := dp_int h2
          subst e2
          have e3 := dp_str h3
          subst e3
          have tt := sol_torn x f ok
          refine rb_par (M := M) (d1 := .list ((solP x f st).map PyData.int)) (d2 := .int f) 3 4 (xa_cons (XL.dd (xl_call L GM hr FM.g FM.F.kp FM.b (xa_cons (xd_name 0 rfl h1) (xa_cons (xd_name 1 rfl (.int x)) xa_nil)) ⟨f, st, x, rfl, ok, hlen, rfl⟩) L) (xa_cons (xd_ixT (fun _ _ => rfl) (xd_name 0 rfl h1) xd_int plan0) xa_nil)) (fun v3 v4 H1 s1 hv3 hv4 => ?_) scLPlace.nd
          have e4 := dp_int hv4
          subst e4
          refine rb_if (xt_eqI (M := M) (xd_len T.len (xd_name 3 rfl hv3)) xd_int) (fun e H2 s2 => ?_) (fun e H2 s2 => rb_nil ?_)
          · have el : (solP x f st).length = 1 := by
              have z := of_decide_eq_true e
              rw [List.length_map] at z
              omega
            have tn : tornP x f st = none := Classical.byContradiction fun z => tt.2 z el
            obtain ⟨m, hm⟩ := tt.1 tn
            have hf : (rowsP f st).find? (inTorn x) = none := by
              rw [torn_find] at tn
              cases z : (rowsP f st).find? (inTorn x) with
              | none => rfl
              | some r => rw [z] at tn; cases tn
            refine rb_ret (M := M) (d := .int m) (xd_ixL (fun _ _ => rfl) (xd_name 3 rfl (hv3.up (hid_mono s2))) xd_int (by rw [hm]; rfl)) fun v5 H5 s5 hv5 => q v5 H5 ((s1.trans s2).trans s5) ?_
            unfold placeD
            rw [hf, hm]
            exact hv5
          · have el : (solP x f st).length ≠ 1 := by
              have z := of_decide_eq_false e
              rw [List.length_map] at z
              omega
            have s12 := s1.trans s2
            have kf := h1.up (hid_mono (M := M) s12)
            refine rb_for (M := M) (xd_ixT (fun _ _ => rfl) (xd_name 0 rfl kf) xd_int plan1) fun H3 s3 => ⟨fun k σ' H' => Same H3 H' ∧ ((rowsP f st).take k).find? (inTorn x) = none ∧ ∃ a5 a6 a7 a8, σ' = [some v0, some (.int x), some (.str rule), some v3, some (.int (offS f (st.take k))), a5, a6, a7, a8], ⟨Same.refl _, rfl, none, none, none, none, rfl⟩, fun k σ' H' w => hid_mono w.1, fun k it hk σ' H' v w hv => ?_, fun σ' H' w => ?_⟩
            · obtain ⟨z1, hf, a5, a6, a7, a8, rfl⟩ := w
              obtain ⟨sx, hsx, rfl⟩ := map_get hk
              have hrow := rowsP_at f st k sx hsx
              obtain ⟨t, rfl, ht⟩ := step_at hv
              refine rg_tup (same_seqT hid_le ht) (rgs_cons (rg_name 5 (rgs_cons (rg_name 6 (rgs_nil ?_) scLPlace.nd)) scLPlace.nd))
              generalize hoo : offS f (st.take k) = oo at hrow
              refine rb_par (M := M) (d1 := .int (sx.1 + (if oo + sx.2 < oo then oo + sx.2 else oo))) (d2 := .int (sx.1 + (if oo + sx.2 > oo then oo + sx.2 else oo))) 7 8 (xa_cons (xd_add (xv_name 5 rfl).int (xd_min T.min (xa_cons (xv_name 4 rfl).int (xa_cons (xd_add (xv_name 4 rfl).int (xv_name 6 rfl).int) xa_nil))))
                (xa_cons (xd_add (xv_name 5 rfl).int (xd_max T.max (xa_cons (xv_name 4 rfl).int (xa_cons (xd_add (xv_name 4 rfl).int (xv_name 6 rfl).int) xa_nil)))) xa_nil)) (fun v7 v8 H5 s5 hv7 hv8 => ?_) scLPlace.nd
              have e7 := dp_int hv7
              subst e7
              have e8 := dp_int hv8
              subst e8
              refine rb_if ((xt_chainI (M := M) op_le op_lt (xv_name 7 rfl).int (xv_name 1 rfl).int (xv_name 8 rfl).int).to (show _ = inTorn x (sx.1, oo, oo + sx.2) from rfl)) (fun e H6 s6 => ?_) (fun e H6 s6 => rb_nil ?_)
              · have s06 := (((s12.trans s3).trans z1).trans s5).trans s6
                refine rb_ret (M := M) (xd_get2 (Nat.lt_of_le_of_lt (Nat.add_le_add_left (by decide : 1 ≤ 64) _) hr.units) (xd_sub (xv_name 1 rfl).int (xv_name 4 rfl).int) (xd_sub (xd_sub (xv_name 1 rfl).int (xv_name 4 rfl).int) (xv_name 6 rfl).int) (xd_name 2 rfl (.str rule)) (by decide +kernel) ⟨rfl, rfl, rfl, rfl⟩) fun v9 H9 s9 hv9 => q v9 H9 (s06.trans s9) ?_
                unfold placeD
                rw [find_take hrow hf e]
                have e0 : x - oo - sx.2 = x - (oo + sx.2) := by omega
                rw [e0] at hv9
                exact hv9
              · refine rb_set 4 (M := M) (xd_add (xv_name 4 rfl).int (xv_name 6 rfl).int) (fun v9 H9 s9 hv9 => rb_nil ?_) scLPlace.nd
                have e9 := dp_int hv9
                subst e9
                refine ⟨((z1.trans s5).trans s6).trans s9, find_snoc hrow hf e, some (.int sx.1), some (.int sx.2), some (.int (sx.1 + (if oo + sx.2 < oo then oo + sx.2 else oo))), some (.int (sx.1 + (if oo + sx.2 > oo then oo + sx.2 else oo))), ?_⟩
                rw [take_snoc hsx, off_snoc, hoo]
                rfl
            · obtain ⟨z1, hf, a5, a6, a7, a8, rfl⟩ := w
              rw [List.length_map] at hf
              have tn : tornP x f st = none := by
                rw [torn_find, ← List.take_length (l := rowsP f st), rowsP_len, hf]
                rfl
              obtain ⟨m, hm⟩ := tt.1 tn
              rw [hm] at el
              exact absurd rfl el
/-! edges -/
def bigI (n : Nat) (ns : List Int) : Prop := ∀ x ∈ ns, x.natAbs < n
theorem offS_small : ∀ (f : Int) (st : List Step), (∀ s ∈ st, okJ s.2) → (offS f st).natAbs ≤ f.natAbs + 720 * st.length
  | f, [], _ => by show f.natAbs ≤ _; simp
  | f, s :: st, h => by
    have a := h s (List.mem_cons_self ..)
    unfold okJ at a
    have b := offS_small (f + s.2) st fun t ht => h t (List.mem_cons_of_mem _ ht)
    show (offS (f + s.2) st).natAbs ≤ _
    rw [List.length_cons]
    omega
theorem rb_extendI {X : Cx} {M : List Addr} {σ : L2.St} {H : Hp} {o e : Expr} {p1 p2 pos : Pos} {D : Ends} {rest : List Stmt} {l : Addr} {xs : List V} {ns : List Int} (hl : l ∈ M) (ho : XV X σ H o (.ref l)) (h1 : H l = some (.lst xs)) (he : XD X M σ H e (.list (ns.map PyData.int))) (hz : xs.length + ns.length ≤ 100000) (k : ∀ H1, Same H H1 → RB X rest D σ (upd H1 l (.lst (xs ++ ns.map V.int))))
    (hbase : attributeBase o "extend" X.env (eval o X.env) = eval o X.env := by rfl)
    (hfew : ((backTo p2 (starEach [e] X.env)).all (fun x => !x.1) && (backToKw p2 (keywordEach [] X.env)).all (fun x => x.1.isSome) && decide ([e].length + ([] : List Keyword).length + (if ([] : List Keyword).isEmpty then 0 else 1) < 30)) = true := by rfl)
    (hline : (p1.endLine == p2.line) = true := by rfl) (hs : starEach [e] X.env = (false, eval e X.env) :: starEach [] X.env := by rfl) (hplain : (backTo p2 (starEach [] X.env)).any (·.1) = false := by rfl)
    (hsw : swapsWith (.Call (.Attribute o "extend" p1) [e] [] p2) none pos.line X.env = pure false := by rfl) : RB X (.Expr (.Call (.Attribute o "extend" p1) [e] [] p2) pos :: rest) D σ H :=
  rb_extend hl ho h1 he (by rw [List.length_map]; exact hz) (fun vs H1 s1 hv => by rw [ints_v hv]; exact k H1 s1) hbase hfew hline hs hplain hsw
end
end Zn

set_option Elab.async false
set_option linter.all false
set_option maxRecDepth 100000
set_option maxHeartbeats 8000000
namespace Zn
open PySem PySem.Spec PyProof.Rows L2 Dl
/-! ### data that can be shown: whole numbers of up to thirty-three digits -/
theorem log_big {i : Int} (h : i.natAbs < 10 ^ 33) : i.natAbs.log2 < 110 := by
  by_cases z : i.natAbs = 0
  · rw [z]; decide
  · rw [Nat.log2_lt z]
    exact Nat.lt_trans h (by decide)
theorem ints_show : ∀ {ns : List Int}, bigI (10 ^ 33) ns → PyData.leavesShortAll 40 (ns.map PyData.int) = true ∧ PyData.showableAll (ns.map PyData.int) = true ∧ PyData.hasDictAll (ns.map PyData.int) = false ∧ PyData.depthAll (ns.map PyData.int) = 0 ∧ PyData.weightAll (ns.map PyData.int) ≤ 200 * ns.length
  | [], _ => ⟨rfl, rfl, rfl, rfl, Nat.zero_le _⟩
  | n :: ns, h => by
    have hn := h n (List.mem_cons_self ..)
    have lg := log_big hn
    obtain ⟨b1, b2, b3, b4, b5⟩ := ints_show (ns := ns) fun x hx => h x (List.mem_cons_of_mem _ hx)
    have e := int_text_length_le10 (k := 33) (by decide) hn
    rw [List.map_cons]
    refine ⟨?_, ?_, ?_, ?_, ?_⟩
    · simp only [PyData.leavesShortAll, PyData.leavesShort, b1, Bool.and_true, decide_eq_true_eq]
      show (Str.ofString (toString n)).length ≤ 40
      rw [PySem.ofString_length]; omega
    · simp only [PyData.showableAll, PyData.showable, b2, Bool.and_true, decide_eq_true_eq]; omega
    · simp only [PyData.hasDictAll, PyData.hasDict, b3, Bool.or_self]
    · simp only [PyData.depthAll, PyData.depth, b4]; rfl
    · simp only [PyData.weightAll, PyData.weight, List.length_cons, Nat.mul_add]
      split <;> omega
structure Shows (ds : List PyData) : Prop where
  h1 : (PyData.list ds).showable = true
  h2 : (PyData.list ds).hasDict = false
  h3 : (PyData.list ds).depth ≤ 60
  h4 : (PyData.list ds).shown.length ≤ sizeLine
theorem shows_ints {ns : List Int} (h : bigI (10 ^ 33) ns) (hn : ns.length ≤ 100) : Shows (ns.map PyData.int) := by
  obtain ⟨b1, b2, b3, b4, b5⟩ := ints_show h
  refine ⟨by simpa only [PyData.showable] using b2, by simpa only [PyData.hasDict] using b3, by simp only [PyData.depth, b4]; omega, ?_⟩
  have ls : (PyData.list (ns.map PyData.int)).leavesShort 40 = true := by simpa only [PyData.leavesShort] using b1
  have e := PyData.shown_le 40 (by decide) _ ls
  have w : (PyData.list (ns.map PyData.int)).weight ≤ 20000 := by simp only [PyData.weight]; omega
  rw [sizeLine_eq]
  omega
theorem eqv_ints : ∀ ns : List Int, PyData.eqvAll (ns.map PyData.int) (ns.map PyData.int) = true
  | [] => by simp [PyData.eqvAll]
  | n :: ns => by
    rw [List.map_cons]
    show (PyData.eqv (.int n) (.int n) && PyData.eqvAll (ns.map PyData.int) (ns.map PyData.int)) = true
    rw [eqv_ints ns]
    simp [PyData.eqv]
/-! ### how great the values are -/
theorem offs_small : ∀ (f : Int) (st : List Step), (∀ s ∈ st, okJ s.2) → ∀ y ∈ offsP f st, y.natAbs ≤ f.natAbs + 720 * st.length
  | f, [], _, y, h => by
    unfold offsP at h
    rw [List.mem_singleton.mp h]
    simp
  | f, s :: st, hj, y, h => by
    have a := hj s (List.mem_cons_self ..)
    unfold okJ at a
    unfold offsP at h
    rw [List.length_cons]
    rcases List.mem_cons.mp h with e | h
    · rw [e]; omega
    · have b := offs_small (f + s.2) st (fun t ht => hj t (List.mem_cons_of_mem _ ht)) y h
      omega
theorem rows_offs : ∀ (f : Int) (st : List Step) (r : Row), r ∈ rowsP f st → r.2.1 ∈ offsP f st ∧ r.2.2 ∈ offsP f st
  | _, [], r, h => by simp [rowsP, rowsOf, chOf] at h
  | f, s :: st, r, h => by
    rw [rowsP_cons] at h
    unfold offsP
    rcases List.mem_cons.mp h with e | h
    · subst e
      refine ⟨List.mem_cons_self .., List.mem_cons_of_mem _ ?_⟩
      cases st with
      | nil => exact List.mem_cons_self ..
      | cons t st => exact List.mem_cons_self ..
    · obtain ⟨a, b⟩ := rows_offs (f + s.2) st r h
      exact ⟨List.mem_cons_of_mem _ a, List.mem_cons_of_mem _ b⟩
theorem plan_off {f : Int} {st : List Step} (h : PlanOk f st) : ∀ y ∈ offsP f st, y.natAbs ≤ 15000 := fun y hy => by
  have a := offs_small f st h.ok.1 y hy
  have := h.len
  have := h.f0
  have := h.f1
  omega
theorem sol_big {f x : Int} {st : List Step} (h : PlanOk f st) (hx : x.natAbs < 10 ^ 32) : bigI (10 ^ 33) (solP x f st) := fun m hm => by
  obtain ⟨y, hy, e⟩ := (sol_offs h.ok m).mp hm
  have := plan_off h y hy
  have e1 : (10 : Nat) ^ 33 = 10 * 10 ^ 32 := by decide
  have e2 : (10 : Nat) ^ 32 = 100000000000000000000000000000000 := by decide
  split at e
  · cases e; omega
  · cases e
theorem sol_len (x : Int) : ∀ (f : Int) (st : List Step), (solP x f st).length ≤ st.length + 1
  | f, [] => Nat.le_refl _
  | f, s :: st => by
    unfold solP
    rw [List.length_append, List.length_cons]
    have a := sol_len x (f + s.2) st
    have b : (if x < s.1 + f then [x - f] else []).length ≤ 1 := by split <;> simp
    have c : (if x < s.1 + f + s.2 then ([] : List Int) else solP x (f + s.2) st).length ≤ st.length + 1 := by split <;> first | exact a | simp
    omega
theorem plain_int {i : Int} (h : i.natAbs < 10 ^ 33) : Plain (.int i) := .inr ⟨i, rfl, by have := log_big h; omega⟩
theorem place_plain {f x : Int} {st : List Step} {rule : Str} (h : PlanOk f st) (hx : x.natAbs < 10 ^ 32) : Plain (placeD x rule (rowsP f st) (solP x f st)) := by
  have e1 : (10 : Nat) ^ 33 = 10 * 10 ^ 32 := by decide
  have e2 : (10 : Nat) ^ 32 = 100000000000000000000000000000000 := by decide
  unfold placeD
  cases e : (rowsP f st).find? (inTorn x) with
  | none =>
    refine plain_int ?_
    cases e3 : solP x f st with
    | nil => show (0 : Int).natAbs < _; decide
    | cons m ms => exact sol_big h hx m (by rw [e3]; exact List.mem_cons_self ..)
  | some r =>
    obtain ⟨a, b⟩ := rows_offs f st r (List.mem_of_find?_eq_some e)
    have a' := plan_off h _ a
    have b' := plan_off h _ b
    show Plain (if rule = "ahead" then PyData.int (x - r.2.1) else if rule = "behind" then PyData.int (x - r.2.2) else PyData.none)
    split
    · exact plain_int (by omega)
    · split
      · exact plain_int (by omega)
      · exact .inl rfl
section
variable {X : Cx} {M : List Addr} {σ : L2.St} {H : Hp} {e e2 o : Expr} {pos apos p1 : Pos} {C f : Addr} {fd : FuncData} {off n : Int} {k : Nat}
/-- o.place(e, e2) -/
theorem xd_place {pl : Sem Bool} {st : List Step} {rule : Str} {pa : Addr} (L : Live M H) (hc : Cls X.K C) (hM : Meth X.K C "place" f) (F : FnOk X.prog X.w X.K X.mg X.base CX0 k f fd ["self", "reading", "rule"] (spPlace X.K C)) (hr : Room k X.A) (hb : Binds X.K fd ["self", "reading", "rule"] [])
    (ho : XV X σ H o (.ref pa)) (hz : ZAt X.K C (hid M H) pa off (rowsP off st)) (ok : okS st) (hlen : st.length ≤ 50) (hx : isRuleS rule) (ha : XD X M σ H e (.int n)) (ha2 : XD X M σ H e2 (.str rule))
    (hst : starEach [e, e2] X.env = (false, eval e X.env) :: starEach [e2] X.env := by rfl) (hst2 : starEach [e2] X.env = (false, eval e2 X.env) :: starEach [] X.env := by rfl) (hpl : (backTo pos (starEach [e2] X.env)).any (·.1) = false := by rfl)
    (ht : eval (.Call (.Attribute o "place" apos) [e, e2] [] pos) X.env = (do
      let ov ← eval o X.env
      standAt apos.atName
      let (f, first) ← holding [ov] (getMethod ov "place" pl)
      callWith pos f first (backTo pos (starEach [e, e2] X.env)) (backToKw pos (keywordEach [] X.env))) := by rfl) : XD X M σ H (.Call (.Attribute o "place" apos) [e, e2] [] pos) (placeD n rule (rowsP off st) (solP n off st)) := fun H1 s Q q => by
  have hz1 := hz.up (hid_mono (M := M) s)
  have hz0 := hz1
  obtain ⟨dx, r, e1, e3⟩ := hz1
  exact re_meth (ho.up s) (hid_le _ _ e1) hc hM (zf_none off r (by decide +kernel) (by decide +kernel)) F hr hb (fun H2 s2 => ra_cons (ha H2 (s.trans s2) _ fun v H3 s3 hv => ra_1 (ha2 H3 ((s.trans s2).trans s3) _ fun u H4 s4 hu =>
    ⟨M, pa, off, st, n, rule, by rw [dp_int hv, dp_str hu], hx, L.mono (((s.trans s2).trans s3).trans s4), hz0.up (hid_mono ((s2.trans s3).trans s4)), ok, hlen, fun w H5 s5 hw => q w H5 (((s2.trans s3).trans s4).trans s5) hw⟩) hst2) hst) hst hpl ht
end
end Zn

set_option Elab.async false
set_option linter.all false
set_option maxRecDepth 100000
set_option maxHeartbeats 4000000
namespace Zn
open PySem PySem.Spec PyProof.Rows L2 Dl
/-! k32: the mathematics: jumps passed by a reading, chains of jumps, room -/
def mm (h : Bool) (a b : Int) : Int := if h then (if b > a then b else a) else (if b < a then b else a)
def thr (h : Bool) (o : Int) (s : Step) : Int := s.1 + mm h o (o + s.2)
/-- the jumps that a reading has passed; h: what is torn is still ahead of the change -/
def psd (h : Bool) (x : Int) : Int → List Step → List Int
  | _, [] => []
  | o, s :: st => if thr h o s ≤ x then s.2 :: psd h x (o + s.2) st else []
theorem mm_le (o j : Int) : mm false o (o + j) ≤ mm true o (o + j) := by unfold mm; simp only [if_true, Bool.false_eq_true, if_false]; split <;> split <;> omega
theorem mm_lo (h : Bool) (o j : Int) : o + j - ab j ≤ mm h o (o + j) ∧ mm h o (o + j) ≤ o + j + ab j ∧ o - ab j ≤ mm h o (o + j) ∧ mm h o (o + j) ≤ o + ab j := by
  unfold mm ab
  cases h <;> simp only [if_true, Bool.false_eq_true, if_false] <;> (repeat' split) <;> omega
theorem psd_nil {h : Bool} {x o : Int} {s : Step} {st : List Step} (ok : okS (s :: st)) (hx : x < s.1 + o + s.2 + ab s.2) : psd h x (o + s.2) st = [] := by
  cases st with
  | nil => rfl
  | cons t st =>
    have g := okS_gap ok
    have m := mm_lo h (o + s.2) t.2
    unfold psd
    rw [if_neg (by unfold thr; omega)]
def placeN (x : Int) (rule : Str) (o : Int) (st : List Step) : PyData :=
  match tornP x o st with
  | some r => if rule = "ahead" then .int (x - r.1) else if rule = "behind" then .int (x - r.2) else .none
  | none => .int ((solP x o st).headD 0)
theorem placeN_eq (x : Int) (rule : Str) (o : Int) (st : List Step) : placeD x rule (rowsP o st) (solP x o st) = placeN x rule o st := by
  unfold placeD placeN
  rw [torn_find]
  cases (rowsP o st).find? (inTorn x) with
  | none => rfl
  | some r => rfl
theorem torn_cond {x o : Int} {s : Step} : (s.1 + (if o + s.2 < o then o + s.2 else o) ≤ x ∧ x < s.1 + (if o + s.2 > o then o + s.2 else o)) ↔ (thr false o s ≤ x ∧ x < thr true o s) := Iff.rfl
theorem place_ahead (x : Int) : ∀ (o : Int) {st : List Step}, okS st → placeN x "ahead" o st = .int (x - (o + (psd true x o st).sum))
  | o, [], _ => by unfold placeN tornP solP psd; simp
  | o, s :: st, ok => by
    have ih := place_ahead x (o + s.2) (okS_tail ok)
    have m1 := mm_le o s.2
    unfold placeN at ih ⊢
    unfold tornP psd
    by_cases c : thr false o s ≤ x ∧ x < thr true o s
    · rw [if_pos (torn_cond.mpr c), if_neg (by omega)]
      show PyData.int (x - o) = _
      simp
    · rw [if_neg (fun z => c (torn_cond.mp z))]
      by_cases z : thr true o s ≤ x
      · rw [if_pos z]
        unfold solP
        have a : thr true o s = s.1 + mm true o (o + s.2) := rfl
        have b : o ≤ mm true o (o + s.2) ∧ o + s.2 ≤ mm true o (o + s.2) := by unfold mm; simp only [if_true]; split <;> omega
        rw [if_neg (by omega), if_neg (by omega), List.nil_append, ih, List.sum_cons]
        congr 1; omega
      · have a : thr false o s = s.1 + mm false o (o + s.2) := rfl
        have b : mm false o (o + s.2) ≤ o ∧ mm false o (o + s.2) ≤ o + s.2 := by unfold mm; simp only [Bool.false_eq_true, if_false]; split <;> omega
        have nn := ab_nn s.2
        rw [if_neg z, torn_low x s (o + s.2) ok (by omega)]
        unfold solP
        rw [if_pos (by omega), if_pos (by omega)]
        simp
theorem place_behind (x : Int) : ∀ (o : Int) {st : List Step}, okS st → placeN x "behind" o st = .int (x - (o + (psd false x o st).sum))
  | o, [], _ => by unfold placeN tornP solP psd; simp
  | o, s :: st, ok => by
    have ih := place_behind x (o + s.2) (okS_tail ok)
    have m1 := mm_le o s.2
    have e1 : ("behind" : Str) ≠ "ahead" := by decide
    unfold placeN at ih ⊢
    unfold tornP psd
    by_cases c : thr false o s ≤ x ∧ x < thr true o s
    · have m := mm_lo true o s.2
      have t0 : thr true o s = s.1 + mm true o (o + s.2) := rfl
      have nn := ab_nn s.2
      rw [if_pos (torn_cond.mpr c), if_pos c.1, psd_nil ok (by omega)]
      show (if ("behind" : Str) = "ahead" then PyData.int (x - o) else if ("behind" : Str) = "behind" then PyData.int (x - (o + s.2)) else PyData.none) = _
      rw [if_neg e1, if_pos rfl]
      simp
    · rw [if_neg (fun z => c (torn_cond.mp z))]
      by_cases z : thr false o s ≤ x
      · rw [if_pos z]
        have z2 : thr true o s ≤ x := by omega
        unfold solP
        have a : thr true o s = s.1 + mm true o (o + s.2) := rfl
        have b : o ≤ mm true o (o + s.2) ∧ o + s.2 ≤ mm true o (o + s.2) := by unfold mm; simp only [if_true]; split <;> omega
        rw [if_neg (by omega), if_neg (by omega), List.nil_append, ih, List.sum_cons]
        congr 1; omega
      · have a : thr false o s = s.1 + mm false o (o + s.2) := rfl
        have b : mm false o (o + s.2) ≤ o ∧ mm false o (o + s.2) ≤ o + s.2 := by unfold mm; simp only [Bool.false_eq_true, if_false]; split <;> omega
        have nn := ab_nn s.2
        rw [if_neg z, torn_low x s (o + s.2) ok (by omega)]
        unfold solP
        rw [if_pos (by omega), if_pos (by omega)]
        simp
/-- not torn: all rules alike -/
theorem place_same {x o : Int} {st : List Step} {r1 r2 : Str} (h : tornP x o st = none) : placeN x r1 o st = placeN x r2 o st := by unfold placeN; rw [h]
theorem place_strict {x o : Int} {st : List Step} (h : tornP x o st ≠ none) : placeN x "strict" o st = .none := by
  unfold placeN
  cases e : tornP x o st with
  | none => exact absurd e h
  | some r => show (if ("strict" : Str) = "ahead" then _ else if ("strict" : Str) = "behind" then _ else _) = _; rw [if_neg (by decide), if_neg (by decide)]
theorem psd_same {x o : Int} {st : List Step} (ok : okS st) (h : tornP x o st = none) : (psd true x o st).sum = (psd false x o st).sum := by
  have a := place_ahead x o ok
  have b := place_behind x o ok
  rw [place_same (r2 := "behind") h, b] at a
  have := PyData.int.inj a
  omega
theorem psd_same' : ∀ {x o : Int} {st : List Step}, okS st → tornP x o st = none → psd true x o st = psd false x o st
  | x, o, [], _, _ => rfl
  | x, o, s :: st, ok, h => by
    have m1 := mm_le o s.2
    have u : tornP x o (s :: st) = if s.1 + (if o + s.2 < o then o + s.2 else o) ≤ x ∧ x < s.1 + (if o + s.2 > o then o + s.2 else o) then some (o, o + s.2) else tornP x (o + s.2) st := rfl
    by_cases c : s.1 + (if o + s.2 < o then o + s.2 else o) ≤ x ∧ x < s.1 + (if o + s.2 > o then o + s.2 else o)
    · rw [u, if_pos c] at h; cases h
    · rw [u, if_neg c] at h
      have c' : ¬ (thr false o s ≤ x ∧ x < thr true o s) := fun z => c (torn_cond.mpr z)
      unfold psd
      have t0 : thr true o s = s.1 + mm true o (o + s.2) := rfl
      have t1 : thr false o s = s.1 + mm false o (o + s.2) := rfl
      by_cases z : thr false o s ≤ x
      · rw [if_pos z, if_pos (by omega), psd_same' (okS_tail ok) h]
      · rw [if_neg z, if_neg (by omega)]
theorem psd_pre (h : Bool) {x y : Int} (hxy : x ≤ y) : ∀ (o : Int) (st : List Step), ∃ js, psd h y o st = psd h x o st ++ js
  | o, [] => ⟨[], rfl⟩
  | o, s :: st => by
    unfold psd
    by_cases z : thr h o s ≤ x
    · obtain ⟨js, e⟩ := psd_pre h hxy (o + s.2) st
      rw [if_pos z, if_pos (by omega), e]
      exact ⟨js, rfl⟩
    · rw [if_neg z]
      exact ⟨_, rfl⟩
theorem psd_sub (h : Bool) (x : Int) : ∀ (o : Int) (st : List Step), (psd h x o st).length ≤ st.length ∧ ∀ j ∈ psd h x o st, ∃ s ∈ st, s.2 = j
  | o, [] => ⟨Nat.le_refl _, fun j hj => by simp [psd] at hj⟩
  | o, s :: st => by
    unfold psd
    obtain ⟨a, b⟩ := psd_sub h x (o + s.2) st
    split
    · refine ⟨by rw [List.length_cons, List.length_cons]; omega, fun j hj => ?_⟩
      rcases List.mem_cons.mp hj with e | hj
      · exact ⟨s, List.mem_cons_self .., e.symm⟩
      · obtain ⟨t, ht, e⟩ := b j hj
        exact ⟨t, List.mem_cons_of_mem _ ht, e⟩
    · exact ⟨Nat.zero_le _, fun j hj => by simp at hj⟩
/-- changes at least so far apart -/
def Far (ap : Int) : List Step → Prop
  | s :: t :: st => ap ≤ t.1 - s.1 ∧ Far ap (t :: st)
  | _ => True
theorem far_tail {ap : Int} {s : Step} {st : List Step} (h : Far ap (s :: st)) : Far ap st := by
  cases st with
  | nil => trivial
  | cons t st => exact h.2
/-- what has_room looks at: from the first change's moment -/
def lastA (h : Bool) : List Int → Int
  | [] => 0
  | j :: _ => mm h 0 j - 1
def lastJ : List Int → Int
  | [] => 0
  | [j] => j
  | _ :: j :: js => lastJ (j :: js)
def firstB (ap : Int) (h : Bool) (js : List Int) : Int := ap * ((js.length : Int) - 1) + mm h (js.sum - lastJ js) js.sum
def roomB (ap : Int) (hx hy : Bool) (d : Int) (js : List Int) : Bool := decide (js = []) || decide (firstB ap hy js ≤ lastA hx js + d * 1440)
theorem mm_add (h : Bool) (a b c : Int) : mm h (a + c) (b + c) = mm h a b + c := by unfold mm; cases h <;> simp only [if_true, Bool.false_eq_true, if_false] <;> (repeat' split) <;> omega
theorem pass_last {ap y : Int} {h : Bool} : ∀ (o : Int) {s : Step} {st : List Step}, Far ap (s :: st) → 0 ≤ ap → ∀ js, psd h y o (s :: st) = js → js ≠ [] → s.1 + o + firstB ap h js ≤ y
  | o, s, [], hf, h0, js, e, hn => by
    unfold psd at e
    split at e
    · rename_i z
      subst e
      unfold thr at z
      have e1 : mm h (0 + o) (s.2 + o) = mm h 0 s.2 + o := mm_add ..
      rw [Int.zero_add, Int.add_comm s.2 o] at e1
      show s.1 + o + (ap * (((1 : Nat) : Int) - 1) + mm h ((s.2 :: []).sum - s.2) (s.2 :: []).sum) ≤ y
      have e2 : (s.2 :: ([] : List Int)).sum = s.2 := by simp
      rw [e2, Int.sub_self]
      simp
      omega
    · exact absurd e.symm hn
  | o, s, t :: st, hf, h0, js, e, hn => by
    have u : psd h y o (s :: t :: st) = if thr h o s ≤ y then s.2 :: psd h y (o + s.2) (t :: st) else [] := rfl
    rw [u] at e
    split at e
    · rename_i z
      subst e
      by_cases hz : psd h y (o + s.2) (t :: st) = []
      · rw [hz]
        unfold thr at z
        have e1 : mm h (0 + o) (s.2 + o) = mm h 0 s.2 + o := mm_add ..
        rw [Int.zero_add, Int.add_comm s.2 o] at e1
        show s.1 + o + (ap * (((1 : Nat) : Int) - 1) + mm h ((s.2 :: []).sum - s.2) (s.2 :: []).sum) ≤ y
        have e2 : (s.2 :: ([] : List Int)).sum = s.2 := by simp
        rw [e2, Int.sub_self]
        simp
        omega
      · have ih := pass_last (ap := ap) (o + s.2) hf.2 h0 _ rfl hz
        generalize psd h y (o + s.2) (t :: st) = js at ih hz
        cases js with
        | nil => exact absurd rfl hz
        | cons j js =>
          have g := hf.1
          have e3 : firstB ap h (s.2 :: j :: js) = firstB ap h (j :: js) + ap + s.2 := by
            unfold firstB
            have l1 : lastJ (s.2 :: j :: js) = lastJ (j :: js) := rfl
            rw [l1, List.sum_cons (a := s.2)]
            have e4 : s.2 + (j :: js).sum - lastJ (j :: js) = ((j :: js).sum - lastJ (j :: js)) + s.2 := by omega
            rw [e4, Int.add_comm s.2, mm_add]
            have e5 : (((s.2 :: j :: js).length : Nat) : Int) - 1 = (((j :: js).length : Nat) : Int) - 1 + 1 := by rw [List.length_cons (a := s.2)]; omega
            rw [e5, Int.mul_add, Int.mul_one]
            omega
          rw [e3]
          omega
    · exact absurd e.symm hn
/-- two readings: what lies between them has room -/
theorem pass_room {ap x y d : Int} {hx hy : Bool} (hd : y = x + d * 1440) (h0 : 0 ≤ ap) : ∀ (o : Int) {st : List Step}, Far ap st → ∀ js, psd hy y o st = psd hx x o st ++ js → roomB ap hx hy d js = true
  | o, [], _, js, e => by
    have : js = [] := by simpa [psd] using e.symm
    unfold roomB
    rw [this]; rfl
  | o, s :: st, hf, js, e => by
    by_cases hn : js = []
    · unfold roomB; rw [hn]; rfl
    · have u : psd hx x o (s :: st) = if thr hx o s ≤ x then s.2 :: psd hx x (o + s.2) st else [] := rfl
      by_cases z : thr hx o s ≤ x
      · rw [u, if_pos z] at e
        have u2 : psd hy y o (s :: st) = if thr hy o s ≤ y then s.2 :: psd hy y (o + s.2) st else [] := rfl
        rw [u2] at e
        split at e
        · exact pass_room hd h0 (o + s.2) (far_tail hf) js (by simpa using e)
        · simp at e
      · rw [u, if_neg z, List.nil_append] at e
        have q := pass_last (ap := ap) o hf h0 js e hn
        unfold roomB
        rw [Bool.or_eq_true, decide_eq_true_eq, decide_eq_true_eq]
        right
        have e6 : lastA hx js = mm hx 0 s.2 - 1 := by
          have u2 : psd hy y o (s :: st) = if thr hy o s ≤ y then s.2 :: psd hy y (o + s.2) st else [] := rfl
          rw [u2] at e
          split at e
          · subst e; rfl
          · exact absurd e.symm hn
        have e1 : mm hx (0 + o) (s.2 + o) = mm hx 0 s.2 + o := mm_add ..
        rw [Int.zero_add, Int.add_comm s.2 o] at e1
        unfold thr at z
        rw [e6]
        omega
/-- the rule's two sides -/
def hX (rule : Str) : Bool := decide (rule = "ahead")
def hY (rule : Str) : Bool := !decide (rule = "behind")
def isR (rule : Str) : Prop := rule = "ahead" ∨ rule = "behind" ∨ rule = "strict"
/-- what the law's difference comes to -/
theorem diff_room {ap x d : Int} {rule : Str} {o : Int} {st : List Step} (hr : isR rule) (ok : okS st) (hf : Far ap st) (h0 : 0 ≤ ap) (hd : 0 ≤ d) {a b : Int} (ha : placeN x rule o st = .int a) (hb : placeN (x + d * 1440) rule o st = .int b) :
    ∃ js : List Int, b - a = d * 1440 - js.sum ∧ js.length ≤ st.length ∧ (∀ j ∈ js, ∃ s ∈ st, s.2 = j) ∧ roomB ap (hX rule) (hY rule) d js = true := by
  have key : ∀ (hx hy : Bool) (js : List Int), psd hy (x + d * 1440) o st = psd hx x o st ++ js → a = x - (o + (psd hx x o st).sum) → b = x + d * 1440 - (o + (psd hy (x + d * 1440) o st).sum) → b - a = d * 1440 - js.sum ∧ js.length ≤ st.length ∧ (∀ j ∈ js, ∃ s ∈ st, s.2 = j) ∧ roomB ap hx hy d js = true := by
    intro hx hy js e ea eb
    refine ⟨?_, ?_, fun j hj => ?_, pass_room rfl h0 o hf js e⟩
    · rw [e, List.sum_append] at eb; omega
    · have := (psd_sub hy (x + d * 1440) o st).1
      rw [e, List.length_append] at this; omega
    · exact (psd_sub hy (x + d * 1440) o st).2 j (by rw [e]; exact List.mem_append_right _ hj)
  rcases hr with rfl | rfl | rfl
  · obtain ⟨js, e⟩ := psd_pre true (show x ≤ x + d * 1440 by omega) o st
    rw [place_ahead _ _ ok] at ha hb
    exact ⟨js, key true true js e (PyData.int.inj ha).symm (PyData.int.inj hb).symm⟩
  · obtain ⟨js, e⟩ := psd_pre false (show x ≤ x + d * 1440 by omega) o st
    rw [place_behind _ _ ok] at ha hb
    exact ⟨js, key false false js e (PyData.int.inj ha).symm (PyData.int.inj hb).symm⟩
  · have tx : tornP x o st = none := Classical.byContradiction fun z => by rw [place_strict z] at ha; cases ha
    have ty : tornP (x + d * 1440) o st = none := Classical.byContradiction fun z => by rw [place_strict z] at hb; cases hb
    rw [place_same (r2 := "behind") tx, place_behind _ _ ok] at ha
    rw [place_same (r2 := "ahead") ty, place_ahead _ _ ok] at hb
    obtain ⟨js, e⟩ := psd_pre false (show x ≤ x + d * 1440 by omega) o st
    rw [← psd_same' ok ty] at e
    exact ⟨js, key false true js e (PyData.int.inj ha).symm (PyData.int.inj hb).symm⟩
/-! ### near plans -/
def nearP (ap c : Int) : List Int → List Step
  | [] => []
  | j :: js => (c, j) :: nearP ap (c + ap) js
theorem near_len (ap : Int) : ∀ (c : Int) (js : List Int), (nearP ap c js).length = js.length
  | _, [] => rfl
  | c, j :: js => by show _ + 1 = _ + 1; rw [near_len ap _ js]
theorem near_jumps (ap : Int) : ∀ (c : Int) (js : List Int), (nearP ap c js).map (·.2) = js
  | _, [] => rfl
  | c, j :: js => by show j :: _ = _; rw [near_jumps ap _ js]
theorem near_far (ap : Int) : ∀ (c : Int) (js : List Int), Far ap (nearP ap c js)
  | _, [] => trivial
  | _, [_] => trivial
  | c, j :: k :: js => ⟨by show ap ≤ c + ap - c; omega, near_far ap (c + ap) (k :: js)⟩
theorem okS_cons {s : Step} {st : List Step} (h1 : okJ s.2) (h2 : okS st) (h3 : ∀ t, st.head? = some t → ab s.2 + ab t.2 < t.1 - s.1) : okS (s :: st) := by
  refine ⟨fun t ht => ?_, fun k t u e1 e2 => ?_⟩
  · rcases List.mem_cons.mp ht with e | ht
    · rw [e]; exact h1
    · exact h2.1 t ht
  · cases k with
    | zero =>
      simp at e1; subst e1
      refine h3 u ?_
      rw [List.head?_eq_getElem?]
      simpa using e2
    | succ k => exact h2.2 k t u (by simpa using e1) (by simpa using e2)
theorem near_ok {ap mx : Int} (hap : 2 * mx + 1 ≤ ap) : ∀ (c : Int) (js : List Int), (∀ j ∈ js, okJ j ∧ ab j ≤ mx) → okS (nearP ap c js)
  | _, [], _ => ⟨fun t ht => by simp [nearP] at ht, fun k t u h => by simp [nearP] at h⟩
  | c, j :: js, h => by
    refine okS_cons (h j (List.mem_cons_self ..)).1 (near_ok hap (c + ap) js fun k hk => h k (List.mem_cons_of_mem _ hk)) fun t ht => ?_
    cases js with
    | nil => simp [nearP] at ht
    | cons k js =>
      simp [nearP] at ht
      subst ht
      have a := (h j (List.mem_cons_self ..)).2
      have b := (h k (List.mem_cons_of_mem _ (List.mem_cons_self ..))).2
      show ab j + ab k < c + ap - c
      omega
/-- beyond the last change: all have been passed, none is torn -/
theorem near_pass {ap mx y : Int} {h : Bool} (hap : 2 * mx + 1 ≤ ap) : ∀ (c o : Int) (js : List Int), (∀ j ∈ js, okJ j ∧ ab j ≤ mx) → js ≠ [] → c + o + firstB ap h js ≤ y →
    psd h y o (nearP ap c js) = js ∧ (h = true → tornP y o (nearP ap c js) = none) ∧ (js ≠ [] → thr h o (c, js.headD 0) ≤ y)
  | c, o, [], _, hn, _ => absurd rfl hn
  | c, o, [j], hj, _, hy => by
    have e1 : mm h (0 + o) (j + o) = mm h 0 j + o := mm_add ..
    rw [Int.zero_add, Int.add_comm j o] at e1
    have hy' : c + o + mm h 0 j ≤ y := by
      have e2 : firstB ap h [j] = mm h 0 j := by
        show ap * (((1 : Nat) : Int) - 1) + mm h ((j :: []).sum - j) (j :: []).sum = _
        have e2 : (j :: ([] : List Int)).sum = j := by simp
        rw [e2, Int.sub_self]; simp
      rw [e2] at hy; exact hy
    have t1 : thr h o (c, j) ≤ y := by show c + mm h o (o + j) ≤ y; omega
    refine ⟨?_, fun ht => ?_, fun _ => t1⟩
    · show (if thr h o (c, j) ≤ y then j :: [] else []) = [j]
      rw [if_pos t1]
    · subst ht
      show (if _ then some (o, o + j) else none) = none
      rw [if_neg fun z => ?_]
      have := (torn_cond (s := (c, j))).mp z
      omega
  | c, o, j :: k :: js, hj, _, hy => by
    have e3 : firstB ap h (j :: k :: js) = firstB ap h (k :: js) + ap + j := by
      unfold firstB
      have l1 : lastJ (j :: k :: js) = lastJ (k :: js) := rfl
      rw [l1, List.sum_cons (a := j)]
      have e4 : j + (k :: js).sum - lastJ (k :: js) = ((k :: js).sum - lastJ (k :: js)) + j := by omega
      rw [e4, Int.add_comm j, mm_add]
      have e5 : (((j :: k :: js).length : Nat) : Int) - 1 = (((k :: js).length : Nat) : Int) - 1 + 1 := by rw [List.length_cons (a := j)]; omega
      rw [e5, Int.mul_add, Int.mul_one]
      omega
    rw [e3] at hy
    have ih := near_pass (y := y) (h := h) hap (c + ap) (o + j) (k :: js) (fun z hz => hj z (List.mem_cons_of_mem _ hz)) (by simp) (by omega)
    have t2 := ih.2.2 (by simp)
    have aj := (hj j (List.mem_cons_self ..)).2
    have ak := (hj k (List.mem_cons_of_mem _ (List.mem_cons_self ..))).2
    have mj := mm_lo h o j
    have mk := mm_lo h (o + j) k
    have nj := ab_nn j
    have nk := ab_nn k
    have t2' : c + ap + mm h (o + j) (o + j + k) ≤ y := t2
    have t1 : thr h o (c, j) ≤ y := by show c + mm h o (o + j) ≤ y; omega
    refine ⟨?_, fun ht => ?_, fun _ => t1⟩
    · show (if thr h o (c, j) ≤ y then j :: psd h y (o + j) (nearP ap (c + ap) (k :: js)) else []) = _
      rw [if_pos t1, ih.1]
    · show (if _ then some (o, o + j) else tornP y (o + j) (nearP ap (c + ap) (k :: js))) = none
      rw [if_neg fun z => ?_, ih.2.1 ht]
      subst ht
      have := (torn_cond (s := (c, j))).mp z
      omega
theorem near_none {ap c x o : Int} {h : Bool} {j : Int} {js : List Int} (hx : x = c + o + lastA h (j :: js)) : psd h x o (nearP ap c (j :: js)) = [] := by
  have e1 : mm h (0 + o) (j + o) = mm h 0 j + o := mm_add ..
  rw [Int.zero_add, Int.add_comm j o] at e1
  show (if thr h o (c, j) ≤ x then _ else []) = []
  rw [if_neg]
  have e2 : lastA h (j :: js) = mm h 0 j - 1 := rfl
  show ¬ (c + mm h o (o + j) ≤ x)
  omega
theorem near_none_torn {ap mx c x : Int} {j : Int} {js : List Int} (hap : 2 * mx + 1 ≤ ap) (hj : ∀ k ∈ j :: js, okJ k ∧ ab k ≤ mx) (hx : x = c + lastA false (j :: js)) : tornP x 0 (nearP ap c (j :: js)) = none := by
  have e2 : lastA false (j :: js) = mm false 0 j - 1 := rfl
  have m := mm_lo false 0 j
  have z := near_ok hap c (j :: js) hj
  have nn := ab_nn j
  have h1 : mm false 0 j ≤ 0 ∧ mm false 0 j ≤ j := by unfold mm; simp only [Bool.false_eq_true, if_false]; split <;> omega
  rw [Int.zero_add] at m
  show (if _ then some ((0 : Int), 0 + j) else tornP x (0 + j) (nearP ap (c + ap) js)) = none
  rw [if_neg fun q => ?_]
  · exact torn_low x (c, j) (0 + j) z (by show x < c + (0 + j) + ab j; omega)
  · have := (torn_cond (s := (c, j))).mp q
    have t : thr false 0 (c, j) = c + mm false 0 (0 + j) := rfl
    rw [Int.zero_add] at t
    omega
/-- the reading just ahead of near changes and the one so many days later, if there is room -/
theorem near_diff {ap mx c d : Int} {rule : Str} {js : List Int} (hr : isR rule) (hap : 2 * mx + 1 ≤ ap) (hj : ∀ j ∈ js, okJ j ∧ ab j ≤ mx) (room : roomB ap (hX rule) (hY rule) d js = true) :
    placeN (c + lastA (hX rule) js) rule 0 (nearP ap c js) = .int (c + lastA (hX rule) js) ∧ placeN (c + lastA (hX rule) js + d * 1440) rule 0 (nearP ap c js) = .int (c + lastA (hX rule) js + d * 1440 - js.sum) := by
  cases js with
  | nil =>
    unfold placeN nearP tornP solP
    simp
  | cons j js =>
    have ok := near_ok hap c (j :: js) hj
    unfold roomB at room
    rw [Bool.or_eq_true, decide_eq_true_eq, decide_eq_true_eq] at room
    have room := room.resolve_left (by simp)
    have e0 : ∀ h, psd h (c + lastA h (j :: js)) 0 (nearP ap c (j :: js)) = [] := fun h => near_none (by omega)
    have pp := fun h => near_pass (h := h) (y := c + lastA (hX rule) (j :: js) + d * 1440) hap c 0 (j :: js) hj (by simp)
    rcases hr with rfl | rfl | rfl
    · have q := pp true (by have : hY "ahead" = true := by decide
                            rw [this] at room; omega)
      rw [place_ahead _ _ ok, place_ahead _ _ ok, q.1]
      have : hX "ahead" = true := by decide
      rw [this, e0]
      constructor <;> congr 1 <;> simp
    · have q := pp false (by have : hY "behind" = false := by decide
                             rw [this] at room; omega)
      rw [place_behind _ _ ok, place_behind _ _ ok, q.1]
      have : hX "behind" = false := by decide
      rw [this, e0]
      constructor <;> congr 1 <;> simp
    · have q := pp true (by have : hY "strict" = true := by decide
                            rw [this] at room; omega)
      have : hX "strict" = false := by decide
      rw [this] at q ⊢
      rw [place_same (r2 := "behind") (near_none_torn hap hj rfl), place_same (r2 := "ahead") (q.2.1 rfl), place_behind _ _ ok, place_ahead _ _ ok, q.1, e0]
      constructor <;> congr 1 <;> simp
/-- days enough -/
theorem sum_bound {b : Int} (hb : 0 ≤ b) : ∀ {js : List Int}, (∀ j ∈ js, ab j ≤ b) → js.sum ≤ b * js.length ∧ -(b * js.length) ≤ js.sum ∧ (js ≠ [] → js.sum - lastJ js ≤ b * (js.length - 1))
  | [], _ => ⟨by simp, by simp, fun h => absurd rfl h⟩
  | [j], h => by
    have a := h j (List.mem_cons_self ..)
    have n := ab_nn j
    simp [lastJ]
    omega
  | j :: k :: js, h => by
    obtain ⟨a1, a2, a3⟩ := sum_bound hb (js := k :: js) fun z hz => h z (List.mem_cons_of_mem _ hz)
    have a3 := a3 (by simp)
    have a := h j (List.mem_cons_self ..)
    have n := ab_nn j
    have l : ((j :: k :: js).length : Int) = ((k :: js).length : Int) + 1 := by rw [List.length_cons]; omega
    have l1 : lastJ (j :: k :: js) = lastJ (k :: js) := rfl
    rw [l, List.sum_cons, l1, Int.mul_add, Int.mul_one]
    rw [Int.mul_sub, Int.mul_one] at a3
    have e : b * (((k :: js).length : Int) + 1 - 1) = b * ((k :: js).length : Int) := by congr 1; omega
    rw [e]
    refine ⟨by omega, by omega, fun _ => by omega⟩
theorem room_big {ap d : Int} {hx hy : Bool} {js : List Int} (hj : ∀ j ∈ js, ab j ≤ 720) (hn : js.length ≤ 3) (h : ap * ((js.length : Int) - 1) + 2881 ≤ d * 1440) : roomB ap hx hy d js = true := by
  unfold roomB
  rw [Bool.or_eq_true, decide_eq_true_eq, decide_eq_true_eq]
  by_cases z : js = []
  · exact .inl z
  · right
    obtain ⟨b1, b2, b3⟩ := sum_bound (by decide) hj
    have b3 := b3 z
    have c1 : (720 : Int) * js.length ≤ 2160 := by omega
    have c2 : (720 : Int) * ((js.length : Int) - 1) ≤ 1440 := by omega
    have f : firstB ap hy js ≤ ap * ((js.length : Int) - 1) + 2160 := by
      unfold firstB mm
      cases hy <;> simp only [if_true, Bool.false_eq_true, if_false] <;> split <;> omega
    have l : -721 ≤ lastA hx js := by
      cases js with
      | nil => exact absurd rfl z
      | cons j js =>
        have a := hj j (List.mem_cons_self ..)
        have n := ab_nn j
        show -721 ≤ mm hx 0 j - 1
        unfold mm
        cases hx <;> simp only [if_true, Bool.false_eq_true, if_false] <;> split <;> omega
    omega
/-! ### chains of jumps -/
def lg (js : List Int) : Nat → List (List Int)
  | 0 => [[]]
  | n + 1 => (lg js n).flatMap fun c => js.map fun j => c ++ [j]
def chs (js : List Int) : Nat → List (List Int)
  | 0 => [[]]
  | n + 1 => chs js n ++ lg js (n + 1)
theorem lg_mem {js : List Int} : ∀ {n : Nat} {c : List Int}, c ∈ lg js n ↔ c.length = n ∧ ∀ j ∈ c, j ∈ js
  | 0, c => by
    unfold lg
    rw [List.mem_singleton]
    constructor
    · rintro rfl; exact ⟨rfl, fun j hj => by simp at hj⟩
    · rintro ⟨h, _⟩; exact List.eq_nil_of_length_eq_zero h
  | n + 1, c => by
    unfold lg
    rw [List.mem_flatMap]
    constructor
    · rintro ⟨c', h1, h2⟩
      obtain ⟨j, hj, rfl⟩ := List.mem_map.mp h2
      obtain ⟨a, b⟩ := lg_mem.mp h1
      refine ⟨by simp [a], fun k hk => ?_⟩
      rcases List.mem_append.mp hk with hk | hk
      · exact b k hk
      · rw [List.mem_singleton.mp hk]; exact hj
    · rintro ⟨h1, h2⟩
      have hn : c ≠ [] := fun z => by rw [z] at h1; simp at h1
      refine ⟨c.dropLast, lg_mem.mpr ⟨by simp [h1], fun j hj => h2 j ((List.dropLast_sublist c).subset hj)⟩, List.mem_map.mpr ⟨c.getLast hn, h2 _ (List.getLast_mem hn), List.dropLast_concat_getLast hn⟩⟩
theorem chs_mem {js : List Int} : ∀ {n : Nat} {c : List Int}, c ∈ chs js n ↔ c.length ≤ n ∧ ∀ j ∈ c, j ∈ js
  | 0, c => by
    show c ∈ [[]] ↔ _
    rw [List.mem_singleton]
    constructor
    · rintro rfl; exact ⟨Nat.le_refl _, fun j hj => by simp at hj⟩
    · rintro ⟨h, _⟩; exact List.eq_nil_of_length_eq_zero (Nat.le_zero.mp h)
  | n + 1, c => by
    show c ∈ chs js n ++ lg js (n + 1) ↔ _
    rw [List.mem_append, chs_mem, lg_mem]
    constructor
    · rintro (⟨a, b⟩ | ⟨a, b⟩)
      · exact ⟨by omega, b⟩
      · exact ⟨by omega, b⟩
    · rintro ⟨a, b⟩
      by_cases z : c.length ≤ n
      · exact .inl ⟨z, b⟩
      · exact .inr ⟨by omega, b⟩
theorem flatMap_len {α β : Type} {f : α → List β} {k : Nat} (h : ∀ a, (f a).length = k) : ∀ xs : List α, (xs.flatMap f).length = xs.length * k
  | [] => by simp
  | x :: xs => by rw [List.flatMap_cons, List.length_append, h, flatMap_len h xs, List.length_cons, Nat.succ_mul]; omega
theorem lg_len (js : List Int) : ∀ n, (lg js n).length = js.length ^ n
  | 0 => rfl
  | n + 1 => by
    unfold lg
    rw [flatMap_len (k := js.length) (fun c => by rw [List.length_map]), lg_len js n]
    rfl
theorem lg_small {js : List Int} (hj : js.length ≤ 4) : ∀ {n : Nat}, n ≤ 3 → (lg js n).length ≤ 64 := fun {n} hn => by
  rw [lg_len]
  calc js.length ^ n ≤ 4 ^ n := Nat.pow_le_pow_left hj n
    _ ≤ 4 ^ 3 := Nat.pow_le_pow_right (by decide) hn
    _ = 64 := by decide
theorem chs_small {js : List Int} (hj : js.length ≤ 4) : ∀ {n : Nat}, n ≤ 3 → (chs js n).length ≤ 64 * n + 1
  | 0, _ => Nat.le_refl _
  | n + 1, h => by
    show (chs js n ++ lg js (n + 1)).length ≤ _
    rw [List.length_append]
    have a := chs_small hj (n := n) (by omega)
    have b := lg_small hj (n := n + 1) h
    omega
/-- sums of so many members, in no order -/
def ms : Nat → List Int → List Int
  | 0, _ => [0]
  | _ + 1, [] => []
  | n + 1, j :: js => (ms n (j :: js)).map (j + ·) ++ ms (n + 1) js
def msL : Nat → Nat → Nat
  | 0, _ => 1
  | _ + 1, 0 => 0
  | n + 1, k + 1 => msL n (k + 1) + msL (n + 1) k
theorem ms_len : ∀ (n : Nat) (js : List Int), (ms n js).length = msL n js.length
  | 0, js => by simp [ms, msL]
  | n + 1, [] => by rw [ms, List.length_nil, msL]
  | n + 1, j :: js => by
    rw [ms, List.length_append, List.length_map, ms_len n (j :: js), ms_len (n + 1) js, List.length_cons, msL]
theorem sum_erase {j : Int} : ∀ {c : List Int}, j ∈ c → c.sum = j + (c.erase j).sum
  | [], h => by simp at h
  | x :: c, h => by
    by_cases z : x = j
    · subst z; rw [List.erase_cons_head, List.sum_cons]
    · have hm : j ∈ c := (List.mem_cons.mp h).resolve_left fun q => z q.symm
      rw [List.erase_cons_tail (by simpa using z), List.sum_cons, List.sum_cons, sum_erase hm]
      omega
theorem ms_mem : ∀ (n : Nat) (js c : List Int), c.length = n → (∀ j ∈ c, j ∈ js) → c.sum ∈ ms n js
  | 0, js, c, h, _ => by
    rw [List.eq_nil_of_length_eq_zero h]
    unfold ms; simp
  | n + 1, [], c, h, hm => by
    cases c with
    | nil => simp at h
    | cons x c => have := hm x (List.mem_cons_self ..); simp at this
  | n + 1, j :: js, c, h, hm => by
    unfold ms
    rw [List.mem_append]
    by_cases z : j ∈ c
    · left
      rw [sum_erase z]
      refine List.mem_map.mpr ⟨_, ms_mem n (j :: js) (c.erase j) ?_ (fun k hk => hm k (List.mem_of_mem_erase hk)), rfl⟩
      rw [List.length_erase_of_mem z, h]; rfl
    · right
      refine ms_mem (n + 1) js c h fun k hk => ?_
      rcases List.mem_cons.mp (hm k hk) with e | e
      · rw [e] at hk; exact absurd hk z
      · exact e
theorem rep_sum (n : Nat) : (List.replicate n (0 : Int)).sum = 0 := by
  induction n with
  | zero => rfl
  | succ n ih => rw [List.replicate_succ, List.sum_cons, ih]; rfl
/-- the sums of at most three of at most four jumps are few -/
theorem sums_few {js : List Int} (hj : js.length ≤ 4) : ∃ T : List Int, T.length < 64 ∧ ∀ c : List Int, c.length ≤ 3 → (∀ j ∈ c, j ∈ js) → c.sum ∈ T := by
  refine ⟨ms 3 (0 :: js), ?_, fun c h hm => ?_⟩
  · rw [ms_len, List.length_cons]
    have h : js.length = 0 ∨ js.length = 1 ∨ js.length = 2 ∨ js.length = 3 ∨ js.length = 4 := by omega
    rcases h with h | h | h | h | h <;> rw [h] <;> simp [msL]
  · have e : c.sum = (c ++ List.replicate (3 - c.length) 0).sum := by rw [List.sum_append, rep_sum]; omega
    rw [e]
    refine ms_mem 3 (0 :: js) _ ?_ fun j hk => ?_
    · rw [List.length_append, List.length_replicate]; omega
    · rcases List.mem_append.mp hk with hk | hk
      · exact List.mem_cons_of_mem _ (hm j hk)
      · rw [(List.mem_replicate.mp hk).2]; exact List.mem_cons_self ..
/-- the law's own sums -/
def smR (js : List Int) : Nat → List Int
  | 0 => [0]
  | n + 1 => smR js n ++ js.flatMap fun j => (smR js n).map (· + j)
theorem smR_mem {js : List Int} : ∀ {n : Nat} {x : Int}, x ∈ smR js n ↔ ∃ c ∈ chs js n, c.sum = x
  | 0, x => by
    show x ∈ [0] ↔ ∃ c ∈ [([] : List Int)], c.sum = x
    simp [eq_comm]
  | n + 1, x => by
    show x ∈ smR js n ++ js.flatMap (fun j => (smR js n).map (· + j)) ↔ _
    rw [List.mem_append, smR_mem, List.mem_flatMap]
    constructor
    · rintro (⟨c, h, e⟩ | ⟨j, hj, h⟩)
      · exact ⟨c, List.mem_append_left _ h, e⟩
      · obtain ⟨y, hy, e⟩ := List.mem_map.mp h
        obtain ⟨c, hc, ec⟩ := smR_mem.mp hy
        obtain ⟨a, b⟩ := chs_mem.mp hc
        refine ⟨c ++ [j], chs_mem.mpr ⟨by simp; omega, fun k hk => ?_⟩, by simp [ec]; omega⟩
        rcases List.mem_append.mp hk with hk | hk
        · exact b k hk
        · rw [List.mem_singleton.mp hk]; exact hj
    · rintro ⟨c, hc, e⟩
      rcases List.mem_append.mp hc with hc | hc
      · exact .inl ⟨c, hc, e⟩
      · obtain ⟨a, b⟩ := lg_mem.mp hc
        have hn : c ≠ [] := fun z => by rw [z] at a; simp at a
        refine .inr ⟨c.getLast hn, b _ (List.getLast_mem hn), List.mem_map.mpr ⟨c.dropLast.sum, smR_mem.mpr ⟨c.dropLast, chs_mem.mpr ⟨by simp [a], fun j hj => b j ((List.dropLast_sublist c).subset hj)⟩, rfl⟩, ?_⟩⟩
        have e2 : c.sum = (c.dropLast ++ [c.getLast hn]).sum := by rw [List.dropLast_concat_getLast hn]
        rw [← e, e2, List.sum_append]
        simp
theorem smR_len (js : List Int) : ∀ n, (smR js n).length = (js.length + 1) ^ n
  | 0 => rfl
  | n + 1 => by
    show (smR js n ++ js.flatMap (fun j => (smR js n).map (· + j))).length = _
    rw [List.length_append, flatMap_len (k := (smR js n).length) (fun j => by rw [List.length_map]), smR_len js n, Nat.pow_succ, Nat.mul_add]
    rw [Nat.mul_comm js.length]
    omega
end Zn

set_option Elab.async false
set_option linter.all false
set_option maxRecDepth 100000
set_option maxHeartbeats 8000000
namespace Zn
open PySem PySem.Spec PyProof.Rows L2 Dl
/-! k32: day_of, time_of, need_kind, need_rule, need_days, need_spans, chains, span_over -/
abbrev sDayOf : Stmt := top 17
abbrev sTimeOf : Stmt := top 18
abbrev sNeedK : Stmt := top 36
abbrev sNeedR : Stmt := top 39
abbrev sNeedS : Stmt := top 42
abbrev sNeedDs : Stmt := top 43
abbrev sChains : Stmt := top 44
abbrev sOver : Stmt := top 45
def chainD (js : List Int) : PyData := .tuple (js.map PyData.int)
def chN (k : Kd) : List (List Int) := chs (isort k.js) k.mo.toNat
section
variable {P : Program} {w : World} {K : PySem.W.Frag} {mg : Str → Option Value} {base : Heap} {C CK CZ : Addr}
def RDay (ds : List PyData) (d : PyData) : Prop := ∃ x : Int, ds = [.int x] ∧ d = .int (x / 1440)
theorem scDayOf : FnScope ["reading"] ["reading"] (defScope sDayOf) := ⟨rfl, rfl, rfl, by decide +kernel, rfl, by decide +kernel, by decide +kernel⟩
theorem ok_dayOf {f fN : Addr} {fd fdN : FuncData} (hD : ∃ t, mg "DAY_LENGTH" = some (.int 1440 t)) (GN : FnOk P w K mg base CX0 2 fN fdN ["value"] (spR K RNeed)) (FN : Df K mg "need_integer" sNeed ["value"] fN fdN) (F : Df K mg "day_of" sDayOf ["reading"] f fd) : FnOk P w K mg base CX0 3 f fd ["reading"] (spR K RDay) := by
  obtain ⟨tk, hD⟩ := hD
  refine F.F.ok scDayOf (fun vs H Q E h => ?_) (fun cdv A outer s H vs Q E hr h => ?_)
  · obtain ⟨M, ds, d, L, hd, ⟨x, rfl, _⟩, q⟩ := h
    exact dpa_len hd
  · obtain ⟨M, ds, d, L, hd, ⟨x, rfl, rfl⟩, q⟩ := h
    cases hd with
    | cons h1 hd =>
      cases hd
      refine rb_expr (M := M) (d := .none) (xd_call L GN hr FN.g FN.F.kp FN.b (xa_cons (xd_name 0 rfl h1) xa_nil) ⟨x, rfl, rfl⟩) fun H1 s1 => ?_
      exact rb_ret (M := M) (xd_div (xd_name 0 rfl (h1.up (hid_mono s1))) (xv_glob (v := .int 1440) hD ⟨tk, rfl⟩).int (cdiv (by decide) (by decide))) fun v H2 s2 hv => q v H2 (s1.trans s2) hv
def RTimeO (ds : List PyData) (d : PyData) : Prop := ∃ x : Int, ds = [.int x] ∧ d = .int (x % 1440)
theorem scTimeOf : FnScope ["reading"] ["reading"] (defScope sTimeOf) := ⟨rfl, rfl, rfl, by decide +kernel, rfl, by decide +kernel, by decide +kernel⟩
theorem ok_timeOf {f fN : Addr} {fd fdN : FuncData} (hD : ∃ t, mg "DAY_LENGTH" = some (.int 1440 t)) (GN : FnOk P w K mg base CX0 2 fN fdN ["value"] (spR K RNeed)) (FN : Df K mg "need_integer" sNeed ["value"] fN fdN) (F : Df K mg "time_of" sTimeOf ["reading"] f fd) : FnOk P w K mg base CX0 3 f fd ["reading"] (spR K RTimeO) := by
  obtain ⟨tk, hD⟩ := hD
  refine F.F.ok scTimeOf (fun vs H Q E h => ?_) (fun cdv A outer s H vs Q E hr h => ?_)
  · obtain ⟨M, ds, d, L, hd, ⟨x, rfl, _⟩, q⟩ := h
    exact dpa_len hd
  · obtain ⟨M, ds, d, L, hd, ⟨x, rfl, rfl⟩, q⟩ := h
    cases hd with
    | cons h1 hd =>
      cases hd
      refine rb_expr (M := M) (d := .none) (xd_call L GN hr FN.g FN.F.kp FN.b (xa_cons (xd_name 0 rfl h1) xa_nil) ⟨x, rfl, rfl⟩) fun H1 s1 => ?_
      exact rb_ret (M := M) (xd_mod (xd_name 0 rfl (h1.up (hid_mono s1))) (xv_glob (v := .int 1440) hD ⟨tk, rfl⟩).int (by decide)) fun v H2 s2 hv => q v H2 (s1.trans s2) hv
def spNeedK (K : PySem.W.Frag) (C : Addr) : Sp := fun vs H Q _ => ∃ (M : List Addr) (a : Addr) (k : Kd), vs = [.ref a] ∧ KAt K C (hid M H) a k ∧ ∀ H1, Same H H1 → Q .non H1
theorem scNeedK : FnScope ["value"] ["value"] (defScope sNeedK) := ⟨rfl, rfl, rfl, by decide +kernel, rfl, by decide +kernel, by decide +kernel⟩
theorem ok_needK {f : Addr} {fd : FuncData} (T : Nm mg) (Y : KT K mg CK) (I : KI K CK) (F : Df K mg "need_kind" sNeedK ["value"] f fd) : FnOk P w K mg base CX0 1 f fd ["value"] (spNeedK K CK) := by
  refine F.F.ok scNeedK (fun vs H Q E h => ?_) (fun cdv A outer s H vs Q E hr h => ?_)
  · obtain ⟨M, a, k, rfl, _⟩ := h; rfl
  · obtain ⟨M, a, k, rfl, hk, q⟩ := h
    have hty : ∀ H1, Same H H1 → TyX K H1 (.ref a) (.ref CK) := fun H1 s1 => by
      obtain ⟨dx, r, e1, _⟩ := hk
      exact .base (.ins (s1 _ _ (hid_le _ _ e1)) Y.cl I.ha I.hn I.htk I.hm)
    exact rb_ifF ((xt_not (xt_val (M := M) (xd_isK T.isi Y.mgC (xv_name 0 rfl) hty I.yes))).to rfl) fun H1 s1 => rb_nil (q H1 s1)
def RNeedR (ds : List PyData) (d : PyData) : Prop := ∃ x : Str, ds = [.str x] ∧ isRuleS x ∧ d = .none
theorem scNeedR : FnScope ["value"] ["value"] (defScope sNeedR) := ⟨rfl, rfl, rfl, by decide +kernel, rfl, by decide +kernel, by decide +kernel⟩
theorem ok_needR {f fI : Addr} {fd fdI : FuncData} (GI : FnOk P w K mg base CX0 1 fI fdI ["value"] (spR K RIsRule)) (FI : Df K mg "is_rule" sIsRule ["value"] fI fdI) (F : Df K mg "need_rule" sNeedR ["value"] f fd) : FnOk P w K mg base CX0 2 f fd ["value"] (spR K RNeedR) := by
  refine F.F.ok scNeedR (fun vs H Q E h => ?_) (fun cdv A outer s H vs Q E hr h => ?_)
  · obtain ⟨M, ds, d, L, hd, ⟨x, rfl, _⟩, q⟩ := h
    exact dpa_len hd
  · obtain ⟨M, ds, d, L, hd, ⟨x, rfl, hx, rfl⟩, q⟩ := h
    cases hd with
    | cons h1 hd =>
      cases hd
      exact rb_ifF ((xt_not (xt_val (M := M) (xd_call L GI hr FI.g FI.F.kp FI.b (xa_cons (xd_name 0 rfl h1) xa_nil) ⟨x, rfl, hx, rfl⟩))).to rfl) fun H1 s1 => rb_nil (q .non H1 s1 .non)
def RNeedDs (ds : List PyData) (d : PyData) : Prop := ∃ x : Int, ds = [.int x] ∧ 1 ≤ x ∧ d = .none
theorem scNeedDs : FnScope ["value"] ["value"] (defScope sNeedDs) := ⟨rfl, rfl, rfl, by decide +kernel, rfl, by decide +kernel, by decide +kernel⟩
theorem ok_needDs {f fW : Addr} {fd fdW : FuncData} (T : Nm mg) (FW : Df K mg "is_whole" sWhole ["value"] fW fdW) (F : Df K mg "need_days" sNeedDs ["value"] f fd) : FnOk P w K mg base CX0 2 f fd ["value"] (spR K RNeedDs) := by
  have GW : FnOk P w K mg base CX0 1 fW fdW ["value"] (spR K RWhole) := ok_whole T FW
  refine F.F.ok scNeedDs (fun vs H Q E h => ?_) (fun cdv A outer s H vs Q E hr h => ?_)
  · obtain ⟨M, ds, d, L, hd, ⟨x, rfl, _⟩, q⟩ := h
    exact dpa_len hd
  · obtain ⟨M, ds, d, L, hd, ⟨x, rfl, hx, rfl⟩, q⟩ := h
    cases hd with
    | cons h1 hd =>
      cases hd
      refine rb_ifF ((xt_or2 (xt_not (xt_val (M := M) (xd_call L GW hr FW.g FW.F.kp FW.b (xa_cons (xd_name 0 rfl h1) xa_nil) ⟨.int x, rfl, rfl⟩))) fun _ => xt_cmpI (M := M) op_lt (xd_name 0 rfl h1) xd_int).to ?_) fun H1 s1 => rb_nil (q .non H1 s1 .non)
      show (!true || decide (x < 1)) = false
      rw [decide_eq_false (by omega)]
      rfl
def spNeedS (K : PySem.W.Frag) (C : Addr) : Sp := fun vs H Q _ => ∃ (M : List Addr) (a : Addr) (k : Kd) (rule : Str) (d : Int), vs = [.ref a, .str rule, .int d] ∧ isRuleS rule ∧ 1 ≤ d ∧ Live M H ∧ KAt K C (hid M H) a k ∧ ∀ H1, Same H H1 → Q .non H1
theorem scNeedS : FnScope ["kind", "rule", "days"] ["kind", "rule", "days"] (defScope sNeedS) := ⟨rfl, rfl, rfl, by decide +kernel, rfl, by decide +kernel, by decide +kernel⟩
theorem ok_needS {f fK fR fD : Addr} {fd fdK fdR fdD : FuncData} (GK : FnOk P w K mg base CX0 1 fK fdK ["value"] (spNeedK K CK)) (FK : Df K mg "need_kind" sNeedK ["value"] fK fdK) (GR : FnOk P w K mg base CX0 2 fR fdR ["value"] (spR K RNeedR)) (FR : Df K mg "need_rule" sNeedR ["value"] fR fdR)
    (GD : FnOk P w K mg base CX0 2 fD fdD ["value"] (spR K RNeedDs)) (FD : Df K mg "need_days" sNeedDs ["value"] fD fdD) (F : Df K mg "need_spans" sNeedS ["kind", "rule", "days"] f fd) : FnOk P w K mg base CX0 3 f fd ["kind", "rule", "days"] (spNeedS K CK) := by
  refine F.F.ok scNeedS (fun vs H Q E h => ?_) (fun cdv A outer s H vs Q E hr h => ?_)
  · obtain ⟨M, a, k, rule, d, rfl, _⟩ := h; rfl
  · obtain ⟨M, a, k, rule, d, rfl, hx, hd, L, hk, q⟩ := h
    have hr1 := hr.mono (show 1 ≤ 2 by decide)
    refine rb_exprR (re_call GK hr1 FK.g FK.F.kp FK.b (ra_1 (XV.go (xv_name 0 rfl) fun H0 s0 => ⟨M, a, k, rfl, hk.up (hid_mono s0), fun H1 s1 => ?_⟩)))
    have L1 := (L.mono s0).mono s1
    refine rb_expr (M := M) (d := .none) (xd_call L1 GR hr FR.g FR.F.kp FR.b (xa_cons (xd_name 1 rfl (.str rule)) xa_nil) ⟨rule, rfl, hx, rfl⟩) fun H2 s2 => ?_
    exact rb_expr (M := M) (d := .none) (xd_call (L1.mono s2) GD hr FD.g FD.F.kp FD.b (xa_cons (xv_name 2 rfl).int xa_nil) ⟨d, rfl, hd, rfl⟩) fun H3 s3 => rb_nil (q H3 (((s0.trans s1).trans s2).trans s3))
/-! chains -/
def gCh : PyData → PyData → PyData
  | .tuple xs, e => .tuple (xs ++ [e])
  | _, _ => .none
theorem lg_step (js : List Int) (n : Nat) : (((lg js n).map chainD).flatMap fun d => (js.map PyData.int).map (gCh d)) = (lg js (n + 1)).map chainD := by
  show _ = ((lg js n).flatMap fun c => js.map fun j => c ++ [j]).map chainD
  rw [List.flatMap_map, List.map_flatMap]
  congr 1
  funext c
  rw [List.map_map, List.map_map]
  refine List.map_congr_left fun j _ => ?_
  show PyData.tuple (c.map PyData.int ++ [.int j]) = .tuple ((c ++ [j]).map PyData.int)
  rw [List.map_append]
  rfl
theorem tup_out {K : PySem.W.Frag} {M : List Addr} {H : Hp} {p : Addr} {xs : List V} {v : V} (h1 : H p = some (.lst xs)) (h : Dq K (hid M H) v (.tuple [])) : Dq K (hid (p :: M) H) v (chainD []) := by
  obtain ⟨t, ys, rfl, ht, hy⟩ := dp_tup h
  cases hy
  have key : ∀ {o : HO}, hid M H t = some o → t ≠ p → hid (p :: M) H t = some o := fun {o} e n => by
    have n1 : t ∉ M := fun y => by unfold hid at e; rw [if_pos y] at e; cases e
    rw [hid_of (by simp [n, n1])]
    exact hid_le _ _ e
  refine .tup ?_ .nil
  rcases ht with (z | ⟨o, z⟩) | z
  · exact .inl (.inl (key z fun y => by rw [y] at z; have z' := hid_le _ _ z; rw [h1] at z'; cases z'))
  · exact .inl (.inr ⟨o, key z fun y => by rw [y] at z; have z' := hid_le _ _ z; rw [h1] at z'; cases z'⟩)
  · exact .inr z
def spChains (K : PySem.W.Frag) (C : Addr) : Sp := fun vs H Q _ => ∃ (M : List Addr) (a : Addr) (k : Kd), vs = [.ref a] ∧ Live M H ∧ KAt K C (hid M H) a k ∧ KOk k ∧
  ∀ p xs H1, Same H H1 → H p = none → H1 p = some (.lst xs) → DqAll K (hid M H1) xs ((chN k).map chainD) → Q (.ref p) H1
abbrev chaN : List Str := ["kind", "found", "longest", "count", "jumps", "jump"]
theorem scChains : FnScope chaN ["kind"] (defScope sChains) := ⟨rfl, rfl, rfl, by decide +kernel, rfl, by decide +kernel, by decide +kernel⟩
theorem ok_chains {f fJ fM pJ pM : Addr} {fd fdJ fdM : FuncData} (T : Nm mg) (Y : KT K mg CK) (GJ : FnOk P w K mg base CX0 1 fJ fdJ ["self"] (spKD K CK fun k => .tuple ((isort k.js).map PyData.int))) (bJ : Binds K fdJ ["self"] []) (hJ : PropOf K CK "jumps" pJ fJ)
    (GM : FnOk P w K mg base CX0 1 fM fdM ["self"] (spKD K CK fun k => .int k.mo)) (bM : Binds K fdM ["self"] []) (hM : PropOf K CK "most" pM fM) (F : Df K mg "chains" sChains ["kind"] f fd) : FnOk P w K mg base CX0 3 f fd ["kind"] (spChains K CK) := by
  refine F.F.ok scChains (fun vs H Q E h => ?_) (fun cdv A outer s H vs Q E hr h => ?_)
  · obtain ⟨M, a, k, rfl, _⟩ := h; rfl
  · obtain ⟨M, a, k, rfl, L, hk, ko, q⟩ := h
    have hjl : (isort k.js).length ≤ 4 := by rw [len_isort]; exact ko.js.2.2.2
    have hmo := ko.m1
    refine rb_setL (M := M) 1 (xl_lst L (xa_cons (xd_tup L xa_nil) xa_nil)) (fun p xs H1 s1 hp h1 hx => ?_) scChains.nd
    have L1 : Live (p :: M) H1 := live_new L s1 (by rw [h1]; simp)
    have kk1 : KAt K CK (hid (p :: M) H1) a k := hk.up (hid_step hp s1)
    have hx1 : DqAll K (hid (p :: M) H1) xs ((chs (isort k.js) 0).map chainD) := by
      cases hx with
      | cons a1 hx =>
        cases hx
        exact .cons (tup_out h1 a1) .nil
    refine rb_setL (M := p :: M) 2 (xl_lst L1 (xa_cons (xd_tup L1 xa_nil) xa_nil)) (fun p2 xs2 H2 s2 hp2 h2 hx2 => ?_) scChains.nd
    have L2' : Live (p :: M) H2 := L1.mono s2
    have k22 : Dq K (hid (p :: M) H2) (.ref p2) (.list ((lg (isort k.js) 0).map chainD)) := .lst (by rw [hid_of (L1.fresh hp2)]; exact h2) hx2
    refine rb_range T.rng (XD.go (M := p :: M) (xd_kprop L2' Y.cl hM GM hr bM (xv_name 0 rfl) (kk1.up (hid_mono s2))) fun v H3 s3 hv => ?_)
    have s13 := s1.trans (s2.trans s3)
    refine ⟨k.mo.toNat, by rw [Int.toNat_of_nonneg ko.m0]; exact dp_int hv, by omega, fun i σ' H' => Same H H' ∧ Same (hid (p :: M) H1) (hid (p :: M) H') ∧ Live (p :: M) H' ∧ (∃ acc, H' p = some (.lst acc) ∧ DqAll K (hid (p :: M) H') acc ((chs (isort k.js) i).map chainD)) ∧ ∃ pl a3 a4 a5, σ' = [some (.ref a), some (.ref p), some (.ref pl), a3, a4, a5] ∧ Dq K (hid (p :: M) H') (.ref pl) (.list ((lg (isort k.js) i).map chainD)),
      ⟨s13, hid_mono (s2.trans s3), L2'.mono s3, ⟨xs, (s2.trans s3) _ _ h1, hx1.up (hid_mono (s2.trans s3))⟩, p2, none, none, none, rfl, k22.up (hid_mono s3)⟩, fun i σ' H' hi w => ?_, fun σ' H' w => ?_⟩
    · obtain ⟨sH, sM, Lp, ⟨acc, hacc, hda⟩, pl, a3, a4, a5, rfl, hpl⟩ := w
      have hi3 : i < 3 := by omega
      have kkp := kk1.up sM
      refine rg_name 3 ?_ scChains.nd
      have hll := lg_small hjl (n := i) (by omega)
      have hll2 := lg_small hjl (n := i + 1) (by omega)
      have hcl := chs_small hjl (n := i) (by omega)
      refine rb_setC2 2 (M := p :: M) (own := [("jumps", 4), ("jump", 5)]) (vs1 := [5]) (eds := (isort k.js).map PyData.int) gCh Lp scChains.nd (xd_name 2 rfl hpl) (blkOk_by (own := [("jumps", 4), ("jump", 5)]) (N := chaN) (sc := defScope sChains) (by decide +kernel)) (by decide)
        (by rw [List.length_map, List.length_map]; have := Nat.mul_le_mul hll hjl; omega) (fun p3 d v H4 hd hp3 s4 L4 hv4 => ?comp) (fun p3 xs3 H4 s4 hp3 h3 hx3 => ?_)
      case comp =>
        obtain ⟨c, hc, rfl⟩ := List.mem_map.mp hd
        have hcm := lg_mem.mp hc
        have kk4 : KAt K CK (hid (p3 :: p :: M) H4) a k := kkp.up (hid_step hp3 s4)
        intro s0 H0 C0 cl fp
        refine rg_name 4 ⟨rfl, Same.refl _, fun s0 H0 C0 cl fp => ?_, fun ed w H5 he s5 L5 hw => ?_⟩ scChains.nd
        · exact xd_kprop (g := fun k => .tuple ((isort k.js).map PyData.int)) (k := k) L4 Y.cl hJ GJ hr bJ (xv_name 0 rfl) kk4
        · obtain ⟨j, _, rfl⟩ := List.mem_map.mp he
          have ew := dp_int hw
          subst ew
          have hv5 : Dq K (hid (p3 :: p :: M) H5) v (chainD c) := hv4.up fun b o e => by
            have n1 : b ∉ p3 :: p :: M := fun y => by unfold hid at e; rw [if_pos y] at e; cases e
            rw [hid_of n1]
            exact s5 b o (fun y => n1 (by rw [y]; exact List.mem_cons_self ..)) (hid_le _ _ e)
          intro s0 H0 C0 cl fp
          refine rg_name 5 ⟨rfl, Same.refl _, fun s0 H0 C0 cl fp => ?_⟩ scChains.nd
          exact XD.go (xd_tup (ds := c.map PyData.int ++ [PyData.int j]) L5 (xa_starT (xd_name 4 rfl hv5) (xa_cons (xv_name 5 rfl).int xa_nil)) (by rw [List.length_append, List.length_map, hcm.1]; simp; omega)) fun v H6 s6 hv6 => ⟨s6, hv6⟩
      rw [lg_step] at hx3
      have L4 := Lp.mono s4
      have k3 : Dq K (hid (p :: M) H4) (.ref p3) (.list ((lg (isort k.js) (i + 1)).map chainD)) := .lst (by rw [hid_of (Lp.fresh hp3)]; exact h3) hx3
      have hal : acc.length = (chs (isort k.js) i).length := by rw [dpa_len hda, List.length_map]
      refine rb_extend (M := p :: M) (xs := acc) (List.mem_cons_self ..) (xv_name 1 rfl) (s4 _ _ hacc) (xd_name 2 rfl k3) (by rw [hal, List.length_map]; omega) fun vs H5 s5 hvs => rb_nil ?_
      have eh : hid (p :: M) (upd H5 p (.lst (acc ++ vs))) = hid (p :: M) H5 := hid_upd_mem (List.mem_cons_self ..)
      refine ⟨same_upd ((sH.trans s4).trans s5) hp, by rw [eh]; exact sM.trans (hid_mono (s4.trans s5)), Live.upd (L4.mono s5), ⟨_, upd_same, ?_⟩, p3, _, _, _, rfl, by rw [eh]; exact k3.up (hid_mono s5)⟩
      rw [eh]
      show DqAll K (hid (p :: M) H5) (acc ++ vs) ((chs (isort k.js) i ++ lg (isort k.js) (i + 1)).map chainD)
      rw [List.map_append]
      exact dpa_app (hda.up (hid_mono (s4.trans s5))) hvs
    · obtain ⟨sH, sM, Lp, ⟨acc, hacc, hda⟩, pl, a3, a4, a5, rfl, hpl⟩ := w
      exact rb_retR (XV.go (xv_name 1 rfl) fun H4 s4 => q p acc H4 (sH.trans s4) hp (s4 _ _ hacc) ((out_of hda).up (hid_mono s4)))
end
end Zn

set_option Elab.async false
set_option linter.all false
set_option maxRecDepth 100000
set_option maxHeartbeats 8000000
namespace Zn
open PySem PySem.Spec PyProof.Rows L2 Dl
/-! k32: span_over, near_changes, last_ahead, first_behind, has_room, spans, span_shown -/
abbrev sSpans : Stmt := top 40
abbrev sShown : Stmt := top 41
abbrev sNear : Stmt := top 46
abbrev sLastA : Stmt := top 47
abbrev sFirstB : Stmt := top 48
abbrev sRoom : Stmt := top 49
def dd : List Int → List Int
  | [] => []
  | x :: xs => if x ∈ xs then dd xs else x :: dd xs
theorem dd_mem : ∀ (xs : List Int) (k : Int), k ∈ dd xs ↔ k ∈ xs
  | [], k => Iff.rfl
  | x :: xs, k => by
    unfold dd
    split
    · rename_i h
      rw [dd_mem xs k, List.mem_cons]
      constructor
      · exact .inr
      · rintro (e | e)
        · rw [e]; exact h
        · exact e
    · rw [List.mem_cons, List.mem_cons, dd_mem xs k]
theorem dd_nodup : ∀ xs : List Int, (dd xs).Nodup
  | [] => List.nodup_nil
  | x :: xs => by
    unfold dd
    split
    · exact dd_nodup xs
    · rename_i h
      exact List.nodup_cons.mpr ⟨fun z => h ((dd_mem xs x).mp z), dd_nodup xs⟩
/-- what the program's spans are -/
def spanF (k : Kd) (rule : Str) (d : Int) (js : List Int) : Option Int := if roomB k.ap (hX rule) (hY rule) d js = true then some (d * 1440 - js.sum) else none
def spanL (k : Kd) (rule : Str) (d : Int) : List Int := isort (dd ((chN k).filterMap (spanF k rule d)))
theorem spanL_asc (k : Kd) (rule : Str) (d : Int) : (spanL k rule d).Pairwise (· < ·) := asc_isort (dd_nodup _)
theorem spanL_mem {k : Kd} {rule : Str} {d x : Int} : x ∈ spanL k rule d ↔ ∃ js ∈ chN k, roomB k.ap (hX rule) (hY rule) d js = true ∧ d * 1440 - js.sum = x := by
  unfold spanL
  rw [mem_isort, dd_mem, List.mem_filterMap]
  unfold spanF
  constructor
  · rintro ⟨js, h, e⟩
    split at e
    · rename_i r; exact ⟨js, h, r, Option.some.inj e⟩
    · cases e
  · rintro ⟨js, h, r, e⟩
    exact ⟨js, h, by rw [if_pos r, e]⟩
theorem last_get : ∀ {js : List Int}, js ≠ [] → js.getLast? = some (lastJ js)
  | [], h => absurd rfl h
  | [j], _ => rfl
  | i :: j :: js, _ => by
    have ih := last_get (js := j :: js) (by simp)
    have e : lastJ (i :: j :: js) = lastJ (j :: js) := rfl
    rw [e, ← ih]
    rfl
theorem last_at {js : List Int} (h : js ≠ []) : atI (js.map PyData.int) (-1) = some (.int (lastJ js)) := by
  obtain ⟨ys, e⟩ := List.getLast?_eq_some_iff.mp (last_get h)
  generalize lastJ js = l at e ⊢
  subst e
  rw [List.map_append]
  exact atI_last _ _
theorem at_zero {j : Int} {js : List Int} : atI ((j :: js).map PyData.int) 0 = some (.int j) := by
  unfold atI ixN
  simp
structure ChOk (k : Kd) (js : List Int) : Prop where
  len : js.length ≤ 3
  mem : ∀ j ∈ js, j ∈ k.js
theorem chN_ok {k : Kd} (ko : KOk k) {js : List Int} (h : js ∈ chN k) : ChOk k js := by
  obtain ⟨a, b⟩ := chs_mem.mp h
  have := ko.m1
  exact ⟨by omega, fun j hj => (mem_isort j k.js).mp (b j hj)⟩
theorem ChOk.js {k : Kd} (ko : KOk k) {js : List Int} (h : ChOk k js) : ∀ j ∈ js, okJ j ∧ ab j ≤ mx (k.js.map ab) := fun j hj => ⟨ko.js.1 j (h.mem j hj), mx_le (h.mem j hj)⟩
theorem floor_ap {k : Kd} (ko : KOk k) : 2 * mx (k.js.map ab) + 1 ≤ k.ap := by
  have := ko.ap
  unfold floorK at this
  omega
theorem ChOk.ok {k : Kd} (ko : KOk k) {js : List Int} (h : ChOk k js) (c : Int) : okS (nearP k.ap c js) := near_ok (floor_ap ko) c js (h.js ko)
def gNear (ap : Int) (i : Nat) (d : PyData) : PyData := .tuple [.int (ap * i), d]
theorem near_enum (ap : Int) : ∀ (i : Nat) (js : List Int), enumM (gNear ap) i (js.map PyData.int) = (nearP ap (ap * i) js).map stepD
  | _, [] => rfl
  | i, j :: js => by
    show gNear ap i (.int j) :: enumM (gNear ap) (i + 1) (js.map PyData.int) = stepD (ap * i, j) :: (nearP ap (ap * i + ap) js).map stepD
    have e : ap * (i : Int) + ap = ap * ((i + 1 : Nat) : Int) := by rw [Int.natCast_add, Int.mul_add]; simp
    rw [near_enum ap (i + 1) js, e]
    rfl
section
variable {P : Program} {w : World} {K : PySem.W.Frag} {mg : Str → Option Value} {base : Heap} {C CK CZ : Addr}
def ROver (ds : List PyData) (d : PyData) : Prop := ∃ (js : List Int) (n : Int), ds = [chainD js, .int n] ∧ d = .int (n * 1440 - js.sum)
theorem scOver : FnScope ["jumps", "days"] ["jumps", "days"] (defScope sOver) := ⟨rfl, rfl, rfl, by decide +kernel, rfl, by decide +kernel, by decide +kernel⟩
theorem ok_over {f : Addr} {fd : FuncData} (hs : mg "sum" = none) (hD : ∃ t, mg "DAY_LENGTH" = some (.int 1440 t)) (F : Df K mg "span_over" sOver ["jumps", "days"] f fd) : FnOk P w K mg base CX0 1 f fd ["jumps", "days"] (spR K ROver) := by
  obtain ⟨tk, hD⟩ := hD
  refine F.F.ok scOver (fun vs H Q E h => ?_) (fun cdv A outer s H vs Q E hr h => ?_)
  · obtain ⟨M, ds, d, L, hd, ⟨js, n, rfl, _⟩, q⟩ := h
    exact dpa_len hd
  · obtain ⟨M, ds, d, L, hd, ⟨js, n, rfl, rfl⟩, q⟩ := h
    cases hd with
    | cons h1 hd => cases hd with
      | cons h2 hd =>
        cases hd
        exact rb_ret (M := M) (xd_sub (xd_mul (xd_name 1 rfl h2) (xv_glob (v := .int 1440) hD ⟨tk, rfl⟩).int (.inr (by decide))) (xd_sumT hs (xd_name 0 rfl h1))) q
def RLastA (ds : List PyData) (d : PyData) : Prop := ∃ (rule : Str) (js : List Int), ds = [.str rule, chainD js] ∧ isRuleS rule ∧ d = .int (lastA (hX rule) js)
theorem scLastA : FnScope ["rule", "jumps"] ["rule", "jumps"] (defScope sLastA) := ⟨rfl, rfl, rfl, by decide +kernel, rfl, by decide +kernel, by decide +kernel⟩
theorem ok_lastA {f : Addr} {fd : FuncData} (T : Nm mg) (F : Df K mg "last_ahead" sLastA ["rule", "jumps"] f fd) : FnOk P w K mg base CX0 1 f fd ["rule", "jumps"] (spR K RLastA) := by
  refine F.F.ok scLastA (fun vs H Q E h => ?_) (fun cdv A outer s H vs Q E hr h => ?_)
  · obtain ⟨M, ds, d, L, hd, ⟨rule, js, rfl, _⟩, q⟩ := h
    exact dpa_len hd
  · obtain ⟨M, ds, d, L, hd, ⟨rule, js, rfl, hx, rfl⟩, q⟩ := h
    cases hd with
    | cons h1 hd => cases hd with
      | cons h2 hd =>
        cases hd
        refine rb_if (xt_eqI (M := M) (xd_lenT T.len (xd_name 1 rfl h2)) xd_int) (fun e H1 s1 => ?_) (fun e H1 s1 => rb_nil ?_)
        · have e0 := of_decide_eq_true e
          rw [List.length_map] at e0
          have : js = [] := List.eq_nil_of_length_eq_zero (by omega)
          subst this
          exact rb_ret (M := M) xd_int fun v H2 s2 hv => q v H2 (s1.trans s2) hv
        · cases js with
          | nil => exact absurd e (by decide)
          | cons j js =>
            have h1' := h1.up (hid_mono s1)
            have h2' := h2.up (hid_mono s1)
            refine rb_ret (M := M) (d := .int (mm (hX rule) 0 j - 1)) (xd_sub ?_ xd_int) fun v H2 s2 hv => q v H2 (s1.trans s2) hv
            by_cases c : rule = "ahead"
            · have e1 : hX rule = true := decide_eq_true c
              refine xd_ifT ((xt_eqS (M := M) (xd_name 0 rfl h1') xd_str).to (decide_eq_true c)) ((xd_max T.max (xa_cons (xd_ixT (fun _ _ => rfl) (xd_name 1 rfl h2') xd_int (at_zero (j := j) (js := js))) (xa_cons xd_int xa_nil))).to ?_)
              rw [e1]
              unfold mm
              rw [if_pos rfl]
              congr 1
              split <;> split <;> omega
            · have e1 : hX rule = false := decide_eq_false c
              refine xd_ifF ((xt_eqS (M := M) (xd_name 0 rfl h1') xd_str).to (decide_eq_false c)) ((xd_min T.min (xa_cons (xd_ixT (fun _ _ => rfl) (xd_name 1 rfl h2') xd_int (at_zero (j := j) (js := js))) (xa_cons xd_int xa_nil))).to ?_)
              rw [e1]
              unfold mm
              rw [if_neg Bool.false_ne_true]
              congr 1
              split <;> split <;> omega
def spFirstB (K : PySem.W.Frag) (C : Addr) : Sp := fun vs H Q _ => ∃ (M : List Addr) (a : Addr) (k : Kd) (rule : Str) (js : List Int) (v : V), vs = [.ref a, .str rule, v] ∧ isRuleS rule ∧ js ≠ [] ∧ js.length ≤ 3 ∧ Live M H ∧ KAt K C (hid M H) a k ∧ Dq K (hid M H) v (chainD js) ∧ ∀ H1, Same H H1 → Q (.int (firstB k.ap (hY rule) js)) H1
theorem scFirstB : FnScope ["kind", "rule", "jumps", "own", "before", "reading"] ["kind", "rule", "jumps"] (defScope sFirstB) := ⟨rfl, rfl, rfl, by decide +kernel, rfl, by decide +kernel, by decide +kernel⟩
theorem ok_firstB {f fA pA : Addr} {fd fdA : FuncData} (T : Nm mg) (hs : mg "sum" = none) (Y : KT K mg CK) (GA : FnOk P w K mg base CX0 1 fA fdA ["self"] (spKD K CK fun k => .int k.ap)) (bA : Binds K fdA ["self"] []) (hA : PropOf K CK "apart" pA fA)
    (F : Df K mg "first_behind" sFirstB ["kind", "rule", "jumps"] f fd) : FnOk P w K mg base CX0 3 f fd ["kind", "rule", "jumps"] (spFirstB K CK) := by
  refine F.F.ok scFirstB (fun vs H Q E h => ?_) (fun cdv A outer s H vs Q E hr h => ?_)
  · obtain ⟨M, a, k, rule, js, v, rfl, _⟩ := h; rfl
  · obtain ⟨M, a, k, rule, js, v, rfl, hx, hn, hl, L, hk, hv, q⟩ := h
    refine rb_set 3 (M := M) (xd_sumT hs (xd_name 2 rfl hv)) (fun v3 H3 s3 hv3 => ?_) scFirstB.nd
    have e3 := dp_int hv3
    subst e3
    refine rb_set 4 (M := M) (xd_sub (xv_name 3 rfl).int (xd_ixT (fun _ _ => rfl) (xd_name 2 rfl (hv.up (hid_mono s3))) (xd_neg xd_int) (last_at hn))) (fun v4 H4 s4 hv4 => ?_) scFirstB.nd
    have e4 := dp_int hv4
    subst e4
    have s34 := s3.trans s4
    refine rb_set 5 (M := M) (d := .int (mm (hY rule) (js.sum - lastJ js) js.sum)) ?_ (fun v5 H5 s5 hv5 => ?_) scFirstB.nd
    · by_cases c : rule = "behind"
      · have e1 : hY rule = false := by unfold hY; rw [decide_eq_true c]; rfl
        rw [e1]
        exact xd_ifT ((xt_eqS (M := M) (xd_name 1 rfl (.str rule)) xd_str).to (decide_eq_true c)) (xd_min T.min (xa_cons (xv_name 4 rfl).int (xa_cons (xv_name 3 rfl).int xa_nil)))
      · have e1 : hY rule = true := by unfold hY; rw [decide_eq_false c]; rfl
        rw [e1]
        exact xd_ifF ((xt_eqS (M := M) (xd_name 1 rfl (.str rule)) xd_str).to (decide_eq_false c)) (xd_max T.max (xa_cons (xv_name 4 rfl).int (xa_cons (xv_name 3 rfl).int xa_nil)))
    have e5 := dp_int hv5
    subst e5
    have s35 := s34.trans s5
    have L5 := L.mono s35
    refine rb_retR (XD.go (M := M) (d := .int (firstB k.ap (hY rule) js)) (xd_add ((xd_mul (xd_kprop (g := fun k => .int k.ap) (k := k) L5 Y.cl hA GA hr bA (xv_name 0 rfl) (hk.up (hid_mono s35))) (xd_sub ((xd_lenT T.len (xd_name 2 rfl (hv.up (hid_mono s35)))).to (by rw [List.length_map])) xd_int) (.inr ⟨by omega, by omega⟩))) (xv_name 5 rfl).int) fun v6 H6 s6 hv6 => ?_)
    rw [dp_int hv6]
    exact q H6 (s35.trans s6)
section
variable {X : Cx} {M : List Addr} {σ : L2.St} {H : Hp} {e1 e2 e3 e4 : Expr} {pos p1 : Pos} {f a : Addr} {fd : FuncData} {k : Kd} {rule : Str} {js : List Int} {d : Int}
theorem xd_fb (L : Live M H) (G : FnOk X.prog X.w X.K X.mg X.base CX0 3 f fd ["kind", "rule", "jumps"] (spFirstB X.K CK)) (hr : Room 3 X.A) (FF : Df X.K X.mg "first_behind" sFirstB ["kind", "rule", "jumps"] f fd) (hx : isRuleS rule) (hn : js ≠ []) (hl : js.length ≤ 3)
    (ho : XV X σ H e1 (.ref a)) (hk : KAt X.K CK (hid M H) a k) (hb : XV X σ H e2 (.str rule)) (hv : XD X M σ H e3 (chainD js)) (hg : Gl X "first_behind" := by rfl) (he : starEach [e1, e2, e3] X.env = (false, eval e1 X.env) :: starEach [e2, e3] X.env := by rfl) (he2 : starEach [e2, e3] X.env = (false, eval e2 X.env) :: starEach [e3] X.env := by rfl) (he3 : starEach [e3] X.env = (false, eval e3 X.env) :: starEach [] X.env := by rfl)
    (hpl : (backTo pos (starEach [e2, e3] X.env)).any (·.1) = false := by rfl) : XD X M σ H (.Call (.Name "first_behind" p1) [e1, e2, e3] [] pos) (.int (firstB k.ap (hY rule) js)) := fun H1 s Q q =>
  re_call G hr FF.g FF.F.kp FF.b (ra_cons (ho H1 s _ fun Ha sa => ra_cons (hb Ha (s.trans sa) _ fun Hb sb => ra_1 (hv Hb ((s.trans sa).trans sb) _ fun v Hc sc hvv =>
    ⟨M, a, k, rule, js, v, rfl, hx, hn, hl, L.mono (((s.trans sa).trans sb).trans sc), hk.up (hid_mono (((s.trans sa).trans sb).trans sc)), hvv, fun H3 s3 => q _ H3 (((sa.trans sb).trans sc).trans s3) (.int _)⟩) he3) he2) he) hg (by decide) he hpl
end
def spRoom (K : PySem.W.Frag) (C : Addr) : Sp := fun vs H Q _ => ∃ (M : List Addr) (a : Addr) (k : Kd) (rule : Str) (d : Int) (js : List Int) (v : V), vs = [.ref a, .str rule, .int d, v] ∧ isRuleS rule ∧ js.length ≤ 3 ∧ Live M H ∧ KAt K C (hid M H) a k ∧ Dq K (hid M H) v (chainD js) ∧ ∀ H1, Same H H1 → Q (.bl (roomB k.ap (hX rule) (hY rule) d js)) H1
theorem scRoom : FnScope ["kind", "rule", "days", "jumps"] ["kind", "rule", "days", "jumps"] (defScope sRoom) := ⟨rfl, rfl, rfl, by decide +kernel, rfl, by decide +kernel, by decide +kernel⟩
theorem ok_room {f fL fB : Addr} {fd fdL fdB : FuncData} (T : Nm mg) (hD : ∃ t, mg "DAY_LENGTH" = some (.int 1440 t)) (GL : FnOk P w K mg base CX0 1 fL fdL ["rule", "jumps"] (spR K RLastA)) (FL : Df K mg "last_ahead" sLastA ["rule", "jumps"] fL fdL)
    (GB : FnOk P w K mg base CX0 3 fB fdB ["kind", "rule", "jumps"] (spFirstB K CK)) (FB : Df K mg "first_behind" sFirstB ["kind", "rule", "jumps"] fB fdB) (F : Df K mg "has_room" sRoom ["kind", "rule", "days", "jumps"] f fd) : FnOk P w K mg base CX0 4 f fd ["kind", "rule", "days", "jumps"] (spRoom K CK) := by
  obtain ⟨tk, hD⟩ := hD
  refine F.F.ok scRoom (fun vs H Q E h => ?_) (fun cdv A outer s H vs Q E hr h => ?_)
  · obtain ⟨M, a, k, rule, d, js, v, rfl, _⟩ := h; rfl
  · obtain ⟨M, a, k, rule, d, js, v, rfl, hx, hl, L, hk, hv, q⟩ := h
    have hr1 := hr.mono (show 1 ≤ 3 by decide)
    refine rb_if (xt_eqI (M := M) (xd_lenT T.len (xd_name 3 rfl hv)) xd_int) (fun e H1 s1 => ?_) (fun e H1 s1 => rb_nil ?_)
    · have e0 := of_decide_eq_true e
      rw [List.length_map] at e0
      have : js = [] := List.eq_nil_of_length_eq_zero (by omega)
      subst this
      exact rb_ret (M := M) xd_bl fun v H2 s2 hv => by rw [dp_bl hv]; exact q H2 (s1.trans s2)
    · have hn : js ≠ [] := fun z => by rw [z] at e; exact absurd e (by decide)
      have L1 := L.mono s1
      have hv1 := hv.up (hid_mono s1)
      have hk1 := hk.up (hid_mono (M := M) s1)
      refine rb_ret (M := M) (d := .bool (roomB k.ap (hX rule) (hY rule) d js)) ((xd_cmpI op_ge (xd_add (xd_call L1 GL hr1 FL.g FL.F.kp FL.b (xa_cons (xd_name 1 rfl (.str rule)) (xa_cons (xd_name 3 rfl hv1) xa_nil)) ⟨rule, js, rfl, hx, rfl⟩) (xd_mul (xv_name 2 rfl).int (xv_glob (v := .int 1440) hD ⟨tk, rfl⟩).int (.inr (by decide)))) (xd_fb L1 GB hr FB hx hn hl (xv_name 0 rfl) hk1 (xv_name 1 rfl) (xd_name 3 rfl hv1))).to ?_) fun v2 H2 s2 hv2 => by
        rw [dp_bl hv2]; exact q H2 (s1.trans s2)
      unfold roomB
      rw [decide_eq_false hn, Bool.false_or]
section
variable {X : Cx} {M : List Addr} {σ : L2.St} {H : Hp} {e1 e2 e3 e4 : Expr} {pos p1 : Pos} {f a : Addr} {fd : FuncData} {k : Kd} {rule : Str} {js : List Int} {d : Int}
theorem xd_room (L : Live M H) (G : FnOk X.prog X.w X.K X.mg X.base CX0 4 f fd ["kind", "rule", "days", "jumps"] (spRoom X.K CK)) (hr : Room 4 X.A) (FF : Df X.K X.mg "has_room" sRoom ["kind", "rule", "days", "jumps"] f fd) (hx : isRuleS rule) (hl : js.length ≤ 3)
    (ho : XV X σ H e1 (.ref a)) (hk : KAt X.K CK (hid M H) a k) (hb : XV X σ H e2 (.str rule)) (hd : XV X σ H e3 (.int d)) (hv : XD X M σ H e4 (chainD js)) (hg : Gl X "has_room" := by rfl) (he : starEach [e1, e2, e3, e4] X.env = (false, eval e1 X.env) :: starEach [e2, e3, e4] X.env := by rfl) (he2 : starEach [e2, e3, e4] X.env = (false, eval e2 X.env) :: starEach [e3, e4] X.env := by rfl)
    (he3 : starEach [e3, e4] X.env = (false, eval e3 X.env) :: starEach [e4] X.env := by rfl) (he4 : starEach [e4] X.env = (false, eval e4 X.env) :: starEach [] X.env := by rfl)
    (hpl : (backTo pos (starEach [e2, e3, e4] X.env)).any (·.1) = false := by rfl) : XD X M σ H (.Call (.Name "has_room" p1) [e1, e2, e3, e4] [] pos) (.bool (roomB k.ap (hX rule) (hY rule) d js)) := fun H1 s Q q =>
  re_call G hr FF.g FF.F.kp FF.b (ra_cons (ho H1 s _ fun Ha sa => ra_cons (hb Ha (s.trans sa) _ fun Hb sb => ra_cons (hd Hb ((s.trans sa).trans sb) _ fun Hc sc => ra_1 (hv Hc (((s.trans sa).trans sb).trans sc) _ fun v Hd sd hvv =>
    ⟨M, a, k, rule, d, js, v, rfl, hx, hl, L.mono ((((s.trans sa).trans sb).trans sc).trans sd), hk.up (hid_mono ((((s.trans sa).trans sb).trans sc).trans sd)), hvv, fun H3 s3 => q _ H3 ((((sa.trans sb).trans sc).trans sd).trans s3) (.bl _)⟩) he4) he3) he2) he) hg (by decide) he hpl
end
/-! near_changes -/
def spNear (K : PySem.W.Frag) (CZ CK : Addr) : Sp := fun vs H Q _ => ∃ (M : List Addr) (a : Addr) (k : Kd) (js : List Int) (v : V), vs = [.ref a, v] ∧ Live M H ∧ KAt K CK (hid M H) a k ∧ KOk k ∧ ChOk k js ∧ Dq K (hid M H) v (chainD js) ∧ ∀ y H1, Same H H1 → ZAt K CZ (hid M H1) y 0 (rowsP 0 (nearP k.ap 0 js)) → Q (.ref y) H1
abbrev nearN : List Str := ["kind", "jumps", "index", "jump"]
theorem scNear : FnScope nearN ["kind", "jumps"] (defScope sNear) := ⟨rfl, rfl, rfl, by decide +kernel, rfl, by decide +kernel, by decide +kernel⟩
theorem ok_near {f fA pA fZ : Addr} {fd fdA fdZ : FuncData} (T : Nm mg) (hE : mg "enumerate" = none) (Y : KT K mg CK) (GA : FnOk P w K mg base CX0 1 fA fdA ["self"] (spKD K CK fun k => .int k.ap)) (bA : Binds K fdA ["self"] []) (hA : PropOf K CK "apart" pA fA)
    (GZ : FnOk P w K mg base CX0 6 fZ fdZ ["offset", "steps"] (spZW K CZ)) (FZ : Df K mg "zone_with" sZW ["offset", "steps"] fZ fdZ) (F : Df K mg "near_changes" sNear ["kind", "jumps"] f fd) : FnOk P w K mg base CX0 7 f fd ["kind", "jumps"] (spNear K CZ CK) := by
  refine F.F.ok scNear (fun vs H Q E h => ?_) (fun cdv A outer s H vs Q E hr h => ?_)
  · obtain ⟨M, a, k, js, v, rfl, _⟩ := h; rfl
  · obtain ⟨M, a, k, js, v, rfl, L, hk, ko, hc, hv, q⟩ := h
    have hr2 := hr.mono (show 2 ≤ 6 by decide)
    have hl := hc.len
    have e0 : enumM (gNear k.ap) 0 (js.map PyData.int) = (nearP k.ap 0 js).map stepD := by
      have e := near_enum k.ap 0 js
      simp at e
      exact e
    refine rb_retR (XZ.go (C := CZ) (M := M) (xz_with (st := nearP k.ap 0 js) L GZ hr FZ xd_int (XL.dd ((xl_enumT (own := [("index", 2), ("jump", 3)]) (gNear k.ap) hE L scNear.nd (xd_name 1 rfl hv)
      (blkOk_by (own := [("index", 2), ("jump", 3)]) (N := nearN) (sc := defScope sNear) (by decide +kernel)) (by rw [List.length_map]; omega) (fun p i d T' y H1 hd hp s1 Lp hy hT => ?comp)).to e0) L) (.inl rfl) (items_ch _) (by rw [near_len]; omega) (hc.ok ko 0)) fun y H1 s1 hz => q y H1 s1 hz)
    obtain ⟨j, _, rfl⟩ := map_get hd
    have ey := dp_int hy
    subst ey
    have kk1 : KAt K CK (hid (p :: M) H1) a k := hk.up (hid_step hp s1)
    intro s0 H0 C0 cl fp
    refine rg_tup (SqT.of hT) (rgs_cons (rg_name 2 (rgs_cons (rg_name 3 (rgs_nil ?_) scNear.nd)) scNear.nd))
    refine ⟨rfl, Same.refl _, fun s0 H0 C0 cl fp => ?_⟩
    have hi : i < 3 := by
      have := (List.getElem?_eq_some_iff.mp hd).1
      rw [List.length_map] at this
      omega
    exact XD.go (xd_tup Lp (xa_cons (xd_mul (xd_kprop (g := fun k => .int k.ap) (k := k) Lp Y.cl hA GA hr2 bA (xv_name 0 rfl) kk1) (xv_name 2 rfl).int (.inr ⟨by omega, by omega⟩)) (xa_cons (xv_name 3 rfl).int xa_nil))) fun v H4 s4 hv4 => ⟨s4, hv4⟩
end
end Zn

set_option Elab.async false
set_option linter.all false
set_option maxRecDepth 100000
set_option maxHeartbeats 8000000
namespace Zn
open PySem PySem.Spec PyProof.Rows L2 Dl
/-! k32: spans, span_shown -/
def fSpan (k : Kd) (rule : Str) (d : Int) : PyData → Option Int
  | .tuple xs => match xs.mapM (fun y => match y with | .int i => some i | _ => none) with
    | some js => spanF k rule d js
    | none => none
  | _ => none
theorem fSpan_ch (k : Kd) (rule : Str) (d : Int) (js : List Int) : fSpan k rule d (chainD js) = spanF k rule d js := by
  have e : (js.map PyData.int).mapM (fun y => match y with | .int i => some i | _ => none) = some js := by
    induction js with
    | nil => rfl
    | cons j js ih => rw [List.map_cons, List.mapM_cons, ih]; rfl
  unfold fSpan chainD
  simp only [e]
theorem chN_len {k : Kd} (ko : KOk k) : (chN k).length ≤ 193 := by
  have a := chs_small (js := isort k.js) (by rw [len_isort]; exact ko.js.2.2.2) (n := k.mo.toNat) (by have := ko.m1; omega)
  have := ko.m1
  show (chs (isort k.js) k.mo.toNat).length ≤ 193
  omega
/-- the spans are few -/
theorem spans_few {k : Kd} (ko : KOk k) (rule : Str) (d : Int) : ∃ T : List Int, T.length < 64 ∧ ∀ x ∈ spanL k rule d, x ∈ T := by
  obtain ⟨T, h1, h2⟩ := sums_few ko.js.2.2.2
  refine ⟨T.map fun s => d * 1440 - s, by rw [List.length_map]; exact h1, fun x hx => ?_⟩
  obtain ⟨js, hj, _, e⟩ := spanL_mem.mp hx
  have c := chN_ok ko hj
  exact List.mem_map.mpr ⟨js.sum, h2 js c.len c.mem, e⟩
theorem spanL_len {k : Kd} (ko : KOk k) (rule : Str) (d : Int) : (spanL k rule d).length < 64 := by
  obtain ⟨T, h1, h2⟩ := spans_few ko rule d
  exact Nat.lt_of_le_of_lt (nodup_le ((spanL_asc k rule d).imp (fun h => Int.ne_of_lt h)) h2) h1
section
variable {P : Program} {w : World} {K : PySem.W.Frag} {mg : Str → Option Value} {base : Heap} {C CK CZ : Addr}
section
variable {X : Cx} {M : List Addr} {σ : L2.St} {H : Hp} {e1 e2 e3 e4 : Expr} {pos p1 : Pos} {f a : Addr} {fd : FuncData} {k : Kd} {rule : Str} {js : List Int} {d : Int}
theorem xl_chains (L : Live M H) (G : FnOk X.prog X.w X.K X.mg X.base CX0 3 f fd ["kind"] (spChains X.K CK)) (hr : Room 3 X.A) (FF : Df X.K X.mg "chains" sChains ["kind"] f fd) (ko : KOk k)
    (ho : XV X σ H e1 (.ref a)) (hk : KAt X.K CK (hid M H) a k) (hg : Gl X "chains" := by rfl) (he : starEach [e1] X.env = (false, eval e1 X.env) :: starEach [] X.env := by rfl)
    (hpl : (backTo pos (starEach [] X.env)).any (·.1) = false := by rfl) : XL X M σ H (.Call (.Name "chains" p1) [e1] [] pos) ((chN k).map chainD) := fun H1 s Q q =>
  re_call G hr FF.g FF.F.kp FF.b (ra_1 (ho H1 s _ fun Ha sa => ⟨M, a, k, rfl, L.mono (s.trans sa), hk.up (hid_mono (s.trans sa)), ko, fun p xs H3 s3 hp h3 hx => q p xs H3 (sa.trans s3) (sa.free hp) h3 hx⟩) he) hg (by decide) he hpl
end
def spSpans (K : PySem.W.Frag) (C : Addr) : Sp := fun vs H Q _ => ∃ (M : List Addr) (a : Addr) (k : Kd) (rule : Str) (d : Int), vs = [.ref a, .str rule, .int d] ∧ isRuleS rule ∧ 1 ≤ d ∧ Live M H ∧ KAt K C (hid M H) a k ∧ KOk k ∧
  ∀ p H1, Same H H1 → H p = none → H1 p = some (.lst ((spanL k rule d).map V.int)) → Q (.ref p) H1
abbrev spaN : List Str := ["kind", "rule", "days", "jumps"]
theorem scSpans : FnScope spaN ["kind", "rule", "days"] (defScope sSpans) := ⟨rfl, rfl, rfl, by decide +kernel, rfl, by decide +kernel, by decide +kernel⟩
theorem ok_spans {f fS fC fO fR : Addr} {fd fdS fdC fdO fdR : FuncData} (hS : mg "sorted" = none) (GS : FnOk P w K mg base CX0 3 fS fdS ["kind", "rule", "days"] (spNeedS K CK)) (FS : Df K mg "need_spans" sNeedS ["kind", "rule", "days"] fS fdS)
    (GC : FnOk P w K mg base CX0 3 fC fdC ["kind"] (spChains K CK)) (FC : Df K mg "chains" sChains ["kind"] fC fdC) (GO : FnOk P w K mg base CX0 1 fO fdO ["jumps", "days"] (spR K ROver)) (FO : Df K mg "span_over" sOver ["jumps", "days"] fO fdO)
    (GR : FnOk P w K mg base CX0 4 fR fdR ["kind", "rule", "days", "jumps"] (spRoom K CK)) (FR : Df K mg "has_room" sRoom ["kind", "rule", "days", "jumps"] fR fdR)
    (F : Df K mg "spans" sSpans ["kind", "rule", "days"] f fd) : FnOk P w K mg base CX0 5 f fd ["kind", "rule", "days"] (spSpans K CK) := by
  refine F.F.ok scSpans (fun vs H Q E h => ?_) (fun cdv A outer s H vs Q E hr h => ?_)
  · obtain ⟨M, a, k, rule, d, rfl, _⟩ := h; rfl
  · obtain ⟨M, a, k, rule, d, rfl, hx, hd, L, hk, ko, q⟩ := h
    have hr3 := hr.mono (show 3 ≤ 4 by decide)
    have hr1 := hr.mono (show 1 ≤ 4 by decide)
    refine rb_exprR (re_call GS hr3 FS.g FS.F.kp FS.b (ra_cons (XV.go (xv_name 0 rfl) fun Ha sa => ra_cons (XV.go (xv_name 1 rfl) fun Hb sb => ra_1 (XV.go (xv_name 2 rfl) fun Hc sc =>
      ⟨M, a, k, rule, d, rfl, hx, hd, L.mono ((sa.trans sb).trans sc), hk.up (hid_mono ((sa.trans sb).trans sc)), fun H1 s1 => ?_⟩)))))
    have s01 := ((sa.trans sb).trans sc).trans s1
    have L1 := L.mono s01
    have hk1 := hk.up (hid_mono (M := M) s01)
    obtain ⟨T, hT1, hT2⟩ := spans_few ko rule d
    refine rb_retR (XL.go (M := M) (xl_sortedSetB (own := [("jumps", 3)]) (fSpan k rule d) (spanL k rule d) T hS L1 scSpans.nd (XL.dd (xl_chains (CK := CK) L1 GC hr3 FC ko (xv_name 0 rfl) hk1) L1)
      (blkOk_by (own := [("jumps", 3)]) (N := spaN) (sc := defScope sSpans) (by decide +kernel)) (by rw [List.length_map]; have := chN_len ko; omega) (fun p dt v H2 hdt hp s2 Lp hv => ?comp) (spanL_asc k rule d) (fun x => ?_) hT1 hT2) fun p xs H2 s2 hp h2 hx2 => ?_)
    case comp =>
      obtain ⟨js, hj, rfl⟩ := List.mem_map.mp hdt
      have hc := chN_ok ko hj
      have kk2 : KAt K CK (hid (p :: M) H2) a k := hk1.up (hid_step hp s2)
      intro s0 H0 C0 cl fp
      refine rg_name 3 ⟨rfl, bt_one (k := roomB k.ap (hX rule) (hY rule) d js) (fun s0 H0 C0 cl fp => xt_val (M := p :: M) (xd_room (CK := CK) Lp GR hr FR hx hc.len (xv_name 0 rfl) kk2 (xv_name 1 rfl) (xv_name 2 rfl) (xd_name 3 rfl hv))) fun H3 s3 => ⟨s3, ?_⟩⟩ scSpans.nd
      rw [fSpan_ch]
      unfold spanF
      by_cases c : roomB k.ap (hX rule) (hY rule) d js = true
      · refine .inl ⟨c, _, if_pos c, fun s0 H0 C0 cl fp => XD.go (xd_call (Lp.mono s3) GO hr1 FO.g FO.F.kp FO.b (xa_cons (xd_name 3 rfl (hv.up (hid_mono s3))) (xa_cons (xv_name 2 rfl).int xa_nil)) ⟨js, d, rfl, rfl⟩) fun v H4 s4 hv4 => ⟨s4, dp_int hv4⟩⟩
      · exact .inr ⟨by simpa using c, if_neg c⟩
    · rw [spanL_mem]
      constructor
      · rintro ⟨js, h1, h2, h3⟩
        exact ⟨chainD js, List.mem_map.mpr ⟨js, h1, rfl⟩, by rw [fSpan_ch]; unfold spanF; rw [if_pos h2, h3]⟩
      · rintro ⟨dt, h1, h2⟩
        obtain ⟨js, hj, rfl⟩ := List.mem_map.mp h1
        rw [fSpan_ch] at h2
        unfold spanF at h2
        split at h2
        · rename_i r
          exact ⟨js, hj, r, Option.some.inj h2⟩
        · cases h2
    · rw [ints_v hx2] at h2
      exact q p H2 (s01.trans s2) (s01.free hp) h2
/-! span_shown -/
def Fits (k : Kd) (rule : Str) (d x : Int) (js : List Int) : Prop := js ∈ chN k ∧ d * 1440 - js.sum = x ∧ roomB k.ap (hX rule) (hY rule) d js = true
def spShown (K : PySem.W.Frag) (CZ CK : Addr) : Sp := fun vs H Q _ => ∃ (M : List Addr) (a : Addr) (k : Kd) (rule : Str) (d x : Int), vs = [.ref a, .str rule, .int d, .int x] ∧ isRuleS rule ∧ 1 ≤ d ∧ Live M H ∧ KAt K CK (hid M H) a k ∧ KOk k ∧
  (∀ H1, Same H H1 → (∀ js, ¬Fits k rule d x js) → Q .non H1) ∧
  ∀ js t z H1, Same H H1 → Fits k rule d x js → H1 t = some (.tup [.ref z, .int (lastA (hX rule) js % 1440), .int (lastA (hX rule) js / 1440)]) → ZAt K CZ (hid M H1) z 0 (rowsP 0 (nearP k.ap 0 js)) → Q (.ref t) H1
theorem scShown : FnScope ["kind", "rule", "days", "span", "jumps", "reading"] ["kind", "rule", "days", "span"] (defScope sShown) := ⟨rfl, rfl, rfl, by decide +kernel, rfl, by decide +kernel, by decide +kernel⟩
theorem ok_shown {f fS fN fC fO fR fL fZ fT fD : Addr} {fd fdS fdN fdC fdO fdR fdL fdZ fdT fdD : FuncData} (GS : FnOk P w K mg base CX0 3 fS fdS ["kind", "rule", "days"] (spNeedS K CK)) (FS : Df K mg "need_spans" sNeedS ["kind", "rule", "days"] fS fdS)
    (GN : FnOk P w K mg base CX0 2 fN fdN ["value"] (spR K RNeed)) (FN : Df K mg "need_integer" sNeed ["value"] fN fdN)
    (GC : FnOk P w K mg base CX0 3 fC fdC ["kind"] (spChains K CK)) (FC : Df K mg "chains" sChains ["kind"] fC fdC) (GO : FnOk P w K mg base CX0 1 fO fdO ["jumps", "days"] (spR K ROver)) (FO : Df K mg "span_over" sOver ["jumps", "days"] fO fdO)
    (GR : FnOk P w K mg base CX0 4 fR fdR ["kind", "rule", "days", "jumps"] (spRoom K CK)) (FR : Df K mg "has_room" sRoom ["kind", "rule", "days", "jumps"] fR fdR)
    (GL : FnOk P w K mg base CX0 1 fL fdL ["rule", "jumps"] (spR K RLastA)) (FL : Df K mg "last_ahead" sLastA ["rule", "jumps"] fL fdL) (GZ : FnOk P w K mg base CX0 7 fZ fdZ ["kind", "jumps"] (spNear K CZ CK)) (FZ : Df K mg "near_changes" sNear ["kind", "jumps"] fZ fdZ)
    (GT : FnOk P w K mg base CX0 3 fT fdT ["reading"] (spR K RTimeO)) (FT : Df K mg "time_of" sTimeOf ["reading"] fT fdT) (GD : FnOk P w K mg base CX0 3 fD fdD ["reading"] (spR K RDay)) (FD : Df K mg "day_of" sDayOf ["reading"] fD fdD)
    (F : Df K mg "span_shown" sShown ["kind", "rule", "days", "span"] f fd) : FnOk P w K mg base CX0 8 f fd ["kind", "rule", "days", "span"] (spShown K CZ CK) := by
  refine F.F.ok scShown (fun vs H Q E h => ?_) (fun cdv A outer s H vs Q E hr h => ?_)
  · obtain ⟨M, a, k, rule, d, x, rfl, _⟩ := h; rfl
  · obtain ⟨M, a, k, rule, d, x, rfl, hx, hd, L, hk, ko, q1, q2⟩ := h
    have hr4 := hr.mono (show 4 ≤ 7 by decide)
    have hr3 := hr.mono (show 3 ≤ 7 by decide)
    have hr2 := hr.mono (show 2 ≤ 7 by decide)
    have hr1 := hr.mono (show 1 ≤ 7 by decide)
    refine rb_exprR (re_call GS hr3 FS.g FS.F.kp FS.b (ra_cons (XV.go (xv_name 0 rfl) fun Ha sa => ra_cons (XV.go (xv_name 1 rfl) fun Hb sb => ra_1 (XV.go (xv_name 2 rfl) fun Hc sc =>
      ⟨M, a, k, rule, d, rfl, hx, hd, L.mono ((sa.trans sb).trans sc), hk.up (hid_mono ((sa.trans sb).trans sc)), fun H1 s1 => ?_⟩)))))
    have s01 := ((sa.trans sb).trans sc).trans s1
    have L1 := L.mono s01
    refine rb_expr (M := M) (d := .none) (xd_call L1 GN hr2 FN.g FN.F.kp FN.b (xa_cons (xv_name 3 rfl).int xa_nil) ⟨x, rfl, rfl⟩) fun H2 s2 => ?_
    have s02 := s01.trans s2
    have L2' := L.mono s02
    have hk2 := hk.up (hid_mono (M := M) s02)
    refine rb_for (M := M) (XL.dd (xl_chains (CK := CK) L2' GC hr3 FC ko (xv_name 0 rfl) hk2) L2') fun H3 s3 => ⟨fun i σ' H' => Same H3 H' ∧ (∀ js ∈ (chN k).take i, ¬Fits k rule d x js) ∧ ∃ a4 a5, σ' = [some (.ref a), some (.str rule), some (.int d), some (.int x), a4, a5], ⟨Same.refl _, fun js hj => by simp at hj, none, none, rfl⟩, fun i σ' H' w => hid_mono w.1, fun i it hi σ' H' v w hv => ?_, fun σ' H' w => ?_⟩
    · obtain ⟨z1, hno, a4, a5, rfl⟩ := w
      obtain ⟨js, hj, rfl⟩ := map_get hi
      have hjm := List.mem_of_getElem? hj
      have hc := chN_ok ko hjm
      have s0' := (s02.trans s3).trans z1
      have L4 := L.mono s0'
      have hk4 := hk.up (hid_mono (M := M) s0')
      refine rg_name 4 ?_ scShown.nd
      refine rb_if (xt_and2 (xt_eqI (M := M) (xd_call L4 GO hr1 FO.g FO.F.kp FO.b (xa_cons (xd_name 4 rfl hv) (xa_cons (xv_name 2 rfl).int xa_nil)) ⟨js, d, rfl, rfl⟩) (xv_name 3 rfl).int) fun _ => xt_val (M := M) (xd_room (CK := CK) L4 GR hr4 FR hx hc.len (xv_name 0 rfl) hk4 (xv_name 1 rfl) (xv_name 2 rfl) (xd_name 4 rfl hv))) (fun e H5 s5 => ?_) (fun e H5 s5 => rb_nil (rb_nil ⟨z1.trans s5, fun js' hj' => ?_, _, _, rfl⟩))
      · rw [Bool.and_eq_true] at e
        have fit : Fits k rule d x js := ⟨hjm, of_decide_eq_true e.1, e.2⟩
        have L5 := L4.mono s5
        have hv5 := hv.up (hid_mono (M := M) s5)
        refine rb_set 5 (M := M) (xd_call L5 GL hr1 FL.g FL.F.kp FL.b (xa_cons (xd_name 1 rfl (.str rule)) (xa_cons (xd_name 4 rfl hv5) xa_nil)) ⟨rule, js, rfl, hx, rfl⟩) (fun v6 H6 s6 hv6 => ?_) scShown.nd
        have e6 := dp_int hv6
        subst e6
        have s06 := (s0'.trans s5).trans s6
        refine rb_retR ⟨_, pe_tup ra_, ra_cons (re_call GZ hr FZ.g FZ.F.kp FZ.b (ra_cons (XV.go (xv_name 0 rfl) fun Ha sa => ra_1 (XD.go (M := M) (xd_name 4 rfl (hv5.up (hid_mono (s6.trans sa)))) fun vj Hb sb hvj =>
          ⟨M, a, k, js, vj, rfl, L.mono ((s06.trans sa).trans sb), hk.up (hid_mono ((s06.trans sa).trans sb)), ko, hc, hvj, fun z Hz sz hz => ?_⟩)))) ⟩
        have s0z := ((s06.trans sa).trans sb).trans sz
        have Lz := L.mono s0z
        refine ra_cons (XD.go (M := M) (xd_call Lz GT hr3 FT.g FT.F.kp FT.b (xa_cons (xv_name 5 rfl).int xa_nil) ⟨_, rfl, rfl⟩) fun v7 H7 s7 hv7 => ra_1 (XD.go (M := M) (xd_call (Lz.mono s7) GD hr3 FD.g FD.F.kp FD.b (xa_cons (xv_name 5 rfl).int xa_nil) ⟨_, rfl, rfl⟩) fun v8 H8 s8 hv8 => ⟨by show 3 ≤ sizeLine; decide, fun t ht => ?_⟩))
        rw [dp_int hv7, dp_int hv8]
        refine q2 js t z _ (((s0z.trans s7).trans s8).trans (same_new ht)) fit upd_same ?_
        exact hz.up (hid_mono ((s7.trans s8).trans (same_new ht)))
      · rw [take_snoc hj] at hj'
        rcases List.mem_append.mp hj' with h | h
        · exact hno js' h
        · rw [List.mem_singleton.mp h]
          rintro ⟨_, h2, h3⟩
          rw [decide_eq_true h2, h3] at e
          cases e
    · obtain ⟨z1, hno, a4, a5, rfl⟩ := w
      have s0' := (s02.trans s3).trans z1
      rw [List.length_map, List.take_length] at hno
      exact rb_ret (M := M) xd_non fun v H4 s4 hv => by
        rw [dp_non hv]
        exact q1 H4 (s0'.trans s4) fun js hf => hno js hf.1 hf
end
end Zn

set_option Elab.async false
set_option linter.all false
set_option maxRecDepth 100000
set_option maxHeartbeats 8000000
namespace Zn
open PySem PySem.Spec PyProof.Rows L2 Dl
/-! k32: the law's own sums, difference, tight -/
abbrev sLSums : Stmt := top 62
abbrev sLDiff : Stmt := top 63
abbrev sLTight : Stmt := top 64
def sumL (k : Kd) : List Int := isort (dd (smR k.js k.mo.toNat))
theorem sumL_mem {k : Kd} {x : Int} : x ∈ sumL k ↔ ∃ js ∈ chN k, js.sum = x := by
  unfold sumL chN
  rw [mem_isort, dd_mem, smR_mem]
  constructor
  · rintro ⟨c, h, e⟩
    obtain ⟨a, b⟩ := chs_mem.mp h
    exact ⟨c, chs_mem.mpr ⟨a, fun j hj => (mem_isort j k.js).mpr (b j hj)⟩, e⟩
  · rintro ⟨c, h, e⟩
    obtain ⟨a, b⟩ := chs_mem.mp h
    exact ⟨c, chs_mem.mpr ⟨a, fun j hj => (mem_isort j k.js).mp (b j hj)⟩, e⟩
theorem sumL_asc (k : Kd) : (sumL k).Pairwise (· < ·) := asc_isort (dd_nodup _)
theorem sumL_few {k : Kd} (ko : KOk k) : ∃ T : List Int, T.length < 64 ∧ ∀ x ∈ sumL k, x ∈ T := by
  obtain ⟨T, h1, h2⟩ := sums_few ko.js.2.2.2
  refine ⟨T, h1, fun x hx => ?_⟩
  obtain ⟨js, hj, e⟩ := sumL_mem.mp hx
  have c := chN_ok ko hj
  rw [← e]
  exact h2 js c.len c.mem
theorem smR_small {k : Kd} (ko : KOk k) {n : Nat} (hn : n ≤ 3) : (smR k.js n).length ≤ 125 := by
  rw [smR_len]
  have h4 := ko.js.2.2.2
  calc (k.js.length + 1) ^ n ≤ 5 ^ n := Nat.pow_le_pow_left (by omega) n
    _ ≤ 5 ^ 3 := Nat.pow_le_pow_right (by decide) hn
    _ = 125 := by decide
def fPlus (j : Int) : PyData → Option PyData
  | .int x => some (.int (x + j))
  | _ => none
theorem fPlus_all (j : Int) (xs : List Int) : (xs.map PyData.int).filterMap (fPlus j) = (xs.map (· + j)).map PyData.int := by
  induction xs with
  | nil => rfl
  | cons x xs ih => rw [List.map_cons, List.filterMap_cons]; show PyData.int (x + j) :: _ = _; rw [ih]; rfl
section
variable {P : Program} {w : World} {K : PySem.W.Frag} {mg : Str → Option Value} {base : Heap} {C CK CZ : Addr}
def RSums (ds es : List PyData) : Prop := ∃ k : Kd, ds = [kindD k] ∧ KOk k ∧ es = (sumL k).map PyData.int
abbrev sumN : List Str := ["_law_kind_here", "_law_rows", "_law_lap", "_law_more", "_law_jump", "_law_each"]
theorem scLSums : FnScope sumN ["_law_kind_here"] (defScope sLSums) := ⟨rfl, rfl, rfl, by decide +kernel, rfl, by decide +kernel, by decide +kernel⟩
theorem ok_lsums {f : Addr} {fd : FuncData} (T : Nm mg) (hS : mg "sorted" = none) (hs : mg "set" = none) (F : Df K mg "_law_sums" sLSums ["_law_kind_here"] f fd) : FnOk P w K mg base CX0 1 f fd ["_law_kind_here"] (spL K RSums) := by
  refine F.F.ok scLSums (fun vs H Q E h => ?_) (fun cdv A outer s H vs Q E hr h => ?_)
  · obtain ⟨M, ds, es, L, hd, ⟨k, rfl, _⟩, q⟩ := h
    exact dpa_len hd
  · obtain ⟨M, ds, es, L, hd, ⟨k, rfl, ko, rfl⟩, q⟩ := h
    cases hd with
    | cons hv hd =>
      cases hd
      rename_i v0
      have hmo := ko.m1
      have hm0 := ko.m0
      have hj4 := ko.js.2.2.2
      refine rb_setL (M := M) 1 (xl_lst L (xa_cons (xd_lst L (xa_cons xd_int xa_nil)) xa_nil)) (fun p xs H1 s1 hp h1 hx => ?_) scLSums.nd
      have L1 : Live (p :: M) H1 := live_new L s1 (by rw [h1]; simp)
      have hv1 : Dq K (hid (p :: M) H1) v0 (kindD k) := hv.up (hid_step hp s1)
      obtain ⟨r0, hr0, hr0M, exs⟩ : ∃ r0, H1 r0 = some (.lst ([0].map V.int)) ∧ r0 ∉ p :: M ∧ xs = [.ref r0] := by
        cases hx with
        | cons a1 hx =>
          cases hx
          obtain ⟨r, ys, rfl, hr, hy⟩ := dp_lst a1
          have ey := ints_v (ns := [0]) hy
          subst ey
          have n1 : r ∉ M := fun y => by unfold hid at hr; rw [if_pos y] at hr; cases hr
          refine ⟨r, hid_le _ _ hr, fun z => ?_, rfl⟩
          rcases List.mem_cons.mp z with e | z
          · subst e
            have h2 := hid_le _ _ hr
            rw [h1] at h2
            cases h2
          · exact n1 z
      subst exs
      refine rb_range T.rng (XD.go (M := p :: M) (xd_ixT (fun _ _ => rfl) (xd_name 0 rfl hv1) xd_int k2) fun v H2 s2 hv2 => ?_)
      refine ⟨k.mo.toNat, by rw [Int.toNat_of_nonneg ko.m0]; exact dp_int hv2, by omega, fun i σ' H' => Same H H' ∧ Same (hid (p :: M) H1) (hid (p :: M) H') ∧ Live (p :: M) H' ∧ (∃ acc r, acc.length ≤ i ∧ H' p = some (.lst (acc ++ [.ref r])) ∧ H' r = some (.lst ((smR k.js i).map V.int)) ∧ r ∉ p :: M) ∧ ∃ a2 a3 a4 a5, σ' = [some v0, some (.ref p), a2, a3, a4, a5],
        ⟨s1.trans s2, hid_mono s2, L1.mono s2, ⟨[], r0, Nat.le_refl _, s2 _ _ h1, s2 _ _ hr0, hr0M⟩, none, none, none, none, rfl⟩, fun i σ' H' hi w => ?_, fun σ' H' w => ?_⟩
      · obtain ⟨sH, sM, Lp, ⟨acc, r, hal, hacc, hrr, hrM⟩, a2, a3, a4, a5, rfl⟩ := w
        have hi3 : i < 3 := by omega
        have hvp := hv1.up sM
        have hsz := smR_small ko (n := i) (by omega)
        have hsz2 := smR_small ko (n := i + 1) (by omega)
        have kr : Dq K (hid (p :: M) H') (.ref r) (.list ((smR k.js i).map PyData.int)) := .lst (by rw [hid_of hrM]; exact hrr) (ints_dq _)
        refine rg_name 2 ?_ scLSums.nd
        refine rb_setL 3 (M := p :: M) (xl_listL T.lst Lp ((xv_ixS (fun _ _ => rfl) (xv_name 1 rfl) (SqL.of hacc) (xd_neg (M := []) xd_int).vint (atI_last _ _)).dd kr)) (fun m ms H3 s3 hm h3 hx3 => ?_) scLSums.nd
        have em := ints_v hx3
        subst em
        have L3 : Live (m :: p :: M) H3 := live_new Lp s3 (by rw [h3]; simp)
        have g3 : Same (hid (p :: M) H') (hid (m :: p :: M) H3) := hid_step hm s3
        have hv3 := hvp.up g3
        have nmp : m ≠ p := fun z => by rw [z, hacc] at hm; cases hm
        have nmr : m ≠ r := fun z => by rw [z, hrr] at hm; cases hm
        refine rb_for (M := m :: p :: M) (xd_ixT (fun _ _ => rfl) (xd_name 0 rfl hv3) xd_int k0) fun H4 s4 => ⟨fun j σ' H5 => Same (hid (m :: p :: M) H4) (hid (m :: p :: M) H5) ∧ Same H' H5 ∧ Live (m :: p :: M) H5 ∧ H5 m = some (.lst ((smR k.js i ++ (k.js.take j).flatMap fun j => (smR k.js i).map (· + j)).map V.int)) ∧ ∃ a4 a5, σ' = [some v0, some (.ref p), some (.int (i : Int)), some (.ref m), a4, a5],
          ⟨Same.refl _, s3.trans s4, L3.mono s4, by simpa using s4 _ _ h3, a4, a5, rfl⟩, fun j σ' H5 w => w.1, fun j it hj σ' H5 v hw hv5 => ?_, fun σ' H5 hw => ?_⟩
        · obtain ⟨z1, z2, L5, hm5, b4, b5, rfl⟩ := hw
          obtain ⟨jj, hjj, rfl⟩ := map_get hj
          have hjl : j < 4 := by
            have := (List.getElem?_eq_some_iff.mp hjj).1
            omega
          have ev := dp_int hv5
          subst ev
          have kr5 : Dq K (hid (m :: p :: M) H5) (.ref r) (.list ((smR k.js i).map PyData.int)) := .lst (by rw [hid_of (by simp only [List.mem_cons, not_or] at hrM ⊢; exact ⟨Ne.symm nmr, hrM.1, hrM.2⟩)]; exact z2 _ _ hrr) (ints_dq _)
          refine rg_name 4 ?_ scLSums.nd
          have hlen : ((smR k.js i ++ (k.js.take j).flatMap fun j => (smR k.js i).map (· + j)).map V.int).length ≤ 1000 := by
            rw [List.length_map, List.length_append, flatMap_len (k := (smR k.js i).length) (fun j => by rw [List.length_map]), List.length_take]
            have h1 : (min j k.js.length) * (smR k.js i).length ≤ 4 * 125 := Nat.mul_le_mul (by omega) hsz
            omega
          refine rb_extendI (M := m :: p :: M) (ns := (smR k.js i).map (· + jj)) (List.mem_cons_self ..) (xv_name 3 rfl) hm5 (XL.dd ((xl_comp (own := [("_law_each", 5)]) (fPlus jj) L5 scLSums.nd ((xv_ixS (fun _ _ => rfl) (xv_name 1 rfl) (SqL.of (z2 _ _ hacc)) (xd_neg (M := []) xd_int).vint (atI_last _ _)).dd kr5)
            (blkOk_by (own := [("_law_each", 5)]) (N := sumN) (sc := defScope sLSums) (by decide +kernel)) (by rw [List.length_map]; omega) (fun q d v H6 hd hq s6 Lq hv6 => ?comp)).to (fPlus_all jj _)) L5) (by rw [List.length_map (f := (· + jj))]; omega) fun H6 s6 => rb_nil ?_
          case comp =>
            obtain ⟨x, _, rfl⟩ := List.mem_map.mp hd
            have ex := dp_int hv6
            subst ex
            intro s0 H0 C0 cl fp
            refine rg_name 5 ⟨rfl, bt_nil ⟨Same.refl _, .inl ⟨rfl, _, rfl, fun s0 H0 C0 cl fp => ?_⟩⟩⟩ scLSums.nd
            exact XD.go (xd_add (xv_name 5 rfl).int (xv_name 4 rfl).int) fun v H7 s7 hv7 => ⟨s7, hv7⟩
          have eh : ∀ o, hid (m :: p :: M) (upd H6 m o) = hid (m :: p :: M) H6 := fun o => hid_upd_mem (List.mem_cons_self ..)
          refine ⟨by rw [eh]; exact z1.trans (hid_mono s6), same_upd (z2.trans s6) hm, Live.upd (L5.mono s6), ?_, some (.int jj), _, rfl⟩
          rw [upd_same, take_snoc hjj, List.flatMap_append, ← List.append_assoc, List.map_append (l₁ := smR k.js i ++ _)]
          simp
        · obtain ⟨z1, z2, L5, hm5, b4, b5, rfl⟩ := hw
          rw [List.length_map, List.take_length] at hm5
          have hm5 : H5 m = some (.lst ((smR k.js (i + 1)).map V.int)) := hm5
          have hmM : m ∉ p :: M := fun z => Lp m z hm
          have km : Dq K (hid (p :: M) H5) (.ref m) (.list ((smR k.js (i + 1)).map PyData.int)) := .lst (by rw [hid_of hmM]; exact hm5) (ints_dq _)
          refine rb_append (M := p :: M) (List.mem_cons_self ..) (xv_name 1 rfl) (z2 _ _ hacc) (xd_name 3 rfl km) (by rw [List.length_append]; simp; omega) fun v6 H6 s6 hv6 => rb_nil ?_
          obtain ⟨m', ys, rfl, hm', hy⟩ := dp_lst hv6
          have ey := ints_v hy
          subst ey
          have hm'M : m' ∉ p :: M := fun y => by unfold hid at hm'; rw [if_pos y] at hm'; cases hm'
          have nm' : m' ≠ p := fun z => hm'M (by rw [z]; exact List.mem_cons_self ..)
          have eh : ∀ o, hid (p :: M) (upd H6 p o) = hid (p :: M) H6 := fun o => hid_upd_mem (List.mem_cons_self ..)
          have sz := z2.trans s6
          refine ⟨same_upd (sH.trans sz) hp, by rw [eh]; exact sM.trans (hid_mono sz), Live.upd (Lp.mono sz), ⟨acc ++ [.ref r], m', by rw [List.length_append]; simp; omega, upd_same, by rw [upd_ne nm']; exact hid_le _ _ hm', hm'M⟩, _, _, _, _, rfl⟩
      · obtain ⟨sH, sM, Lp, ⟨acc, r, hal, hacc, hrr, hrM⟩, a2, a3, a4, a5, rfl⟩ := w
        have kr : Dq K (hid (p :: M) H') (.ref r) (.list ((smR k.js k.mo.toNat).map PyData.int)) := .lst (by rw [hid_of hrM]; exact hrr) (ints_dq _)
        obtain ⟨Tt, hT1, hT2⟩ := sumL_few ko
        have hsz := smR_small ko (n := k.mo.toNat) (by omega)
        have hin : ∀ x, x ∈ sumL k ↔ x ∈ smR k.js k.mo.toNat := fun x => by unfold sumL; rw [mem_isort, dd_mem]
        exact rb_retR (XL.go (M := p :: M) (xl_sortedOf (ns := sumL k) Tt hS hs Lp ((xv_ixS (fun _ _ => rfl) (xv_name 1 rfl) (SqL.of hacc) (xd_neg (M := []) xd_int).vint (atI_last _ _)).dd kr) (by omega) hT1 (fun x hx => hT2 x ((hin x).mpr hx)) (sumL_asc k) hin)
          fun p5 xs5 H5 s5 hp5 h5 hx5 => q p5 xs5 H5 (sH.trans s5) (sH.free hp5) h5 (out_of hx5))
/-! difference -/
def diffD (x d : Int) (rule : Str) (f : Int) (st : List Step) : PyData :=
  match placeN x rule f st, placeN (x + 1440 * d) rule f st with
  | .int a, .int b => .int (b - a)
  | _, _ => .none
def RDiff (ds : List PyData) (d : PyData) : Prop := ∃ (f : Int) (st : List Step) (x n : Int) (rule : Str), ds = [planD f st, .int x, .int n, .str rule] ∧ okS st ∧ st.length ≤ 50 ∧ d = diffD x n rule f st
theorem placeN_kind (x : Int) (rule : Str) (f : Int) (st : List Step) : placeN x rule f st = .none ∨ ∃ a, placeN x rule f st = .int a := by
  unfold placeN
  cases tornP x f st with
  | none => exact .inr ⟨_, rfl⟩
  | some r =>
    show (if rule = "ahead" then _ else if rule = "behind" then _ else _) = PyData.none ∨ ∃ a, (if rule = "ahead" then _ else if rule = "behind" then _ else _) = PyData.int a
    split
    · exact .inr ⟨_, rfl⟩
    · split
      · exact .inr ⟨_, rfl⟩
      · exact .inl rfl
theorem scLDiff : FnScope ["_law_plan", "_law_reading", "_law_days", "_law_rule", "_law_one", "_law_other"] ["_law_plan", "_law_reading", "_law_days", "_law_rule"] (defScope sLDiff) := ⟨rfl, rfl, rfl, by decide +kernel, rfl, by decide +kernel, by decide +kernel⟩
theorem ok_ldiff {f fP : Addr} {fd fdP : FuncData} (GP : FnOk P w K mg base CX0 3 fP fdP ["_law_plan", "_law_reading", "_law_rule"] (spR K RLPlace)) (FP : Df K mg "_law_place" sLPlace ["_law_plan", "_law_reading", "_law_rule"] fP fdP)
    (F : Df K mg "_law_difference" sLDiff ["_law_plan", "_law_reading", "_law_days", "_law_rule"] f fd) : FnOk P w K mg base CX0 4 f fd ["_law_plan", "_law_reading", "_law_days", "_law_rule"] (spR K RDiff) := by
  refine F.F.ok scLDiff (fun vs H Q E h => ?_) (fun cdv A outer s H vs Q E hr h => ?_)
  · obtain ⟨M, ds, d, L, hd, ⟨f, st, x, n, rule, rfl, _⟩, q⟩ := h
    exact dpa_len hd
  · obtain ⟨M, ds, d, L, hd, ⟨f, st, x, n, rule, rfl, ok, hl, rfl⟩, q⟩ := h
    cases hd with
    | cons h1 hd => cases hd with
      | cons h2 hd => cases hd with
        | cons h3 hd => cases hd with
          | cons h4 hd =>
            cases hd
            rename_i v0 v1 v2 v3
            refine rb_par (M := M) (d1 := placeN x rule f st) (d2 := placeN (x + 1440 * n) rule f st) 4 5 (xa_cons (xd_call L GP hr FP.g FP.F.kp FP.b (xa_cons (xd_name 0 rfl h1) (xa_cons (xd_name 1 rfl h2) (xa_cons (xd_name 3 rfl h4) xa_nil))) ⟨f, st, x, rule, rfl, ok, hl, (placeN_eq ..).symm⟩)
              (xa_cons (xd_call L GP hr FP.g FP.F.kp FP.b (xa_cons (xd_name 0 rfl h1) (xa_cons (xd_add (xd_name 1 rfl h2) (xd_mul xd_int (xd_name 2 rfl h3) (.inl (by decide)))) (xa_cons (xd_name 3 rfl h4) xa_nil))) ⟨f, st, x + 1440 * n, rule, rfl, ok, hl, (placeN_eq ..).symm⟩) xa_nil)) (fun v4 v5 H1 s1 hv4 hv5 => ?_) scLDiff.nd
            unfold diffD at q
            refine rb_retR ?_
            rcases placeN_kind x rule f st with e1 | ⟨a, e1⟩
            · rw [e1] at hv4 q
              exact XD.go (M := M) (d := .none) (xd_ifT ((xt_or2 (k2 := false) (xt_isNone (xd_name 4 rfl hv4)) fun z => absurd z (by decide)).to rfl) xd_non) fun v6 H6 s6 hv6 => q v6 H6 (s1.trans s6) hv6
            · rcases placeN_kind (x + 1440 * n) rule f st with e2 | ⟨b, e2⟩
              · rw [e1, e2] at q
                rw [e1] at hv4
                rw [e2] at hv5
                exact XD.go (M := M) (d := .none) (xd_ifT ((xt_or2 (xt_isNone (xd_name 4 rfl hv4)) fun z => xt_isNone (xd_name 5 rfl hv5)).to rfl) xd_non) fun v6 H6 s6 hv6 => q v6 H6 (s1.trans s6) hv6
              · rw [e1, e2] at q
                rw [e1] at hv4
                rw [e2] at hv5
                exact XD.go (M := M) (d := .int (b - a)) (xd_ifF ((xt_or2 (xt_isNone (xd_name 4 rfl hv4)) fun z => xt_isNone (xd_name 5 rfl hv5)).to rfl) (xd_sub (xd_name 5 rfl hv5) (xd_name 4 rfl hv4))) fun v6 H6 s6 hv6 => q v6 H6 (s1.trans s6) hv6
end
end Zn

set_option Elab.async false
set_option linter.all false
set_option maxRecDepth 100000
set_option maxHeartbeats 8000000
namespace Zn
open PySem PySem.Spec PyProof.Rows L2 Dl
/-! k32: rules for laws (as in k31's) -/
theorem at_any {vs : List V} {r : Int} (h0 : 0 ≤ r) (h1 : r.toNat < vs.length) : atI vs r = some (vs[r.toNat]) := by
  obtain ⟨n, rfl⟩ : ∃ n : Nat, r = (n : Int) := ⟨r.toNat, by omega⟩
  have h2 : n < vs.length := by omega
  unfold atI
  rw [show ixN vs.length (n : Int) = some n by unfold ixN; simp; omega]
  simp [h2]
theorem day_len {ds : List Int} {r : Int} (h0 : 0 ≤ r) (h1 : r < ds.length) : ∃ v, atI (ds.map V.int) r = some (V.int v) ∧ v ∈ ds := by
  have h : r.toNat < ds.length := by omega
  exact ⟨ds[r.toNat], at_menu h0 h, List.getElem_mem h⟩
theorem rule_of {z : V} (h : z ∈ [V.str "ahead", .str "behind", .str "strict"]) : ∃ x : Str, z = .str x ∧ isRuleS x := by
  simp only [List.mem_cons, List.not_mem_nil, or_false] at h
  rcases h with e | e | e
  · exact ⟨_, e, .inl rfl⟩
  · exact ⟨_, e, .inr (.inl rfl)⟩
  · exact ⟨_, e, .inr (.inr rfl)⟩
theorem bag_ne {b p : Addr} {H H' : Hp} {n : Nat} (h : BagAt H b n) (s : SameB p H H') (ne : b ≠ p) : BagAt H' b n := by
  obtain ⟨g, m, c, e1, e2⟩ := h
  exact ⟨g, m, c, s b _ ne e1, e2⟩
section
variable {X : Cx} {M : List Addr} {σ : L2.St} {H : Hp} {a b c e e2 e3 e4 e5 o : Expr} {pos apos p1 p2 py spos : Pos} {C f : Addr} {fd : FuncData} {off n : Int} {k : Nat} {D : Ends} {rest : List Stmt} {x : Str} {scope : Scope} {own : List (Str × Nat)} {elt tg : Expr} {Q : VK} {esl : List Expr}
theorem rb_setCR (i : Nat) (hm : X.mg "range" = none) (hN : X.N.Nodup) (ok : BlkOk X.N X.env.scope scope own) (h : tLc (iRng1 (RA X [a])) (BG X scope tg) (BT X scope []) (BE X scope elt) (own.map (·.2)) σ H fun v H1 => RB X rest D (σ.set i (some v)) H1)
    (hi : X.N[i]? = some x := by rfl) (hx : X.env.scope.names.lookup x = some .local := by rfl) (hsw : swapsWith (.ListComp elt [⟨tg, .Call (.Name "range" p1) [a] [] p2, [], 0⟩] scope pos) (some (.Name x py)) spos.line X.env = pure true := by exact sw_true rfl rfl rfl rfl)
    (hc : X.calm = true := by rfl) (hg : Gl X "range" := by rfl) (he : starEach [a] X.env = [(false, eval a X.env)] := by rfl) (hs : ∀ x, foldedSetIterable (.Call (.Name "range" p1) [a] [] p2) X.env x = pure x := by intro _; rfl) : RB X (.Assign [.Name x py] (.ListComp elt [⟨tg, .Call (.Name "range" p1) [a] [] p2, [], 0⟩] scope pos) spos :: rest) D σ H :=
  ⟨_, pss_cons (ps_setLc (own := own) hc hN hi hx hsw (pi_range1 hg hm ra_ he) ok (fun _ _ _ _ _ => bg_) (fun _ _ _ _ _ => bt_) (fun _ _ _ _ _ => be_) hs) rb_, h⟩
theorem re_lcR (hm : X.mg "range" = none) (hN : X.N.Nodup) (ok : BlkOk X.N X.env.scope scope own) (h : tLc (iRng1 (RA X [a])) (BG X scope tg) (BT X scope []) (BE X scope elt) (own.map (·.2)) σ H Q)
    (hc : X.calm = true := by rfl) (hg : Gl X "range" := by rfl) (he : starEach [a] X.env = [(false, eval a X.env)] := by rfl) (hs : ∀ x, foldedSetIterable (.Call (.Name "range" p1) [a] [] p2) X.env x = pure x := by intro _; rfl) : RE X (.ListComp elt [⟨tg, .Call (.Name "range" p1) [a] [] p2, [], 0⟩] scope pos) σ H Q :=
  ⟨_, pe_lc (own := own) hc hN (pi_range1 hg hm ra_ he) ok (fun _ _ _ _ _ => bg_) (fun _ _ _ _ _ => bt_) (fun _ _ _ _ _ => be_) hs, h⟩
theorem re_menuV {vs : List V} (hs : PlainIx b) (hn : vs.length ≤ 1000) (h : RA X esl σ H fun ws H1 => ws = vs ∧ ∀ l, H1 l = none → RE X b σ (upd H1 l (.lst vs)) fun y H3 => ∃ r : Int, y = .int r ∧ 0 ≤ r ∧ r < vs.length ∧ H3 l = some (.lst vs) ∧ ∀ z, z ∈ vs → Q z H3) :
    RE X (.Subscript (.List esl p1) b pos) σ H Q :=
  ⟨_, pe_ix ix_list (pe_lst ra_) re_ hs, ra_mono h fun ws H1 ⟨e1, k⟩ => by
    subst e1
    exact ⟨Nat.le_trans hn (by decide), fun l hl => re_mono (k l hl) fun y H3 ⟨r, ey, r0, r1, h3, q⟩ => by
      subst ey
      have hlt : r.toNat < ws.length := by omega
      refine ⟨l, ws, r, ws[r.toNat], rfl, rfl, SqL.of h3, ?_, q _ (List.getElem_mem hlt)⟩
      exact at_any r0 hlt⟩⟩
theorem rb_forE {tg : Expr} {body : List Stmt} (h : RE X e σ H fun v H1 => ∃ ds, Dq X.K (hid M H1) v (.list ds) ∧ ∃ Pv : Nat → L2.St → Hp → Prop, Pv 0 σ H1 ∧ (∀ k σ' H', Pv k σ' H' → Same (hid M H1) (hid M H')) ∧
      (∀ k d, ds[k]? = some d → ∀ σ' H' v, Pv k σ' H' → Dq X.K (hid M H') v d → RG X tg v σ' H' fun σ2 H2 => RB X body { D with nx := Pv (k + 1), ct := Pv (k + 1), bk := RB X rest D } σ2 H2) ∧ ∀ σ' H', Pv ds.length σ' H' → RB X rest D σ' H')
    (hp : PassesOwn (model X.prog X.w) X.A X.env X.xe := by exact PassesOwn.never) (hc : X.calm = true := by rfl) (hs : ∀ x, foldedSetIterable e X.env x = pure x := by intro _; rfl) : RB X (.For tg e body [] pos :: rest) D σ H :=
  ⟨_, pss_cons (ps_for hp hc (pi_list re_) rg_ rb_ hs) rb_, re_mono h fun v H1 ⟨ds, hv, Pv, h0, hk, hst, hd⟩ => by
    obtain ⟨a, xs, rfl, ha, hx⟩ := dp_lst hv
    refine ⟨a, rfl, ⟨xs, SqL.of (hid_le _ _ ha)⟩, for_list (xs := xs) Pv h0 (fun i σ' H' _ p => SqL.of (hid_le _ _ (hk i σ' H' p _ _ ha))) (fun i x σ' H' hi p => ?_) (by rw [dpa_len hx]; exact hd)⟩
    obtain ⟨d, h1, h2⟩ := dpa_get' hx hi
    exact hst i d h1 σ' H' x p (h2.up (hk i σ' H' p))⟩
end
end Zn

set_option Elab.async false
set_option linter.all false
set_option maxRecDepth 100000
set_option maxHeartbeats 8000000
namespace Zn
open PySem PySem.Spec PyProof.Rows L2 Dl
/-! k32: the law's tight plans; what comes to light is told -/
theorem ofK_tail {k : Kd} {s : Step} {st : List Step} (h : OfK k (s :: st)) : OfK k st := ⟨fun t ht => h.js t (List.mem_cons_of_mem _ ht), fun i t u h1 h2 => h.gap (i + 1) t u (by simpa using h1) (by simpa using h2)⟩
theorem ofK_far {k : Kd} : ∀ {st : List Step}, OfK k st → Far k.ap st
  | [], _ => trivial
  | [_], _ => trivial
  | s :: t :: st, h => ⟨h.gap 0 s t rfl rfl, ofK_far (ofK_tail h)⟩
theorem ap_nn {k : Kd} (ko : KOk k) : 0 ≤ k.ap := by
  have a := floor_ap ko
  obtain ⟨b, c⟩ := mx_small ko.js.1 (okJs_ne ko.js)
  omega
/-- whatever the law's own placing comes to is told -/
theorem diff_in {k : Kd} (ko : KOk k) {rule : Str} (hr : isRuleS rule) {st : List Step} (h : OfK k st) (hl : (st.length : Int) ≤ k.mo) {x d y : Int} (hd : 1 ≤ d) (e : diffD x d rule 0 st = .int y) : y ∈ spanL k rule d := by
  unfold diffD at e
  have e1 : (1440 : Int) * d = d * 1440 := Int.mul_comm ..
  rw [e1] at e
  rcases placeN_kind x rule 0 st with e2 | ⟨a, e2⟩
  · rw [e2] at e; cases e
  · rcases placeN_kind (x + d * 1440) rule 0 st with e3 | ⟨b, e3⟩
    · rw [e2, e3] at e; cases e
    · rw [e2, e3] at e
      have ey : b - a = y := PyData.int.inj e
      obtain ⟨js, h1, h2, h3, h4⟩ := diff_room (ap := k.ap) hr (ofK_ok ko h) (ofK_far h) (ap_nn ko) (by omega) e2 e3
      refine spanL_mem.mpr ⟨js, chs_mem.mpr ⟨by omega, fun j hj => ?_⟩, h4, by omega⟩
      obtain ⟨s, hs, es⟩ := h3 j hj
      rw [mem_isort, ← es]
      exact h.js s hs
theorem near_ofK {k : Kd} {js : List Int} (h : ∀ j ∈ js, j ∈ k.js) : ∀ c : Int, OfK k (nearP k.ap c js) := by
  induction js with
  | nil => exact fun c => ofK_nil k
  | cons j js ih =>
    intro c
    have q := ih (fun z hz => h z (List.mem_cons_of_mem _ hz)) (c + k.ap)
    refine ⟨fun s hs => ?_, fun i s t h1 h2 => ?_⟩
    · rcases List.mem_cons.mp hs with e | hs
      · rw [e]; exact h j (List.mem_cons_self ..)
      · exact q.js s hs
    · cases i with
      | zero =>
        cases js with
        | nil => simp [nearP] at h2
        | cons j2 js =>
          simp [nearP] at h1 h2
          subst h1 h2
          show k.ap ≤ c + k.ap - c
          omega
      | succ i => exact q.gap i s t (by simpa [nearP] using h1) (by simpa [nearP] using h2)
/-- the reading just ahead of near changes -/
theorem near_diffD {k : Kd} (ko : KOk k) {rule : Str} (hr : isRuleS rule) {js : List Int} (hc : ChOk k js) {c d : Int} (room : roomB k.ap (hX rule) (hY rule) d js = true) : diffD (c + lastA (hX rule) js) d rule 0 (nearP k.ap c js) = .int (d * 1440 - js.sum) := by
  obtain ⟨h1, h2⟩ := near_diff (c := c) hr (floor_ap ko) (hc.js ko) room
  unfold diffD
  have e1 : (1440 : Int) * d = d * 1440 := Int.mul_comm ..
  rw [e1, h1, h2]
  show PyData.int _ = PyData.int _
  congr 1
  omega
section
variable {P : Program} {w : World} {K : PySem.W.Frag} {mg : Str → Option Value} {base : Heap} {C CK CZ : Addr}
def spLTight (K : PySem.W.Frag) : Sp := fun vs H Q _ => ∃ (b : Addr) (vk : V) (k : Kd) (d : Int) (n : Nat), vs = [.ref b, vk, .int d] ∧ KOk k ∧ BagAt H b n ∧ n ≤ 900000 ∧ Dq K (hid [b] H) vk (kindD k) ∧
  ∀ (st : List Step) v H1, OfK k st → (st.length : Int) ≤ k.mo → SameB b H H1 → BagAt H1 b (n + 10) → Dq K (hid [b] H1) v (planD 0 st) → Q v H1
abbrev tigN : List Str := ["_law_bag_here", "_law_kind_here", "_law_days", "_law_steps_here", "_law_moment", "_law_lap"]
theorem scLTight : FnScope tigN ["_law_bag_here", "_law_kind_here", "_law_days"] (defScope sLTight) := ⟨rfl, rfl, rfl, by decide +kernel, rfl, by decide +kernel, by decide +kernel⟩
theorem ok_ltight {f fT : Addr} {fd fdT : FuncData} (T : Nm mg) (FT : Df K mg "_law_take" sTake ["_law_bag_here", "_law_many"] fT fdT) (F : Df K mg "_law_tight" sLTight ["_law_bag_here", "_law_kind_here", "_law_days"] f fd) : FnOk P w K mg base CX0 2 f fd ["_law_bag_here", "_law_kind_here", "_law_days"] (spLTight K) := by
  have GT : FnOk P w K mg base CX0 1 fT fdT ["_law_bag_here", "_law_many"] spTake := ok_take FT
  refine F.F.ok scLTight (fun vs H Q E h => ?_) (fun cdv A outer s H vs Q E hr h => ?_)
  · obtain ⟨b, vk, k, d, n, rfl, _⟩ := h; rfl
  · obtain ⟨b, vk, k, d, n, rfl, ko, hB, hn, hk, q⟩ := h
    have hmo := ko.m1
    have hm0 := ko.m0
    have hj4 := ko.js.2.2.2
    have hj1 := ko.js.2.2.1
    have c4 : (4 : Nat) < 2 ^ 200 := by decide
    refine rb_parR 3 4 (ra_cons (XL.go (M := []) (xl_lst Live.nil xa_nil) fun l xs H1 s1 hl h1 hx => ra_1 ?_)) scLTight.nd
    cases hx
    have hlb : l ≠ b := fun e => by rw [e] at hl; exact hB.some hl
    have hB1 := hB.up s1 (Nat.le_refl _)
    refine re_subI (re_addI (re_menu (n := 8) (fun _ _ => rfl) (by decide) (ra_int (xd_sub (M := []) xd_int xd_int).vint fun Ha sa => ra_int (xd_neg (M := []) xd_int).vint fun Hb sb => ra_int xv_int fun Hc sc => ra_int xv_int fun Hd sd => ra_int xv_int fun He se => ra_int (xd_neg (M := []) xd_int).vint fun Hf sf => ra_int (xd_neg (M := []) xd_int).vint fun Hg sg => ra_1 (re_int xv_int fun Hh sh => ⟨[1 - 721, -60, 0, 60, 1, -1, -30, 30], rfl, rfl, fun l2 hl2 => ?_⟩))))
    have sI := ((((((sa.trans sb).trans sc).trans sd).trans se).trans sf).trans sg).trans sh
    have hBi := hB1.up sI (Nat.le_refl _)
    have hl2b : l2 ≠ b := fun e => by rw [e] at hl2; exact hBi.some hl2
    refine re_take GT FT hr (xv_name 0 rfl) xv_int (bag_new hBi hl2) fun r H2 r0 r8 sB2 hB2 => ⟨r, rfl, r0, r8, sB2 l2 _ hl2b upd_same, fun z hz => ⟨z, rfl, ?_⟩⟩
    refine re_take GT FT hr (xv_name 0 rfl) xv_int hB2 fun r2 H3 r20 r23 sB3 hB3 => ⟨r2, rfl, ⟨z + r2, rfl, re_int xv_int fun H4 s4 => ⟨1, rfl, _, _, rfl, ?_⟩⟩⟩
    have sB4 : SameB b H1 H4 := (((SameB.of (sI.trans (same_new hl2))).trans sB2).trans sB3).trans (.of s4)
    have hB4 := hB3.up s4 (Nat.le_refl _)
    have hl4 : H4 l = some (.lst []) := sB4 _ _ hlb h1
    have sB04 : SameB b H H4 := (SameB.of s1).trans sB4
    -- the rest
    have fin : ∀ (mo : Int) (H5 : Hp), SameB b H H5 → BagAt H5 b (n + 3) → H5 l = some (.lst []) →
        RB (cxOf CX0 P w K mg base tigN "_law_tight" (defScope sLTight) f cdv A outer s H E).nox ((defBody sLTight).drop 2) { nx := fun _ H1 => Q .non H1, rt := Q } [some (.ref b), some vk, some (.int d), some (.ref l), some (.int mo), none] H5 := fun mo H5 sB5 hB5 hl5 => by
      have L5 : Live [l, b] H5 := fun y hy => by
        rcases List.mem_cons.mp hy with e | hy
        · subst e; rw [hl5]; simp
        · rw [List.mem_singleton.mp hy]; exact hB5.some
      have kup : ∀ {Hz : Hp}, SameB b H Hz → H l = none → Dq K (hid [l, b] Hz) vk (kindD k) := fun {Hz} sz hl0 => hk.up fun y o e => by
        have n1 : y ∉ [b] := fun z => by unfold hid at e; rw [if_pos z] at e; cases e
        have e' := hid_le _ _ e
        have n2 : y ≠ l := ne_of_none e' hl0
        have n3 : y ≠ b := fun z => n1 (by rw [z]; exact List.mem_singleton.mpr rfl)
        rw [hid_of (by simp [n2, n3])]
        exact sz y o n3 e'
      refine rb_range T.rng (XD.go (M := [l, b]) (xd_ixT (fun _ _ => rfl) (xd_name 1 rfl (kup sB5 hl)) xd_int k2) fun v H6 s6 hv6 => ?_)
      refine ⟨k.mo.toNat, by rw [Int.toNat_of_nonneg ko.m0]; exact dp_int hv6, by omega, fun i σ' H' => SameB b H H' ∧ BagAt H' b (n + 3 + 2 * i) ∧ ∃ st acc mom a5, σ' = [some (.ref b), some vk, some (.int d), some (.ref l), some (.int mom), a5] ∧ H' l = some (.lst acc) ∧ DqAll K (hid [l, b] H') acc (st.map stepD) ∧ OfK k st ∧ st.length = i ∧ (∀ s, st.getLast? = some s → k.ap ≤ mom - s.1),
        ⟨sB5.trans (.of s6), hB5.up s6 (by omega), [], [], mo, none, rfl, s6 _ _ hl5, .nil, ofK_nil k, rfl, fun s h => by simp at h⟩, fun i σ' H' hi w => ?_, fun σ' H' w => ?_⟩
      · obtain ⟨sH, hBi, st, acc, mom, a5, rfl, hacc, hda, hof, hlen, hlast⟩ := w
        have hi3 : i < 3 := by omega
        have hal : acc.length = i := by rw [dpa_len hda, List.length_map, hlen]
        refine rg_name 5 ?_ scLTight.nd
        refine rb_appendE (xv_name 3 rfl) hacc (by omega) fun H7 s7 => ?_
        refine ⟨_, pe_tup ra_, ra_cons (XV.go (xv_name 4 rfl) fun H8 s8 => ra_1 ⟨_, pe_ix ix_list re_ re_ (fun _ _ => rfl), XD.go (M := [l, b]) (xd_ixT (fun _ _ => rfl) (xd_name 1 rfl (kup ((sH.trans (.of s7)).trans (.of s8)) hl)) xd_int k0) fun vj H9 s9 hvj => ?_⟩)⟩
        obtain ⟨pj, ys, rfl, hpj, hy⟩ := dp_lst hvj
        have ey := ints_v hy
        subst ey
        have hpj9 := hid_le _ _ hpj
        have hpjM : pj ∉ [l, b] := fun z => by unfold hid at hpj; rw [if_pos z] at hpj; cases hpj
        have hpjb : pj ≠ b := fun z => hpjM (by rw [z]; simp)
        have s79 := (s7.trans s8).trans s9
        have hjl : ((k.js.map PyData.int).length : Int) = (k.js.length : Int) := by rw [List.length_map]
        refine re_take GT FT hr (xv_name 0 rfl) ((xd_len T.len (xd_ixT (fun _ _ => rfl) (xd_name 1 rfl (kup (sH.trans (.of s79)) hl)) xd_int k0)).to (d' := .int (k.js.length : Int)) (by rw [hjl])).vint (hBi.up s79 (Nat.le_refl _)) (fun r3 Ha r30 r31 sBa hBa => ?_) (by omega) (by omega)
        obtain ⟨jv, hjv, hjm⟩ := day_len r30 r31
        refine ⟨pj, _, r3, _, rfl, rfl, SqL.of (sBa _ _ hpjb hpj9), hjv, by show 2 ≤ sizeLine; decide, fun tp htp => ⟨?_, ?_⟩⟩
        · rw [upd_ne (fun z => by rw [← z, (sBa _ _ hlb (s79 _ _ hacc))] at htp; cases htp)]
          exact sBa _ _ hlb (s79 _ _ hacc)
        have hla := sBa _ _ hlb (s79 _ _ hacc)
        have htpl : tp ≠ l := fun z => by rw [z, hla] at htp; cases htp
        have htpb : tp ≠ b := fun z => by rw [z] at htp; exact hBa.some htp
        have sHa : SameB b H' Ha := (SameB.of s79).trans sBa
        generalize hHb : upd (upd Ha tp (.tup [.int mom, .int jv])) l (.lst (acc ++ [.ref tp])) = Hb
        have hlHb : Hb l = some (.lst (acc ++ [.ref tp])) := by rw [← hHb, upd_same]
        have sHb : ∀ y o, y ≠ b → y ≠ l → H' y = some o → Hb y = some o := fun y o n1 n2 e => by
          have e2 := sHa y o n1 e
          rw [← hHb, upd_ne n2, upd_ne (ne_of_none e2 htp)]
          exact e2
        have htHb : Hb tp = some (.tup [.int mom, .int jv]) := by rw [← hHb, upd_ne htpl, upd_same]
        have hBb : BagAt Hb b (n + 3 + 2 * i + 1) := by
          obtain ⟨g, m, c, e1, e2, e3, e4, e5⟩ := hBa
          exact ⟨g, m, c, by rw [← hHb, upd_ne (Ne.symm hlb), upd_ne (Ne.symm htpb)]; exact e1, e2, e3, e4, by omega⟩
        have g1 : Same (hid [l, b] H') (hid [l, b] Hb) := fun y o e => by
          have n1 : y ∉ [l, b] := fun z => by unfold hid at e; rw [if_pos z] at e; cases e
          rw [hid_of n1]
          exact sHb y o (fun z => n1 (by rw [z]; simp)) (fun z => n1 (by rw [z]; simp)) (hid_le _ _ e)
        have sB0b : SameB b H Hb := fun y o n1 e => sHb y o n1 (ne_of_none e hl) (sH y o n1 e)
        -- the moment
        refine rb_setR 4 (re_addI (re_int (xd_add (M := [l, b]) (xv_name 4 rfl).int (xd_ixT (fun _ _ => rfl) (xd_name 1 rfl (kup sB0b hl)) xd_int k1)).vint fun Hc sc => ⟨mom + k.ap, rfl, ?_⟩)) scLTight.nd
        refine re_menu (n := 5) (fun _ _ => rfl) (by decide) (ra_int xv_int fun Hd sd => ra_int xv_int fun He se => ra_int xv_int fun Hf sf => ra_int xv_int fun Hg sg => ra_1 (re_int xv_int fun Hh sh => ⟨[0, 0, 0, 1, 1440], rfl, rfl, fun l3 hl3 => ?_⟩))
        have sJ := ((((sc.trans sd).trans se).trans sf).trans sg).trans sh
        have hBj := hBb.up sJ (Nat.le_refl _)
        have hl3b : l3 ≠ b := fun e => by rw [e] at hl3; exact hBj.some hl3
        refine re_take GT FT hr (xv_name 0 rfl) xv_int (bag_new hBj hl3) fun r4 Hk r40 r45 sBk hBk => ⟨r4, rfl, r40, r45, sBk l3 _ hl3b upd_same, fun z2 hz2 => ⟨z2, rfl, rb_nil ?_⟩⟩
        have hz20 : 0 ≤ z2 := by
          rcases mem5 hz2 with e | e | e | e | e <;> rw [e] <;> decide
        have sBbk : SameB b Hb Hk := (SameB.of (sJ.trans (same_new hl3))).trans sBk
        have g2 : Same (hid [l, b] Hb) (hid [l, b] Hk) := sBbk.hid (by simp)
        refine ⟨sB0b.trans sBbk, hBk.up (Same.refl _) (by omega), st ++ [(mom, jv)], acc ++ [.ref tp], mom + k.ap + z2, some (.int (i : Int)), rfl, sBbk _ _ hlb hlHb, ?_, ofK_snoc hof hjm hlast, by rw [List.length_append, hlen]; rfl, fun s hs => ?_⟩
        · rw [List.map_append]
          refine dpa_app ((hda.up g1).up g2) (.cons (.tup (SqT.of (?_ : hid [l, b] Hk tp = some (.tup [.int mom, .int jv]))) (.cons (.int _) (.cons (.int _) .nil))) .nil)
          rw [hid_of (by simp [htpl, htpb])]
          exact sBbk _ _ htpb htHb
        · rw [List.getLast?_append] at hs
          simp at hs
          subst hs
          show k.ap ≤ mom + k.ap + z2 - mom
          omega
      · obtain ⟨sH, hBi, st, acc, mom, a5, rfl, hacc, hda, hof, hlen, hlast⟩ := w
        have kl : Dq K (hid [b] H') (.ref l) (.list (st.map stepD)) := .lst (by rw [hid_of (by simp [hlb])]; exact hacc) (out_of hda)
        have Lb : Live [b] H' := fun y hy => by rw [List.mem_singleton.mp hy]; exact hBi.some
        exact rb_ret (M := [b]) (d := planD 0 st) (xd_tup Lb (xa_cons xd_int (xa_cons (xd_name 3 rfl kl) xa_nil))) fun v7 H7 s7 hv7 => q st v7 H7 hof (by omega) (sH.trans (.of s7)) (hBi.up s7 (by omega)) hv7
    -- the moment moved
    refine rb_ifR (rt_eqI (re_take GT FT hr (xv_name 0 rfl) xv_int hB4 fun t2 H5 t20 t21 sB5 hB5 => ⟨t2, rfl, re_int xv_int fun H6 s6 => ⟨0, rfl, ?_⟩⟩))
    have sB6 : SameB b H H6 := (sB04.trans sB5).trans (.of s6)
    have hB6 := hB5.up s6 (Nat.le_refl _)
    have hl6 : H6 l = some (.lst []) := s6 _ _ (sB5 _ _ hlb hl4)
    cases ec : decide (t2 = 0) with
    | false =>
      rw [if_neg Bool.false_ne_true]
      exact rb_nil (fin _ H6 sB6 (hB6.up (Same.refl _) (by omega)) hl6)
    | true =>
      rw [if_pos rfl]
      have hk6 : Dq K (hid [b] H6) vk (kindD k) := hk.up (sB6.hid (List.mem_singleton.mpr rfl))
      have Lb6 : Live [b] H6 := fun y hy => by rw [List.mem_singleton.mp hy]; exact hB6.some
      refine rb_set 4 (M := [b]) (xd_sub (xd_add (xv_name 4 rfl).int (xd_mul xd_int (xv_name 2 rfl).int (.inl (by decide)))) (xd_mul (xd_ixT (fun _ _ => rfl) (xd_name 1 rfl hk6) xd_int k1) (xd_max T.max (xa_cons xd_int (xa_cons (xd_sub (xd_ixT (fun _ _ => rfl) (xd_name 1 rfl hk6) xd_int k2) xd_int) xa_nil))) (.inr (by split <;> omega)))) (fun v7 H7 s7 hv7 => rb_nil ?_) scLTight.nd
      rw [dp_int hv7]
      exact fin _ H7 (sB6.trans (.of s7)) (hB6.up s7 (by omega)) (s7 _ _ hl6)
end
end Zn

set_option Elab.async false
set_option linter.all false
set_option maxRecDepth 100000
set_option maxHeartbeats 8000000
namespace Zn
open PySem PySem.Spec PyProof.Rows L2 Dl
/-! k32: the law's look at what is shown -/
abbrev sLShownR : Stmt := top 65
def gZs : PyData → PyData → PyData
  | .tuple [x, _], y => .tuple [x, y]
  | _, _ => .none
theorem zs_rows : ∀ (f : Int) (st : List Step), List.zipWith gZs ((rowsP f st).map chD) ((rowsP f st).map fun r => PyData.int (jmp r)) = st.map stepD
  | _, [] => rfl
  | f, s :: st => by
    rw [rowsP_cons, List.map_cons, List.map_cons, List.zipWith_cons_cons, zs_rows (f + s.2) st, List.map_cons]
    have e : f + s.2 - f = s.2 := by omega
    show PyData.tuple [.int s.1, .int (f + s.2 - f)] :: _ = stepD s :: _
    rw [e]
    rfl
section
variable {X : Cx} {M : List Addr} {σ : L2.St} {H : Hp} {a b e o elt : Expr} {v : V} {pos p1 p2 p3 tpos py spos apos : Pos} {D : Ends} {rest : List Stmt} {x : Str} {scope : Scope} {own : List (Str × Nat)} {ds ds2 : List PyData} {C f : Addr} {fd : FuncData} {rs : List Row} {off : Int}
/-- isinstance(a, T), what a tells is of the type T' -/
theorem xd_isTy {T T' : String} {r : Bool} {nm : Str} (hk : kitB T' T = some r) (hm : X.mg "isinstance" = none) (hmT : X.mg nm = none) (hvT : bootBuiltins nm = some (.type T)) (ha : XV X σ H a v) (hty : ∀ H1, Same H H1 → TyX X.K H1 v (.type T')) (hg : Gl X "isinstance" := by rfl) (hgT : Gl X nm := by rfl) (hnT : nm ≠ "__name__" := by decide) (hdT : (nm == ("__debug__" : Str)) = false := by decide)
    (he : starEach [a, .Name nm p2] X.env = (false, eval a X.env) :: starEach [.Name nm p2] X.env := by rfl) (he2 : starEach [.Name nm p2] X.env = (false, eval (.Name nm p2) X.env) :: starEach [] X.env := by rfl) (hpl : (backTo pos (starEach [.Name nm p2] X.env)).any (·.1) = false := by rfl) :
    XD X M σ H (.Call (.Name "isinstance" p1) [a, .Name nm p2] [] pos) (.bool r) := fun H1 s Q q =>
  re_B call_isi (ra_cons (ha H1 s _ fun H2 s2 => ra_1 (xv_bltn (v := .ty T) hmT hvT rfl hgT hnT hdT H2 (Same.refl _) _ fun H3 s3 =>
    ⟨v, .ty T, _, _, r, rfl, .ty T, hty H3 ((s.trans s2).trans s3), kit_ty hk, q _ H3 (s2.trans s3) (.bl _)⟩) he2) he) hm (by decide +kernel) hg (by decide) (by decide) he hpl
/-- len(a), a a tuple of any values -/
theorem xd_lenV {p : Addr} {xs : List V} (hm : X.mg "len" = none) (ha : XV X σ H e (.ref p)) (hT : H p = some (.tup xs)) (hg : Gl X "len" := by rfl) (he : starEach [e] X.env = (false, eval e X.env) :: starEach [] X.env := by rfl) (hpl : (backTo pos (starEach [] X.env)).any (·.1) = false := by rfl) :
    XD X M σ H (.Call (.Name "len" p1) [e] [] pos) (.int xs.length) := fun H1 s Q q =>
  re_B call_len_seq (ra_1 (ha H1 s _ fun H2 s2 => ⟨p, xs, rfl, .inr (SqT.of ((s.trans s2) _ _ hT)), q _ H2 s2 (.int _)⟩) he) hm PySem.boot_len hg (by decide) (by decide) he hpl
/-- x = [.. for (x, y) in zip(a, b)], on one line -/
theorem rb_setZip (i : Nat) {elts : List Expr} {kk : Nat} (g : PyData → PyData → PyData) (hm : X.mg "zip" = none) (L : Live M H) (hN : X.N.Nodup) (ha : XD X M σ H a (.list ds)) (hb : XD X M σ H b (.list ds2)) (ok : BlkOk X.N X.env.scope scope own) (hz : ds.length ≤ 100000)
    (hst : ∀ p (i : Nat) d d2 T y z H1, ds[i]? = some d → ds2[i]? = some d2 → H p = none → Same H H1 → Live (p :: M) H1 → Dq X.K (hid (p :: M) H1) y d → Dq X.K (hid (p :: M) H1) z d2 → H1 T = some (.tup [y, z]) → BG X scope (.Tuple elts kk tpos) (.ref T) (wipe σ (own.map (·.2))) H1 fun τ H2 => wipe τ (own.map (·.2)) = wipe σ (own.map (·.2)) ∧ Same H1 H2 ∧
      BE X scope elt τ H2 fun u H3 => Same H2 H3 ∧ Dq X.K (hid (p :: M) H3) u (g d d2))
    (q : ∀ p xs H2, Same H H2 → H p = none → H2 p = some (.lst xs) → DqAll X.K (hid M H2) xs (List.zipWith g ds ds2) → RB X rest D (σ.set i (some (.ref p))) H2)
    (hi : X.N[i]? = some x := by rfl) (hx : X.env.scope.names.lookup x = some .local := by rfl) (hsw : swapsWith (.ListComp elt [⟨.Tuple elts kk tpos, .Call (.Name "zip" p1) [a, b] [] p2, [], 0⟩] scope pos) (some (.Name x py)) spos.line X.env = pure true := by exact sw_true rfl rfl rfl rfl)
    (hc : X.calm = true := by rfl) (hs : ∀ x, foldedSetIterable (.Call (.Name "zip" p1) [a, b] [] p2) X.env x = pure x := by intro _; rfl) (hg : Gl X "zip" := by rfl) (he : starEach [a, b] X.env = (false, eval a X.env) :: starEach [b] X.env := by rfl) (he2 : starEach [b] X.env = (false, eval b X.env) :: starEach [] X.env := by rfl) (hpl : (backTo p2 (starEach [b] X.env)).any (·.1) = false := by rfl) :
    RB X (.Assign [.Name x py] (.ListComp elt [⟨.Tuple elts kk tpos, .Call (.Name "zip" p1) [a, b] [] p2, [], 0⟩] scope pos) spos :: rest) D σ H :=
  ⟨_, pss_cons (ps_setLc (own := own) hc hN hi hx hsw (pi_zip hg hm ra_ he hpl) ok (fun _ _ _ _ _ => bg_) (fun _ _ _ _ _ => bt_) (fun _ _ _ _ _ => be_) hs) rb_,
    lc_zip (own := own) (Q := fun v H1 => RB X rest D (σ.set i (some v)) H1) g L ha hb hz hst q he he2⟩
/-- x = [.. for (i, y) in enumerate(a)], on one line -/
theorem rb_setEn (i : Nat) {elts : List Expr} {kk : Nat} (g : Nat → PyData → PyData) (hm : X.mg "enumerate" = none) (L : Live M H) (hN : X.N.Nodup) (ha : XD X M σ H a (.list ds)) (ok : BlkOk X.N X.env.scope scope own) (hz : ds.length ≤ 100000)
    (hst : ∀ p (i : Nat) d T y H1, ds[i]? = some d → H p = none → Same H H1 → Live (p :: M) H1 → Dq X.K (hid (p :: M) H1) y d → H1 T = some (.tup [.int (i : Nat), y]) → BG X scope (.Tuple elts kk tpos) (.ref T) (wipe σ (own.map (·.2))) H1 fun τ H2 => wipe τ (own.map (·.2)) = wipe σ (own.map (·.2)) ∧ Same H1 H2 ∧
      BE X scope elt τ H2 fun u H3 => Same H2 H3 ∧ Dq X.K (hid (p :: M) H3) u (g i d))
    (q : ∀ p xs H2, Same H H2 → H p = none → H2 p = some (.lst xs) → DqAll X.K (hid M H2) xs (enumM g 0 ds) → RB X rest D (σ.set i (some (.ref p))) H2)
    (hi : X.N[i]? = some x := by rfl) (hx : X.env.scope.names.lookup x = some .local := by rfl) (hsw : swapsWith (.ListComp elt [⟨.Tuple elts kk tpos, .Call (.Name "enumerate" p1) [a] [] p2, [], 0⟩] scope pos) (some (.Name x py)) spos.line X.env = pure true := by exact sw_true rfl rfl rfl rfl)
    (hc : X.calm = true := by rfl) (hs : ∀ x, foldedSetIterable (.Call (.Name "enumerate" p1) [a] [] p2) X.env x = pure x := by intro _; rfl) (hg : Gl X "enumerate" := by rfl) (he : starEach [a] X.env = [(false, eval a X.env)] := by rfl) (he1 : starEach [a] X.env = (false, eval a X.env) :: starEach [] X.env := by rfl) :
    RB X (.Assign [.Name x py] (.ListComp elt [⟨.Tuple elts kk tpos, .Call (.Name "enumerate" p1) [a] [] p2, [], 0⟩] scope pos) spos :: rest) D σ H :=
  ⟨_, pss_cons (ps_setLc (own := own) hc hN hi hx hsw (pi_enum hg hm ra_ he) ok (fun _ _ _ _ _ => bg_) (fun _ _ _ _ _ => bt_) (fun _ _ _ _ _ => be_) hs) rb_,
    lc_enumL (own := own) (Q := fun v H1 => RB X rest D (σ.set i (some v)) H1) g L ha hz hst q he1⟩
theorem xd_first {pp : Addr} (L : Live M H) (hc : Cls X.K C) (hp : PropOf X.K C "first" pp f) (F : FnOk X.prog X.w X.K X.mg X.base CX0 1 f fd ["self"] (spMD X.K C fun off _ => .int off)) (hr : Room 2 X.A) (hb : Binds X.K fd ["self"] [])
    {pa : Addr} (ho : XV X σ H o (.ref pa)) (hz : ZAt X.K C (hid M H) pa off rs) (hlen : rs.length ≤ 1000) (hab : attributeBase o "first" X.env (eval o X.env) = eval o X.env := by rfl) : XD X M σ H (.Attribute o "first" pos) (.int off) := fun H1 s Q q => by
  have hz0 := hz
  obtain ⟨dx, r, e1, e2⟩ := hz
  exact re_prop (ho.up s) (s _ _ (hid_le _ _ e1)) hc hp F hr hb (fun H2 s2 => ⟨M, pa, off, rs, rfl, L.mono (s.trans s2), hz0.up (hid_mono (s.trans s2)), hlen, fun v H3 s3 hv => q v H3 (s2.trans s3) hv⟩) hab
end
section
variable {P : Program} {w : World} {K : PySem.W.Frag} {mg : Str → Option Value} {base : Heap} {C CK CZ : Addr}
def spShownR (K : PySem.W.Frag) (CK : Addr) : Sp := fun vs H Q _ => ∃ (M : List Addr) (a : Addr) (vp : V) (k : Kd) (rule : Str) (d x : Int), vs = [.ref a, vp, .str rule, .int d, .int x] ∧ isRuleS rule ∧ 1 ≤ d ∧ Live M H ∧ KAt K CK (hid M H) a k ∧ KOk k ∧ Dq K (hid M H) vp (kindD k) ∧ x ∈ spanL k rule d ∧ ∀ H1, Same H H1 → Q (.bl true) H1
abbrev shrN : List Str := ["_law_kind_here", "_law_plain", "_law_rule", "_law_days", "_law_span", "_law_told", "_law_zone", "_law_time", "_law_day", "_law_steps_here", "_law_change", "_law_jump", "_law_plan"]
theorem scLShownR : FnScope shrN ["_law_kind_here", "_law_plain", "_law_rule", "_law_days", "_law_span"] (defScope sLShownR) := ⟨rfl, rfl, rfl, by decide +kernel, rfl, by decide +kernel, by decide +kernel⟩
/-- what the law asks of zones and kinds -/
structure ShA (P : Program) (w : World) (K : PySem.W.Frag) (mg : Str → Option Value) (base : Heap) (CZ CK : Addr) : Prop where
  Z : ZT K mg CZ
  I : ZI K CZ
  Y : KT K mg CK
  has : ∃ f fd, FnOk P w K mg base CX0 4 f fd ["self", "zone"] (spWhy K CZ CK hasD) ∧ Meth K CK "has" f ∧ Binds K fd ["self", "zone"] []
  chg : ∃ f fd, FnOk P w K mg base CX0 1 f fd ["self"] (spML K CZ fun _ rs => rs.map chD) ∧ Meth K CZ "changes" f ∧ Binds K fd ["self"] []
  jmps : ∃ f fd, FnOk P w K mg base CX0 2 f fd ["self"] (spML K CZ fun _ rs => rs.map fun r => .int (jmp r)) ∧ Meth K CZ "jump_list" f ∧ Binds K fd ["self"] []
  fst : ∃ pp f fd, PropOf K CZ "first" pp f ∧ FnOk P w K mg base CX0 1 f fd ["self"] (spMD K CZ fun off _ => .int off) ∧ Binds K fd ["self"] []
theorem ok_lshown {f fS fI fD : Addr} {fd fdS fdI fdD : FuncData} (T : Nm mg) (hz : mg "zip" = none) (B : ShA P w K mg base CZ CK) (GS : FnOk P w K mg base CX0 8 fS fdS ["kind", "rule", "days", "span"] (spShown K CZ CK)) (FS : Df K mg "span_shown" sShown ["kind", "rule", "days", "span"] fS fdS)
    (GI : FnOk P w K mg base CX0 1 fI fdI ["_law_kind_here", "_law_plan"] (spR K RIsOf)) (FI : Df K mg "_law_is_of" sLIsOf ["_law_kind_here", "_law_plan"] fI fdI) (GD : FnOk P w K mg base CX0 4 fD fdD ["_law_plan", "_law_reading", "_law_days", "_law_rule"] (spR K RDiff)) (FD : Df K mg "_law_difference" sLDiff ["_law_plan", "_law_reading", "_law_days", "_law_rule"] fD fdD)
    (F : Df K mg "_law_shown_right" sLShownR ["_law_kind_here", "_law_plain", "_law_rule", "_law_days", "_law_span"] f fd) : FnOk P w K mg base CX0 9 f fd ["_law_kind_here", "_law_plain", "_law_rule", "_law_days", "_law_span"] (spShownR K CK) := by
  refine F.F.ok scLShownR (fun vs H Q E h => ?_) (fun cdv A outer s H vs Q E hr h => ?_)
  · obtain ⟨M, a, vp, k, rule, d, x, rfl, _⟩ := h; rfl
  · obtain ⟨M, a, vp, k, rule, d, x, rfl, hx, hd, L, hk, ko, hp, hxs, q⟩ := h
    obtain ⟨fH, fdH, GH, MH, bH⟩ := B.has
    obtain ⟨fC, fdC, GC, MC, bC⟩ := B.chg
    obtain ⟨fJ, fdJ, GJ, MJ, bJ⟩ := B.jmps
    obtain ⟨pF, fF, fdF, PF, GF, bF⟩ := B.fst
    have hr4 := hr.mono (show 4 ≤ 8 by decide)
    have hr2 := hr.mono (show 2 ≤ 8 by decide)
    have hr1 := hr.mono (show 1 ≤ 8 by decide)
    obtain ⟨js0, hj0, hroom0, hsum0⟩ := spanL_mem.mp hxs
    refine rb_setR 5 (re_call GS hr FS.g FS.F.kp FS.b (ra_cons (XV.go (xv_name 0 rfl) fun Ha sa => ra_cons (XV.go (xv_name 2 rfl) fun Hb sb => ra_cons (XV.go (xv_name 3 rfl) fun Hc sc => ra_1 (XV.go (xv_name 4 rfl) fun Hd sd =>
      ⟨M, a, k, rule, d, x, rfl, hx, hd, L.mono (((sa.trans sb).trans sc).trans sd), hk.up (hid_mono (((sa.trans sb).trans sc).trans sd)), ko, fun H1 s1 hno => absurd ⟨hj0, hsum0, hroom0⟩ (hno js0), fun js t z H1 s1 fit ht hzz => ?_⟩)))))) scLShownR.nd
    obtain ⟨hjm, hsum, hroom⟩ := fit
    have hc := chN_ok ko hjm
    have hl3 := hc.len
    have s01 := (((sa.trans sb).trans sc).trans sd).trans s1
    have L1 := L.mono s01
    have hk1 := hk.up (hid_mono (M := M) s01)
    have hp1 := hp.up (hid_mono (M := M) s01)
    have hof := near_ofK hc.mem 0
    have hjl : js.length ≤ k.mo.toNat := (chs_mem.mp hjm).1
    have hnl : (nearP k.ap 0 js).length = js.length := near_len ..
    have hmo0 := ko.m0
    have hnm : ((nearP k.ap 0 js).length : Int) ≤ k.mo := by rw [hnl]; omega
    have hrl : (rowsP 0 (nearP k.ap 0 js)).length ≤ 50 := by rw [rowsP_len, hnl]; omega
    refine rb_ifF ((xt_or2 (xt_not (xt_val (M := M) (xd_isTy (T' := "tuple") k_tt T.isi T.tup (by decide +kernel) (xv_name 5 rfl) fun H2 s2 => .base (.tup (s2 _ _ ht))))) fun _ => xt_neI (M := M) (xd_lenV T.len (xv_name 5 rfl) ht) xd_int).to rfl) fun H2 s2 => ?_
    refine rb_asgR (XV.go (xv_name 5 rfl) fun H3 s3 => rg_tup (SqT.of ((s2.trans s3) _ _ ht)) (rgs_cons (rg_name 6 (rgs_cons (rg_name 7 (rgs_cons (rg_name 8 (rgs_nil ?_) scLShownR.nd)) scLShownR.nd)) scLShownR.nd)))
    have s13 := s2.trans s3
    have L3 := L1.mono s13
    have hk3 := hk1.up (hid_mono (M := M) s13)
    have hz3 := hzz.up (hid_mono (M := M) s13)
    have hty : ∀ H4, Same H3 H4 → TyX K H4 (.ref z) (.ref CZ) := fun H4 s4 => by
      obtain ⟨dx, r, e1, _⟩ := hz3
      exact .base (.ins (s4 _ _ (hid_le _ _ e1)) B.Z.cl B.I.ha B.I.hn B.I.htk B.I.hm)
    refine rb_ifF ((xt_or2 (xt_not (xt_val (M := M) (xd_isZ T.isi B.Z.mgC (xv_name 6 rfl) (hty H3 (Same.refl _)) hty B.I.yes))) fun _ => xt_not (xt_val (M := M) (k := isN (whyD k (nearP k.ap 0 js))) (xd_why (g := hasD) (m := "has") L3 B.Y.cl MH (by decide +kernel) (by decide +kernel) (by decide +kernel) GH hr4 bH (xk_v (xv_name 0 rfl) hk3) (xz_v (xv_name 6 rfl) hz3) (by rw [hnl]; omega)))).to (by
      rw [ofK_why hof hnm]; rfl)) fun H4 s4 => ?_
    have L4 := L3.mono s4
    have hz4 := hz3.up (hid_mono (M := M) s4)
    refine rb_setZip 9 (M := M) (own := [("_law_change", 10), ("_law_jump", 11)]) gZs hz L4 scLShownR.nd (XL.dd (xl_z (m := "changes") (g := fun _ rs => rs.map chD) L4 B.Z.cl MC (by decide +kernel) (by decide +kernel) GC hr1 bC (xz_v (xv_name 6 rfl) hz4) (by omega)) L4) (XL.dd (xl_z (m := "jump_list") (g := fun _ rs => rs.map fun r => .int (jmp r)) L4 B.Z.cl MJ (by decide +kernel) (by decide +kernel) GJ hr2 bJ (xz_v (xv_name 6 rfl) hz4) (by omega)) L4)
      (blkOk_by (own := [("_law_change", 10), ("_law_jump", 11)]) (N := shrN) (sc := defScope sLShownR) (by decide +kernel)) (by rw [List.length_map]; omega) (fun p i d1 d2 Tt y zz H5 hd1 hd2 hpp s5 Lp hy1 hz1 hT => ?comp) (fun p5 xs5 H5 s5 hp5 h5 hx5 => ?_)
    case comp =>
      obtain ⟨r, _, rfl⟩ := map_get hd1
      obtain ⟨r2, _, rfl⟩ := map_get hd2
      obtain ⟨tp, xs, rfl, htp, hxx⟩ := dp_tup hy1
      have ez := dp_int hz1
      subst ez
      intro s0 H0 C0 cl fp
      refine rg_tup (SqT.of hT) (rgs_cons (rg_name 10 (rgs_cons (rg_name 11 (rgs_nil ?_) scLShownR.nd)) scLShownR.nd))
      refine ⟨rfl, Same.refl _, fun s0 H0 C0 cl fp => ?_⟩
      exact XD.go (xd_tup (ds := [PyData.int r.1, PyData.int (jmp r2)]) Lp (xa_cons (xd_ixT (fun _ _ => rfl) (xd_name 10 rfl hy1) xd_int rfl) (xa_cons (xv_name 11 rfl).int xa_nil))) fun v H4 s4 hv4 => ⟨s4, hv4⟩
    rw [zs_rows] at hx5
    have L5 := L4.mono s5
    have k5 : Dq K (hid M H5) (.ref p5) (.list ((nearP k.ap 0 js).map stepD)) := .lst (by rw [hid_of (L4.fresh hp5)]; exact h5) hx5
    have hz5 := hz4.up (hid_mono (M := M) s5)
    refine rb_set 12 (M := M) (d := planD 0 (nearP k.ap 0 js)) (xd_tup L5 (xa_cons (xd_first L5 B.Z.cl PF GF hr2 bF (xv_name 6 rfl) hz5 (by omega)) (xa_cons (xd_name 9 rfl k5) xa_nil))) (fun v6 H6 s6 hv6 => ?_) scLShownR.nd
    have L6 := L5.mono s6
    have s46 := (s4.trans s5).trans s6
    have hp6 := hp1.up (hid_mono (M := M) (s13.trans s46))
    have t0 : 0 ≤ lastA (hX rule) js % 1440 ∧ lastA (hX rule) js % 1440 < 1440 := by omega
    refine rb_ifF ((xt_or2 (xt_not (xt_val (M := M) (xd_call L6 GI hr1 FI.g FI.F.kp FI.b (xa_cons (xd_name 1 rfl hp6) (xa_cons (xd_name 12 rfl hv6) xa_nil)) ⟨k, 0, nearP k.ap 0 js, rfl, hof, hnm, by omega, rfl⟩))) fun _ => xt_not (xt_chainI (M := M) op_le op_lt xd_int (xv_name 7 rfl).int xd_int)).to (by
      show (!true || !(decide ((0 : Int) ≤ lastA (hX rule) js % 1440) && decide (lastA (hX rule) js % 1440 < 1440))) = false
      rw [decide_eq_true t0.1, decide_eq_true t0.2]; rfl)) fun H7 s7 => ?_
    have e7 : 1440 * (lastA (hX rule) js / 1440) + lastA (hX rule) js % 1440 = 0 + lastA (hX rule) js := by omega
    refine rb_ret (M := M) (d := .bool (decide (x = x))) (xd_eqI ((xd_call (L6.mono s7) GD hr4 FD.g FD.F.kp FD.b (xa_cons (xd_name 12 rfl (hv6.up (hid_mono s7))) (xa_cons (xd_add (xd_mul xd_int (xv_name 8 rfl).int (.inl (by decide))) (xv_name 7 rfl).int) (xa_cons (xv_name 3 rfl).int (xa_cons (xd_name 2 rfl (.str rule)) xa_nil)))) ⟨0, nearP k.ap 0 js, _, d, rule, rfl, ofK_ok ko hof, by omega, rfl⟩).to ?_) (xv_name 4 rfl).int) fun v8 H8 s8 hv8 => ?_
    · rw [e7, near_diffD ko hx hc hroom, hsum]
    · rw [dp_bl hv8, decide_eq_true rfl]
      exact q H8 (((s01.trans s13).trans s46).trans (s7.trans s8))
end
end Zn

set_option Elab.async false
set_option linter.all false
set_option maxRecDepth 100000
set_option maxHeartbeats 8000000
namespace Zn
open PySem PySem.Spec PyProof.Rows L2 Dl
/-! k32: the law's look at the first day that shows all changes -/
abbrev sLLeast : Stmt := top 66
def gSt (c ap : Int) (i : Nat) (d : PyData) : PyData := .tuple [.int (c + i * ap), d]
theorem st_enum (c ap : Int) : ∀ (i : Nat) (js : List Int), enumM (gSt c ap) i (js.map PyData.int) = (nearP ap (c + i * ap) js).map stepD
  | _, [] => rfl
  | i, j :: js => by
    show gSt c ap i (.int j) :: enumM (gSt c ap) (i + 1) (js.map PyData.int) = stepD (c + i * ap, j) :: (nearP ap (c + i * ap + ap) js).map stepD
    have e : c + (i : Int) * ap + ap = c + ((i + 1 : Nat) : Int) * ap := by rw [Int.natCast_add, Int.add_mul]; simp; omega
    rw [st_enum c ap (i + 1) js, e]
    rfl
theorem diffD_kind (x d : Int) (rule : Str) (f : Int) (st : List Step) : diffD x d rule f st = .none ∨ ∃ a, diffD x d rule f st = .int a := by
  unfold diffD
  rcases placeN_kind x rule f st with e1 | ⟨a, e1⟩
  · rw [e1]; exact .inl rfl
  · rcases placeN_kind (x + 1440 * d) rule f st with e2 | ⟨b, e2⟩
    · rw [e1, e2]; exact .inl rfl
    · rw [e1, e2]; exact .inr ⟨_, rfl⟩
theorem diffD_shaped (x d : Int) (rule : Str) (f : Int) (st : List Step) : SeqAt.shaped (diffD x d rule f st) = true := by
  rcases diffD_kind x d rule f st with e | ⟨a, e⟩ <;> rw [e] <;> rfl
theorem diffD_eq {x d : Int} {rule : Str} {f : Int} {st : List Step} {y : Int} : PyData.eqv (diffD x d rule f st) (.int y) = true ↔ diffD x d rule f st = .int y := by
  rcases diffD_kind x d rule f st with e | ⟨a, e⟩
  · rw [e]
    simp [PyData.eqv]
  · rw [e]
    simp [PyData.eqv]
section
variable {P : Program} {w : World} {K : PySem.W.Frag} {mg : Str → Option Value} {base : Heap} {C CK CZ : Addr}
section
variable {X : Cx} {M : List Addr} {σ : L2.St} {H : Hp} {e1 e2 e3 e4 : Expr} {pos p1 : Pos} {f a : Addr} {fd : FuncData} {k : Kd} {rule : Str} {js : List Int} {d : Int}
theorem xl_spans (L : Live M H) (G : FnOk X.prog X.w X.K X.mg X.base CX0 5 f fd ["kind", "rule", "days"] (spSpans X.K CK)) (hr : Room 5 X.A) (FF : Df X.K X.mg "spans" sSpans ["kind", "rule", "days"] f fd) (ko : KOk k) (hx : isRuleS rule) (h1 : 1 ≤ d)
    (ho : XV X σ H e1 (.ref a)) (hk : KAt X.K CK (hid M H) a k) (hb : XV X σ H e2 (.str rule)) (hd : XV X σ H e3 (.int d)) (hg : Gl X "spans" := by rfl) (he : starEach [e1, e2, e3] X.env = (false, eval e1 X.env) :: starEach [e2, e3] X.env := by rfl) (he2 : starEach [e2, e3] X.env = (false, eval e2 X.env) :: starEach [e3] X.env := by rfl)
    (he3 : starEach [e3] X.env = (false, eval e3 X.env) :: starEach [] X.env := by rfl) (hpl : (backTo pos (starEach [e2, e3] X.env)).any (·.1) = false := by rfl) : XL X M σ H (.Call (.Name "spans" p1) [e1, e2, e3] [] pos) ((spanL k rule d).map PyData.int) := fun H1 s Q q =>
  re_call G hr FF.g FF.F.kp FF.b (ra_cons (ho H1 s _ fun Ha sa => ra_cons (hb Ha (s.trans sa) _ fun Hb sb => ra_1 (hd Hb ((s.trans sa).trans sb) _ fun Hc sc =>
    ⟨M, a, k, rule, d, rfl, hx, h1, L.mono (((s.trans sa).trans sb).trans sc), hk.up (hid_mono (((s.trans sa).trans sb).trans sc)), ko, fun p H3 s3 hp h3 => q p _ H3 (((sa.trans sb).trans sc).trans s3) (((sa.trans sb).trans sc).free hp) h3 (ints_dq _)⟩) he3) he2) he) hg (by decide) he hpl
end
def spLLeast (K : PySem.W.Frag) (CK : Addr) : Sp := fun vs H Q _ => ∃ (b a : Addr) (vp : V) (k : Kd) (rule : Str) (n : Nat), vs = [.ref b, .ref a, vp, .str rule] ∧ isRuleS rule ∧ BagAt H b n ∧ n ≤ 900000 ∧ KAt K CK (hid [b] H) a k ∧ KOk k ∧ k.ap ≤ 200000 ∧ Dq K (hid [b] H) vp (kindD k) ∧
  ∀ H1, SameB b H H1 → BagAt H1 b (n + 5) → Q (.bl true) H1
abbrev leaN : List Str := ["_law_bag_here", "_law_kind_here", "_law_plain", "_law_rule", "_law_row", "_law_lap", "_law_edge", "_law_steps_here", "_law_at", "_law_jump", "_law_days", "_law_came"]
theorem scLLeast : FnScope leaN ["_law_bag_here", "_law_kind_here", "_law_plain", "_law_rule"] (defScope sLLeast) := ⟨rfl, rfl, rfl, by decide +kernel, rfl, by decide +kernel, by decide +kernel⟩
theorem ok_lleast {f fT fS fD : Addr} {fd fdT fdS fdD : FuncData} (T : Nm mg) (hE : mg "enumerate" = none) (hs : mg "sum" = none) (FT : Df K mg "_law_take" sTake ["_law_bag_here", "_law_many"] fT fdT)
    (GS : FnOk P w K mg base CX0 5 fS fdS ["kind", "rule", "days"] (spSpans K CK)) (FS : Df K mg "spans" sSpans ["kind", "rule", "days"] fS fdS) (GD : FnOk P w K mg base CX0 4 fD fdD ["_law_plan", "_law_reading", "_law_days", "_law_rule"] (spR K RDiff)) (FD : Df K mg "_law_difference" sLDiff ["_law_plan", "_law_reading", "_law_days", "_law_rule"] fD fdD)
    (F : Df K mg "_law_least_right" sLLeast ["_law_bag_here", "_law_kind_here", "_law_plain", "_law_rule"] f fd) : FnOk P w K mg base CX0 6 f fd ["_law_bag_here", "_law_kind_here", "_law_plain", "_law_rule"] (spLLeast K CK) := by
  have GT : FnOk P w K mg base CX0 1 fT fdT ["_law_bag_here", "_law_many"] spTake := ok_take FT
  refine F.F.ok scLLeast (fun vs H Q E h => ?_) (fun cdv A outer s H vs Q E hr h => ?_)
  · obtain ⟨b, a, vp, k, rule, n, rfl, _⟩ := h; rfl
  · obtain ⟨b, a, vp, k, rule, n, rfl, hx, hB, hn, hk, ko, hap, hp, q⟩ := h
    have hmo := ko.m1
    have hm0 := ko.m0
    have hj4 := ko.js.2.2.2
    have hj1 := ko.js.2.2.1
    have c4 : (4 : Nat) < 2 ^ 200 := by decide
    have hr4 := hr.mono (show 4 ≤ 5 by decide)
    have hr1 := hr.mono (show 1 ≤ 5 by decide)
    have b62 : (3 : Int) < 2 ^ 62 := by decide
    have hann := ap_nn ko
    -- the row
    refine rb_setCR 4 (own := [("_law_lap", 5)]) T.rng scLLeast.nd (blkOk_by (own := [("_law_lap", 5)]) (N := leaN) (sc := defScope sLLeast) (by decide +kernel)) (ra_1 (XD.go (M := [b]) (xd_ixT (fun _ _ => rfl) (xd_name 2 rfl hp) xd_int k2) fun v Ha sa hv => ⟨k.mo, by rw [dp_int hv], by omega, by omega, fun l hl => ?_⟩))
    have hlb : l ≠ b := fun e => by rw [e] at hl; exact (hB.up sa (Nat.le_refl _)).some hl
    refine lc_range (lo := 0) (n := k.mo.toNat) (fun i Hx => SameB b Ha Hx ∧ BagAt Hx b (n + i) ∧ ∃ acc : List Int, Hx l = some (.lst (acc.map V.int)) ∧ acc.length = i ∧ ∀ x ∈ acc, x ∈ k.js) ⟨.of (same_new hl), hB.up (sa.trans (same_new hl)) (Nat.le_refl _), [], upd_same, rfl, fun x hx => by simp at hx⟩ (fun i Hx hi w => ?_) (fun Hx w => ?_)
    · obtain ⟨sX, hBx, acc, hacc, hal, hab⟩ := w
      have hi3 : i < 3 := by omega
      refine fun s0 H0 C0 cl fp => rg_name 5 ⟨rfl, bt_nil (iteT fun s0 H0 C0 cl fp => ?_)⟩ scLLeast.nd
      have sX0 : SameB b H Hx := (SameB.of sa).trans sX
      have kpx : Dq K (hid [b] Hx) vp (kindD k) := hp.up (sX0.hid (List.mem_singleton.mpr rfl))
      refine ⟨_, pe_ix ix_list re_ re_ (fun _ _ => rfl), XD.go (M := [b]) (xd_ixT (fun _ _ => rfl) (xd_name 2 rfl kpx) xd_int k0) fun vj H9 s9 hvj => ?_⟩
      obtain ⟨pj, ys, rfl, hpj, hy⟩ := dp_lst hvj
      have ey := ints_v hy
      subst ey
      have hpj9 := hid_le _ _ hpj
      have hpjb : pj ≠ b := fun z => by unfold hid at hpj; rw [if_pos (by rw [z]; exact List.mem_singleton.mpr rfl)] at hpj; cases hpj
      have hjl : ((k.js.map PyData.int).length : Int) = (k.js.length : Int) := by rw [List.length_map]
      have kp9 : Dq K (hid [b] H9) vp (kindD k) := kpx.up (hid_mono s9)
      refine re_take GT FT hr1 (xv_name 0 rfl) ((xd_len T.len (xd_ixT (fun _ _ => rfl) (xd_name 2 rfl kp9) xd_int k0)).to (d' := .int (k.js.length : Int)) (by rw [hjl])).vint (hBx.up s9 (Nat.le_refl _)) (fun r3 Hb r30 r31 sBb hBb => ?_) (by omega) (by omega)
      obtain ⟨jv, hjv, hjm⟩ := day_len r30 r31
      refine ⟨pj, _, r3, _, rfl, rfl, SqL.of (sBb _ _ hpjb hpj9), hjv, ?_⟩
      have sX2 : SameB b Hx Hb := (SameB.of s9).trans sBb
      refine ⟨_, sX2 _ _ hlb hacc, ?_, fun y o ny e => ?_, ?_, acc ++ [jv], ?_, ?_, ?_⟩
      · have h4 : 100000 < sizeLine := by decide
        rw [List.length_map]; omega
      · rw [upd_ne (ne_of_none e hl)]
        exact sX2 y o ny (sX y o ny e)
      · obtain ⟨g, m, c, e1, e2, e3, e4, e5⟩ := hBb
        exact ⟨g, m, c, by rw [upd_ne (Ne.symm hlb)]; exact e1, e2, e3, e4, by omega⟩
      · rw [List.map_append]; exact upd_same
      · rw [List.length_append, hal]; rfl
      · intro x hx
        rcases List.mem_append.mp hx with hx | hx
        · exact hab x hx
        · rw [List.mem_singleton.mp hx]; exact hjm
    obtain ⟨sX, hBx, js, hjs, hjl, hjm⟩ := w
    have sX0 : SameB b H Hx := (SameB.of sa).trans sX
    have g0 : Same (hid [b] H) (hid [b] Hx) := sX0.hid (List.mem_singleton.mpr rfl)
    have kpx := hp.up g0
    have kkx := hk.up g0
    have Lx : Live [b] Hx := fun y hy => by rw [List.mem_singleton.mp hy]; exact hBx.some
    have kl : Dq K (hid [b] Hx) (.ref l) (.list (js.map PyData.int)) := .lst (by rw [hid_of (by simp [hlb])]; exact hjs) (ints_dq _)
    have hc : ChOk k js := ⟨by omega, hjm⟩
    have hl3 := hc.len
    have qd : ∀ H1, Same Hx H1 → Q (.bl true) H1 := fun H1 s1 => q H1 (sX0.trans (.of s1)) (hBx.up s1 (by omega))
    have e6 : (10 : Int) ^ (6 : Int).toNat = 1000000 := by decide
    refine rb_if (k := decide (js = [])) ((xt_or2 (k2 := false) (xt_eqD (M := [b]) hr.units (xd_name 4 rfl kl) (xd_lst Lx xa_nil) (shaped_ints js) shaped_nil) fun _ => (xt_cmpI (M := [b]) op_gt (xd_ixT (fun _ _ => rfl) (xd_name 2 rfl kpx) xd_int k1) (xd_pow xd_int xd_int ⟨by decide, by decide, by decide⟩)).to (decide_eq_false (by rw [e6]; omega))).to ?_) (fun e H1 s1 => ?_) (fun e H1 s1 => rb_nil ?_)
    · rw [Bool.or_false]
      simp only [PyData.eqv]
      exact eqv_ints2 js []
    · exact rb_ret (M := []) xd_bl fun v2 H2 s2 hv2 => by rw [dp_bl hv2]; exact qd H2 (s1.trans s2)
    have hne := of_decide_eq_false e
    obtain ⟨j0, js', rfl⟩ : ∃ j0 js', js = j0 :: js' := by
      cases js with
      | nil => exact absurd rfl hne
      | cons j js' => exact ⟨j, js', rfl⟩
    generalize hjj : j0 :: js' = js at *
    have at0 : atI (js.map PyData.int) 0 = some (.int j0) := by rw [← hjj]; exact at_zero
    have L1 := Lx.mono s1
    have kl1 := kl.up (hid_mono (M := [b]) s1)
    have kp1 := kpx.up (hid_mono (M := [b]) s1)
    have kk1 := kkx.up (hid_mono (M := [b]) s1)
    -- the edge
    refine rb_set 6 (M := [b]) (d := .int (mm (hX rule) 0 j0)) ?_ (fun v2 H2 s2 hv2 => ?_) scLLeast.nd
    · by_cases c : rule = "ahead"
      · have e1 : hX rule = true := decide_eq_true c
        rw [e1]
        exact xd_ifT ((xt_eqS (M := [b]) (xd_name 3 rfl (.str rule)) xd_str).to (decide_eq_true c)) (xd_max T.max (xa_cons xd_int (xa_cons (xd_ixL (fun _ _ => rfl) (xd_name 4 rfl kl1) xd_int at0) xa_nil)))
      · have e1 : hX rule = false := decide_eq_false c
        rw [e1]
        exact xd_ifF ((xt_eqS (M := [b]) (xd_name 3 rfl (.str rule)) xd_str).to (decide_eq_false c)) (xd_min T.min (xa_cons xd_int (xa_cons (xd_ixL (fun _ _ => rfl) (xd_name 4 rfl kl1) xd_int at0) xa_nil)))
    have ev2 := dp_int hv2
    subst ev2
    have hlast : lastA (hX rule) js = mm (hX rule) 0 j0 - 1 := by rw [← hjj]; rfl
    generalize mm (hX rule) 0 j0 = edge at hlast ⊢
    have L2' := L1.mono s2
    have kl2 := kl1.up (hid_mono (M := [b]) s2)
    have kp2 := kp1.up (hid_mono (M := [b]) s2)
    -- the steps
    refine rb_setEn 7 (M := [b]) (own := [("_law_at", 8), ("_law_jump", 9)]) (gSt (1 - edge) k.ap) hE L2' scLLeast.nd (xd_name 4 rfl kl2) (blkOk_by (own := [("_law_at", 8), ("_law_jump", 9)]) (N := leaN) (sc := defScope sLLeast) (by decide +kernel)) (by rw [List.length_map]; omega) (fun p i d T' y H3 hd hpp s3 Lp hy hT => ?comp) (fun p3 xs3 H3 s3 hp3 h3 hx3 => ?_)
    case comp =>
      obtain ⟨j, _, rfl⟩ := map_get hd
      have ey := dp_int hy
      subst ey
      have kp3 : Dq K (hid (p :: [b]) H3) vp (kindD k) := kp2.up (hid_step hpp s3)
      have hi3 : i < 3 := by
        have := (List.getElem?_eq_some_iff.mp hd).1
        rw [List.length_map] at this
        omega
      intro s0 H0 C0 cl fp
      refine rg_tup (SqT.of hT) (rgs_cons (rg_name 8 (rgs_cons (rg_name 9 (rgs_nil ?_) scLLeast.nd)) scLLeast.nd))
      refine ⟨rfl, Same.refl _, fun s0 H0 C0 cl fp => ?_⟩
      exact XD.go (xd_tup (ds := [PyData.int (1 - edge + (i : Int) * k.ap), PyData.int j]) Lp (xa_cons (xd_add (xd_sub xd_int (xv_name 6 rfl).int) (xd_mul (xv_name 8 rfl).int (xd_ixT (fun _ _ => rfl) (xd_name 2 rfl kp3) xd_int k1) (.inl ⟨by omega, by omega⟩))) (xa_cons (xv_name 9 rfl).int xa_nil))) fun v H4 s4 hv4 => ⟨s4, hv4⟩
    have e0 : enumM (gSt (1 - edge) k.ap) 0 (js.map PyData.int) = (nearP k.ap (1 - edge) js).map stepD := by
      have e := st_enum (1 - edge) k.ap 0 js
      simp at e
      exact e
    rw [e0] at hx3
    have hof := near_ofK (k := k) hjm (1 - edge)
    have hnl : (nearP k.ap (1 - edge) js).length = js.length := near_len ..
    generalize hst : nearP k.ap (1 - edge) js = st at hx3 hof hnl
    have L3 := L2'.mono s3
    have k3 : Dq K (hid [b] H3) (.ref p3) (.list (st.map stepD)) := .lst (by rw [hid_of (L2'.fresh hp3)]; exact h3) hx3
    have kl3 := kl2.up (hid_mono (M := [b]) s3)
    have kp3 := kp2.up (hid_mono (M := [b]) s3)
    have kk3 := kk1.up (hid_mono (M := [b]) (s2.trans s3))
    have s13 := s1.trans (s2.trans s3)
    have hjc : ((js.map PyData.int).length : Int) = (js.length : Int) := by rw [List.length_map]
    have hmul0 : 0 ≤ (js.length : Int) * k.ap := Int.mul_nonneg (by omega) hann
    have hmul1 : (js.length : Int) * k.ap ≤ 3 * 200000 := by
      calc (js.length : Int) * k.ap ≤ 3 * k.ap := Int.mul_le_mul_of_nonneg_right (by omega) hann
        _ ≤ 3 * 200000 := by omega
    have b60 : 1000 < 2 ^ 60 := by decide
    have b61 : (1 : Int) < 2 ^ 61 := by decide
    generalize hN : (((js.length : Int) * k.ap + 3000) / 1440 + 1).toNat = N
    have hN2 : (N : Int) = ((js.length : Int) * k.ap + 3000) / 1440 + 1 := by rw [← hN]; rw [Int.toNat_of_nonneg (by omega)]
    refine rb_rangeAB (M := [b]) (lo := 1) (n := N) T.rng ⟨by omega, by omega⟩ (by omega) xd_int ((xd_add (xd_div (xd_add (xd_mul ((xd_len T.len (xd_name 4 rfl kl3)).to (d' := .int (js.length : Int)) (by rw [hjc])) (xd_ixT (fun _ _ => rfl) (xd_name 2 rfl kp3) xd_int k1) (.inl ⟨by omega, by omega⟩)) xd_int) xd_int (cdiv (by decide) (by decide))) xd_int).to (by rw [hN2]; congr 1; omega)) fun H4 s4 => ?_
    refine ⟨fun i σ' H5 => Same H4 H5 ∧ (∀ t : Nat, t < i → diffD 0 (1 + (t : Int)) rule 0 st ≠ .int (1440 * (1 + (t : Int)) - js.sum)) ∧ ∃ a10 a11, σ' = [some (.ref b), some (.ref a), some vp, some (.str rule), some (.ref l), none, some (.int edge), some (.ref p3), none, none, a10, a11], ⟨Same.refl _, fun t h => by omega, none, none, rfl⟩, fun i σ' H5 hi w => ?_, fun σ' H5 w => ?_⟩
    · obtain ⟨z1, hno, a10, a11, rfl⟩ := w
      refine rg_name 10 ?_ scLLeast.nd
      have s45 := s4.trans z1
      have L5 := L3.mono s45
      have k5 := k3.up (hid_mono (M := [b]) s45)
      have kl5 := kl3.up (hid_mono (M := [b]) s45)
      have kk5 := kk3.up (hid_mono (M := [b]) s45)
      refine rb_set 11 (M := [b]) (xd_call L5 GD hr4 FD.g FD.F.kp FD.b (xa_cons (xd_tup (ds := [PyData.int 0, .list (st.map stepD)]) L5 (xa_cons xd_int (xa_cons (xd_name 7 rfl k5) xa_nil))) (xa_cons xd_int (xa_cons (xv_name 10 rfl).int (xa_cons (xd_name 3 rfl (.str rule)) xa_nil)))) ⟨0, st, 0, 1 + (i : Int), rule, rfl, ofK_ok ko hof, by omega, rfl⟩) (fun v6 H6 s6 hv6 => ?_) scLLeast.nd
      have L6 := L5.mono s6
      have kl6 := kl5.up (hid_mono (M := [b]) s6)
      have kk6 := kk5.up (hid_mono (M := [b]) s6)
      refine rb_if (xt_eqD (M := [b]) hr.units (xd_name 11 rfl hv6) (xd_sub (xd_mul xd_int (xv_name 10 rfl).int (.inl (by decide))) (xd_sum hs (xd_name 4 rfl kl6))) (diffD_shaped ..) rfl) (fun e H7 s7 => ?_) (fun e H7 s7 => rb_nil (rb_nil ⟨(z1.trans s6).trans s7, fun t ht => ?_, _, _, rfl⟩))
      · have ed := diffD_eq.mp e
        have hin := diff_in ko hx hof (by rw [hnl]; omega) (by omega) ed
        rw [ed] at hv6
        have L7 := L6.mono s7
        refine rb_ret (M := [b]) (d := .bool (decide ((1440 * (1 + (i : Int)) - js.sum) ∈ spanL k rule (1 + (i : Int))))) (xd_inS (.inl rfl) (xd_name 11 rfl (hv6.up (hid_mono s7))) (XL.dd (xl_spans (CK := CK) L7 GS hr FS ko hx (by omega) (xv_name 1 rfl) (kk6.up (hid_mono s7)) (xv_name 3 rfl) (xv_name 10 rfl)) L7)) fun v8 H8 s8 hv8 => ?_
        rw [dp_bl hv8, decide_eq_true hin]
        exact qd H8 (((s13.trans s45).trans (s6.trans s7)).trans s8)
      · by_cases et : t = i
        · subst et
          intro z
          rw [diffD_eq.mpr z] at e
          cases e
        · exact hno t (by omega)
    · obtain ⟨z1, hno, a10, a11, rfl⟩ := w
      exfalso
      have hNp : 0 < N := by omega
      have hn1 := hno (N - 1) (by omega)
      have eN : (1 : Int) + ((N - 1 : Nat) : Int) = (N : Int) := by omega
      rw [eN] at hn1
      refine hn1 ?_
      have hroom : roomB k.ap (hX rule) (hY rule) (N : Int) js = true := by
        refine room_big (fun j hj => ?_) hl3 ?_
        · have q := hc.js ko j hj
          obtain ⟨q1, q2⟩ := mx_small ko.js.1 (okJs_ne ko.js)
          omega
        · rw [Int.mul_sub, Int.mul_one, Int.mul_comm k.ap]
          omega
      have hd := near_diffD ko hx hc (c := 1 - edge) hroom
      have ez : 1 - edge + lastA (hX rule) js = 0 := by omega
      rw [ez, hst] at hd
      rw [hd]
      congr 1
      omega
end
end Zn

set_option Elab.async false
set_option linter.all false
set_option maxRecDepth 100000
set_option maxHeartbeats 8000000
namespace Zn
open PySem PySem.Spec PyProof.Rows L2 Dl
/-! k32: the law -/
abbrev sLaw : Stmt := top 67
def spLaw (K : PySem.W.Frag) : Sp := fun vs H Q _ => ∃ (a : Addr) (ns : List Int), vs = [.ref a] ∧ SqL K H a (ns.map V.int) ∧ ∀ H1, Same H H1 → Q (.bl true) H1
theorem mem_cut {xs : List PyData} {lo hi : Option Int} {d : PyData} (h : d ∈ Dl.cutD xs lo hi) : d ∈ xs := by
  unfold Dl.cutD at h
  exact List.mem_of_mem_drop (List.mem_of_mem_take h)
theorem len_cut {xs : List PyData} {lo hi : Option Int} : (Dl.cutD xs lo hi).length ≤ xs.length := by
  unfold Dl.cutD
  rw [List.length_take, List.length_drop]
  omega
theorem eqv_intsL (ns ms : List Int) : PyData.eqv (.list (ns.map PyData.int)) (.list (ms.map PyData.int)) = decide (ns = ms) := by
  simp only [PyData.eqv]
  exact eqv_ints2 ns ms
theorem fm_none2 (ds : List PyData) : ds.filterMap (fun _ => (none : Option PyData)) = [] := by
  induction ds with
  | nil => rfl
  | cons d ds ih => rw [List.filterMap_cons]; exact ih
def dueI (k : Kd) (d : Int) : List Int := (sumL k).map fun x => 1440 * d - x
def fDue (d : Int) : PyData → Option PyData
  | .int x => some (.int (1440 * d - x))
  | _ => none
theorem fDue_all (d : Int) (xs : List Int) : (xs.map PyData.int).filterMap (fDue d) = (xs.map fun x => 1440 * d - x).map PyData.int := by
  induction xs with
  | nil => rfl
  | cons x xs ih => rw [List.map_cons, List.filterMap_cons]; show PyData.int (1440 * d - x) :: _ = _; rw [ih]; rfl
def fOut (ns : List Int) : PyData → Option PyData
  | .int x => if x ∈ ns then none else some (.int x)
  | _ => none
theorem fOut_all (ns xs : List Int) : (xs.map PyData.int).filterMap (fOut ns) = (xs.filter fun x => !decide (x ∈ ns)).map PyData.int := by
  induction xs with
  | nil => rfl
  | cons x xs ih =>
    rw [List.map_cons, List.filterMap_cons]
    by_cases c : x ∈ ns
    · have e : fOut ns (.int x) = none := if_pos c
      rw [e, List.filter_cons_of_neg (by simp [c])]
      exact ih
    · have e : fOut ns (.int x) = some (.int x) := if_neg c
      rw [e, List.filter_cons_of_pos (by simp [c]), List.map_cons, ← ih]
theorem due_mem {k : Kd} {d y : Int} : y ∈ dueI k d ↔ ∃ js ∈ chN k, d * 1440 - js.sum = y := by
  unfold dueI
  rw [List.mem_map]
  constructor
  · rintro ⟨x, hx, e⟩
    obtain ⟨js, hj, es⟩ := sumL_mem.mp hx
    exact ⟨js, hj, by omega⟩
  · rintro ⟨js, hj, e⟩
    exact ⟨js.sum, sumL_mem.mpr ⟨js, hj, rfl⟩, by omega⟩
theorem span_due {k : Kd} {rule : Str} {d y : Int} (h : y ∈ spanL k rule d) : y ∈ dueI k d := by
  obtain ⟨js, hj, _, e⟩ := spanL_mem.mp h
  exact due_mem.mpr ⟨js, hj, e⟩
theorem sumL_len {k : Kd} (ko : KOk k) : (sumL k).length < 64 := by
  obtain ⟨T, h1, h2⟩ := sumL_few ko
  exact Nat.lt_of_le_of_lt (nodup_le ((sumL_asc k).imp (fun h => Int.ne_of_lt h)) h2) h1
theorem due_nodup (k : Kd) (d : Int) : (dueI k d).Nodup := by
  unfold dueI
  have h : (sumL k).Nodup := (sumL_asc k).imp (fun h => Int.ne_of_lt h)
  refine List.Pairwise.map _ (fun a b hab => ?_) h
  intro z
  exact hab (by omega)
/-- days enough: all that is due is told -/
theorem due_all {k : Kd} (ko : KOk k) {rule : Str} {d : Int} (h : 3 * k.ap + 9000 ≤ 1440 * d) (y : Int) : y ∈ spanL k rule d ↔ y ∈ dueI k d := by
  refine ⟨span_due, fun hy => ?_⟩
  obtain ⟨js, hj, e⟩ := due_mem.mp hy
  have hc := chN_ok ko hj
  have hl := hc.len
  have ha := ap_nn ko
  refine spanL_mem.mpr ⟨js, hj, room_big (fun j hj => ?_) hl ?_, e⟩
  · have q := hc.js ko j hj
    obtain ⟨q1, q2⟩ := mx_small ko.js.1 (okJs_ne ko.js)
    omega
  · have h1 : k.ap * ((js.length : Int) - 1) ≤ k.ap * 2 := Int.mul_le_mul_of_nonneg_left (by omega) ha
    omega
section
variable {X : Cx} {M : List Addr} {σ : L2.St} {H : Hp} {a b e : Expr} {d : PyData} {pos p1 : Pos}
theorem xt_notNone {j} (ha : XD X M σ H a d) (hm : behindInMarks .IsNot (.Constant .none j p1) = false := by rfl) : XT X σ H (.Compare a [.IsNot] [.Constant .none j p1] pos) (!isN d) :=
  xt_cmp op_notN ha (xd_non (M := M)) (fun H1 v w s hv hw Q q => ⟨dp_non hw, by rw [dec_non hv]; exact q H1 (Same.refl _)⟩) hm
theorem xd_intB {k : Bool} (hm : X.mg "int" = none) (ha : XD X M σ H e (.bool k)) (hg : Gl X "int" := by rfl) (he : starEach [e] X.env = (false, eval e X.env) :: starEach [] X.env := by rfl) (hpl : (backTo pos (starEach [] X.env)).any (·.1) = false := by rfl) :
    XD X M σ H (.Call (.Name "int" p1) [e] [] pos) (.int (if k then 1 else 0)) := fun H1 s Q q =>
  re_Ty call_int1 (ra_1 (ha H1 s _ fun v H2 s2 hv => .inr ⟨k, by rw [dp_bl hv], q _ H2 s2 (.int _)⟩) he) hm (by decide +kernel) hg (by decide) (by decide) he hpl
end
/-- all that the law calls -/
structure Al (P : Program) (w : World) (K : PySem.W.Frag) (mg : Str → Option Value) (base : Heap) (CZ CK : Addr) : Prop where
  T : Nm mg
  srt : mg "sorted" = none
  set : mg "set" = none
  cell : ∃ f fd, Df K mg "_law_cell" sCell ["_law_script", "_law_index"] f fd ∧ FnOk P w K mg base CX0 1 f fd ["_law_script", "_law_index"] (spCell K)
  bag : ∃ f fd, Df K mg "_law_bag" sBag ["_law_cell_here"] f fd ∧ FnOk P w K mg base CX0 1 f fd ["_law_cell_here"] spBag
  take : ∃ f fd, Df K mg "_law_take" sTake ["_law_bag_here", "_law_many"] f fd ∧ FnOk P w K mg base CX0 1 f fd ["_law_bag_here", "_law_many"] spTake
  lkind : ∃ f fd, Df K mg "_law_kind" sLKind ["_law_bag_here"] f fd ∧ FnOk P w K mg base CX0 2 f fd ["_law_bag_here"] (spLKind K)
  lsums : ∃ f fd, Df K mg "_law_sums" sLSums ["_law_kind_here"] f fd ∧ FnOk P w K mg base CX0 1 f fd ["_law_kind_here"] (spL K RSums)
  ldiff : ∃ f fd, Df K mg "_law_difference" sLDiff ["_law_plan", "_law_reading", "_law_days", "_law_rule"] f fd ∧ FnOk P w K mg base CX0 4 f fd ["_law_plan", "_law_reading", "_law_days", "_law_rule"] (spR K RDiff)
  ltight : ∃ f fd, Df K mg "_law_tight" sLTight ["_law_bag_here", "_law_kind_here", "_law_days"] f fd ∧ FnOk P w K mg base CX0 2 f fd ["_law_bag_here", "_law_kind_here", "_law_days"] (spLTight K)
  lshown : ∃ f fd, Df K mg "_law_shown_right" sLShownR ["_law_kind_here", "_law_plain", "_law_rule", "_law_days", "_law_span"] f fd ∧ FnOk P w K mg base CX0 9 f fd ["_law_kind_here", "_law_plain", "_law_rule", "_law_days", "_law_span"] (spShownR K CK)
  lleast : ∃ f fd, Df K mg "_law_least_right" sLLeast ["_law_bag_here", "_law_kind_here", "_law_plain", "_law_rule"] f fd ∧ FnOk P w K mg base CX0 6 f fd ["_law_bag_here", "_law_kind_here", "_law_plain", "_law_rule"] (spLLeast K CK)
  kmk : ∃ f fd, KMk P w K mg base CK f fd
  spans : ∃ f fd, Df K mg "spans" sSpans ["kind", "rule", "days"] f fd ∧ FnOk P w K mg base CX0 5 f fd ["kind", "rule", "days"] (spSpans K CK)
  shown : ∃ f fd, Df K mg "span_shown" sShown ["kind", "rule", "days", "span"] f fd ∧ FnOk P w K mg base CX0 8 f fd ["kind", "rule", "days", "span"] (spShown K CZ CK)
section
variable {P : Program} {w : World} {K : PySem.W.Frag} {mg : Str → Option Value} {base : Heap} {C CK CZ : Addr}
section
variable {X : Cx} {M : List Addr} {σ : L2.St} {H : Hp} {e1 e2 e3 e4 e5 : Expr} {pos p1 : Pos} {f a : Addr} {fd : FuncData} {k : Kd} {rule : Str} {d x : Int} {vp : V}
/-- _law_shown_right(..) of a told span -/
theorem xd_shownR (L : Live M H) (G : FnOk X.prog X.w X.K X.mg X.base CX0 9 f fd ["_law_kind_here", "_law_plain", "_law_rule", "_law_days", "_law_span"] (spShownR X.K CK)) (hr : Room 9 X.A) (FF : Df X.K X.mg "_law_shown_right" sLShownR ["_law_kind_here", "_law_plain", "_law_rule", "_law_days", "_law_span"] f fd) (ko : KOk k) (hx : isRuleS rule) (h1 : 1 ≤ d) (hin : x ∈ spanL k rule d)
    (ho : XV X σ H e1 (.ref a)) (hk : KAt X.K CK (hid M H) a k) (hp : XD X M σ H e2 (kindD k)) (hb : XV X σ H e3 (.str rule)) (hd : XV X σ H e4 (.int d)) (hs : XV X σ H e5 (.int x)) (hg : Gl X "_law_shown_right" := by rfl) (he : starEach [e1, e2, e3, e4, e5] X.env = (false, eval e1 X.env) :: starEach [e2, e3, e4, e5] X.env := by rfl) (he2 : starEach [e2, e3, e4, e5] X.env = (false, eval e2 X.env) :: starEach [e3, e4, e5] X.env := by rfl)
    (he3 : starEach [e3, e4, e5] X.env = (false, eval e3 X.env) :: starEach [e4, e5] X.env := by rfl) (he4 : starEach [e4, e5] X.env = (false, eval e4 X.env) :: starEach [e5] X.env := by rfl) (he5 : starEach [e5] X.env = (false, eval e5 X.env) :: starEach [] X.env := by rfl) (hpl : (backTo pos (starEach [e2, e3, e4, e5] X.env)).any (·.1) = false := by rfl) :
    XD X M σ H (.Call (.Name "_law_shown_right" p1) [e1, e2, e3, e4, e5] [] pos) (.bool true) := fun H1 s Q q =>
  re_call G hr FF.g FF.F.kp FF.b (ra_cons (ho H1 s _ fun Ha sa => ra_cons (hp Ha (s.trans sa) _ fun vp Hb sb hvp => ra_cons (hb Hb ((s.trans sa).trans sb) _ fun Hc sc => ra_cons (hd Hc (((s.trans sa).trans sb).trans sc) _ fun Hd sd => ra_1 (hs Hd ((((s.trans sa).trans sb).trans sc).trans sd) _ fun He se =>
    ⟨M, a, vp, k, rule, d, x, rfl, hx, h1, L.mono (((((s.trans sa).trans sb).trans sc).trans sd).trans se), hk.up (hid_mono (((((s.trans sa).trans sb).trans sc).trans sd).trans se)), ko, hvp.up (hid_mono ((sc.trans sd).trans se)), hin, fun H3 s3 => q _ H3 (((((sa.trans sb).trans sc).trans sd).trans se).trans s3) (.bl _)⟩) he5) he4) he3) he2) he) hg (by decide) he hpl
/-- span_shown(..) of a span that is none -/
theorem xd_shownN (L : Live M H) (G : FnOk X.prog X.w X.K X.mg X.base CX0 8 f fd ["kind", "rule", "days", "span"] (spShown X.K CZ CK)) (hr : Room 8 X.A) (FF : Df X.K X.mg "span_shown" sShown ["kind", "rule", "days", "span"] f fd) (ko : KOk k) (hx : isRuleS rule) (h1 : 1 ≤ d) (hin : x ∉ spanL k rule d)
    (ho : XV X σ H e1 (.ref a)) (hk : KAt X.K CK (hid M H) a k) (hb : XV X σ H e2 (.str rule)) (hd : XV X σ H e3 (.int d)) (hs : XV X σ H e4 (.int x)) (hg : Gl X "span_shown" := by rfl) (he : starEach [e1, e2, e3, e4] X.env = (false, eval e1 X.env) :: starEach [e2, e3, e4] X.env := by rfl) (he2 : starEach [e2, e3, e4] X.env = (false, eval e2 X.env) :: starEach [e3, e4] X.env := by rfl)
    (he3 : starEach [e3, e4] X.env = (false, eval e3 X.env) :: starEach [e4] X.env := by rfl) (he4 : starEach [e4] X.env = (false, eval e4 X.env) :: starEach [] X.env := by rfl) (hpl : (backTo pos (starEach [e2, e3, e4] X.env)).any (·.1) = false := by rfl) :
    XD X M σ H (.Call (.Name "span_shown" p1) [e1, e2, e3, e4] [] pos) .none := fun H1 s Q q =>
  re_call G hr FF.g FF.F.kp FF.b (ra_cons (ho H1 s _ fun Ha sa => ra_cons (hb Ha (s.trans sa) _ fun Hb sb => ra_cons (hd Hb ((s.trans sa).trans sb) _ fun Hc sc => ra_1 (hs Hc (((s.trans sa).trans sb).trans sc) _ fun Hd sd =>
    ⟨M, a, k, rule, d, x, rfl, hx, h1, L.mono ((((s.trans sa).trans sb).trans sc).trans sd), hk.up (hid_mono ((((s.trans sa).trans sb).trans sc).trans sd)), ko, fun H3 s3 _ => q _ H3 ((((sa.trans sb).trans sc).trans sd).trans s3) .non, fun js t z H3 s3 fit _ _ => absurd (spanL_mem.mpr ⟨js, fit.1, fit.2.2, fit.2.1⟩) hin⟩) he4) he3) he2) he) hg (by decide) he hpl
end
abbrev lawN : List Str := ["_law_script", "_law_index", "_law_bag_here", "_law_plain", "_law_rule", "_law_kind_here", "_law_need", "_law_days", "_law_found", "_law_each", "_law_lap", "_law_came", "_law_due", "_law_span"]
theorem scLaw : FnScope lawN ["_law_script"] (defScope sLaw) := ⟨rfl, rfl, rfl, by decide +kernel, rfl, by decide +kernel, by decide +kernel⟩
theorem ok_law {f : Addr} {fd : FuncData} (A : Al P w K mg base CZ CK) (F : Fun K "law" "law" sLaw f fd) : FnG P w K mg base 10 f fd ["_law_script"] (spLaw K) := by
  obtain ⟨fc, fdc, FC, GC⟩ := A.cell
  obtain ⟨fb, fdb, FB, GB⟩ := A.bag
  obtain ⟨ft, fdt, FT, GT⟩ := A.take
  obtain ⟨fk, fdk, FK, GK⟩ := A.lkind
  obtain ⟨fu, fdu, FU, GU⟩ := A.lsums
  obtain ⟨fd', fdd, FD, GD⟩ := A.ldiff
  obtain ⟨fi, fdi, FI, GI⟩ := A.ltight
  obtain ⟨fr, fdr, FR, GR⟩ := A.lshown
  obtain ⟨fl, fdl, FL, GL⟩ := A.lleast
  obtain ⟨fm, fdm, WK⟩ := A.kmk
  obtain ⟨fs, fds, FS, GS⟩ := A.spans
  obtain ⟨fn, fdn, FN, GN⟩ := A.shown
  have T := A.T
  refine fn_g F scLaw (fun vs H Q E h => ?_) (fun cdv A' outer s H vs Q E hA hr h => ?_)
  · obtain ⟨a, ns, rfl, _⟩ := h; rfl
  · obtain ⟨a, ns, rfl, hS, q⟩ := h
    have hr8 := hr.mono (show 8 ≤ 9 by decide)
    have hr6 := hr.mono (show 6 ≤ 9 by decide)
    have hr5 := hr.mono (show 5 ≤ 9 by decide)
    have hr4 := hr.mono (show 4 ≤ 9 by decide)
    have hr2 := hr.mono (show 2 ≤ 9 by decide)
    have hr1 := hr.mono (show 1 ≤ 9 by decide)
    refine rb_range T.rng (XD.go (M := []) (xd_max T.max (xa_cons xd_int (xa_cons (xd_min T.min (xa_cons xd_int (xa_cons (xv_lenS T.len (xv_name 0 rfl) hS).int xa_nil))) xa_nil))) fun v H0 s0 hv => ?_)
    have ev := dp_int hv
    subst ev
    generalize hnn : (if (if ((ns.map V.int).length : Int) < 4 then ((ns.map V.int).length : Int) else 4) > 2 then (if ((ns.map V.int).length : Int) < 4 then ((ns.map V.int).length : Int) else 4) else 2) = nn
    have hn2 : 0 ≤ nn ∧ nn ≤ 100 := by
      rw [← hnn]
      split <;> split <;> omega
    refine ⟨nn.toNat, by rw [Int.toNat_of_nonneg hn2.1], by omega, fun i σ' H' => Same H H' ∧ ∃ u1 u2 u3 u4 u5 u6 u7 u8 u9 u10 u11 u12 u13, σ' = [some (.ref a), u1, u2, u3, u4, u5, u6, u7, u8, u9, u10, u11, u12, u13], ⟨s0, none, none, none, none, none, none, none, none, none, none, none, none, none, rfl⟩, fun i σ' H' hi w => ?_, fun σ' H' w => ?_⟩
    · obtain ⟨sH0, u1, u2, u3, u4, u5, u6, u7, u8, u9, u10, u11, u12, u13, rfl⟩ := w
      refine rg_name 1 ?_ scLaw.nd
      -- the bag, the kind, the rule
      refine rb_setR 2 (re_call GB hr1 FB.g FB.F.kp FB.b (ra_1 (re_call GC hr1 FC.g FC.F.kp FC.b (ra_cons (XV.go (xv_name 0 rfl) fun Ha sa => ra_1 (XV.go (xv_name 1 rfl) fun Hb sb => ⟨a, ns, i, rfl, ((sH0.trans sa).trans sb).seq hS, fun nc Hc sc => ⟨nc, rfl, fun b H1 s1 hb hB => ?_⟩⟩)))))) scLaw.nd
      have s01 : Same H' H1 := ((sa.trans sb).trans sc).trans s1
      have hb0 : H' b = none := ((sa.trans sb).trans sc).free hb
      refine rb_parR 3 4 (ra_cons (re_call GK hr2 FK.g FK.F.kp FK.b (ra_1 (XV.go (xv_name 2 rfl) fun H2 s2 => ⟨[], b, 0, rfl, Live.nil, hB.up s2 (Nat.le_refl _), by decide, fun k vp H3 ko hap sB3 hB3 hvp => ?_⟩)))) scLaw.nd
      refine ra_1 (re_menuV (vs := [.str "ahead", .str "behind", .str "strict"]) (fun _ _ => rfl) (by decide) (ra_cons (XV.go xv_str fun Ha sa => ra_cons (XV.go xv_str fun Hb sb => ra_1 (XV.go xv_str fun Hc sc => ⟨rfl, fun l2 hl2 => ?_⟩)))))
      have hBc := hB3.up ((sa.trans sb).trans sc) (Nat.le_refl _)
      have hl2b : l2 ≠ b := fun e => by rw [e] at hl2; exact hBc.some hl2
      refine re_take GT FT hr1 (xv_name 2 rfl) xv_int (bag_new hBc hl2) fun r H4 r0 r3 sB4 hB4 => ⟨r, rfl, r0, r3, sB4 l2 _ hl2b upd_same, fun zv hzv => ?_⟩
      obtain ⟨rule, rfl, hrule⟩ := rule_of hzv
      refine ⟨_, _, rfl, ?_⟩
      have sB34 : SameB b H3 H4 := (SameB.of (((sa.trans sb).trans sc).trans (same_new hl2))).trans sB4
      have sB14 : SameB b H1 H4 := ((SameB.of s2).trans sB3).trans sB34
      have s04 : Same H' H4 := fun y o e => sB14 y o (ne_of_none e hb0) (s01 y o e)
      have hv4 : Dq K (hid [b] H4) vp (kindD k) := hvp.up (sB34.hid (List.mem_singleton.mpr rfl))
      have Lb : Live [b] H4 := fun y hy => by rw [List.mem_singleton.mp hy]; exact hB4.some
      have hann := ap_nn ko
      -- the kind's object, the days that are needed
      refine rb_parR 5 6 (ra_cons (XK.go (xk_make (k := k) (M := [b]) (sq := .list (k.js.map PyData.int)) Lb WK hr4 ko (.inl rfl) (xd_ixT (fun _ _ => rfl) (xd_name 3 rfl hv4) xd_int k0) (xd_ixT (fun _ _ => rfl) (xd_name 3 rfl hv4) xd_int k1) (xd_ixT (fun _ _ => rfl) (xd_name 3 rfl hv4) xd_int k2)) fun kz H5 s5 hk5 => ?_)) scLaw.nd
      have hv5 := hv4.up (hid_mono (M := [b]) s5)
      have hB5 := hB4.up s5 (Nat.le_refl _)
      refine ra_1 (re_bin op_fdivW (re_mulI (re_int (xd_ixT (M := [b]) (fun _ _ => rfl) (xd_name 3 rfl hv5) xd_int k1).vint fun H6 s6 => ⟨k.ap, rfl, ⟨by omega, by omega⟩, ?_⟩)))
      refine re_addI (re_int xv_int fun H7 s7 => ⟨1, rfl, ?_⟩)
      refine re_take GT FT hr1 (xv_name 2 rfl) xv_int (hB5.up (s6.trans s7) (Nat.le_refl _)) fun r1 H8 r10 r11 sB8 hB8 => ⟨r1, rfl, 1 + r1, rfl, re_int xv_int fun H9 s9 => ⟨_, _, rfl, rfl, cdiv (by decide) (by decide), .ref kz, .int (k.ap * (1 + r1) / 1440), rfl, ?_⟩⟩
      have hneed : 0 ≤ k.ap * (1 + r1) / 1440 := Int.ediv_nonneg (Int.mul_nonneg hann (by omega)) (by decide)
      generalize k.ap * (1 + r1) / 1440 = need at hneed ⊢
      have sB59 : SameB b H5 H9 := ((SameB.of (s6.trans s7)).trans sB8).trans (.of s9)
      have hB9 := hB8.up s9 (Nat.le_refl _)
      have g59 : Same (hid [b] H5) (hid [b] H9) := sB59.hid (List.mem_singleton.mpr rfl)
      have hk9 := hk5.up g59
      have hv9 := hv5.up g59
      have s09 : Same H' H9 := fun y o e => sB59 y o (ne_of_none e hb0) (s5 _ _ (s04 y o e))
      -- the first day that shows all
      refine rb_ifR ⟨_, pt_not rt_, _, pt_val re_ (by intro _; rfl), re_call GL hr6 FL.g FL.F.kp FL.b (ra_cons (XV.go (xv_name 2 rfl) fun Ia ia => ra_cons (XV.go (xv_name 5 rfl) fun Ib ib => ra_cons (XD.go (M := [b]) (xd_name 3 rfl (hv9.up (hid_mono (ia.trans ib)))) fun vq Ic ic hvq => ra_1 (XV.go (xv_name 4 rfl) fun Id id' =>
        ⟨b, kz, vq, k, rule, _, rfl, hrule, hB9.up (((ia.trans ib).trans ic).trans id') (Nat.le_refl _), by decide, hk9.up (hid_mono (((ia.trans ib).trans ic).trans id')), ko, hap, hvq.up (hid_mono id'), fun H10 sB10 hB10 => ⟨true, rfl, iteF (rb_nil ?_)⟩⟩)))))⟩
      have sB910 : SameB b H9 H10 := (SameB.of (((ia.trans ib).trans ic).trans id')).trans sB10
      have g910 : Same (hid [b] H9) (hid [b] H10) := sB910.hid (List.mem_singleton.mpr rfl)
      have hk10 := hk9.up g910
      have hv10 := hv9.up g910
      have s010 : Same H' H10 := fun y o e => sB910 y o (ne_of_none e hb0) (s09 y o e)
      -- the numbers of days
      refine rb_forE (M := [b]) ⟨_, pe_lst ra_, ra_cons (re_addI (re_int xv_int fun Ia ia => ⟨1, rfl, ?_⟩))⟩
      refine re_take GT FT hr1 (xv_name 2 rfl) xv_int (hB10.up ia (Nat.le_refl _)) fun rd Ib rd0 rd1 sBb hBb => ⟨rd, rfl, ?_⟩
      have L11 : Live [b] Ib := fun y hy => by rw [List.mem_singleton.mp hy]; exact hBb.some
      refine ra_mono (XA.go (M := [b]) (ds := [PyData.int (if need > 1 then need else 1), .int (need + 1), .int (need + 2), .int 365, .int (10 ^ (6 : Int).toNat), .int (10 ^ (20 : Int).toNat)]) (xa_cons (xd_max T.max (xa_cons xd_int (xa_cons (xv_name 6 rfl).int xa_nil))) (xa_cons (xd_add (xv_name 6 rfl).int xd_int) (xa_cons (xd_add (xv_name 6 rfl).int xd_int) (xa_cons xd_int (xa_cons (xd_pow xd_int xd_int ⟨by decide, by decide, by decide⟩) (xa_cons (xd_pow xd_int xd_int ⟨by decide, by decide, by decide⟩) xa_nil)))))) (Q := fun vs I2 => Same Ib I2 ∧ DqAll K (hid [b] I2) vs [PyData.int (if need > 1 then need else 1), .int (need + 1), .int (need + 2), .int 365, .int (10 ^ (6 : Int).toNat), .int (10 ^ (20 : Int).toNat)]) fun vs I2 s2 hvs => ⟨s2, hvs⟩) fun vs I2 ⟨si, hvs⟩ => ?_
      have dall : ∀ d ∈ [1 + rd, (if need > 1 then need else 1), need + 1, need + 2, 365, 10 ^ (6 : Int).toNat, 10 ^ (20 : Int).toNat], (1 : Int) ≤ d := by
        have e6 : (10 : Int) ^ (6 : Int).toNat = 1000000 := by decide
        have e20 : (10 : Int) ^ (20 : Int).toNat = 100000000000000000000 := by decide
        intro d hd
        simp only [List.mem_cons, List.not_mem_nil, or_false] at hd
        rcases hd with e | e | e | e | e | e | e
        · omega
        · rw [e]; split <;> omega
        · omega
        · omega
        · omega
        · omega
        · omega
      have hvi : vs.length = 6 := dpa_len hvs
      refine ⟨by rw [List.length_cons, hvi]; decide, fun pl hpl => ?_⟩
      have hBi := hBb.up si (Nat.le_refl _)
      have hplb : pl ≠ b := fun e => by rw [e] at hpl; exact hBi.some hpl
      have sBi : SameB b H10 (upd I2 pl (.lst (.int (1 + rd) :: vs))) := ((SameB.of ia).trans sBb).trans (.of (si.trans (same_new hpl)))
      have gi : Same (hid [b] H10) (hid [b] (upd I2 pl (.lst (.int (1 + rd) :: vs)))) := sBi.hid (List.mem_singleton.mpr rfl)
      have hki := hk10.up gi
      have hvi' := hv10.up gi
      have s0i : Same H' (upd I2 pl (.lst (.int (1 + rd) :: vs))) := fun y o e => sBi y o (ne_of_none e hb0) (s010 y o e)
      have hBi2 := bag_new (o := .lst (.int (1 + rd) :: vs)) hBi hpl
      have kpl : Dq K (hid [b] (upd I2 pl (.lst (.int (1 + rd) :: vs)))) (.ref pl) (.list ([1 + rd, (if need > 1 then need else 1), need + 1, need + 2, 365, 10 ^ (6 : Int).toNat, 10 ^ (20 : Int).toNat].map PyData.int)) :=
        .lst (by rw [hid_of (by simp [hplb])]; exact upd_same) (.cons (.int _) (hvs.up (hid_mono (same_new hpl))))
      generalize hJ : upd I2 pl (.lst (.int (1 + rd) :: vs)) = J at kpl hki hvi' s0i hBi2
      clear hBi hBb hB10 hB9 hB8 hB5 hBc hB4 hB3 hB
      refine ⟨_, kpl, fun j σ' J1 => SameB b J J1 ∧ BagAt J1 b (200 + 200 * j) ∧ ∃ v7 v8 v9 v10 v11 v12 v13, σ' = [some (.ref a), some (.int (i : Int)), some (.ref b), some vp, some (.str rule), some (.ref kz), some (.int need), v7, v8, v9, v10, v11, v12, v13],
        ⟨.of (Same.refl _), hBi2.up (Same.refl _) (by omega), u7, u8, u9, u10, u11, u12, u13, rfl⟩, fun j σ' J1 w => w.1.hid (List.mem_singleton.mpr rfl), fun j it hj σ' J1 v hw hv => ?_, fun σ' J1 hw => ?_⟩
      · obtain ⟨sJ, hBJ, v7, v8, v9, v10, v11, v12, v13, rfl⟩ := hw
        obtain ⟨d, hd0, rfl⟩ := map_get hj
        have hd1 := dall d (List.mem_of_getElem? hd0)
        have hj7 : j < 7 := (List.getElem?_eq_some_iff.mp hd0).1
        have ev := dp_int hv
        subst ev
        have gJ : Same (hid [b] J) (hid [b] J1) := sJ.hid (List.mem_singleton.mpr rfl)
        have hk1 := hki.up gJ
        have hv1 := hvi'.up gJ
        have L1 : Live [b] J1 := fun y hy => by rw [List.mem_singleton.mp hy]; exact hBJ.some
        refine rg_name 7 ?_ scLaw.nd
        -- what is told
        refine rb_setL 8 (M := [b]) (xl_spans (CK := CK) L1 GS hr5 FS ko hrule hd1 (xv_name 5 rfl) hk1 (xv_name 4 rfl) (xv_name 7 rfl)) (fun pf xf J2 s2 hpf h2 hxf => ?_) scLaw.nd
        have exf := ints_v hxf
        subst exf
        have hpfb : pf ≠ b := fun e => by rw [e] at hpf; exact hBJ.some hpf
        have L2' := L1.mono s2
        have kf2 : Dq K (hid [b] J2) (.ref pf) (.list ((spanL k rule d).map PyData.int)) := .lst (by rw [hid_of (by simp [hpfb])]; exact h2) hxf
        have hk2 := hk1.up (hid_mono (M := [b]) s2)
        have hv2 := hv1.up (hid_mono (M := [b]) s2)
        have hB2 := hBJ.up s2 (Nat.le_refl _)
        have hsl := spanL_len ko rule d
        obtain ⟨Tt, hT1, hT2⟩ := spans_few ko rule d
        have hir : ∀ y, y ∈ spanL k rule d ↔ y ∈ spanL k rule d := fun _ => Iff.rfl
        refine rb_ifF ((xt_or2 (xt_neD (M := [b]) hr.units (xd_name 8 rfl kf2) (XL.dd (xl_sortedOf (ns := spanL k rule d) Tt A.srt A.set L2' (xd_name 8 rfl kf2) (by omega) hT1 hT2 (spanL_asc k rule d) hir) L2') (shaped_ints _) (shaped_ints _)) fun _ =>
          xt_neD (M := [b]) hr.units (XL.dd ((xl_comp (own := [("_law_each", 9)]) (fun _ => (none : Option PyData)) L2' scLaw.nd (xd_name 8 rfl kf2) (blkOk_by (own := [("_law_each", 9)]) (N := lawN) (sc := defScope sLaw) (by decide +kernel)) (by rw [List.length_map]; omega) (fun p dt v H3 hd hp s3 Lp hv => ?compBool)).to (fm_none2 _)) L2') (xd_lst L2' xa_nil) shaped_nil shaped_nil).to (by
            rw [eqv_intsL, decide_eq_true rfl, eqv_nil]; rfl)) fun J3 s3 => ?_
        case compBool =>
          obtain ⟨x, _, rfl⟩ := List.mem_map.mp hd
          have ex := dp_int hv
          subst ex
          intro s0 H0 C0 cl fp
          exact rg_name 9 ⟨rfl, bt_one (k := false) (fun s0 H0 C0 cl fp => xt_val (M := p :: [b]) (xd_is1 (d := .int x) (k_bool (.int x)) T.isi T.bool (by decide +kernel) (xv_name 9 rfl).int)) fun H4 s4 => ⟨s4, .inr ⟨rfl, rfl⟩⟩⟩ scLaw.nd
        -- tight plans
        refine rb_range T.rng (XD.go (M := [b]) (xd_mul xd_int (xd_intB T.int (xd_cmpI op_lt (xv_name 7 rfl).int xd_int)) (.inl (by decide))) fun vm J4 s4 hvm => ?_)
        have evm := dp_int hvm
        subst evm
        generalize hm : (12 * if decide (d < 365) = true then (1 : Int) else 0) = m
        have hm12 : 0 ≤ m ∧ m ≤ 12 := by rw [← hm]; split <;> omega
        have s24 := s3.trans s4
        refine ⟨m.toNat, by rw [Int.toNat_of_nonneg hm12.1], by omega, fun t σ' K1 => SameB b J4 K1 ∧ BagAt K1 b (200 + 200 * j + 10 * t) ∧ ∃ w10 w11, σ' = [some (.ref a), some (.int (i : Int)), some (.ref b), some vp, some (.str rule), some (.ref kz), some (.int need), some (.int d), some (.ref pf), v9, w10, w11, v12, v13],
          ⟨.of (Same.refl _), hB2.up s24 (by omega), v10, v11, rfl⟩, fun t σ' K1 ht w => ?_, fun σ' K1 w => ?_⟩
        · obtain ⟨sK, hBK, w10, w11, rfl⟩ := w
          have ht12 : t < 12 := by omega
          have gK : Same (hid [b] J2) (hid [b] K1) := (hid_mono s24).trans (sK.hid (List.mem_singleton.mpr rfl))
          have hvK := hv2.up gK
          have kfK := kf2.up gK
          refine rg_name 10 ?_ scLaw.nd
          refine rb_setR 11 (re_call GD hr4 FD.g FD.F.kp FD.b (ra_cons (re_call GI hr2 FI.g FI.F.kp FI.b (ra_cons (XV.go (xv_name 2 rfl) fun Ia ia => ra_cons (XD.go (M := [b]) (xd_name 3 rfl (hvK.up (hid_mono ia))) fun vq Ib ib hvq => ra_1 (XV.go (xv_name 7 rfl) fun Ic ic =>
            ⟨b, vq, k, d, _, rfl, ko, hBK.up ((ia.trans ib).trans ic) (Nat.le_refl _), by omega, hvq.up (hid_mono ic), fun st vpl K2 hof hlen sB2 hB2 hpl2 => ra_cons (XV.go xv_int fun Id id' => ra_cons (XV.go (xv_name 7 rfl) fun Ie ie => ra_1 (XV.go (xv_name 4 rfl) fun If if' => ?_)))⟩))))))) scLaw.nd
          have hmo := ko.m1
          have sdf := (id'.trans ie).trans if'
          have sKf : SameB b K1 If := (SameB.of ((ia.trans ib).trans ic)).trans (sB2.trans (.of sdf))
          have hBf := hB2.up sdf (Nat.le_refl _)
          have Lf : Live [b] If := fun y hy => by rw [List.mem_singleton.mp hy]; exact hBf.some
          refine ⟨[b], [planD 0 st, .int 0, .int d, .str rule], _, Lf, .cons (hpl2.up (hid_mono sdf)) (.cons (.int _) (.cons (.int _) (.cons (.str _) .nil))), ⟨0, st, 0, d, rule, rfl, ofK_ok ko hof, by omega, rfl⟩, fun vc K3 s3' hvc => ?_⟩
          have kf3 := (kfK.up (sKf.hid (List.mem_singleton.mpr rfl))).up (hid_mono (M := [b]) s3')
          have fin : ∀ K4, Same K3 K4 → SameB b J4 K4 ∧ BagAt K4 b (200 + 200 * j + 10 * (t + 1)) := fun K4 s4' => ⟨(sK.trans sKf).trans (.of (s3'.trans s4')), hBf.up (s3'.trans s4') (by omega)⟩
          rcases diffD_kind 0 d rule 0 st with e | ⟨y, e⟩
          · rw [e] at hvc
            exact rb_ifF ((xt_and2 (k2 := false) (xt_notNone (M := [b]) (xd_name 11 rfl hvc)) fun z => absurd z (by decide)).to rfl) fun K4 s4' => rb_nil ⟨(fin K4 s4').1, (fin K4 s4').2, _, _, rfl⟩
          · have hin := diff_in ko hrule hof hlen hd1 e
            rw [e] at hvc
            exact rb_ifF ((xt_and2 (xt_notNone (M := [b]) (xd_name 11 rfl hvc)) fun _ => xt_notInI (M := [b]) (xd_name 11 rfl hvc) (xd_name 8 rfl kf3)).to (by rw [decide_eq_true hin]; rfl)) fun K4 s4' => rb_nil ⟨(fin K4 s4').1, (fin K4 s4').2, _, _, rfl⟩
        obtain ⟨sK, hBK, w10, w11, rfl⟩ := w
        have gK : Same (hid [b] J2) (hid [b] K1) := (hid_mono s24).trans (sK.hid (List.mem_singleton.mpr rfl))
        have hk3 := hk2.up gK
        have hv3 := hv2.up gK
        have kf3 := kf2.up gK
        have L3 : Live [b] K1 := fun y hy => by rw [List.mem_singleton.mp hy]; exact hBK.some
        have sJK : SameB b J K1 := ((sJ.trans (.of (s2.trans s24))).trans sK)
        have hpK : K1 pf = some (.lst ((spanL k rule d).map V.int)) := sK _ _ hpfb (s24 _ _ h2)
        -- what is due
        have hsz := sumL_len ko
        refine rb_setL 12 (M := [b]) ((xl_comp (own := [("_law_each", 9)]) (fDue d) L3 scLaw.nd (XL.dd (xl_call (ds2 := (sumL k).map PyData.int) L3 GU hr1 FU.g FU.F.kp FU.b (xa_cons (xd_name 3 rfl hv3) xa_nil) ⟨k, rfl, ko, rfl⟩) L3) (blkOk_by (own := [("_law_each", 9)]) (N := lawN) (sc := defScope sLaw) (by decide +kernel)) (by rw [List.length_map]; omega) (fun p dt v H3 hd hp s3 Lp hv => ?compDue)).to (fDue_all d _)) (fun pd xd K4 s4' hpd h4 hxd => ?_) scLaw.nd
        case compDue =>
          obtain ⟨x, _, rfl⟩ := List.mem_map.mp hd
          have ex := dp_int hv
          subst ex
          intro s0 H0 C0 cl fp
          refine rg_name 9 ⟨rfl, bt_nil ⟨Same.refl _, .inl ⟨rfl, _, rfl, fun s0 H0 C0 cl fp => ?_⟩⟩⟩ scLaw.nd
          exact XD.go (xd_sub (xd_mul xd_int (xv_name 7 rfl).int (.inl (by decide))) (xv_name 9 rfl).int) fun v H4 s4 hv4 => ⟨s4, hv4⟩
        have hxd' : DqAll K (hid [b] K4) xd ((dueI k d).map PyData.int) := hxd
        have L4 := L3.mono s4'
        have kd4 : Dq K (hid [b] K4) (.ref pd) (.list ((dueI k d).map PyData.int)) := .lst (by rw [hid_of (L3.fresh hpd)]; exact h4) hxd'
        have kf4 := kf3.up (hid_mono (M := [b]) s4')
        have hdl : (dueI k d).length < 64 := by unfold dueI; rw [List.length_map]; exact hsz
        refine rb_ifF ((xt_neD (M := [b]) hr.units (XL.dd ((xl_comp (own := [("_law_each", 9)]) (fun _ => (none : Option PyData)) L4 scLaw.nd (xd_name 8 rfl kf4) (blkOk_by (own := [("_law_each", 9)]) (N := lawN) (sc := defScope sLaw) (by decide +kernel)) (by rw [List.length_map]; omega) (fun p dt v H3 hd hp s3 Lp hv => ?compIn)).to (fm_none2 _)) L4) (xd_lst L4 xa_nil) shaped_nil shaped_nil).to (by rw [eqv_nil]; rfl)) fun K5 s5 => ?_
        case compIn =>
          obtain ⟨x, hxm, rfl⟩ := List.mem_map.mp hd
          have ex := dp_int hv
          subst ex
          have kdp : Dq K (hid (p :: [b]) H3) (.ref pd) (.list ((dueI k d).map PyData.int)) := kd4.up (hid_step hp s3)
          intro s0 H0 C0 cl fp
          exact rg_name 9 ⟨rfl, bt_one (k := false) (fun s0 H0 C0 cl fp => (xt_notInI (M := p :: [b]) (xv_name 9 rfl).int (xd_name 12 rfl kdp)).to (by rw [decide_eq_true (span_due hxm)]; rfl)) fun H4 s4 => ⟨s4, .inr ⟨rfl, rfl⟩⟩⟩ scLaw.nd
        have L5 := L4.mono s5
        have kf5 := kf4.up (hid_mono (M := [b]) s5)
        have kd5 := kd4.up (hid_mono (M := [b]) s5)
        have hv5 := hv3.up (hid_mono (M := [b]) (s4'.trans s5))
        have hk5 := hk3.up (hid_mono (M := [b]) (s4'.trans s5))
        -- days enough
        refine rb_ifF ((xt_and2 (k2 := false) (xt_cmpI (M := [b]) op_ge (xd_mul xd_int (xv_name 7 rfl).int (.inl (by decide))) (xd_add (xd_mul xd_int (xd_ixT (fun _ _ => rfl) (xd_name 3 rfl hv5) xd_int k1) (.inl (by decide))) xd_int)) fun z =>
          (xt_neD (M := [b]) hr.units (xd_name 8 rfl kf5) (XL.dd (xl_sortedI (ms := dueI k d) (spanL k rule d) A.srt L5 (xd_name 12 rfl kd5) hdl (due_nodup k d) (spanL_asc k rule d) (due_all ko (of_decide_eq_true z))) L5) (shaped_ints _) (shaped_ints _)).to (by rw [eqv_intsL, decide_eq_true rfl]; rfl)).to (Bool.and_false _)) fun K6 s6 => ?_
        have L6 := L5.mono s6
        have kf6 := kf5.up (hid_mono (M := [b]) s6)
        have kd6 := kd5.up (hid_mono (M := [b]) s6)
        have hv6 := hv5.up (hid_mono (M := [b]) s6)
        have hk6 := hk5.up (hid_mono (M := [b]) s6)
        -- the told spans are shown
        refine rb_for (M := [b]) (XL.dd (xl_cat L6 (XL.dd (xl_cut L6 (xd_name 8 rfl kf6) xo_none (xo_some (M := [b]) xd_int)) L6) (XL.dd (xl_cut L6 (xd_name 8 rfl kf6) (xo_some (M := [b]) (xd_neg xd_int)) xo_none) L6) (by
          refine Nat.le_trans (Nat.add_le_add len_cut len_cut) ?_
          rw [List.length_map]; omega)) L6) fun K7 s7 => ⟨fun t σ' K8 => Same K7 K8 ∧ ∃ w13, σ' = [some (.ref a), some (.int (i : Int)), some (.ref b), some vp, some (.str rule), some (.ref kz), some (.int need), some (.int d), some (.ref pf), v9, w10, w11, some (.ref pd), w13], ⟨Same.refl _, v13, rfl⟩, fun t σ' K8 w => hid_mono w.1, fun t it ht σ' K8 v w hv => ?_, fun σ' K8 w => ?_⟩
        · obtain ⟨z1, w13, rfl⟩ := w
          obtain ⟨x, hxm, rfl⟩ : ∃ x ∈ spanL k rule d, it = .int x := by
            have hm := List.mem_of_getElem? ht
            have hm2 : it ∈ (spanL k rule d).map PyData.int := by
              rcases List.mem_append.mp hm with hm | hm
              · exact mem_cut hm
              · exact mem_cut hm
            obtain ⟨x, hx, e⟩ := List.mem_map.mp hm2
            exact ⟨x, hx, e.symm⟩
          have ev := dp_int hv
          subst ev
          have s68 := s7.trans z1
          refine rg_name 13 ?_ scLaw.nd
          exact rb_ifF ((xt_not (xt_val (M := [b]) (xd_shownR (CK := CK) (L6.mono s68) GR hr FR ko hrule hd1 hxm (xv_name 5 rfl) (hk6.up (hid_mono s68)) (xd_name 3 rfl (hv6.up (hid_mono s68))) (xv_name 4 rfl) (xv_name 7 rfl) (xv_name 13 rfl)))).to rfl) fun K9 s9 => rb_nil ⟨z1.trans s9, _, rfl⟩
        obtain ⟨z1, w13, rfl⟩ := w
        have s68 := s7.trans z1
        have L8 := L6.mono s68
        have kf8 := kf6.up (hid_mono (M := [b]) s68)
        have kd8 := kd6.up (hid_mono (M := [b]) s68)
        have hk8 := hk6.up (hid_mono (M := [b]) s68)
        -- others are not
        refine rb_for (M := [b]) (XL.dd (xl_cat L8 (XL.dd ((xl_comp (own := [("_law_each", 9)]) (fOut (spanL k rule d)) L8 scLaw.nd (xd_name 12 rfl kd8) (blkOk_by (own := [("_law_each", 9)]) (N := lawN) (sc := defScope sLaw) (by decide +kernel)) (by rw [List.length_map]; omega) (fun p dt v H3 hd hp s3 Lp hv => ?compOut)).to (fOut_all _ _)) L8) (xd_lst (ds := [1440 * d + 7777, 0].map PyData.int) L8 (xa_cons (xd_add (xd_mul xd_int (xv_name 7 rfl).int (.inl (by decide))) xd_int) (xa_cons xd_int xa_nil))) (by
          rw [List.length_map, List.length_map]
          have := List.length_filter_le (fun x => !decide (x ∈ spanL k rule d)) (dueI k d)
          show _ + 2 ≤ _
          omega)) L8) fun K9 s9 => ⟨fun t σ' K8' => Same K9 K8' ∧ ∃ w13, σ' = [some (.ref a), some (.int (i : Int)), some (.ref b), some vp, some (.str rule), some (.ref kz), some (.int need), some (.int d), some (.ref pf), v9, w10, w11, some (.ref pd), w13], ⟨Same.refl _, w13, rfl⟩, fun t σ' K8' w => hid_mono w.1, fun t it ht σ' K8' v w hv => ?_, fun σ' K8' w => ?_⟩
        case compOut =>
          obtain ⟨x, hxm, rfl⟩ := List.mem_map.mp hd
          have ex := dp_int hv
          subst ex
          have kfp : Dq K (hid (p :: [b]) H3) (.ref pf) (.list ((spanL k rule d).map PyData.int)) := kf8.up (hid_step hp s3)
          intro s0 H0 C0 cl fp
          refine rg_name 9 ⟨rfl, bt_one (k := !decide (x ∈ spanL k rule d)) (fun s0 H0 C0 cl fp => xt_notInI (M := p :: [b]) (xv_name 9 rfl).int (xd_name 8 rfl kfp)) fun H4 s4 => ⟨s4, ?_⟩⟩ scLaw.nd
          by_cases c : x ∈ spanL k rule d
          · exact .inr ⟨by rw [decide_eq_true c]; rfl, if_pos c⟩
          · exact .inl ⟨by rw [decide_eq_false c]; rfl, .int x, if_neg c, fun s0 H0 C0 cl fp => XV.go (xv_name 9 rfl) fun H5 s5 => ⟨s5, .int x⟩⟩
        · obtain ⟨z2, x13, rfl⟩ := w
          obtain ⟨x, rfl⟩ : ∃ x, it = .int x := by
            have hm := List.mem_of_getElem? ht
            rcases List.mem_append.mp hm with hm | hm
            · obtain ⟨x, _, e⟩ := List.mem_map.mp hm
              exact ⟨x, e.symm⟩
            · obtain ⟨x, _, e⟩ := List.mem_map.mp hm
              exact ⟨x, e.symm⟩
          have ev := dp_int hv
          subst ev
          have s89 := s9.trans z2
          have kf9 := kf8.up (hid_mono (M := [b]) s89)
          refine rg_name 13 ?_ scLaw.nd
          by_cases c : x ∈ spanL k rule d
          · exact rb_ifF ((xt_and2 (k2 := false) (xt_notInI (M := [b]) (xv_name 13 rfl).int (xd_name 8 rfl kf9)) fun z => (by rw [decide_eq_true c] at z; cases z)).to (Bool.and_false _)) fun Ka sa => rb_nil ⟨z2.trans sa, _, rfl⟩
          · exact rb_ifF ((xt_and2 (xt_notInI (M := [b]) (xv_name 13 rfl).int (xd_name 8 rfl kf9)) fun _ => xt_notNone (M := [b]) (xd_shownN (CZ := CZ) (CK := CK) (L8.mono s89) GN hr8 FN ko hrule hd1 c (xv_name 5 rfl) (hk8.up (hid_mono s89)) (xv_name 4 rfl) (xv_name 7 rfl) (xv_name 13 rfl))).to (Bool.and_false _)) fun Ka sa => rb_nil ⟨z2.trans sa, _, rfl⟩
        -- the told list grows
        obtain ⟨z2, x13, rfl⟩ := w
        have sKe := (((s4'.trans s5).trans s6).trans s68).trans (s9.trans z2)
        refine rb_append (M := [pf, b]) (List.mem_cons_self ..) (xv_name 8 rfl) (sKe _ _ hpK) xd_str (by rw [List.length_map]; omega) fun ve Ke se hve => rb_nil ?_
        have sJe : SameB b J Ke := sJK.trans (.of (sKe.trans se))
        refine ⟨fun y o ny e => ?_, ?_, _, _, _, _, _, _, _, rfl⟩
        · rw [upd_ne (ne_of_none (sJ y o ny e) hpf)]
          exact sJe y o ny e
        · obtain ⟨g, mm', c, e1, e2, e3, e4, e5⟩ := hBK.up (sKe.trans se) (Nat.le_refl _)
          exact ⟨g, mm', c, by rw [upd_ne (Ne.symm hpfb)]; exact e1, e2, e3, e4, by omega⟩
      · obtain ⟨sJ, hBJ, v7, v8, v9, v10, v11, v12, v13, rfl⟩ := hw
        exact rb_nil ⟨sH0.trans fun y o e => sJ y o (ne_of_none e hb0) (s0i y o e), _, _, _, _, _, _, _, _, _, _, _, _, _, rfl⟩
    · obtain ⟨sH0, u1, u2, u3, u4, u5, u6, u7, u8, u9, u10, u11, u12, u13, rfl⟩ := w
      exact rb_ret (M := []) xd_bl fun v H1 s1 hv => by
        rw [dp_bl hv]
        exact q H1 (sH0.trans s1)
end
end Zn

set_option Elab.async false
set_option linter.all false
set_option maxRecDepth 100000
set_option maxHeartbeats 8000000
namespace Zn
open PySem PySem.Spec PyProof.Rows L2 Dl
/-! ### the law called behind the top -/
section
variable {P : Program} {w : World} {K : PySem.W.Frag} {mg mb : Str → Option Value} {fa a : Addr} {fd : FuncData} {t : Shared} {us : List Value} {ns : List Int}
/-- from a heap H that tells of the script at most -/
theorem head_from {H : Hp} (KX : K.In t.heap) (hg : t.heap.Ns mainGlobals mg) (hb : t.heap.Ns builtinsNs mb) (hbb : ∀ x : Str, x ≠ "__name__" → mb x = bootBuiltins x) (hlim : t.heap.NoLimit) (gens : t.gens = #[])
    (hobj : t.heap.get? a = some { cls := .type "list", data := .seq us.toArray })
    (F : ∀ base : Heap, K.In base → base.Ns mainGlobals mg → FnG P w K mg base 10 fa fd ["_law_script"] (spLaw K)) (hbd : ∀ (s : Shared) (u : Value), BindsTo s fd ⟨[u], []⟩ [("_law_script", u)])
    (only : Only H) (hS : SqL K H a (ns.map V.int)) (hok : HOk P w H t.heap) (at1 : ∀ b, H b ≠ none → b = a) (nk : H a ≠ none → K.lookup a = none) :
    codeAny (model P w) callerA (.call (.ref fa) ⟨[.ref a], []⟩) (fun r s => r = .ok (.ret (.bool true)) ∧ OldK t.heap s.heap ∧ s.os = t.os ∧ AllBare s.gens) t := by
  have kept : ∀ {b : Addr} {o : Obj}, t.heap.get? b = some o → H b = none → (hidT t.heap H).get? b = some o := fun p q => hidT_get p q
  have free : ∀ {b : Addr} {o : Obj}, t.heap.get? b = some o → (b = a → False) → H b = none := fun {b o} _ nb => Classical.byContradiction fun z => nb (at1 b z)
  have spaces : ∀ {b : Addr} {m : Str → Option Value}, t.heap.Ns b m → (hidT t.heap H).Ns b m := fun {b m} z => by
    obtain ⟨o, es, ep, p, q, r⟩ := z
    refine ⟨o, es, ep, kept p (free p fun e => ?_), q, r⟩
    rw [e, hobj] at p
    injection p with p
    rw [← p] at q
    injection q
  have kin : K.In (hidT t.heap H) := fun b o e => kept (KX b o e) (Classical.byContradiction fun z => by
    have eb := at1 b z
    rw [eb] at z e
    rw [nk z] at e
    cases e)
  obtain ⟨mc, hl1, hl2⟩ := hlim
  have md : Mod K mg (hidT t.heap H) := ⟨kin, spaces hg, ⟨mb, spaces hb, hbb⟩, mc, spaces hl1, hl2⟩
  have env : Env0 P w K mg (hidT t.heap H) callerA [] t H := { frames := rfl, mod := md, bs := fun b o e => of_hidT e, bsz := Nat.le_of_eq (hidT_size _ _), funs := trivial, frf := fun b z => absurd z List.not_mem_nil, hok := hok, bare := .of_eq gens }
  have run := (F _ kin (spaces hg)).run callerA rfl ⟨rfl, by decide, by decide⟩ [] t H ⟨[.ref a], []⟩ [.ref a] [.ref a] (fun v _ => v = .bl true) (fun _ _ _ => False) env (hbd t (.ref a)) (.cons rfl .nil) ⟨a, ns, rfl, hS, fun _ _ => rfl⟩
  refine codeAny_mono run fun r s z => ?_
  match r, z with
  | .error e, z => exact z.elim
  | .ok .next, z => exact z.elim
  | .ok .brk, z => exact z.elim
  | .ok .cont, z => exact z.elim
  | .ok (.ret u), z =>
    obtain ⟨v, H2, os, bare, un, hok2, rv, ev⟩ := z
    have ev' : v = .bl true := ev
    rw [ev'] at rv
    have eu : u = Value.bool true := rv
    rw [eu]
    refine ⟨rfl, OldK.of_keep fun b o e => ?_, os, bare⟩
    rcases only b with n | ⟨ob, xs, fz⟩
    · exact un.keep b o e n (fun q => absurd (show b ∈ ([] : List Addr) from q) List.not_mem_nil) (by simp)
    · have p1 := (hok b _ fz).1
      have p2 := (hok2 b _ (un.frzs b ob _ fz)).1
      rw [e] at p1
      injection p1 with p1
      rw [p1]
      exact p2
/-- the law, called with a script -/
theorem head_g (KX : K.In t.heap) (hg : t.heap.Ns mainGlobals mg) (hb : t.heap.Ns builtinsNs mb) (hbb : ∀ x : Str, x ≠ "__name__" → mb x = bootBuiltins x) (hlim : t.heap.NoLimit) (gens : t.gens = #[])
    (hobj : t.heap.get? a = some { cls := .type "list", data := .seq us.toArray }) (hi : IntsAre us ns) (hl : ns.length ≤ sizeLine)
    (F : ∀ base : Heap, K.In base → base.Ns mainGlobals mg → FnG P w K mg base 10 fa fd ["_law_script"] (spLaw K)) (hbd : ∀ (s : Shared) (u : Value), BindsTo s fd ⟨[u], []⟩ [("_law_script", u)]) :
    codeAny (model P w) callerA (.call (.ref fa) ⟨[.ref a], []⟩) (fun r s => r = .ok (.ret (.bool true)) ∧ OldK t.heap s.heap ∧ s.os = t.os ∧ AllBare s.gens) t := by
  have vi := vals_ints hi
  have el := hi.length
  rcases lk : K.lookup a with _ | o
  · have e1 : ∀ b, b ≠ a → (if b = a then some (HO.frz { cls := .type "list", data := .seq us.toArray } (.lst (ns.map V.int))) else none) = none := fun b n => if_neg n
    refine head_from (H := fun b => if b = a then some (.frz { cls := .type "list", data := .seq us.toArray } (.lst (ns.map V.int))) else none) (ns := ns) KX hg hb hbb hlim gens hobj F hbd (fun b => ?_) (.inl (.inr ⟨_, if_pos rfl⟩)) (fun b u z => ?_) (fun b z => Classical.byContradiction fun n => z (e1 b n)) fun _ => lk
    · exact (Classical.em (b = a)).elim (fun z => .inr ⟨_, _, if_pos z⟩) fun z => .inl (e1 b z)
    · rcases Classical.em (b = a) with e | e
      · rw [e] at z ⊢
        have z' := (if_pos rfl).symm.trans z
        injection z' with z'
        rw [← z']
        exact ⟨hobj, by rw [List.length_map]; exact hl, us, _, vi, hobj⟩
      · exact absurd ((e1 b e).symm.trans z) (fun q => nomatch q)
  · have e := KX a o lk
    rw [hobj] at e
    injection e with e
    rw [← e] at lk
    exact head_from (H := fun _ => none) (ns := ns) KX hg hb hbb hlim gens hobj F hbd (fun _ => .inl rfl) (.inr ⟨_, us.toArray, _, lk, rfl, rfl, rfl, by rw [List.size_toArray, el]; exact hl, by simpa using vi⟩) (fun _ _ z => nomatch z) (fun _ z => absurd rfl z) (fun z => absurd rfl z)
end
theorem walk_g {l : PySem.W.OpenLaw} {q : Program} {loose : List Str} {XP : (Str → Option Value) → Heap → Prop} {YP : World → Heap → Prop} {d : DefRec} {K : Params → PySem.W.Frag} (hn : l.most = some 63) (hdf : d.params.defaults = [])
    (hY : ∀ (w : World) (h : Heap), YP w h → (K w.params).In h)
    (F : ∀ (w : World) (mg : Str → Option Value) (fa : Addr) (h : Heap), (K w.params).In h → h.Ns mainGlobals mg → mg d.name = some (.ref fa) →
      ∃ fd : FuncData, (∀ (s : Shared) (u : Value), BindsTo s fd ⟨[u], []⟩ [("_law_script", u)]) ∧ ∀ base : Heap, (K w.params).In base → base.Ns mainGlobals mg → FnG l.prog w (K w.params) mg base 10 fa fd ["_law_script"] (spLaw (K w.params))) :
    PySem.W.WalkO q loose XP YP l.row.toRowW d [] (fun f vs => PySem.call f vs) :=
  Att.attach_call hn hdf fun w _ s1 mg _ fa _ _ _ _ a us ns G Y _ _ _ hm hobj hi hl hg => by
    have KX := hY w _ Y
    obtain ⟨fd, hb, hF⟩ := F w mg fa _ KX G.T.g hm
    exact head_g KX G.T.g G.T.b G.T.builtins G.T.nolimit hg hobj hi (Nat.le_trans hl (by decide)) hF hb
end Zn

set_option Elab.async false
set_option linter.all false
set_option maxRecDepth 100000
set_option maxHeartbeats 8000000
namespace Zn
open PySem PySem.Spec PyProof.Rows L2 Dl
/-! ### what the start has written, put together -/
def DfE (K : PySem.W.Frag) (mg : Str → Option Value) (x : Str) (st : Stmt) (ps : List Str) : Prop := ∃ f fd, Df K mg x st ps f fd
theorem df_mk {K : PySem.W.Frag} {h : Heap} {mg : Str → Option Value} {x : Str} {st : Stmt} {ps : List Str} {f : Addr} {od an : Option Addr} {osl : Array (Option Value)} {oc kV dc pm cd ct : Value} (X : K.In h) (G : h.Ns mainGlobals mg)
    (a : PySem.W.nsIn K mainGlobals x = some (some (.ref f))) (l : K.lookup f = some ⟨oc, od, .func (PySem.W.fnOf x x (defArgs st) (defBody st) (defScope st) .none kV dc pm an cd ct), osl⟩) (c : PySem.W.codeIn K cd x = true) (k : PySem.W.keepIn K (.ref f) = true)
    (hb : ∀ (us : List Value), us.length = ps.length → bindArgs (PySem.W.fnOf x x (defArgs st) (defBody st) (defScope st) .none kV dc pm an cd ct) ⟨us, []⟩ = pure (ps.zip us)) : DfE K mg x st ps :=
  ⟨f, _, fun_mk l c k, PySem.W.mg_of X G a, .all hb⟩
def MtE (K : PySem.W.Frag) (C : Addr) (x q : Str) (st : Stmt) (ps : List Str) : Prop := ∃ f fd, Mt K C x q st ps f fd
theorem mt_mk {K : PySem.W.Frag} {C : Addr} {x q : Str} {st : Stmt} {ps : List Str} {f : Addr} {od an : Option Addr} {osl : Array (Option Value)} {oc kV dc pm cd ct : Value}
    (a : PySem.W.findIn K (.ref C) x = some (some (.ref f))) (i : PySem.W.isFn K (.ref f) = true) (l : K.lookup f = some ⟨oc, od, .func (PySem.W.fnOf x q (defArgs st) (defBody st) (defScope st) .none kV dc pm an cd ct), osl⟩) (c : PySem.W.codeIn K cd q = true) (k : PySem.W.keepIn K (.ref f) = true)
    (hb : ∀ (us : List Value), us.length = ps.length → bindArgs (PySem.W.fnOf x q (defArgs st) (defBody st) (defScope st) .none kV dc pm an cd ct) ⟨us, []⟩ = pure (ps.zip us)) : MtE K C x q st ps :=
  ⟨f, _, fun_mk l c k, .all hb, a, i, k⟩
/-- a property -/
def PrE (K : PySem.W.Frag) (C : Addr) (x q : Str) (st : Stmt) : Prop := ∃ pp f fd, PropOf K C x pp f ∧ Fun K x q st f fd ∧ Binds K fd ["self"] []
theorem prE_mk {K : PySem.W.Frag} {C pp f : Addr} {x q : Str} {st : Stmt} {od an : Option Addr} {osl : Array (Option Value)} {oc kV dc pm cd ct : Value} {rest : List Value} (a : PySem.W.findIn K (.ref C) x = some (some (.ref pp))) (b : PySem.W.specialIn K (.ref pp) "__get__" = some (some (.builtin "property.__get__"))) (t : PySem.W.takesIn K (.ref pp) = some true)
    (r : PySem.W.recIn K pp "property" = some (.ref f :: rest)) (l : K.lookup f = some ⟨oc, od, .func (PySem.W.fnOf x q (defArgs st) (defBody st) (defScope st) .none kV dc pm an cd ct), osl⟩) (c : PySem.W.codeIn K cd q = true) (k : PySem.W.keepIn K (.ref f) = true)
    (hb : ∀ (us : List Value), us.length = 1 → bindArgs (PySem.W.fnOf x q (defArgs st) (defBody st) (defScope st) .none kV dc pm an cd ct) ⟨us, []⟩ = pure ([("self" : Str)].zip us)) : PrE K C x q st :=
  ⟨pp, f, _, ⟨a, b, t, rest, r⟩, fun_mk l c k, .all hb⟩
structure ZC (K : PySem.W.Frag) (C : Addr) : Prop where
  aC : PySem.W.nsIn K mainGlobals "Zone" = some (some (.ref C))
  pg : PySem.W.plainGet K C Str.empty = true
  hd : PySem.W.hasDictIn K C = true
  po : PySem.W.plainOver K C = true
  sa : PySem.W.findIn K (.ref C) "__setattr__" = some (some (.builtin "object.__setattr__"))
  ha : PySem.W.findIn K (.ref C) "__class__" = some (some (.builtin "object.__class__"))
  hm : PySem.W.mroIn K C (.type "object") = some true
  bq : (Value.ref C == Value.ref C) = true
  mks : PySem.W.makesIn K C = true
  kc : PySem.W.keepIn K (.ref C) = true
  no : PySem.W.kitOne K (.type "list") (.ref C) = some false
  nB : PySem.W.findIn K (.ref C) "base" = some none
  nR : PySem.W.findIn K (.ref C) "rows" = some none
  mC : MtE K C "changes" "Zone.changes" sChanges ["self"]
  mJ : MtE K C "jump_list" "Zone.jump_list" sJumps ["self"]
  mL : MtE K C "__len__" "Zone.__len__" sLen ["self"]
  pf : PrE K C "first" "Zone.first" sFirst
structure KC (K : PySem.W.Frag) (C : Addr) : Prop where
  aC : PySem.W.nsIn K mainGlobals "Kind" = some (some (.ref C))
  pg : PySem.W.plainGet K C Str.empty = true
  hd : PySem.W.hasDictIn K C = true
  po : PySem.W.plainOver K C = true
  sa : PySem.W.findIn K (.ref C) "__setattr__" = some (some (.builtin "object.__setattr__"))
  ha : PySem.W.findIn K (.ref C) "__class__" = some (some (.builtin "object.__class__"))
  hm : PySem.W.mroIn K C (.type "object") = some true
  bq : (Value.ref C == Value.ref C) = true
  mks : PySem.W.makesIn K C = true
  kc : PySem.W.keepIn K (.ref C) = true
  nS : PySem.W.findIn K (.ref C) "sizes" = some none
  nD : PySem.W.findIn K (.ref C) "distance" = some none
  nM : PySem.W.findIn K (.ref C) "many" = some none
  mH : MtE K C "has" "Kind.has" sHas ["self", "zone"]
  mW : MtE K C "why_not" "Kind.why_not" sWhy ["self", "zone"]
  pj : PrE K C "jumps" "Kind.jumps" sKJumps
  pa : PrE K C "apart" "Kind.apart" sKApart
  pm : PrE K C "most" "Kind.most" sKMost
/-- what all classes share -/
structure ObF (K : PySem.W.Frag) : Prop where
  hn : PySem.W.specialIn K (.builtin "object.__class__") "__get__" = some (some (.builtin "getset_descriptor.__get__"))
  htk : PySem.W.takesIn K (.builtin "object.__class__") = some true
/-- the class's maker -/
structure InF (K : PySem.W.Frag) (C : Addr) : Prop where
  ex : ∃ (f dt et : Addr) (od an : Option Addr) (osl : Array (Option Value)) (oc kV dc pm cd ct : Value) (o oe : Obj) (n ne : Nat), PySem.W.findIn K (.ref C) "__init__" = some (some (.ref f)) ∧ PySem.W.isFn K (.ref f) = true ∧
    K.lookup f = some ⟨oc, od, .func (PySem.W.fnOf "__init__" "Zone.__init__" (defArgs sInit) (defBody sInit) (defScope sInit) (.ref dt) kV dc pm an cd ct), osl⟩ ∧ PySem.W.codeIn K cd "Zone.__init__" = true ∧
    K.lookup dt = some o ∧ o.data = .seq #[.ref et] n ∧ K.lookup et = some oe ∧ oe.cls = .type "tuple" ∧ oe.data = .seq #[] ne
theorem in_mk {K : PySem.W.Frag} {C f dt et : Addr} {od an : Option Addr} {osl : Array (Option Value)} {oc kV dc pm cd ct : Value} {o oe : Obj} {n ne : Nat} (a : PySem.W.findIn K (.ref C) "__init__" = some (some (.ref f))) (i : PySem.W.isFn K (.ref f) = true)
    (l : K.lookup f = some ⟨oc, od, .func (PySem.W.fnOf "__init__" "Zone.__init__" (defArgs sInit) (defBody sInit) (defScope sInit) (.ref dt) kV dc pm an cd ct), osl⟩) (c : PySem.W.codeIn K cd "Zone.__init__" = true)
    (d : K.lookup dt = some o) (dd : o.data = .seq #[.ref et] n) (e : K.lookup et = some oe) (ec : oe.cls = .type "tuple") (ed : oe.data = .seq #[] ne) : InF K C :=
  ⟨⟨f, dt, et, od, an, osl, oc, kV, dc, pm, cd, ct, o, oe, n, ne, a, i, l, c, d, dd, e, ec, ed⟩⟩
/-- the maker of kinds -/
structure KnF (K : PySem.W.Frag) (C : Addr) : Prop where
  ex : ∃ (f dt : Addr) (t : Tok) (od an : Option Addr) (osl : Array (Option Value)) (oc kV dc pm cd ct : Value) (o : Obj) (n : Nat), PySem.W.findIn K (.ref C) "__init__" = some (some (.ref f)) ∧ PySem.W.isFn K (.ref f) = true ∧
    K.lookup f = some ⟨oc, od, .func (PySem.W.fnOf "__init__" "Kind.__init__" (defArgs sKInit) (defBody sKInit) (defScope sKInit) (.ref dt) kV dc pm an cd ct), osl⟩ ∧ PySem.W.codeIn K cd "Kind.__init__" = true ∧ K.lookup dt = some o ∧ o.data = .seq #[.int 2 t] n
theorem kn_mk {K : PySem.W.Frag} {C f dt : Addr} {t : Tok} {od an : Option Addr} {osl : Array (Option Value)} {oc kV dc pm cd ct : Value} {o : Obj} {n : Nat} (a : PySem.W.findIn K (.ref C) "__init__" = some (some (.ref f))) (i : PySem.W.isFn K (.ref f) = true)
    (l : K.lookup f = some ⟨oc, od, .func (PySem.W.fnOf "__init__" "Kind.__init__" (defArgs sKInit) (defBody sKInit) (defScope sKInit) (.ref dt) kV dc pm an cd ct), osl⟩) (c : PySem.W.codeIn K cd "Kind.__init__" = true) (d : K.lookup dt = some o) (dd : o.data = .seq #[.int 2 t] n) : KnF K C :=
  ⟨⟨f, dt, t, od, an, osl, oc, kV, dc, pm, cd, ct, o, n, a, i, l, c, d, dd⟩⟩
theorem binds_kinit {K : PySem.W.Frag} {dt : Addr} {t : Tok} {an : Option Addr} {kV dc pm cd ct : Value} {o : Obj} {n : Nat} (ld : K.lookup dt = some o) (dd : o.data = .seq #[.int 2 t] n) :
    Binds K (PySem.W.fnOf "__init__" "Kind.__init__" (defArgs sKInit) (defBody sKInit) (defScope sKInit) (.ref dt) kV dc pm an cd ct) ["self", "jumps", "apart", "most"] [] ∧ Binds K (PySem.W.fnOf "__init__" "Kind.__init__" (defArgs sKInit) (defBody sKInit) (defScope sKInit) (.ref dt) kV dc pm an cd ct) ["self", "jumps", "apart", "most"] [.int 2 t] :=
  ⟨fun s us X hl => by
    rw [List.append_nil] at hl ⊢
    match us, hl with
    | [_, _, _, _], _ => exact PySem.W.binds_K X rfl ld dd rfl rfl, fun s us X hl => by
    rw [List.length_append] at hl
    have h2 : us.length = 3 := by simpa using hl
    match us, h2 with
    | [_, _, _], _ => exact PySem.W.binds_K X rfl ld dd rfl rfl⟩
def GlI (K : PySem.W.Frag) (x : Str) (n : Int) : Prop := ∃ t, PySem.W.nsIn K mainGlobals x = some (some (.int n t))
theorem gi_mk {K : PySem.W.Frag} {x : Str} {n : Int} {t : Tok} (h : PySem.W.nsIn K mainGlobals x = some (some (.int n t))) : GlI K x n := ⟨t, h⟩
structure Gls (K : PySem.W.Frag) : Prop where
  g1 : GlI K "GREATEST_JUMP" 720
  g2 : GlI K "MOST_JUMPS" 4
  g3 : GlI K "MOST_CHANGES" 3
  g4 : GlI K "DAY_LENGTH" 1440
theorem kit_self {K : PySem.W.Frag} {C : Addr} (h : (Value.ref C == Value.ref C) = true) : PySem.W.kitOne K (.ref C) (.ref C) = some true := by
  unfold PySem.W.kitOne
  exact if_pos h
theorem kit_list {K : PySem.W.Frag} {C : Addr} {co} (h : (Value.type "list" == Value.ref C) = false) (c : PySem.W.clsIn K C = some co) (t : PySem.W.typeIn K (.ref C) = some (.type "type")) (s : PySem.W.subIn K (.type "list") (.ref C) = some false) : PySem.W.kitOne K (.type "list") (.ref C) = some false := by
  unfold PySem.W.kitOne
  rw [if_neg (by rw [h]; decide)]
  unfold PySem.W.kitCls
  show (if ((PySem.W.clsIn K C).isSome && PySem.W.typeIn K (.ref C) == some (.type "type")) = true then PySem.W.subIn K (.type "list") (.ref C) else none) = some false
  rw [c, t, if_pos (by rfl), s]
theorem binds_init {K : PySem.W.Frag} {dt et : Addr} {an : Option Addr} {kV dc pm cd ct : Value} {o : Obj} {n : Nat} (ld : K.lookup dt = some o) (dd : o.data = .seq #[.ref et] n) :
    Binds K (PySem.W.fnOf "__init__" "Zone.__init__" (defArgs sInit) (defBody sInit) (defScope sInit) (.ref dt) kV dc pm an cd ct) ["self", "offset", "changes"] [] ∧ Binds K (PySem.W.fnOf "__init__" "Zone.__init__" (defArgs sInit) (defBody sInit) (defScope sInit) (.ref dt) kV dc pm an cd ct) ["self", "offset", "changes"] [.ref et] :=
  ⟨fun s us X hl => by
    rw [List.append_nil] at hl ⊢
    match us, hl with
    | [_, _, _], _ => exact PySem.W.binds_K X rfl ld dd rfl rfl, fun s us X hl => by
    rw [List.length_append] at hl
    have h2 : us.length = 2 := by simpa using hl
    match us, h2 with
    | [_, _], _ => exact PySem.W.binds_K X rfl ld dd rfl rfl⟩
/-- the tuple of the rules, as the start has laid it -/
structure RuF (K : PySem.W.Frag) : Prop where
  ex : ∃ (a : Addr) (o : Obj) (t1 t2 t3 : Tok) (n : Nat), PySem.W.nsIn K mainGlobals "RULES" = some (some (.ref a)) ∧ K.lookup a = some o ∧ o.cls = .type "tuple" ∧ o.data = .seq #[.str "ahead" t1, .str "behind" t2, .str "strict" t3] n
theorem ru_mk {K : PySem.W.Frag} {a : Addr} {o : Obj} {t1 t2 t3 : Tok} {n : Nat} (g : PySem.W.nsIn K mainGlobals "RULES" = some (some (.ref a))) (l : K.lookup a = some o) (c : o.cls = .type "tuple") (d : o.data = .seq #[.str "ahead" t1, .str "behind" t2, .str "strict" t3] n) : RuF K :=
  ⟨a, o, t1, t2, t3, n, g, l, c, d⟩
structure NoB (K : PySem.W.Frag) : Prop where
  isi : PySem.W.nsIn K mainGlobals "isinstance" = some none
  int : PySem.W.nsIn K mainGlobals "int" = some none
  bool : PySem.W.nsIn K mainGlobals "bool" = some none
  lst : PySem.W.nsIn K mainGlobals "list" = some none
  tup : PySem.W.nsIn K mainGlobals "tuple" = some none
  len : PySem.W.nsIn K mainGlobals "len" = some none
  abs : PySem.W.nsIn K mainGlobals "abs" = some none
  min : PySem.W.nsIn K mainGlobals "min" = some none
  max : PySem.W.nsIn K mainGlobals "max" = some none
  rep : PySem.W.nsIn K mainGlobals "repr" = some none
  rng : PySem.W.nsIn K mainGlobals "range" = some none
  srt : PySem.W.nsIn K mainGlobals "sorted" = some none
  enu : PySem.W.nsIn K mainGlobals "enumerate" = some none
  zip : PySem.W.nsIn K mainGlobals "zip" = some none
  set : PySem.W.nsIn K mainGlobals "set" = some none
  sum : PySem.W.nsIn K mainGlobals "sum" = some none
  str : PySem.W.nsIn K mainGlobals "str" = some none
structure DfA (K : PySem.W.Frag) (mg : Str → Option Value) : Prop where
  d0 : DfE K mg "is_whole" sWhole ["value"]
  d1 : DfE K mg "is_whole_pair" sPair ["value"]
  d2 : DfE K mg "is_integer" sIsInt ["value", "low", "high"]
  d3 : DfE K mg "need_integer" sNeed ["value"]
  d4 : DfE K mg "day_of" sDayOf ["reading"]
  d5 : DfE K mg "time_of" sTimeOf ["reading"]
  d6 : DfE K mg "rows_of" sRows ["offset", "changes"]
  d7 : DfE K mg "can_follow" sFollow ["rows", "row"]
  d8 : DfE K mg "is_jump" sIsJump ["value"]
  d9 : DfE K mg "jump_of" sJump ["row"]
  d10 : DfE K mg "is_rule" sIsRule ["value"]
  d11 : DfE K mg "need_zone" sNeedZ ["value"]
  d12 : DfE K mg "checked_jumps" sChk ["jumps"]
  d13 : DfE K mg "need_kind" sNeedK ["value"]
  d14 : DfE K mg "zone_with" sZW ["offset", "steps"]
  d15 : DfE K mg "need_rule" sNeedR ["value"]
  d16 : DfE K mg "spans" sSpans ["kind", "rule", "days"]
  d17 : DfE K mg "span_shown" sShown ["kind", "rule", "days", "span"]
  d18 : DfE K mg "need_spans" sNeedS ["kind", "rule", "days"]
  d19 : DfE K mg "need_days" sNeedDs ["value"]
  d20 : DfE K mg "chains" sChains ["kind"]
  d21 : DfE K mg "span_over" sOver ["jumps", "days"]
  d22 : DfE K mg "near_changes" sNear ["kind", "jumps"]
  d23 : DfE K mg "last_ahead" sLastA ["rule", "jumps"]
  d24 : DfE K mg "first_behind" sFirstB ["kind", "rule", "jumps"]
  d25 : DfE K mg "has_room" sRoom ["kind", "rule", "days", "jumps"]
  d26 : DfE K mg "_law_cell" sCell ["_law_script", "_law_index"]
  d27 : DfE K mg "_law_bag" sBag ["_law_cell_here"]
  d28 : DfE K mg "_law_take" sTake ["_law_bag_here", "_law_many"]
  d29 : DfE K mg "_law_kind" sLKind ["_law_bag_here"]
  d30 : DfE K mg "_law_is_of" sLIsOf ["_law_kind_here", "_law_plan"]
  d31 : DfE K mg "_law_changes" sLChanges ["_law_plan"]
  d32 : DfE K mg "_law_offset" sLOff ["_law_plan", "_law_moment"]
  d33 : DfE K mg "_law_moments" sLMom ["_law_plan", "_law_reading"]
  d34 : DfE K mg "_law_place" sLPlace ["_law_plan", "_law_reading", "_law_rule"]
  d35 : DfE K mg "_law_sums" sLSums ["_law_kind_here"]
  d36 : DfE K mg "_law_difference" sLDiff ["_law_plan", "_law_reading", "_law_days", "_law_rule"]
  d37 : DfE K mg "_law_tight" sLTight ["_law_bag_here", "_law_kind_here", "_law_days"]
  d38 : DfE K mg "_law_shown_right" sLShownR ["_law_kind_here", "_law_plain", "_law_rule", "_law_days", "_law_span"]
  d39 : DfE K mg "_law_least_right" sLLeast ["_law_bag_here", "_law_kind_here", "_law_plain", "_law_rule"]
  d40 : DfE K mg "law" sLaw ["_law_script"]
theorem al_of {P : Program} {w : World} {K : PySem.W.Frag} {h : Heap} {mg : Str → Option Value} {base : Heap} {CZ CK : Addr} (X : K.In h) (G : h.Ns mainGlobals mg) (hGl : Gls K) (B : NoB K) (D : DfA K mg) (O : ObF K) (Q : ZC K CZ) (R : KC K CK) (U : RuF K) (J : InF K CZ) (N : KnF K CK) : Al P w K mg base CZ CK := by
  have T : Nm mg := ⟨PySem.W.mg_none_of X G B.isi, PySem.W.mg_none_of X G B.int, PySem.W.mg_none_of X G B.bool, PySem.W.mg_none_of X G B.lst, PySem.W.mg_none_of X G B.tup, PySem.W.mg_none_of X G B.len, PySem.W.mg_none_of X G B.abs, PySem.W.mg_none_of X G B.min, PySem.W.mg_none_of X G B.max, PySem.W.mg_none_of X G B.rep, PySem.W.mg_none_of X G B.rng⟩
  have hsrt := PySem.W.mg_none_of X G B.srt
  have henu := PySem.W.mg_none_of X G B.enu
  have hzip := PySem.W.mg_none_of X G B.zip
  have hset := PySem.W.mg_none_of X G B.set
  have hsum := PySem.W.mg_none_of X G B.sum
  have hstr := PySem.W.mg_none_of X G B.str
  have Z : ZT K mg CZ := ⟨⟨Q.pg, Q.hd, Q.po, Q.sa⟩, Q.nB, Q.nR, PySem.W.mg_of X G Q.aC⟩
  have Y : KT K mg CK := ⟨⟨R.pg, R.hd, R.po, R.sa⟩, R.nS, R.nD, R.nM, PySem.W.mg_of X G R.aC⟩
  have IZ : ZI K CZ := ⟨Q.ha, O.hn, O.htk, Q.hm, kit_self Q.bq, Q.no⟩
  have IK : KI K CK := ⟨R.ha, O.hn, O.htk, R.hm, kit_self R.bq⟩
  obtain ⟨⟨tg, hg⟩, ⟨tg2, hg2⟩, ⟨tg3, hg3⟩, ⟨tg4, hg4⟩⟩ := hGl
  have hG : ∃ t, mg "GREATEST_JUMP" = some (.int 720 t) := ⟨tg, PySem.W.mg_of X G hg⟩
  have hG2 : ∃ t, mg "MOST_JUMPS" = some (.int 4 t) := ⟨tg2, PySem.W.mg_of X G hg2⟩
  have hG3 : ∃ t, mg "MOST_CHANGES" = some (.int 3 t) := ⟨tg3, PySem.W.mg_of X G hg3⟩
  have hD : ∃ t, mg "DAY_LENGTH" = some (.int 1440 t) := ⟨tg4, PySem.W.mg_of X G hg4⟩
  have RA : RulesAt K mg := by
    obtain ⟨a, o, t1, t2, t3, n, r1, r2, r3, r4⟩ := U
    exact ⟨a, PySem.W.mg_of X G r1, fun H => .inr ⟨o, _, n, r2, r3, r4, (by show 3 ≤ sizeLine; decide), .cons ⟨t1, rfl⟩ (.cons ⟨t2, rfl⟩ (.cons ⟨t3, rfl⟩ .nil))⟩⟩
  obtain ⟨f0, fd0, F0⟩ := D.d0
  obtain ⟨f1, fd1, F1⟩ := D.d1
  obtain ⟨f2, fd2, F2⟩ := D.d2
  obtain ⟨f3, fd3, F3⟩ := D.d3
  obtain ⟨f4, fd4, F4⟩ := D.d4
  obtain ⟨f5, fd5, F5⟩ := D.d5
  obtain ⟨f6, fd6, F6⟩ := D.d6
  obtain ⟨f7, fd7, F7⟩ := D.d7
  obtain ⟨f8, fd8, F8⟩ := D.d8
  obtain ⟨f9, fd9, F9⟩ := D.d9
  obtain ⟨f10, fd10, F10⟩ := D.d10
  obtain ⟨f11, fd11, F11⟩ := D.d11
  obtain ⟨f12, fd12, F12⟩ := D.d12
  obtain ⟨f13, fd13, F13⟩ := D.d13
  obtain ⟨f14, fd14, F14⟩ := D.d14
  obtain ⟨f15, fd15, F15⟩ := D.d15
  obtain ⟨f16, fd16, F16⟩ := D.d16
  obtain ⟨f17, fd17, F17⟩ := D.d17
  obtain ⟨f18, fd18, F18⟩ := D.d18
  obtain ⟨f19, fd19, F19⟩ := D.d19
  obtain ⟨f20, fd20, F20⟩ := D.d20
  obtain ⟨f21, fd21, F21⟩ := D.d21
  obtain ⟨f22, fd22, F22⟩ := D.d22
  obtain ⟨f23, fd23, F23⟩ := D.d23
  obtain ⟨f24, fd24, F24⟩ := D.d24
  obtain ⟨f25, fd25, F25⟩ := D.d25
  obtain ⟨f26, fd26, F26⟩ := D.d26
  obtain ⟨f27, fd27, F27⟩ := D.d27
  obtain ⟨f28, fd28, F28⟩ := D.d28
  obtain ⟨f29, fd29, F29⟩ := D.d29
  obtain ⟨f30, fd30, F30⟩ := D.d30
  obtain ⟨f31, fd31, F31⟩ := D.d31
  obtain ⟨f32, fd32, F32⟩ := D.d32
  obtain ⟨f33, fd33, F33⟩ := D.d33
  obtain ⟨f34, fd34, F34⟩ := D.d34
  obtain ⟨f35, fd35, F35⟩ := D.d35
  obtain ⟨f36, fd36, F36⟩ := D.d36
  obtain ⟨f37, fd37, F37⟩ := D.d37
  obtain ⟨f38, fd38, F38⟩ := D.d38
  obtain ⟨f39, fd39, F39⟩ := D.d39
  obtain ⟨c1, cd1, C1⟩ := Q.mC
  obtain ⟨c2, cd2, C2⟩ := Q.mJ
  obtain ⟨c3, cd3, C3⟩ := Q.mL
  obtain ⟨zp1, z1, zd1, zh1, ZP1, ZB1⟩ := Q.pf
  obtain ⟨e1, ed1, E1⟩ := R.mH
  obtain ⟨e2, ed2, E2⟩ := R.mW
  obtain ⟨pp1, p1, pd1, hp1, P1, PB1⟩ := R.pj
  obtain ⟨pp2, p2, pd2, hp2, P2, PB2⟩ := R.pa
  obtain ⟨pp3, p3, pd3, hp3, P3, PB3⟩ := R.pm
  obtain ⟨fi, dt, et, od, an, osl, oc, kV, dc, pm, cd, ct, oo, oe, n, ne, i1, i2, i3, i4, i5, i6, i7, i8, i9⟩ := J
  obtain ⟨fk, dk, tk, odk, ank, oslk, ock, kVk, dck, pmk, cdk, ctk, ok, nk, j1, j2, j3, j4, j5, j6⟩ := N
  have W : ZMk P w K mg base CZ fi (PySem.W.fnOf "__init__" "Zone.__init__" (defArgs sInit) (defBody sInit) (defScope sInit) (.ref dt) kV dc pm an cd ct) et :=
    ⟨Z, ⟨Q.mks, i1, i2, Q.kc⟩, ok_init (fd := fd0) T Z hG F0 F1 F9 F8 F7 F6 F3 i3 i4, (binds_init i5 i6).1, (binds_init i5 i6).2, .inr ⟨oe, #[], ne, i7, i8, i9, by decide, .nil⟩⟩
  have WK : KMk P w K mg base CK fk (PySem.W.fnOf "__init__" "Kind.__init__" (defArgs sKInit) (defBody sKInit) (defScope sKInit) (.ref dk) kVk dck pmk ank cdk ctk) :=
    ⟨Y, ⟨R.mks, j1, j2, R.kc⟩, ok_kinit (fd := fd0) T hsrt Y hG hG2 hG3 F0 F2 F8 F12 j3 j4, (binds_kinit j5 j6).1, ⟨tk, (binds_kinit j5 j6).2⟩⟩
  have GN : FnOk P w K mg base CX0 2 f11 fd11 ["value"] (spNeedZ K CZ) := (ok_needZ T Z IZ F11).mono (by decide)
  have GC1 : FnOk P w K mg base CX0 1 c1 cd1 ["self"] (spML K CZ fun _ rs => rs.map chD) := ok_changes Z C1.F
  have GC : FnOk P w K mg base CX0 2 c1 cd1 ["self"] (spML K CZ fun _ rs => rs.map chD) := GC1.mono (by decide)
  have GJ : FnOk P w K mg base CX0 2 c2 cd2 ["self"] (spML K CZ fun _ rs => rs.map fun r => .int (jmp r)) := ok_jumps Z F9 C2.F
  have GL : FnOk P w K mg base CX0 1 c3 cd3 ["self"] (spMD K CZ fun _ rs => .int rs.length) := ok_len T Z C3.F
  have GW : FnOk P w K mg base CX0 3 e2 ed2 ["self", "zone"] (spWhy K CZ CK whyD) := ok_why T henu Z Y GN F11 GC C1 GJ C2 GL C3 E2.F
  have GNI : FnOk P w K mg base CX0 2 f3 fd3 ["value"] (spR K RNeed) := ok_need T F0 F3
  have GNR : FnOk P w K mg base CX0 2 f15 fd15 ["value"] (spR K RNeedR) := ok_needR (ok_isRule T hstr RA F10) F10 F15
  have GNK : FnOk P w K mg base CX0 1 f13 fd13 ["value"] (spNeedK K CK) := ok_needK T Y IK F13
  have GND : FnOk P w K mg base CX0 2 f19 fd19 ["value"] (spR K RNeedDs) := ok_needDs T F0 F19
  have GNS : FnOk P w K mg base CX0 3 f18 fd18 ["kind", "rule", "days"] (spNeedS K CK) := ok_needS GNK F13 GNR F15 GND F19 F18
  have GCH : FnOk P w K mg base CX0 3 f20 fd20 ["kind"] (spChains K CK) := ok_chains T Y (ok_kjumps Y P1) PB1 hp1 (ok_kmost Y P3) PB3 hp3 F20
  have GOV : FnOk P w K mg base CX0 1 f21 fd21 ["jumps", "days"] (spR K ROver) := ok_over hsum hD F21
  have GLA : FnOk P w K mg base CX0 1 f23 fd23 ["rule", "jumps"] (spR K RLastA) := ok_lastA T F23
  have GFB : FnOk P w K mg base CX0 3 f24 fd24 ["kind", "rule", "jumps"] (spFirstB K CK) := ok_firstB T hsum Y (ok_kapart Y P2) PB2 hp2 F24
  have GHR : FnOk P w K mg base CX0 4 f25 fd25 ["kind", "rule", "days", "jumps"] (spRoom K CK) := ok_room T hD GLA F23 GFB F24 F25
  have GZW : FnOk P w K mg base CX0 6 f14 fd14 ["offset", "steps"] (spZW K CZ) := ok_zw T hG W F0 F3 F1 F9 F8 F7 F14
  have GNE : FnOk P w K mg base CX0 7 f22 fd22 ["kind", "jumps"] (spNear K CZ CK) := ok_near T henu Y (ok_kapart Y P2) PB2 hp2 GZW F14 F22
  have GSP : FnOk P w K mg base CX0 5 f16 fd16 ["kind", "rule", "days"] (spSpans K CK) := ok_spans hsrt GNS F18 GCH F20 GOV F21 GHR F25 F16
  have GTO : FnOk P w K mg base CX0 3 f5 fd5 ["reading"] (spR K RTimeO) := ok_timeOf hD GNI F3 F5
  have GDO : FnOk P w K mg base CX0 3 f4 fd4 ["reading"] (spR K RDay) := ok_dayOf hD GNI F3 F4
  have GSH : FnOk P w K mg base CX0 8 f17 fd17 ["kind", "rule", "days", "span"] (spShown K CZ CK) := ok_shown GNS F18 GNI F3 GCH F20 GOV F21 GHR F25 GLA F23 GNE F22 GTO F5 GDO F4 F17
  have L1 : FnOk P w K mg base CX0 1 f32 fd32 ["_law_plan", "_law_moment"] (spR K RLOff) := ok_loff hsum F32
  have L2' : FnOk P w K mg base CX0 2 f33 fd33 ["_law_plan", "_law_reading"] (spL K RLMom) := ok_lmom T hsrt F31 L1 F32 F33
  have L3 : FnOk P w K mg base CX0 3 f34 fd34 ["_law_plan", "_law_reading", "_law_rule"] (spR K RLPlace) := ok_lplace T L2' F33 F34
  have GDI : FnOk P w K mg base CX0 4 f36 fd36 ["_law_plan", "_law_reading", "_law_days", "_law_rule"] (spR K RDiff) := ok_ldiff L3 F34 F36
  have SA : ShA P w K mg base CZ CK := ⟨Z, IZ, Y, ⟨_, _, ok_has Y GW E2 E1.F, E1.m, E1.b⟩, ⟨_, _, GC1, C1.m, C1.b⟩, ⟨_, _, GJ, C2.m, C2.b⟩, ⟨_, _, _, zh1, ok_first Z ZP1, ZB1⟩⟩
  exact
  { T := T
    srt := hsrt
    set := hset
    cell := ⟨_, _, F26, ok_cell T F26⟩
    bag := ⟨_, _, F27, ok_bag T F27⟩
    take := ⟨_, _, F28, ok_take F28⟩
    lkind := ⟨_, _, F29, ok_lkind T F28 F29⟩
    lsums := ⟨_, _, F35, ok_lsums T hsrt hset F35⟩
    ldiff := ⟨_, _, F36, GDI⟩
    ltight := ⟨_, _, F37, ok_ltight T F28 F37⟩
    lshown := ⟨_, _, F38, ok_lshown T hzip SA GSH F17 (ok_lisof T hzip F30) F30 GDI F36 F38⟩
    lleast := ⟨_, _, F39, ok_lleast T henu hsum F28 GSP F16 GDI F36 F39⟩
    kmk := ⟨_, _, WK⟩
    spans := ⟨_, _, F16, GSP⟩
    shown := ⟨_, _, F17, GSH⟩ }
theorem all_g {l : PySem.W.OpenLaw} {w : World} {K : PySem.W.Frag} {h : Heap} {mg : Str → Option Value} {fa CZ CK : Addr} (X : K.In h) (G : h.Ns mainGlobals mg) (hfa : mg "law" = some (.ref fa)) (hGl : Gls K) (B : NoB K) (D : DfA K mg) (O : ObF K) (Q : ZC K CZ) (R : KC K CK) (U : RuF K) (J : InF K CZ) (N : KnF K CK) :
    ∃ fd : FuncData, (∀ (s : Shared) (v : Value), BindsTo s fd ⟨[v], []⟩ [("_law_script", v)]) ∧ ∀ base : Heap, K.In base → base.Ns mainGlobals mg → FnG l.prog w K mg base 10 fa fd ["_law_script"] (spLaw K) := by
  obtain ⟨f, fd, F⟩ := D.d40
  have e := hfa.symm.trans F.g
  injection e with e
  injection e with e
  subst e
  obtain ⟨oc, od, kV, dc, pm, an, cdv, ct, osl, rfl, _⟩ := F.F.ex
  exact ⟨_, fun s v => .of_eq rfl, fun base _ _ => ok_law (al_of X G hGl B D O Q R U J N) F.F⟩
end Zn

set_option Elab.async false
open PySem PySem.W PyProof.Rows in
set_option maxRecDepth 100000 in
set_option maxHeartbeats 0 in
theorem PySem.Challenge.cw_everyzone_k32_differences_of_days_holds : PySem.Challenge.rw_everyzone_k32_differences_of_days.Holds := by
  w_on; o_law; k_head; (case hw => w_witness2)
  k_fill
  refine Zn.walk_g (l := PySem.Challenge.rw_everyzone_k32_differences_of_days) rfl rfl (fun w h Y => PySem.W.kIn_of Y) ?F
  case F =>
    intro w mg fa h KX G hmg
    refine' Zn.all_g KX G hmg ⟨Zn.gi_mk ?gj, Zn.gi_mk ?gj2, Zn.gi_mk ?gj3, Zn.gi_mk ?gj4⟩ ?B ?D ⟨?ohn, ?ohtk⟩ ?Q ?R ?rules ?J ?knn
    case Q =>
      refine' ⟨?aC, ?pg, ?hd, ?po, ?sa, ?ha, ?hm, ?bq, ?mks, ?kc, ?no, ?nB, ?nR, ?mC, ?mJ, ?mL, ?pf⟩
      (case aC => k_is)
      (case pg => k_is)
      (case hd => k_is)
      (case po => k_is)
      (case sa => k_is)
      (case ha => k_is)
      (case hm => k_is)
      (case bq => rfl)
      (case mks => k_is)
      (case kc => k_is)
      (case nB => k_is)
      (case nR => k_is)
      case no =>
        refine' Zn.kit_list ?h ?c ?t ?s
        (case h => rfl)
        (case c => k_is)
        (case t => k_is)
        (case s => k_is)
      case mC =>
        refine' Zn.mt_mk ?a ?i ?l ?c ?k ?b
        (case a => k_is)
        (case i => k_is)
        (case l => k_is)
        (case c => k_is)
        (case k => k_is)
        (case b => exact fun us hl => match us, hl with | [_], _ => rfl)
      case mJ =>
        refine' Zn.mt_mk ?a ?i ?l ?c ?k ?b
        (case a => k_is)
        (case i => k_is)
        (case l => k_is)
        (case c => k_is)
        (case k => k_is)
        (case b => exact fun us hl => match us, hl with | [_], _ => rfl)
      case mL =>
        refine' Zn.mt_mk ?a ?i ?l ?c ?k ?b
        (case a => k_is)
        (case i => k_is)
        (case l => k_is)
        (case c => k_is)
        (case k => k_is)
        (case b => exact fun us hl => match us, hl with | [_], _ => rfl)
      case pf =>
        refine' Zn.prE_mk ?a ?b ?t ?r ?l ?c ?k ?hb
        (case a => k_is)
        (case b => k_is)
        (case t => k_is)
        (case r => k_is)
        (case l => k_is)
        (case c => k_is)
        (case k => k_is)
        (case hb => exact fun us hl => match us, hl with | [_], _ => rfl)
    case R =>
      refine' ⟨?aC, ?pg, ?hd, ?po, ?sa, ?ha, ?hm, ?bq, ?mks, ?kc, ?nS, ?nD, ?nM, ?mH, ?mW, ?pj, ?pa, ?pm⟩
      (case aC => k_is)
      (case pg => k_is)
      (case hd => k_is)
      (case po => k_is)
      (case sa => k_is)
      (case ha => k_is)
      (case hm => k_is)
      (case bq => rfl)
      (case mks => k_is)
      (case kc => k_is)
      (case nS => k_is)
      (case nD => k_is)
      (case nM => k_is)
      case mH =>
        refine' Zn.mt_mk ?a ?i ?l ?c ?k ?b
        (case a => k_is)
        (case i => k_is)
        (case l => k_is)
        (case c => k_is)
        (case k => k_is)
        (case b => exact fun us hl => match us, hl with | [_, _], _ => rfl)
      case mW =>
        refine' Zn.mt_mk ?a ?i ?l ?c ?k ?b
        (case a => k_is)
        (case i => k_is)
        (case l => k_is)
        (case c => k_is)
        (case k => k_is)
        (case b => exact fun us hl => match us, hl with | [_, _], _ => rfl)
      case pj =>
        refine' Zn.prE_mk ?a ?b ?t ?r ?l ?c ?k ?hb
        (case a => k_is)
        (case b => k_is)
        (case t => k_is)
        (case r => k_is)
        (case l => k_is)
        (case c => k_is)
        (case k => k_is)
        (case hb => exact fun us hl => match us, hl with | [_], _ => rfl)
      case pa =>
        refine' Zn.prE_mk ?a ?b ?t ?r ?l ?c ?k ?hb
        (case a => k_is)
        (case b => k_is)
        (case t => k_is)
        (case r => k_is)
        (case l => k_is)
        (case c => k_is)
        (case k => k_is)
        (case hb => exact fun us hl => match us, hl with | [_], _ => rfl)
      case pm =>
        refine' Zn.prE_mk ?a ?b ?t ?r ?l ?c ?k ?hb
        (case a => k_is)
        (case b => k_is)
        (case t => k_is)
        (case r => k_is)
        (case l => k_is)
        (case c => k_is)
        (case k => k_is)
        (case hb => exact fun us hl => match us, hl with | [_], _ => rfl)
    case rules =>
      refine' Zn.ru_mk ?g ?l ?c ?d
      (case g => k_is)
      (case l => k_is)
      (case c => rfl)
      (case d => rfl)
    case J =>
      refine' Zn.in_mk ?a ?i ?l ?c ?d ?dd ?e ?ec ?ed
      (case a => k_is)
      (case i => k_is)
      (case l => k_is)
      (case c => k_is)
      (case d => k_is)
      (case dd => rfl)
      (case e => k_is)
      (case ec => rfl)
      (case ed => rfl)
    case knn =>
      refine' Zn.kn_mk ?a ?i ?l ?c ?d ?dd
      (case a => k_is)
      (case i => k_is)
      (case l => k_is)
      (case c => k_is)
      (case d => k_is)
      (case dd => rfl)
    (case gj => k_is)
    (case gj2 => k_is)
    (case gj3 => k_is)
    (case gj4 => k_is)
    (case ohn => k_is)
    (case ohtk => k_is)
    case B =>
      refine' ⟨?n0, ?n1, ?n2, ?n3, ?n4, ?n5, ?n6, ?n7, ?n8, ?n9, ?n10, ?n11, ?n12, ?n13, ?n14, ?n15, ?n16⟩
      (case n0 => k_is)
      (case n1 => k_is)
      (case n2 => k_is)
      (case n3 => k_is)
      (case n4 => k_is)
      (case n5 => k_is)
      (case n6 => k_is)
      (case n7 => k_is)
      (case n8 => k_is)
      (case n9 => k_is)
      (case n10 => k_is)
      (case n11 => k_is)
      (case n12 => k_is)
      (case n13 => k_is)
      (case n14 => k_is)
      (case n15 => k_is)
      (case n16 => k_is)
    case D =>
      refine' ⟨?d0, ?d1, ?d2, ?d3, ?d4, ?d5, ?d6, ?d7, ?d8, ?d9, ?d10, ?d11, ?d12, ?d13, ?d14, ?d15, ?d16, ?d17, ?d18, ?d19, ?d20, ?d21, ?d22, ?d23, ?d24, ?d25, ?d26, ?d27, ?d28, ?d29, ?d30, ?d31, ?d32, ?d33, ?d34, ?d35, ?d36, ?d37, ?d38, ?d39, ?d40⟩
      case d0 =>
        refine' Zn.df_mk KX G ?a ?l ?c ?k ?b
        (case a => k_is)
        (case l => k_is)
        (case c => k_is)
        (case k => k_is)
        (case b => exact fun us hl => match us, hl with | [_], _ => rfl)
      case d1 =>
        refine' Zn.df_mk KX G ?a ?l ?c ?k ?b
        (case a => k_is)
        (case l => k_is)
        (case c => k_is)
        (case k => k_is)
        (case b => exact fun us hl => match us, hl with | [_], _ => rfl)
      case d2 =>
        refine' Zn.df_mk KX G ?a ?l ?c ?k ?b
        (case a => k_is)
        (case l => k_is)
        (case c => k_is)
        (case k => k_is)
        (case b => exact fun us hl => match us, hl with | [_, _, _], _ => rfl)
      case d3 =>
        refine' Zn.df_mk KX G ?a ?l ?c ?k ?b
        (case a => k_is)
        (case l => k_is)
        (case c => k_is)
        (case k => k_is)
        (case b => exact fun us hl => match us, hl with | [_], _ => rfl)
      case d4 =>
        refine' Zn.df_mk KX G ?a ?l ?c ?k ?b
        (case a => k_is)
        (case l => k_is)
        (case c => k_is)
        (case k => k_is)
        (case b => exact fun us hl => match us, hl with | [_], _ => rfl)
      case d5 =>
        refine' Zn.df_mk KX G ?a ?l ?c ?k ?b
        (case a => k_is)
        (case l => k_is)
        (case c => k_is)
        (case k => k_is)
        (case b => exact fun us hl => match us, hl with | [_], _ => rfl)
      case d6 =>
        refine' Zn.df_mk KX G ?a ?l ?c ?k ?b
        (case a => k_is)
        (case l => k_is)
        (case c => k_is)
        (case k => k_is)
        (case b => exact fun us hl => match us, hl with | [_, _], _ => rfl)
      case d7 =>
        refine' Zn.df_mk KX G ?a ?l ?c ?k ?b
        (case a => k_is)
        (case l => k_is)
        (case c => k_is)
        (case k => k_is)
        (case b => exact fun us hl => match us, hl with | [_, _], _ => rfl)
      case d8 =>
        refine' Zn.df_mk KX G ?a ?l ?c ?k ?b
        (case a => k_is)
        (case l => k_is)
        (case c => k_is)
        (case k => k_is)
        (case b => exact fun us hl => match us, hl with | [_], _ => rfl)
      case d9 =>
        refine' Zn.df_mk KX G ?a ?l ?c ?k ?b
        (case a => k_is)
        (case l => k_is)
        (case c => k_is)
        (case k => k_is)
        (case b => exact fun us hl => match us, hl with | [_], _ => rfl)
      case d10 =>
        refine' Zn.df_mk KX G ?a ?l ?c ?k ?b
        (case a => k_is)
        (case l => k_is)
        (case c => k_is)
        (case k => k_is)
        (case b => exact fun us hl => match us, hl with | [_], _ => rfl)
      case d11 =>
        refine' Zn.df_mk KX G ?a ?l ?c ?k ?b
        (case a => k_is)
        (case l => k_is)
        (case c => k_is)
        (case k => k_is)
        (case b => exact fun us hl => match us, hl with | [_], _ => rfl)
      case d12 =>
        refine' Zn.df_mk KX G ?a ?l ?c ?k ?b
        (case a => k_is)
        (case l => k_is)
        (case c => k_is)
        (case k => k_is)
        (case b => exact fun us hl => match us, hl with | [_], _ => rfl)
      case d13 =>
        refine' Zn.df_mk KX G ?a ?l ?c ?k ?b
        (case a => k_is)
        (case l => k_is)
        (case c => k_is)
        (case k => k_is)
        (case b => exact fun us hl => match us, hl with | [_], _ => rfl)
      case d14 =>
        refine' Zn.df_mk KX G ?a ?l ?c ?k ?b
        (case a => k_is)
        (case l => k_is)
        (case c => k_is)
        (case k => k_is)
        (case b => exact fun us hl => match us, hl with | [_, _], _ => rfl)
      case d15 =>
        refine' Zn.df_mk KX G ?a ?l ?c ?k ?b
        (case a => k_is)
        (case l => k_is)
        (case c => k_is)
        (case k => k_is)
        (case b => exact fun us hl => match us, hl with | [_], _ => rfl)
      case d16 =>
        refine' Zn.df_mk KX G ?a ?l ?c ?k ?b
        (case a => k_is)
        (case l => k_is)
        (case c => k_is)
        (case k => k_is)
        (case b => exact fun us hl => match us, hl with | [_, _, _], _ => rfl)
      case d17 =>
        refine' Zn.df_mk KX G ?a ?l ?c ?k ?b
        (case a => k_is)
        (case l => k_is)
        (case c => k_is)
        (case k => k_is)
        (case b => exact fun us hl => match us, hl with | [_, _, _, _], _ => rfl)
      case d18 =>
        refine' Zn.df_mk KX G ?a ?l ?c ?k ?b
        (case a => k_is)
        (case l => k_is)
        (case c => k_is)
        (case k => k_is)
        (case b => exact fun us hl => match us, hl with | [_, _, _], _ => rfl)
      case d19 =>
        refine' Zn.df_mk KX G ?a ?l ?c ?k ?b
        (case a => k_is)
        (case l => k_is)
        (case c => k_is)
        (case k => k_is)
        (case b => exact fun us hl => match us, hl with | [_], _ => rfl)
      case d20 =>
        refine' Zn.df_mk KX G ?a ?l ?c ?k ?b
        (case a => k_is)
        (case l => k_is)
        (case c => k_is)
        (case k => k_is)
        (case b => exact fun us hl => match us, hl with | [_], _ => rfl)
      case d21 =>
        refine' Zn.df_mk KX G ?a ?l ?c ?k ?b
        (case a => k_is)
        (case l => k_is)
        (case c => k_is)
        (case k => k_is)
        (case b => exact fun us hl => match us, hl with | [_, _], _ => rfl)
      case d22 =>
        refine' Zn.df_mk KX G ?a ?l ?c ?k ?b
        (case a => k_is)
        (case l => k_is)
        (case c => k_is)
        (case k => k_is)
        (case b => exact fun us hl => match us, hl with | [_, _], _ => rfl)
      case d23 =>
        refine' Zn.df_mk KX G ?a ?l ?c ?k ?b
        (case a => k_is)
        (case l => k_is)
        (case c => k_is)
        (case k => k_is)
        (case b => exact fun us hl => match us, hl with | [_, _], _ => rfl)
      case d24 =>
        refine' Zn.df_mk KX G ?a ?l ?c ?k ?b
        (case a => k_is)
        (case l => k_is)
        (case c => k_is)
        (case k => k_is)
        (case b => exact fun us hl => match us, hl with | [_, _, _], _ => rfl)
      case d25 =>
        refine' Zn.df_mk KX G ?a ?l ?c ?k ?b
        (case a => k_is)
        (case l => k_is)
        (case c => k_is)
        (case k => k_is)
        (case b => exact fun us hl => match us, hl with | [_, _, _, _], _ => rfl)
      case d26 =>
        refine' Zn.df_mk KX G ?a ?l ?c ?k ?b
        (case a => k_is)
        (case l => k_is)
        (case c => k_is)
        (case k => k_is)
        (case b => exact fun us hl => match us, hl with | [_, _], _ => rfl)
      case d27 =>
        refine' Zn.df_mk KX G ?a ?l ?c ?k ?b
        (case a => k_is)
        (case l => k_is)
        (case c => k_is)
        (case k => k_is)
        (case b => exact fun us hl => match us, hl with | [_], _ => rfl)
      case d28 =>
        refine' Zn.df_mk KX G ?a ?l ?c ?k ?b
        (case a => k_is)
        (case l => k_is)
        (case c => k_is)
        (case k => k_is)
        (case b => exact fun us hl => match us, hl with | [_, _], _ => rfl)
      case d29 =>
        refine' Zn.df_mk KX G ?a ?l ?c ?k ?b
        (case a => k_is)
        (case l => k_is)
        (case c => k_is)
        (case k => k_is)
        (case b => exact fun us hl => match us, hl with | [_], _ => rfl)
      case d30 =>
        refine' Zn.df_mk KX G ?a ?l ?c ?k ?b
        (case a => k_is)
        (case l => k_is)
        (case c => k_is)
        (case k => k_is)
        (case b => exact fun us hl => match us, hl with | [_, _], _ => rfl)
      case d31 =>
        refine' Zn.df_mk KX G ?a ?l ?c ?k ?b
        (case a => k_is)
        (case l => k_is)
        (case c => k_is)
        (case k => k_is)
        (case b => exact fun us hl => match us, hl with | [_], _ => rfl)
      case d32 =>
        refine' Zn.df_mk KX G ?a ?l ?c ?k ?b
        (case a => k_is)
        (case l => k_is)
        (case c => k_is)
        (case k => k_is)
        (case b => exact fun us hl => match us, hl with | [_, _], _ => rfl)
      case d33 =>
        refine' Zn.df_mk KX G ?a ?l ?c ?k ?b
        (case a => k_is)
        (case l => k_is)
        (case c => k_is)
        (case k => k_is)
        (case b => exact fun us hl => match us, hl with | [_, _], _ => rfl)
      case d34 =>
        refine' Zn.df_mk KX G ?a ?l ?c ?k ?b
        (case a => k_is)
        (case l => k_is)
        (case c => k_is)
        (case k => k_is)
        (case b => exact fun us hl => match us, hl with | [_, _, _], _ => rfl)
      case d35 =>
        refine' Zn.df_mk KX G ?a ?l ?c ?k ?b
        (case a => k_is)
        (case l => k_is)
        (case c => k_is)
        (case k => k_is)
        (case b => exact fun us hl => match us, hl with | [_], _ => rfl)
      case d36 =>
        refine' Zn.df_mk KX G ?a ?l ?c ?k ?b
        (case a => k_is)
        (case l => k_is)
        (case c => k_is)
        (case k => k_is)
        (case b => exact fun us hl => match us, hl with | [_, _, _, _], _ => rfl)
      case d37 =>
        refine' Zn.df_mk KX G ?a ?l ?c ?k ?b
        (case a => k_is)
        (case l => k_is)
        (case c => k_is)
        (case k => k_is)
        (case b => exact fun us hl => match us, hl with | [_, _, _], _ => rfl)
      case d38 =>
        refine' Zn.df_mk KX G ?a ?l ?c ?k ?b
        (case a => k_is)
        (case l => k_is)
        (case c => k_is)
        (case k => k_is)
        (case b => exact fun us hl => match us, hl with | [_, _, _, _, _], _ => rfl)
      case d39 =>
        refine' Zn.df_mk KX G ?a ?l ?c ?k ?b
        (case a => k_is)
        (case l => k_is)
        (case c => k_is)
        (case k => k_is)
        (case b => exact fun us hl => match us, hl with | [_, _, _, _], _ => rfl)
      case d40 =>
        refine' Zn.df_mk KX G ?a ?l ?c ?k ?b
        (case a => k_is)
        (case l => k_is)
        (case c => k_is)
        (case k => k_is)
        (case b => exact fun us hl => match us, hl with | [_], _ => rfl)
