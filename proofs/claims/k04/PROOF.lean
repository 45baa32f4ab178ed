import PyProof.Rows.All
import Wide.All
import OpenK.AllK
import Wide.FinOn
import PyProof.EqAt
import PyProof.EqKinds
import PyProof.TupleCall
import PyProof.ReprRoads
import HandS.ForMost
import HandS.IsInst
import HandS.Wide
import PyProof.InstNe
import HandS.Property
import PySem.Challenge.RW_everyzone_k04_zones_made
import HandS.Deep
set_option Elab.async false
set_option linter.all false
set_option maxRecDepth 100000
set_option maxHeartbeats 4000000
/-! Data layer: pure expressions by the data they come to. M: addresses that may change; what is known stands outside of M. -/
namespace Dl
open PySem PySem.Spec PyProof.Rows L2

/-! ### what is known -/
def hid (M : List Addr) (H : Hp) : Hp := fun a => if a ∈ M then none else H a
def Live (M : List Addr) (H : Hp) : Prop := ∀ a ∈ M, H a ≠ none
section
variable {M : List Addr} {H H' : Hp} {a p : Addr} {o : HO}
theorem hid_of (n : a ∉ M) : hid M H a = H a := if_neg n
theorem hid_le : Same (hid M H) H := fun b o e => by
  unfold hid at e
  split at e
  · cases e
  · exact e
theorem hid_mono (s : Same H H') : Same (hid M H) (hid M H') := fun b o e => by
  unfold hid at e ⊢
  split at e
  · cases e
  · rename_i n; rw [if_neg n]; exact s b o e
theorem hid_nil : hid [] H = H := by funext b; unfold hid; rw [if_neg (by simp)]
theorem hid_upd_mem (h : p ∈ M) : hid M (upd H p o) = hid M H := by
  funext b; unfold hid
  split
  · rfl
  · rename_i n; rw [upd_ne (fun z => n (by rw [z]; exact h))]
theorem Live.mono (L : Live M H) (s : Same H H') : Live M H' := fun b hb z => by
  cases e : H b with
  | none => exact L b hb e
  | some o => rw [s b o e] at z; cases z
theorem Live.fresh (L : Live M H) (hp : H p = none) : p ∉ M := fun h => L p h hp
theorem Live.nil : Live [] H := fun _ h => by simp at h
theorem hid_new (L : Live M H) (hp : H p = none) : hid M (upd H p o) = upd (hid M H) p o := by
  funext b; unfold hid upd
  by_cases hb : b = p
  · subst hb; rw [if_neg (L.fresh hp), if_pos rfl, if_pos rfl]
  · rw [if_neg hb, if_neg hb]
theorem hid_free (hp : H p = none) : hid M H p = none := by unfold hid; split <;> first | rfl | exact hp
theorem hid_cons (hp : H p = none) : hid (p :: M) (upd H p o) = hid M H := by
  funext b; unfold hid
  by_cases hb : b = p
  · subst hb
    rw [if_pos (List.mem_cons_self ..)]
    split <;> first | rfl | exact hp.symm
  · by_cases hm : b ∈ M
    · rw [if_pos (List.mem_cons_of_mem _ hm), if_pos hm]
    · rw [if_neg (by simp [hb, hm]), if_neg hm, upd_ne hb]
theorem Live.cons (L : Live M H) (hp : H p = none) : Live (p :: M) (upd H p o) := fun b hb => by
  rcases List.mem_cons.mp hb with e | hb
  · subst e; rw [upd_same]; simp
  · rw [upd_ne (fun z => L b hb (by rw [z]; exact hp))]; exact L b hb
theorem Live.upd (L : Live M H) : Live M (upd H p o) := fun b hb => by
  by_cases e : b = p
  · subst e; rw [upd_same]; simp
  · rw [upd_ne e]; exact L b hb
theorem same_new (hp : H p = none) : Same H (upd H p o) := fun b u e => by rw [upd_ne (ne_of_none e hp)]; exact e
theorem Live.to (L : Live M H) (s : Same (hid [] H) H') : Live M H' := L.mono (by rw [hid_nil] at s; exact s)
theorem hid_hid : hid M (hid M H) = hid M H := by
  funext b; unfold hid; split <;> rfl
end
theorem same_seqT {K : PySem.W.Frag} {H H' : Hp} {a : Addr} {xs : List V} (e : Same H H') (h : SqT K H a xs) : SqT K H' a xs := by
  rcases h with (h | ⟨o, h⟩) | h
  · exact .inl (.inl (e _ _ h))
  · exact .inl (.inr ⟨o, e _ _ h⟩)
  · exact .inr h
mutual
/-- a value is the data (every list is one that is tracked) -/
inductive Dq (K : PySem.W.Frag) (H : Hp) : V → PyData → Prop
  | non : Dq K H .non .none
  | bl (b : Bool) : Dq K H (.bl b) (.bool b)
  | int (i : Int) : Dq K H (.int i) (.int i)
  | str (x : Str) : Dq K H (.str x) (.str x)
  | lst {a : Addr} {xs : List V} {ds : List PyData} : H a = some (.lst xs) → DqAll K H xs ds → Dq K H (.ref a) (.list ds)
  | tup {a : Addr} {xs : List V} {ds : List PyData} : SqT K H a xs → DqAll K H xs ds → Dq K H (.ref a) (.tuple ds)
inductive DqAll (K : PySem.W.Frag) (H : Hp) : List V → List PyData → Prop
  | nil : DqAll K H [] []
  | cons {v : V} {vs : List V} {d : PyData} {ds : List PyData} : Dq K H v d → DqAll K H vs ds → DqAll K H (v :: vs) (d :: ds)
end
mutual
theorem Dq.dp {K : PySem.W.Frag} {H : Hp} : ∀ (d : PyData) (v : V), Dq K H v d → Dp K H v d
  | .none, _, h => by cases h; exact .non
  | .bool b, _, h => by cases h; exact .bl b
  | .int i, _, h => by cases h; exact .int i
  | .str x, _, h => by cases h; exact .str x
  | .list ds, _, h => by
    cases h with
    | lst hs ha => exact .lst (SqL.of hs) (DqAll.dp ds _ ha)
  | .tuple ds, _, h => by
    cases h with
    | tup hs ha => exact .tup hs (DqAll.dp ds _ ha)
  | .dict _, _, h => by cases h
theorem DqAll.dp {K : PySem.W.Frag} {H : Hp} : ∀ (ds : List PyData) (vs : List V), DqAll K H vs ds → DpAll K H vs ds
  | [], _, h => by cases h; exact .nil
  | d :: ds, _, h => by
    cases h with
    | cons h1 h2 => exact .cons (Dq.dp d _ h1) (DqAll.dp ds _ h2)
end
mutual
theorem dp_mono {K : PySem.W.Frag} {H H' : Hp} (e : Same H H') : ∀ (d : PyData) (v : V), Dq K H v d → Dq K H' v d
  | .none, _, h => by cases h; exact .non
  | .bool b, _, h => by cases h; exact .bl b
  | .int i, _, h => by cases h; exact .int i
  | .str x, _, h => by cases h; exact .str x
  | .list ds, _, h => by
    cases h with
    | lst hs ha => exact .lst (e _ _ hs) (dpa_mono e ds _ ha)
  | .tuple ds, _, h => by
    cases h with
    | tup hs ha => exact .tup (same_seqT e hs) (dpa_mono e ds _ ha)
  | .dict _, _, h => by cases h
theorem dpa_mono {K : PySem.W.Frag} {H H' : Hp} (e : Same H H') : ∀ (ds : List PyData) (vs : List V), DqAll K H vs ds → DqAll K H' vs ds
  | [], _, h => by cases h; exact .nil
  | d :: ds, _, h => by
    cases h with
    | cons h1 h2 => exact .cons (dp_mono e d _ h1) (dpa_mono e ds _ h2)
end
section
variable {K : PySem.W.Frag} {H H' : Hp} {v : V} {vs : List V} {ds es : List PyData} {d : PyData}
theorem Dq.up (h : Dq K H v d) (e : Same H H') : Dq K H' v d := dp_mono e d v h
theorem DqAll.up (h : DqAll K H vs ds) (e : Same H H') : DqAll K H' vs ds := dpa_mono e ds vs h
theorem dpa_len : ∀ {vs : List V} {ds : List PyData}, DqAll K H vs ds → vs.length = ds.length
  | _, _, .nil => rfl
  | _, _, .cons _ h => by rw [List.length_cons, List.length_cons, dpa_len h]
theorem dpa_app : ∀ {vs ws : List V} {ds es : List PyData}, DqAll K H vs ds → DqAll K H ws es → DqAll K H (vs ++ ws) (ds ++ es)
  | _, _, _, _, .nil, h => h
  | _, _, _, _, .cons a b, h => .cons a (dpa_app b h)
theorem dpa_get : ∀ {vs : List V} {ds : List PyData} {i : Nat} {d : PyData}, DqAll K H vs ds → ds[i]? = some d → ∃ v, vs[i]? = some v ∧ Dq K H v d
  | _, _, _, _, .nil, e => by simp at e
  | _, _, 0, _, .cons a _, e => by simp at e; subst e; exact ⟨_, rfl, a⟩
  | _, _, i + 1, d, .cons _ b, e => by
    obtain ⟨v, h1, h2⟩ := dpa_get (i := i) (d := d) b (by simpa using e)
    exact ⟨v, by simpa using h1, h2⟩
theorem dpa_get' : ∀ {vs : List V} {ds : List PyData} {i : Nat} {v : V}, DqAll K H vs ds → vs[i]? = some v → ∃ d, ds[i]? = some d ∧ Dq K H v d
  | _, _, _, _, .nil, e => by simp at e
  | _, _, 0, _, .cons a _, e => by simp at e; subst e; exact ⟨_, rfl, a⟩
  | _, _, i + 1, v, .cons _ b, e => by
    obtain ⟨d, h1, h2⟩ := dpa_get' (i := i) (v := v) b (by simpa using e)
    exact ⟨d, by simpa using h1, h2⟩
theorem dpa_drop : ∀ (n : Nat) {vs : List V} {ds : List PyData}, DqAll K H vs ds → DqAll K H (vs.drop n) (ds.drop n)
  | 0, _, _, h => h
  | _ + 1, _, _, .nil => .nil
  | n + 1, _, _, .cons _ b => dpa_drop n b
theorem dpa_take : ∀ (n : Nat) {vs : List V} {ds : List PyData}, DqAll K H vs ds → DqAll K H (vs.take n) (ds.take n)
  | 0, _, _, _ => .nil
  | _ + 1, _, _, .nil => .nil
  | n + 1, _, _, .cons a b => .cons a (dpa_take n b)
theorem dp_int {i : Int} (h : Dq K H v (.int i)) : v = .int i := by cases h; rfl
theorem dp_bl {b : Bool} (h : Dq K H v (.bool b)) : v = .bl b := by cases h; rfl
theorem dp_str {x : Str} (h : Dq K H v (.str x)) : v = .str x := by cases h; rfl
theorem dp_non (h : Dq K H v .none) : v = .non := by cases h; rfl
theorem dp_lst (h : Dq K H v (.list ds)) : ∃ a xs, v = .ref a ∧ H a = some (.lst xs) ∧ DqAll K H xs ds := by
  cases h with
  | lst h1 h2 => exact ⟨_, _, rfl, h1, h2⟩
theorem dp_tup (h : Dq K H v (.tuple ds)) : ∃ a xs, v = .ref a ∧ SqT K H a xs ∧ DqAll K H xs ds := by
  cases h with
  | tup h1 h2 => exact ⟨_, _, rfl, h1, h2⟩
end
/-! ### readings by themselves -/
def RE (X : Cx) (e : Expr) : TE := fun σ H Q => ∃ t, PE X e t ∧ t σ H Q
def RT (X : Cx) (e : Expr) : TT := fun σ H Q => ∃ t, PT X e t ∧ t σ H Q
def RW (X : Cx) (e : Expr) : TT := fun σ H Q => ∃ t, PW X e t ∧ t σ H Q
def RA (X : Cx) (es : List Expr) : TA := fun σ H Q => ∃ t, PA X es t ∧ t σ H Q
def RS (X : Cx) (st : Stmt) : TS := fun D σ H => ∃ t, PS X st t ∧ t D σ H
def RB (X : Cx) (st : List Stmt) : TS := fun D σ H => ∃ t, PSs X st t ∧ t D σ H
def RI (X : Cx) (tg e : Expr) : TI := fun σ H R => ∃ t, PI X tg e t ∧ t σ H R
section
variable {X : Cx} {e tg : Expr} {es : List Expr} {st : Stmt} {sts : List Stmt}
theorem re_ : PE X e (RE X e) := ⟨fun pins s σ H Q I ⟨_, h, q⟩ => h.run pins s σ H Q I q⟩
theorem rt_ : PT X e (RT X e) := ⟨fun pins s σ H Q I ⟨_, h, q⟩ => h.run pins s σ H Q I q⟩
theorem rw_ : PW X e (RW X e) := ⟨fun wh pins s σ H Q I ⟨_, h, q⟩ => h.run wh pins s σ H Q I q⟩
theorem ra_ : PA X es (RA X es) := ⟨fun pos pins s σ H Q I ⟨_, h, q⟩ => h.run pos pins s σ H Q I q⟩
theorem rs_ : PS X st (RS X st) := ⟨fun pins s σ H D I ⟨_, h, q⟩ => h.run pins s σ H D I q⟩
theorem rb_ : PSs X sts (RB X sts) := ⟨fun pins s σ H D I ⟨_, h, q⟩ => h.run pins s σ H D I q⟩
theorem ri_ : PI X tg e (RI X tg e) := ⟨fun pins s σ H R I ⟨_, h, q⟩ => h.run pins s σ H R I q⟩
end
/-! ### what an expression comes to -/
/-- the data d; an exact value v; a new list of the data ds; arguments; a test -/
def XD (X : Cx) (M : List Addr) (σ : L2.St) (H : Hp) (e : Expr) (d : PyData) : Prop := ∀ H1, Same H H1 → ∀ Q : VK, (∀ v H2, Same H1 H2 → Dq X.K (hid M H2) v d → Q v H2) → RE X e σ H1 Q
def XV (X : Cx) (σ : L2.St) (H : Hp) (e : Expr) (v : V) : Prop := ∀ H1, Same H H1 → ∀ Q : VK, (∀ H2, Same H1 H2 → Q v H2) → RE X e σ H1 Q
def XL (X : Cx) (M : List Addr) (σ : L2.St) (H : Hp) (e : Expr) (ds : List PyData) : Prop :=
  ∀ H1, Same H H1 → ∀ Q : VK, (∀ p xs H2, Same H1 H2 → H1 p = none → H2 p = some (.lst xs) → DqAll X.K (hid M H2) xs ds → Q (.ref p) H2) → RE X e σ H1 Q
def XA (X : Cx) (M : List Addr) (σ : L2.St) (H : Hp) (es : List Expr) (ds : List PyData) : Prop := ∀ H1, Same H H1 → ∀ Q : List V → Hp → Prop, (∀ vs H2, Same H1 H2 → DqAll X.K (hid M H2) vs ds → Q vs H2) → RA X es σ H1 Q
def XT (X : Cx) (σ : L2.St) (H : Hp) (e : Expr) (b : Bool) : Prop := ∀ H1, Same H H1 → ∀ Q : Bool → Hp → Prop, (∀ H2, Same H1 H2 → Q b H2) → RT X e σ H1 Q
def XW (X : Cx) (σ : L2.St) (H : Hp) (e : Expr) (b : Bool) : Prop := ∀ H1, Same H H1 → ∀ Q : Bool → Hp → Prop, (∀ H2, Same H1 H2 → Q b H2) → RW X e σ H1 Q
section
variable {X : Cx} {M : List Addr} {σ : L2.St} {H H' : Hp} {e a b c : Expr} {es : List Expr} {d d1 d2 : PyData} {ds es' : List PyData} {i : Nat} {x : Str} {v : V} {pos : Pos}
theorem XD.up (h : XD X M σ H e d) (s : Same H H') : XD X M σ H' e d := fun H1 q => h H1 (s.trans q)
theorem XV.up (h : XV X σ H e v) (s : Same H H') : XV X σ H' e v := fun H1 q => h H1 (s.trans q)
theorem XL.up (h : XL X M σ H e ds) (s : Same H H') : XL X M σ H' e ds := fun H1 q => h H1 (s.trans q)
theorem XA.up (h : XA X M σ H es ds) (s : Same H H') : XA X M σ H' es ds := fun H1 q => h H1 (s.trans q)
theorem XT.up {b : Bool} (h : XT X σ H e b) (s : Same H H') : XT X σ H' e b := fun H1 q => h H1 (s.trans q)
theorem XD.to {d' : PyData} (h : XD X M σ H e d) (q : d = d') : XD X M σ H e d' := q ▸ h
theorem XL.to {ds' : List PyData} (h : XL X M σ H e ds) (q : ds = ds') : XL X M σ H e ds' := q ▸ h
theorem XT.to {k k' : Bool} (h : XT X σ H e k) (q : k = k') : XT X σ H e k' := q ▸ h
theorem XV.dd (h : XV X σ H e v) (hd : Dq X.K (hid M H) v d) : XD X M σ H e d := fun H1 s Q q => h H1 s Q fun H2 s2 => q v H2 s2 (dp_mono (hid_mono (s.trans s2)) d v hd)
theorem XV.int {n : Int} (h : XV X σ H e (.int n)) : XD X M σ H e (.int n) := h.dd (.int n)
theorem XD.vint {n : Int} (h : XD X M σ H e (.int n)) : XV X σ H e (.int n) := fun H1 s Q q => h H1 s Q fun v H2 s2 hv => by rw [dp_int hv]; exact q H2 s2
theorem XD.vbl {k : Bool} (h : XD X M σ H e (.bool k)) : XV X σ H e (.bl k) := fun H1 s Q q => h H1 s Q fun v H2 s2 hv => by rw [dp_bl hv]; exact q H2 s2
theorem XD.vstr {z : Str} (h : XD X M σ H e (.str z)) : XV X σ H e (.str z) := fun H1 s Q q => h H1 s Q fun v H2 s2 hv => by rw [dp_str hv]; exact q H2 s2
theorem XL.dd (h : XL X M σ H e ds) (L : Live M H) : XD X M σ H e (.list ds) := fun H1 s Q q => h H1 s Q fun p xs H2 s2 hp h2 hd =>
  q _ H2 s2 (.lst (by rw [hid_of (fun z => (L.mono s) p z hp)]; exact h2) hd)
/-! names, constants -/
theorem xv_name (i : Nat) {x : Str} {v : V} {pos : Pos} (hv : σ[i]? = some (some v)) (hN : X.N[i]? = some x := by rfl) (hs : Vis X.env.scope x := by first | exact Or.inl rfl | exact Or.inr (Or.inl rfl) | exact Or.inr (Or.inr rfl))
    (hb : (x == ("__debug__" : Str)) = false := by decide) (hc : (x == ("__classdict__" : Str)) = false := by decide) : XV X σ H (.Name x pos) v := fun H1 _ Q q => ⟨_, pe_var hN hs hb hc, v, hv, q H1 (Same.refl _)⟩
theorem xd_name (i : Nat) {x : Str} {v : V} {pos : Pos} (hv : σ[i]? = some (some v)) (hd : Dq X.K (hid M H) v d) (hN : X.N[i]? = some x := by rfl) (hs : Vis X.env.scope x := by first | exact Or.inl rfl | exact Or.inr (Or.inl rfl) | exact Or.inr (Or.inr rfl))
    (hb : (x == ("__debug__" : Str)) = false := by decide) (hc : (x == ("__classdict__" : Str)) = false := by decide) : XD X M σ H (.Name x pos) d := (xv_name i hv hN hs hb hc).dd hd
theorem xv_int {n : Int} {j} : XV X σ H (.Constant (.int n) j pos) (.int n) := fun H1 _ Q q => ⟨_, pe_int, q H1 (Same.refl _)⟩
theorem xd_int {n : Int} {j} : XD X M σ H (.Constant (.int n) j pos) (.int n) := xv_int.int
theorem xv_str {z : Str} {j} : XV X σ H (.Constant (.str z) j pos) (.str z) := fun H1 _ Q q => ⟨_, pe_str, q H1 (Same.refl _)⟩
theorem xd_str {z : Str} {j} : XD X M σ H (.Constant (.str z) j pos) (.str z) := xv_str.dd (.str z)
theorem xd_bl {k : Bool} {j} : XD X M σ H (.Constant (.bool k) j pos) (.bool k) := fun H1 _ Q q => ⟨_, pe_bl, q _ H1 (Same.refl _) (.bl k)⟩
theorem xd_non {j} : XD X M σ H (.Constant .none j pos) .none := fun H1 _ Q q => ⟨_, pe_non, q _ H1 (Same.refl _) .non⟩
theorem xv_glob {u : Value} (hm : X.mg x = some u) (r : RelV v u) (hg : Gl X x := by rfl) (hd : (x == ("__debug__" : Str)) = false := by decide) : XV X σ H (.Name x pos) v := fun H1 _ Q q => ⟨_, pe_glob hg hm r hd, q H1 (Same.refl _)⟩
theorem xv_bltn {u : Value} (hm : X.mg x = none) (hv : bootBuiltins x = some u) (r : RelV v u) (hg : Gl X x := by rfl) (hn : x ≠ "__name__" := by decide) (hd : (x == ("__debug__" : Str)) = false := by decide) : XV X σ H (.Name x pos) v :=
  fun H1 _ Q q => ⟨_, pe_bltn hg hm hv r hn hd, q H1 (Same.refl _)⟩
/-! displays -/
theorem xa_nil : XA X M σ H [] [] := fun H1 _ Q q => ⟨_, pa_nil, q [] H1 (Same.refl _) .nil⟩
theorem xa_cons (ha : XD X M σ H e d) (hr : XA X M σ H es ds) (hs : starEach (e :: es) X.env = (false, eval e X.env) :: starEach es X.env := by rfl) : XA X M σ H (e :: es) (d :: ds) := fun H1 s Q q =>
  ⟨_, pa_cons re_ ra_ hs, ha H1 s _ fun v H2 s2 hv => hr H2 (s.trans s2) _ fun vs H3 s3 hvs => q _ H3 (s2.trans s3) (.cons (hv.up (hid_mono s3)) hvs)⟩
theorem small_sz {n : Nat} (h : n ≤ 100000) : n ≤ sizeLine := Nat.le_trans h (by decide)
theorem xd_tup {x1} (L : Live M H) (h : XA X M σ H es ds) (hl : ds.length ≤ 100000 := by simp) : XD X M σ H (.Tuple es x1 pos) (.tuple ds) := fun H1 s Q q =>
  ⟨_, pe_tup ra_, h H1 s _ fun vs H2 s2 hvs => ⟨by rw [dpa_len hvs]; exact small_sz hl, fun p hp => q _ _ (s2.trans (same_new hp)) (by
    rw [hid_new (L.mono (s.trans s2)) hp]
    exact .tup (SqT.of upd_same) (hvs.up (same_new (hid_free hp))))⟩⟩
theorem xl_lst (L : Live M H) (h : XA X M σ H es ds) (hl : ds.length ≤ 100000 := by simp) : XL X M σ H (.List es pos) ds := fun H1 s Q q =>
  ⟨_, pe_lst ra_, h H1 s _ fun vs H2 s2 hvs => ⟨by rw [dpa_len hvs]; exact small_sz hl, fun p hp => q p vs _ (s2.trans (same_new hp)) (s2.free hp) upd_same (by
    rw [hid_new (L.mono (s.trans s2)) hp]
    exact hvs.up (same_new (hid_free hp)))⟩⟩
theorem xd_lst (L : Live M H) (h : XA X M σ H es ds) (hl : ds.length ≤ 100000 := by simp) : XD X M σ H (.List es pos) (.list ds) := (xl_lst L h hl).dd L
/-! operators -/
theorem xd_bin {op : Operator} {r : R2} (ho : OpR X (binaryOp op) r) (ha : XD X M σ H a d1) (hb : XD X M σ H b d2)
    (hr : ∀ H1 v w, Same H H1 → Dq X.K (hid M H1) v d1 → Dq X.K (hid M H1) w d2 → ∀ Q : VK, (∀ u H2, Same H1 H2 → Dq X.K (hid M H2) u d → Q u H2) → r v w H1 Q) : XD X M σ H (.BinOp a op b pos) d := fun H1 s Q q =>
  ⟨_, pe_op ho re_ re_, ha H1 s _ fun v H2 s2 hv => hb H2 (s.trans s2) _ fun w H3 s3 hw => hr H3 v w ((s.trans s2).trans s3) (hv.up (hid_mono s3)) hw Q fun u H4 s4 hu => q u H4 ((s2.trans s3).trans s4) hu⟩
theorem xd_binI {op : Operator} {C : Int → Int → Prop} {g : Int → Int → Int} {m n : Int} (ho : OpR X (binaryOp op) (rI C fun i j => .int (g i j))) (ha : XD X M σ H a (.int m)) (hb : XD X M σ H b (.int n)) (hc : C m n) : XD X M σ H (.BinOp a op b pos) (.int (g m n)) :=
  xd_bin ho ha hb fun H1 v w s hv hw Q q => ⟨m, n, dp_int hv, dp_int hw, hc, q _ H1 (Same.refl _) (.int _)⟩
theorem xd_binI0 {op : Operator} {g : Int → Int → Int} {m n : Int} (ho : OpR X (binaryOp op) (rI0 fun i j => .int (g i j))) (ha : XD X M σ H a (.int m)) (hb : XD X M σ H b (.int n)) : XD X M σ H (.BinOp a op b pos) (.int (g m n)) :=
  xd_bin ho ha hb fun H1 v w s hv hw Q q => ⟨m, n, dp_int hv, dp_int hw, q _ H1 (Same.refl _) (.int _)⟩
theorem xd_add {m n : Int} (ha : XD X M σ H a (.int m)) (hb : XD X M σ H b (.int n)) : XD X M σ H (.BinOp a .Add b pos) (.int (m + n)) := xd_binI0 op_add ha hb
theorem xd_sub {m n : Int} (ha : XD X M σ H a (.int m)) (hb : XD X M σ H b (.int n)) : XD X M σ H (.BinOp a .Sub b pos) (.int (m - n)) := xd_binI0 op_sub ha hb
theorem xd_mul {m n : Int} (ha : XD X M σ H a (.int m)) (hb : XD X M σ H b (.int n)) (hc : (-(2 ^ 64) < m ∧ m < 2 ^ 64) ∨ (-(2 ^ 64) < n ∧ n < 2 ^ 64)) : XD X M σ H (.BinOp a .Mult b pos) (.int (m * n)) := xd_binI op_mul ha hb hc
theorem xd_neg {m : Int} (ha : XD X M σ H a (.int m)) : XD X M σ H (.UnaryOp .USub a pos) (.int (-m)) := fun H1 s Q q =>
  ⟨_, pe_un un_neg re_, ha H1 s _ fun v H2 s2 hv => ⟨m, dp_int hv, q _ H2 s2 (.int _)⟩⟩
/-! comparisons -/
theorem xd_cmp {op : CmpOp} {r : R2} (ho : OpR X (compareOp op) r) (ha : XD X M σ H a d1) (hb : XD X M σ H b d2)
    (hr : ∀ H1 v w, Same H H1 → Dq X.K (hid M H1) v d1 → Dq X.K (hid M H1) w d2 → ∀ Q : VK, (∀ u H2, Same H1 H2 → Dq X.K (hid M H2) u d → Q u H2) → r v w H1 Q)
    (hm : behindInMarks op b = false := by first | exact nomark _ | rfl) : XD X M σ H (.Compare a [op] [b] pos) d := fun H1 s Q q =>
  ⟨_, pe_cmpR ho re_ re_ hm, ha H1 s _ fun v H2 s2 hv => hb H2 (s.trans s2) _ fun w H3 s3 hw => hr H3 v w ((s.trans s2).trans s3) (hv.up (hid_mono s3)) hw Q fun u H4 s4 hu => q u H4 ((s2.trans s3).trans s4) hu⟩
theorem xt_cmp {k : Bool} {op : CmpOp} {r : R2} (ho : OpR X (compareOp op) r) (ha : XD X M σ H a d1) (hb : XD X M σ H b d2)
    (hr : ∀ H1 v w, Same H H1 → Dq X.K (hid M H1) v d1 → Dq X.K (hid M H1) w d2 → ∀ Q : VK, (∀ H2, Same H1 H2 → Q (.bl k) H2) → r v w H1 Q)
    (hm : behindInMarks op b = false := by first | exact nomark _ | rfl) : XT X σ H (.Compare a [op] [b] pos) k := fun H1 s Q q =>
  ⟨_, pt_cmpR ho re_ re_ hm, ha H1 s _ fun v H2 s2 hv => hb H2 (s.trans s2) _ fun w H3 s3 hw => hr H3 v w ((s.trans s2).trans s3) (hv.up (hid_mono s3)) hw _ fun H4 s4 => ⟨k, rfl, q H4 ((s2.trans s3).trans s4)⟩⟩
theorem xt_cmpI {op : CmpOp} {g : Int → Int → Bool} {m n : Int} (ho : OpR X (compareOp op) (rI0 fun i j => .bl (g i j))) (ha : XD X M σ H a (.int m)) (hb : XD X M σ H b (.int n)) (hm : behindInMarks op b = false := by exact nomark _) : XT X σ H (.Compare a [op] [b] pos) (g m n) :=
  xt_cmp ho ha hb (fun H1 v w s hv hw Q q => ⟨m, n, dp_int hv, dp_int hw, q H1 (Same.refl _)⟩) hm
theorem xd_cmpI {op : CmpOp} {g : Int → Int → Bool} {m n : Int} (ho : OpR X (compareOp op) (rI0 fun i j => .bl (g i j))) (ha : XD X M σ H a (.int m)) (hb : XD X M σ H b (.int n)) (hm : behindInMarks op b = false := by exact nomark _) : XD X M σ H (.Compare a [op] [b] pos) (.bool (g m n)) :=
  xd_cmp ho ha hb (fun H1 v w s hv hw Q q => ⟨m, n, dp_int hv, dp_int hw, q _ H1 (Same.refl _) (.bl _)⟩) hm
theorem dec_int {m n : Int} : decide (V.int m = V.int n) = decide (m = n) := by
  by_cases h : m = n
  · subst h; simp
  · rw [decide_eq_false h, decide_eq_false fun z => h (V.int.inj z)]
theorem xd_eqI {m n : Int} (ha : XD X M σ H a (.int m)) (hb : XD X M σ H b (.int n)) : XD X M σ H (.Compare a [.Eq] [b] pos) (.bool (decide (m = n))) :=
  xd_cmp op_eq ha hb fun H1 v w s hv hw Q q => by
    rw [dp_int hv, dp_int hw]
    exact ⟨rfl, by rw [dec_int]; exact q _ H1 (Same.refl _) (.bl _)⟩
theorem xd_neI {m n : Int} (ha : XD X M σ H a (.int m)) (hb : XD X M σ H b (.int n)) : XD X M σ H (.Compare a [.NotEq] [b] pos) (.bool (!decide (m = n))) :=
  xd_cmp op_ne ha hb fun H1 v w s hv hw Q q => by
    rw [dp_int hv, dp_int hw]
    exact ⟨rfl, by rw [dec_int]; exact q _ H1 (Same.refl _) (.bl _)⟩
theorem xt_eqI {m n : Int} (ha : XD X M σ H a (.int m)) (hb : XD X M σ H b (.int n)) : XT X σ H (.Compare a [.Eq] [b] pos) (decide (m = n)) :=
  xt_cmp op_eq ha hb fun H1 v w s hv hw Q q => by
    rw [dp_int hv, dp_int hw]
    exact ⟨rfl, by rw [dec_int]; exact q H1 (Same.refl _)⟩
theorem xt_neI {m n : Int} (ha : XD X M σ H a (.int m)) (hb : XD X M σ H b (.int n)) : XT X σ H (.Compare a [.NotEq] [b] pos) (!decide (m = n)) :=
  xt_cmp op_ne ha hb fun H1 v w s hv hw Q q => by
    rw [dp_int hv, dp_int hw]
    exact ⟨rfl, by rw [dec_int]; exact q H1 (Same.refl _)⟩
theorem xd_eqD (hu : X.A.units + 64 < cLine) (ha : XD X M σ H a d1) (hb : XD X M σ H b d2) (s1 : SeqAt.shaped d1 = true) (s2 : SeqAt.shaped d2 = true) : XD X M σ H (.Compare a [.Eq] [b] pos) (.bool (PyData.eqv d1 d2)) :=
  xd_cmp (op_eqD hu) ha hb fun H1 v w s hv hw Q q => ⟨d1, d2, (hv.up hid_le).dp, (hw.up hid_le).dp, s1, s2, q _ H1 (Same.refl _) (.bl _)⟩
theorem xd_neD (hu : X.A.units + 64 < cLine) (ha : XD X M σ H a d1) (hb : XD X M σ H b d2) (s1 : SeqAt.shaped d1 = true) (s2 : SeqAt.shaped d2 = true) : XD X M σ H (.Compare a [.NotEq] [b] pos) (.bool (!PyData.eqv d1 d2)) :=
  xd_cmp (op_neD hu) ha hb fun H1 v w s hv hw Q q => ⟨d1, d2, (hv.up hid_le).dp, (hw.up hid_le).dp, s1, s2, q _ H1 (Same.refl _) (.bl _)⟩
theorem xt_eqD (hu : X.A.units + 64 < cLine) (ha : XD X M σ H a d1) (hb : XD X M σ H b d2) (s1 : SeqAt.shaped d1 = true) (s2 : SeqAt.shaped d2 = true) : XT X σ H (.Compare a [.Eq] [b] pos) (PyData.eqv d1 d2) :=
  xt_cmp (op_eqD hu) ha hb fun H1 v w s hv hw Q q => ⟨d1, d2, (hv.up hid_le).dp, (hw.up hid_le).dp, s1, s2, q H1 (Same.refl _)⟩
theorem xt_neD (hu : X.A.units + 64 < cLine) (ha : XD X M σ H a d1) (hb : XD X M σ H b d2) (s1 : SeqAt.shaped d1 = true) (s2 : SeqAt.shaped d2 = true) : XT X σ H (.Compare a [.NotEq] [b] pos) (!PyData.eqv d1 d2) :=
  xt_cmp (op_neD hu) ha hb fun H1 v w s hv hw Q q => ⟨d1, d2, (hv.up hid_le).dp, (hw.up hid_le).dp, s1, s2, q H1 (Same.refl _)⟩
/-! not, and, or -/
theorem xd_not {k : Bool} (ha : XD X M σ H a (.bool k)) : XD X M σ H (.UnaryOp .Not a pos) (.bool (!k)) := fun H1 s Q q =>
  ⟨_, pe_not re_, ha H1 s _ fun v H2 s2 hv => ⟨k, dp_bl hv, q _ H2 s2 (.bl _)⟩⟩
theorem xd_one {op} (ha : XD X M σ H a d) : XD X M σ H (.BoolOp op [a] pos) d := fun H1 s Q q => ⟨_, pe_one re_, ha H1 s Q q⟩
theorem xd_andT {rest : List Expr} (ha : XD X M σ H a (.bool true)) (hb : XD X M σ H (.BoolOp .And (b :: rest) pos) d) : XD X M σ H (.BoolOp .And (a :: b :: rest) pos) d := fun H1 s Q q =>
  ⟨_, pe_and re_ re_, ha H1 s _ fun v H2 s2 hv => ⟨true, dp_bl hv, iteT (hb H2 (s.trans s2) Q fun u H3 s3 hu => q u H3 (s2.trans s3) hu)⟩⟩
theorem xd_andF {rest : List Expr} (ha : XD X M σ H a (.bool false)) : XD X M σ H (.BoolOp .And (a :: b :: rest) pos) (.bool false) := fun H1 s Q q =>
  ⟨_, pe_and re_ re_, ha H1 s _ fun v H2 s2 hv => ⟨false, dp_bl hv, iteF (q _ H2 s2 (.bl _))⟩⟩
theorem xd_and2 {k1 k2 : Bool} (ha : XD X M σ H a (.bool k1)) (hb : k1 = true → XD X M σ H b (.bool k2)) : XD X M σ H (.BoolOp .And [a, b] pos) (.bool (k1 && k2)) := by
  cases k1 with
  | true => exact xd_andT ha (xd_one (hb rfl))
  | false => exact xd_andF ha
theorem xd_orF {rest : List Expr} (ha : XD X M σ H a (.bool false)) (hb : XD X M σ H (.BoolOp .Or (b :: rest) pos) d) : XD X M σ H (.BoolOp .Or (a :: b :: rest) pos) d := fun H1 s Q q =>
  ⟨_, pe_or re_ re_, ha H1 s _ fun v H2 s2 hv => ⟨false, dp_bl hv, iteF (hb H2 (s.trans s2) Q fun u H3 s3 hu => q u H3 (s2.trans s3) hu)⟩⟩
theorem xd_orT {rest : List Expr} (ha : XD X M σ H a (.bool true)) : XD X M σ H (.BoolOp .Or (a :: b :: rest) pos) (.bool true) := fun H1 s Q q =>
  ⟨_, pe_or re_ re_, ha H1 s _ fun v H2 s2 hv => ⟨true, dp_bl hv, iteT (q _ H2 s2 (.bl _))⟩⟩
theorem xt_val {k : Bool} (h : XD X M σ H e (.bool k)) (he : ∀ whole, isTrue e X.env whole = (do let v ← whole; standAt e.pos; holding [v] (truthy v)) := by intro _; rfl) : XT X σ H e k := fun H1 s Q q =>
  ⟨_, pt_val re_ he, h H1 s _ fun v H2 s2 hv => ⟨k, dp_bl hv, q H2 s2⟩⟩
theorem xt_not {k : Bool} (ha : XT X σ H a k) : XT X σ H (.UnaryOp .Not a pos) (!k) := fun H1 s Q q => ⟨_, pt_not rt_, ha H1 s _ q⟩
theorem xw_and1 {k : Bool} (ha : XT X σ H a k) : XW X σ H (.BoolOp .And [a] pos) k := fun H1 s Q q => ⟨_, pw_and1 rt_, ha H1 s _ q⟩
theorem xw_or1 {k : Bool} (ha : XT X σ H a k) : XW X σ H (.BoolOp .Or [a] pos) k := fun H1 s Q q => ⟨_, pw_or1 rt_, ha H1 s _ q⟩
theorem xw_andT {k : Bool} {rest : List Expr} (ha : XT X σ H a true) (hb : XW X σ H (.BoolOp .And (b :: rest) pos) k) : XW X σ H (.BoolOp .And (a :: b :: rest) pos) k := fun H1 s Q q =>
  ⟨_, pw_and rt_ rw_, ha H1 s _ fun H2 s2 => iteT (hb H2 (s.trans s2) Q fun H3 s3 => q H3 (s2.trans s3))⟩
theorem xw_andF {rest : List Expr} (ha : XT X σ H a false) : XW X σ H (.BoolOp .And (a :: b :: rest) pos) false := fun H1 s Q q =>
  ⟨_, pw_and rt_ rw_, ha H1 s _ fun H2 s2 => iteF (q H2 s2)⟩
theorem xw_orF {k : Bool} {rest : List Expr} (ha : XT X σ H a false) (hb : XW X σ H (.BoolOp .Or (b :: rest) pos) k) : XW X σ H (.BoolOp .Or (a :: b :: rest) pos) k := fun H1 s Q q =>
  ⟨_, pw_or rt_ rw_, ha H1 s _ fun H2 s2 => iteF (hb H2 (s.trans s2) Q fun H3 s3 => q H3 (s2.trans s3))⟩
theorem xw_orT {rest : List Expr} (ha : XT X σ H a true) : XW X σ H (.BoolOp .Or (a :: b :: rest) pos) true := fun H1 s Q q =>
  ⟨_, pw_or rt_ rw_, ha H1 s _ fun H2 s2 => iteT (q H2 s2)⟩
theorem XW.t {k : Bool} (h : XW X σ H e k) : XT X σ H e k := fun H1 s Q q => ⟨_, PW.pt rw_, h H1 s Q q⟩
theorem xt_and2 {k1 k2 : Bool} (ha : XT X σ H a k1) (hb : k1 = true → XT X σ H b k2) : XT X σ H (.BoolOp .And [a, b] pos) (k1 && k2) := by
  cases k1 with
  | true => exact (xw_andT ha (xw_and1 (hb rfl))).t
  | false => exact (xw_andF ha).t
theorem xt_or2 {k1 k2 : Bool} (ha : XT X σ H a k1) (hb : k1 = false → XT X σ H b k2) : XT X σ H (.BoolOp .Or [a, b] pos) (k1 || k2) := by
  cases k1 with
  | false => exact (xw_orF ha (xw_or1 (hb rfl))).t
  | true => exact (xw_orT ha).t
theorem xd_ifT {k : Expr} (hc : XT X σ H k true) (ha : XD X M σ H a d) : XD X M σ H (.IfExp k a b pos) d := fun H1 s Q q =>
  ⟨_, pe_ifExp rt_ re_ re_, hc H1 s _ fun H2 s2 => iteT (ha H2 (s.trans s2) Q fun u H3 s3 hu => q u H3 (s2.trans s3) hu)⟩
theorem xd_ifF {k : Expr} (hc : XT X σ H k false) (hb : XD X M σ H b d) : XD X M σ H (.IfExp k a b pos) d := fun H1 s Q q =>
  ⟨_, pe_ifExp rt_ re_ re_, hc H1 s _ fun H2 s2 => iteF (hb H2 (s.trans s2) Q fun u H3 s3 hu => q u H3 (s2.trans s3) hu)⟩
end
end Dl

set_option Elab.async false
set_option linter.all false
set_option maxRecDepth 100000
set_option maxHeartbeats 4000000
/-! Data layer, part 2: statements, subscripts, built-ins, lists, comprehensions, loops. -/
namespace Dl
open PySem PySem.Spec PyProof.Rows L2
section
variable {X : Cx} {M : List Addr} {σ : L2.St} {H H' : Hp} {e a b c o : Expr} {es : List Expr} {d d1 d2 : PyData} {ds es' : List PyData} {i : Nat} {x : Str} {v : V} {pos p1 p2 p3 : Pos} {D : Ends} {rest sts : List Stmt} {st : Stmt}
theorem XD.go {Q : VK} (h : XD X M σ H e d) (k : ∀ v H2, Same H H2 → Dq X.K (hid M H2) v d → Q v H2) : RE X e σ H Q := h H (Same.refl H) Q k
theorem XL.go {Q : VK} (h : XL X M σ H e ds) (k : ∀ p xs H2, Same H H2 → H p = none → H2 p = some (.lst xs) → DqAll X.K (hid M H2) xs ds → Q (.ref p) H2) : RE X e σ H Q := h H (Same.refl H) Q k
theorem XV.go {Q : VK} (h : XV X σ H e v) (k : ∀ H2, Same H H2 → Q v H2) : RE X e σ H Q := h H (Same.refl H) Q k
theorem XA.go {Q : List V → Hp → Prop} (h : XA X M σ H es ds) (k : ∀ vs H2, Same H H2 → DqAll X.K (hid M H2) vs ds → Q vs H2) : RA X es σ H Q := h H (Same.refl H) Q k
/-! ### statements -/
theorem rb_nil (h : D.nx σ H) : RB X [] D σ H := ⟨_, pss_nil, h⟩
theorem rb_cons (h : RS X st { D with nx := RB X rest D } σ H) : RB X (st :: rest) D σ H := ⟨_, pss_cons rs_ rb_, h⟩
/-- x = e, by the raw reading -/
theorem rb_setR (i : Nat) {x : Str} {pos' : Pos} (h : RE X e σ H fun v H1 => RB X rest D (σ.set i (some v)) H1) (hN : X.N.Nodup) (hi : X.N[i]? = some x := by rfl) (hx : Loc X.env.scope x := by first | exact Or.inl rfl | exact Or.inr rfl)
    (hs : swapsWith e (some (.Name x pos')) pos.line X.env = pure false := by rfl) (hf : X.fn x = true ∨ X.env.scope.names.lookup x = some .local := by first | exact .inl rfl | exact .inr rfl) : RB X (.Assign [.Name x pos'] e pos :: rest) D σ H :=
  ⟨_, pss_cons (ps_set hN hi hx re_ hs hf) rb_, h⟩
theorem rb_set (i : Nat) {x : Str} {pos' : Pos} (h : XD X M σ H e d) (k : ∀ v H1, Same H H1 → Dq X.K (hid M H1) v d → RB X rest D (σ.set i (some v)) H1) (hN : X.N.Nodup) (hi : X.N[i]? = some x := by rfl) (hx : Loc X.env.scope x := by first | exact Or.inl rfl | exact Or.inr rfl)
    (hs : swapsWith e (some (.Name x pos')) pos.line X.env = pure false := by rfl) (hf : X.fn x = true ∨ X.env.scope.names.lookup x = some .local := by first | exact .inl rfl | exact .inr rfl) : RB X (.Assign [.Name x pos'] e pos :: rest) D σ H :=
  rb_setR i (h H (Same.refl H) _ fun v H1 s hv => k v H1 s hv) hN hi hx hs hf
theorem rb_setL (i : Nat) {x : Str} {pos' : Pos} (h : XL X M σ H e ds) (k : ∀ p xs H1, Same H H1 → H p = none → H1 p = some (.lst xs) → DqAll X.K (hid M H1) xs ds → RB X rest D (σ.set i (some (.ref p))) H1) (hN : X.N.Nodup) (hi : X.N[i]? = some x := by rfl) (hx : Loc X.env.scope x := by first | exact Or.inl rfl | exact Or.inr rfl)
    (hs : swapsWith e (some (.Name x pos')) pos.line X.env = pure false := by rfl) (hf : X.fn x = true ∨ X.env.scope.names.lookup x = some .local := by first | exact .inl rfl | exact .inr rfl) : RB X (.Assign [.Name x pos'] e pos :: rest) D σ H :=
  rb_setR i (h H (Same.refl H) _ fun p xs H1 s hp h1 hd => k p xs H1 s hp h1 hd) hN hi hx hs hf
theorem rb_setV (i : Nat) {x : Str} {pos' : Pos} (h : XV X σ H e v) (k : ∀ H1, Same H H1 → RB X rest D (σ.set i (some v)) H1) (hN : X.N.Nodup) (hi : X.N[i]? = some x := by rfl) (hx : Loc X.env.scope x := by first | exact Or.inl rfl | exact Or.inr rfl)
    (hs : swapsWith e (some (.Name x pos')) pos.line X.env = pure false := by rfl) (hf : X.fn x = true ∨ X.env.scope.names.lookup x = some .local := by first | exact .inl rfl | exact .inr rfl) : RB X (.Assign [.Name x pos'] e pos :: rest) D σ H :=
  rb_setR i (h H (Same.refl H) _ fun H1 s => k H1 s) hN hi hx hs hf
theorem rb_retR (h : RE X e σ H D.rt) : RB X (.Return (some e) pos :: rest) D σ H := ⟨_, pss_cons (ps_ret re_) rb_, h⟩
theorem rb_ret (h : XD X M σ H e d) (k : ∀ v H1, Same H H1 → Dq X.K (hid M H1) v d → D.rt v H1) : RB X (.Return (some e) pos :: rest) D σ H := rb_retR (h H (Same.refl H) _ fun v H1 s hv => k v H1 s hv)
theorem rb_exprR (h : RE X e σ H fun _ H1 => RB X rest D σ H1) (hs : swapsWith e none pos.line X.env = pure false := by rfl) : RB X (.Expr e pos :: rest) D σ H := ⟨_, pss_cons (ps_expr re_ hs) rb_, h⟩
theorem rb_expr (h : XD X M σ H e d) (k : ∀ H1, Same H H1 → RB X rest D σ H1) (hs : swapsWith e none pos.line X.env = pure false := by rfl) : RB X (.Expr e pos :: rest) D σ H := rb_exprR (h H (Same.refl H) _ fun _ H1 s _ => k H1 s) hs
theorem rb_ifR {t f : List Stmt} (h : RT X c σ H fun k H1 => if k = true then RB X t { D with nx := RB X rest D } σ H1 else RB X f { D with nx := RB X rest D } σ H1) : RB X (.If c t f pos :: rest) D σ H := ⟨_, pss_cons (ps_if rt_ rb_ rb_) rb_, h⟩
theorem rb_if {k : Bool} {t f : List Stmt} (h : XT X σ H c k) (hT : k = true → ∀ H1, Same H H1 → RB X t { D with nx := RB X rest D } σ H1) (hF : k = false → ∀ H1, Same H H1 → RB X f { D with nx := RB X rest D } σ H1) : RB X (.If c t f pos :: rest) D σ H :=
  rb_ifR (h H (Same.refl H) _ fun H1 s => by
    cases k with
    | true => exact iteT (hT rfl H1 s)
    | false => exact iteF (hF rfl H1 s))
/-- if c: .. (no else) with c false -/
theorem rb_ifF {t : List Stmt} (h : XT X σ H c false) (k : ∀ H1, Same H H1 → RB X rest D σ H1) : RB X (.If c t [] pos :: rest) D σ H := rb_if h (fun z => Bool.noConfusion z) fun _ H1 s => rb_nil (k H1 s)
theorem rb_ifT {t f : List Stmt} (h : XT X σ H c true) (k : ∀ H1, Same H H1 → RB X t { D with nx := RB X rest D } σ H1) : RB X (.If c t f pos :: rest) D σ H := rb_if h (fun _ => k) fun z => Bool.noConfusion z
theorem rb_par (i j : Nat) {x y : Str} {px py pt : Pos} {kt k2 pt2} (ha : XA X M σ H [a, b] [d1, d2]) (k : ∀ v w H1, Same H H1 → Dq X.K (hid M H1) v d1 → Dq X.K (hid M H1) w d2 → RB X rest D ((σ.set i (some v)).set j (some w)) H1) (hN : X.N.Nodup)
    (hw : swappedStores [.Tuple [.Name x px, .Name y py] kt pt] (.Tuple [a, b] k2 pt2) X.env = pure (some [x, y]) := by rfl) (hc : X.calm = true := by rfl) (hi : X.N[i]? = some x := by rfl) (hj : X.N[j]? = some y := by rfl) (hij : i ≠ j := by decide)
    (hx : X.env.scope.names.lookup x = some .local := by rfl) (hy : X.env.scope.names.lookup y = some .local := by rfl)
    (hs : swapsWithSole [.Tuple [.Name x px, .Name y py] kt pt] (.Tuple [a, b] k2 pt2) pos.line X.env = pure false := by rfl) : RB X (.Assign [.Tuple [.Name x px, .Name y py] kt pt] (.Tuple [a, b] k2 pt2) pos :: rest) D σ H :=
  ⟨_, pss_cons (ps_par hc hN hi hj hij hx hy ra_ hw hs) rb_, ha H (Same.refl H) _ fun vs H1 s hv => by
    cases hv with
    | cons h1 h2 => cases h2 with
      | cons h2 h3 => cases h3; exact ⟨_, _, rfl, k _ _ H1 s h1 h2⟩⟩
/-- targets: a name; names of a tuple -/
def RG (X : Cx) (tg : Expr) : TG := fun v σ H Q => ∃ g, PG X tg g ∧ g v σ H Q
theorem rg_ {tg : Expr} : PG X tg (RG X tg) := ⟨fun pins s σ H v u Q I r ⟨_, h, q⟩ => h.run pins s σ H v u Q I r q⟩
def RGs (X : Cx) (tg : List Expr) : TGs := fun v σ H Q => ∃ g, PGs X tg g ∧ g v σ H Q
theorem rgs_ {tg : List Expr} : PGs X tg (RGs X tg) := ⟨fun pins s σ H v u Q I r ⟨_, h, q⟩ => h.run pins s σ H v u Q I r q⟩
theorem rg_name (i : Nat) {x : Str} {Q : L2.St → Hp → Prop} (q : Q (σ.set i (some v)) H) (hN : X.N.Nodup) (hi : X.N[i]? = some x := by rfl) (hx : Loc X.env.scope x := by first | exact Or.inl rfl | exact Or.inr rfl) (hf : X.fn x = true ∨ X.env.scope.names.lookup x = some .local := by first | exact .inl rfl | exact .inr rfl) :
    RG X (.Name x pos) v σ H Q := ⟨_, pg_name hN hi hx hf, q⟩
theorem rgs_nil {Q : L2.St → Hp → Prop} (q : Q σ H) : RGs X [] [] σ H Q := ⟨_, pgs_nil, rfl, q⟩
theorem rgs_cons {tg : Expr} {tgs : List Expr} {vs : List V} {Q : L2.St → Hp → Prop} (h : RG X tg v σ H fun σ1 H1 => RGs X tgs vs σ1 H1 Q) (hs : (assignEach (tg :: tgs) X.env).map (·.2) = assign tg X.env :: (assignEach tgs X.env).map (·.2) := by rfl) : RGs X (tg :: tgs) (v :: vs) σ H Q :=
  ⟨_, pgs_cons rg_ rgs_ hs, v, vs, rfl, h⟩
theorem rg_tup {tgs : List Expr} {k : Nat} {xs : List V} {p : Addr} {Q : L2.St → Hp → Prop} (hT : SqT X.K H p xs) (h : RGs X tgs xs σ H Q) (hc : X.calm = true := by rfl)
    (hn : (assignEach tgs X.env).length = xs.length := by rfl) (hst : (assignEach tgs X.env).findIdx? (·.1) = none := by rfl) : RG X (.Tuple tgs k pos) (.ref p) σ H Q := ⟨_, pg_tup (n := xs.length) hc rgs_ hn hst, p, xs, rfl, hT, rfl, h⟩
theorem rb_asgR {tg : Expr} (h : RE X e σ H fun v H1 => RG X tg v σ H1 (RB X rest D)) (hs : swapsWithSole [tg] e pos.line X.env = pure false := by rfl) (hw : swappedStores [tg] e X.env = pure none := by rfl)
    (h1 : (assignEach [tg] X.env).map (·.2) = [assign tg X.env] := by rfl) : RB X (.Assign [tg] e pos :: rest) D σ H := ⟨_, pss_cons (ps_asg re_ rg_ hs hw h1) rb_, h⟩
/-! ### calls of built-ins -/
theorem re_B {id : String} {r : List V → Hp → VK → Prop} {Q : VK} (hc : CallR X (.builtin id) r) (h : RA X (e :: es) σ H fun vs H1 => r vs H1 Q) (hm : X.mg x = none) (hv : bootBuiltins x = some (.builtin id)) (hg : Gl X x := by rfl) (hn : x ≠ "__name__" := by decide) (hdb : (x == ("__debug__" : Str)) = false := by decide)
    (he : starEach (e :: es) X.env = (false, eval e X.env) :: starEach es X.env := by rfl) (hpl : (backTo pos (starEach es X.env)).any (·.1) = false := by rfl) : RE X (.Call (.Name x p1) (e :: es) [] pos) σ H Q := ⟨_, pe_callB hc hg hm hv ra_ hn hdb he hpl, h⟩
theorem re_Ty {T : String} {r : List V → Hp → VK → Prop} {Q : VK} (hc : CallR X (.type T) r) (h : RA X (e :: es) σ H fun vs H1 => r vs H1 Q) (hm : X.mg x = none) (hv : bootBuiltins x = some (.type T)) (hg : Gl X x := by rfl) (hn : x ≠ "__name__" := by decide) (hdb : (x == ("__debug__" : Str)) = false := by decide)
    (he : starEach (e :: es) X.env = (false, eval e X.env) :: starEach es X.env := by rfl) (hpl : (backTo pos (starEach es X.env)).any (·.1) = false := by rfl) : RE X (.Call (.Name x p1) (e :: es) [] pos) σ H Q := ⟨_, pe_callTy hc hg hm hv ra_ hn hdb he hpl, h⟩
theorem ra_nil {Q : List V → Hp → Prop} (q : Q [] H) : RA X [] σ H Q := ⟨_, pa_nil, q⟩
theorem ra_cons {Q : List V → Hp → Prop} (h : RE X e σ H fun v H1 => RA X es σ H1 fun vs H2 => Q (v :: vs) H2) (hs : starEach (e :: es) X.env = (false, eval e X.env) :: starEach es X.env := by rfl) : RA X (e :: es) σ H Q := ⟨_, pa_cons re_ ra_ hs, h⟩
end
end Dl

set_option Elab.async false
set_option linter.all false
set_option maxRecDepth 100000
set_option maxHeartbeats 4000000
/-! Data layer, part 3: built-ins, subscripts, lists, loops, comprehensions. -/
namespace Dl
open PySem PySem.Spec PyProof.Rows L2
section
variable {X : Cx} {M : List Addr} {σ : L2.St} {H H' : Hp} {e a b c o : Expr} {es : List Expr} {d d1 d2 : PyData} {ds ds2 es' : List PyData} {x : Str} {v : V} {pos p1 p2 p3 : Pos} {D : Ends} {rest sts : List Stmt} {st : Stmt}
theorem re_mono {Q Q' : VK} (h : RE X e σ H Q) (k : ∀ v H1, Q v H1 → Q' v H1) : RE X e σ H Q' := by
  obtain ⟨t, ht, q⟩ := h
  exact ⟨fun σ H Q' => ∃ Q, t σ H Q ∧ ∀ v H1, Q v H1 → Q' v H1, ⟨fun pins s σ H Q' I ⟨Q, q, k⟩ => thn (ht.run pins s σ H Q I q) fun u s' ⟨v, H1, I1, r1, q1⟩ => ⟨v, H1, I1, r1, k v H1 q1⟩⟩, Q, q, k⟩
theorem ra_mono {Q Q' : List V → Hp → Prop} (h : RA X es σ H Q) (k : ∀ v H1, Q v H1 → Q' v H1) : RA X es σ H Q' := by
  obtain ⟨t, ht, q⟩ := h
  exact ⟨fun σ H Q' => ∃ Q, t σ H Q ∧ ∀ v H1, Q v H1 → Q' v H1, ⟨fun pos pins s σ H Q' I ⟨Q, q, k⟩ => thn (ht.run pos pins s σ H Q I q) fun u s' ⟨v, H1, I1, r1, q1⟩ => ⟨v, H1, I1, r1, k v H1 q1⟩⟩, Q, q, k⟩
theorem rb_mono {D D' : Ends} (h : RB X sts D σ H) (h1 : ∀ σ H, D.nx σ H → D'.nx σ H) (h2 : ∀ v H, D.rt v H → D'.rt v H) (h3 : ∀ σ H, D.bk σ H → D'.bk σ H) (h4 : ∀ σ H, D.ct σ H → D'.ct σ H) : RB X sts D' σ H := by
  obtain ⟨t, ht, q⟩ := h
  refine ⟨fun D' σ H => ∃ D, t D σ H ∧ (∀ σ H, D.nx σ H → D'.nx σ H) ∧ (∀ v H, D.rt v H → D'.rt v H) ∧ (∀ σ H, D.bk σ H → D'.bk σ H) ∧ (∀ σ H, D.ct σ H → D'.ct σ H), ⟨fun pins s σ H D' I ⟨D, q, h1, h2, h3, h4⟩ => thn (ht.run pins s σ H D I q) fun f s' hs => ?_⟩, D, q, h1, h2, h3, h4⟩
  cases f with
  | next => obtain ⟨σ', H', I', q⟩ := hs; exact ⟨σ', H', I', h1 _ _ q⟩
  | brk => obtain ⟨σ', H', I', q⟩ := hs; exact ⟨σ', H', I', h3 _ _ q⟩
  | cont => obtain ⟨σ', H', I', q⟩ := hs; exact ⟨σ', H', I', h4 _ _ q⟩
  | ret u => obtain ⟨v, σ', H', I', r, q⟩ := hs; exact ⟨v, σ', H', I', r, h2 _ _ q⟩
theorem ra_1 {Q : List V → Hp → Prop} (h : RE X e σ H fun v H1 => Q [v] H1) (hs : starEach [e] X.env = (false, eval e X.env) :: starEach [] X.env := by rfl) : RA X [e] σ H Q := ra_cons (re_mono h fun v H1 q => ra_nil q) hs
/-- a call of a built-in whose reading asks nothing but data -/
theorem xd_B {id : String} {r : List V → Hp → VK → Prop} (hc : CallR X (.builtin id) r) (ha : XA X M σ H (e :: es) ds)
    (hr : ∀ H1 vs, Same H H1 → DqAll X.K (hid M H1) vs ds → ∀ Q : VK, (∀ u H2, Same H1 H2 → Dq X.K (hid M H2) u d → Q u H2) → r vs H1 Q) (hm : X.mg x = none) (hv : bootBuiltins x = some (.builtin id)) (hg : Gl X x := by rfl) (hn : x ≠ "__name__" := by decide) (hdb : (x == ("__debug__" : Str)) = false := by decide)
    (he : starEach (e :: es) X.env = (false, eval e X.env) :: starEach es X.env := by rfl) (hpl : (backTo pos (starEach es X.env)).any (·.1) = false := by rfl) : XD X M σ H (.Call (.Name x p1) (e :: es) [] pos) d := fun H1 s Q q =>
  re_B hc (ha H1 s _ fun vs H2 s2 hvs => hr H2 vs (s.trans s2) hvs Q fun u H3 s3 hu => q u H3 (s2.trans s3) hu) hm hv hg hn hdb he hpl
theorem xd_len (hm : X.mg "len" = none) (ha : XD X M σ H e (.list ds)) (hg : Gl X "len" := by rfl) (he : starEach [e] X.env = (false, eval e X.env) :: starEach [] X.env := by rfl) (hpl : (backTo pos (starEach [] X.env)).any (·.1) = false := by rfl) :
    XD X M σ H (.Call (.Name "len" p1) [e] [] pos) (.int ds.length) :=
  xd_B call_len_seq (xa_cons ha xa_nil he) (fun H1 vs s h Q q => by
    cases h with
    | cons h1 h2 =>
      cases h2
      obtain ⟨p, xs, rfl, hp, hx⟩ := dp_lst h1
      exact ⟨p, xs, rfl, .inl (SqL.of (hid_le _ _ hp)), by rw [dpa_len hx]; exact q _ _ (Same.refl _) (.int _)⟩) hm PySem.boot_len hg (by decide) (by decide) he hpl
theorem xd_lenT (hm : X.mg "len" = none) (ha : XD X M σ H e (.tuple ds)) (hg : Gl X "len" := by rfl) (he : starEach [e] X.env = (false, eval e X.env) :: starEach [] X.env := by rfl) (hpl : (backTo pos (starEach [] X.env)).any (·.1) = false := by rfl) :
    XD X M σ H (.Call (.Name "len" p1) [e] [] pos) (.int ds.length) :=
  xd_B call_len_seq (xa_cons ha xa_nil he) (fun H1 vs s h Q q => by
    cases h with
    | cons h1 h2 =>
      cases h2
      obtain ⟨p, xs, rfl, hp, hx⟩ := dp_tup h1
      exact ⟨p, xs, rfl, .inr (same_seqT hid_le hp), by rw [dpa_len hx]; exact q _ _ (Same.refl _) (.int _)⟩) hm PySem.boot_len hg (by decide) (by decide) he hpl
theorem xd_abs {n : Int} (hm : X.mg "abs" = none) (ha : XD X M σ H e (.int n)) (hg : Gl X "abs" := by rfl) (he : starEach [e] X.env = (false, eval e X.env) :: starEach [] X.env := by rfl) (hpl : (backTo pos (starEach [] X.env)).any (·.1) = false := by rfl) :
    XD X M σ H (.Call (.Name "abs" p1) [e] [] pos) (.int (if n < 0 then -n else n)) :=
  xd_B call_abs (xa_cons ha xa_nil he) (fun H1 vs s h Q q => by
    cases h with
    | cons h1 h2 => cases h2; exact ⟨n, by rw [dp_int h1], q _ _ (Same.refl _) (.int _)⟩) hm (by decide +kernel) hg (by decide) (by decide) he hpl
theorem xd_max {m n : Int} (hm : X.mg "max" = none) (ha : XA X M σ H [a, b] [.int m, .int n]) (hc : X.calm = true := by rfl) (hg : Gl X "max" := by rfl) (he : starEach [a, b] X.env = (false, eval a X.env) :: starEach [b] X.env := by rfl) (hpl : (backTo pos (starEach [b] X.env)).any (·.1) = false := by rfl) :
    XD X M σ H (.Call (.Name "max" p1) [a, b] [] pos) (.int (if n > m then n else m)) :=
  xd_B (call_max2 hc) ha (fun H1 vs s h Q q => by
    cases h with
    | cons h1 h2 => cases h2 with
      | cons h2 h3 => cases h3; exact ⟨m, n, by rw [dp_int h1, dp_int h2], q _ _ (Same.refl _) (.int _)⟩) hm (by decide +kernel) hg (by decide) (by decide) he hpl
theorem xd_min {m n : Int} (hm : X.mg "min" = none) (ha : XA X M σ H [a, b] [.int m, .int n]) (hc : X.calm = true := by rfl) (hg : Gl X "min" := by rfl) (he : starEach [a, b] X.env = (false, eval a X.env) :: starEach [b] X.env := by rfl) (hpl : (backTo pos (starEach [b] X.env)).any (·.1) = false := by rfl) :
    XD X M σ H (.Call (.Name "min" p1) [a, b] [] pos) (.int (if n < m then n else m)) :=
  xd_B (call_min2 hc) ha (fun H1 vs s h Q q => by
    cases h with
    | cons h1 h2 => cases h2 with
      | cons h2 h3 => cases h3; exact ⟨m, n, by rw [dp_int h1, dp_int h2], q _ _ (Same.refl _) (.int _)⟩) hm (by decide +kernel) hg (by decide) (by decide) he hpl
/-- list(x) of a list, of a tuple -/
theorem xl_listT (hm : X.mg "list" = none) (L : Live M H) (ha : XD X M σ H e (.tuple ds)) (hg : Gl X "list" := by rfl) (he : starEach [e] X.env = (false, eval e X.env) :: starEach [] X.env := by rfl) (hpl : (backTo pos (starEach [] X.env)).any (·.1) = false := by rfl) :
    XL X M σ H (.Call (.Name "list" p1) [e] [] pos) ds := fun H1 s Q q =>
  re_Ty call_list_of (ra_1 (ha H1 s _ fun v H2 s2 hv => by
    obtain ⟨p, xs, rfl, hp, hx⟩ := dp_tup hv
    refine ⟨p, xs, rfl, .inr (same_seqT hid_le hp), fun l hl => q l xs _ (s2.trans (same_new hl)) (s2.free hl) upd_same ?_⟩
    rw [hid_new (L.mono (s.trans s2)) hl]
    exact hx.up (same_new (hid_free hl))) he) hm (by decide +kernel) hg (by decide) (by decide) he hpl
theorem xl_listL (hm : X.mg "list" = none) (L : Live M H) (ha : XD X M σ H e (.list ds)) (hg : Gl X "list" := by rfl) (he : starEach [e] X.env = (false, eval e X.env) :: starEach [] X.env := by rfl) (hpl : (backTo pos (starEach [] X.env)).any (·.1) = false := by rfl) :
    XL X M σ H (.Call (.Name "list" p1) [e] [] pos) ds := fun H1 s Q q =>
  re_Ty call_list_of (ra_1 (ha H1 s _ fun v H2 s2 hv => by
    obtain ⟨p, xs, rfl, hp, hx⟩ := dp_lst hv
    refine ⟨p, xs, rfl, .inl (SqL.of (hid_le _ _ hp)), fun l hl => q l xs _ (s2.trans (same_new hl)) (s2.free hl) upd_same ?_⟩
    rw [hid_new (L.mono (s.trans s2)) hl]
    exact hx.up (same_new (hid_free hl))) he) hm (by decide +kernel) hg (by decide) (by decide) he hpl
/-- tuple(x) of a list -/
theorem xd_tupleL (hm : X.mg "tuple" = none) (L : Live M H) (ha : XD X M σ H e (.list ds)) (hg : Gl X "tuple" := by rfl) (he : starEach [e] X.env = (false, eval e X.env) :: starEach [] X.env := by rfl) (hpl : (backTo pos (starEach [] X.env)).any (·.1) = false := by rfl) :
    XD X M σ H (.Call (.Name "tuple" p1) [e] [] pos) (.tuple ds) := fun H1 s Q q =>
  re_Ty call_tuple_of (ra_1 (ha H1 s _ fun v H2 s2 hv => by
    obtain ⟨p, xs, rfl, hp, hx⟩ := dp_lst hv
    refine ⟨p, xs, rfl, .inl ⟨SqL.of (hid_le _ _ hp), fun l hl => q _ _ (s2.trans (same_new hl)) ?_⟩⟩
    rw [hid_new (L.mono (s.trans s2)) hl]
    exact .tup (SqT.of upd_same) (hx.up (same_new (hid_free hl)))) he) hm (by decide +kernel) hg (by decide) (by decide) he hpl
theorem xd_intB {k : Bool} (hm : X.mg "int" = none) (ha : XD X M σ H e (.bool k)) (hg : Gl X "int" := by rfl) (he : starEach [e] X.env = (false, eval e X.env) :: starEach [] X.env := by rfl) (hpl : (backTo pos (starEach [] X.env)).any (·.1) = false := by rfl) :
    XD X M σ H (.Call (.Name "int" p1) [e] [] pos) (.int (if k then 1 else 0)) := fun H1 s Q q =>
  re_Ty call_int1 (ra_1 (ha H1 s _ fun v H2 s2 hv => .inr ⟨k, by rw [dp_bl hv], q _ _ s2 (.int _)⟩) he) hm (by decide +kernel) hg (by decide) (by decide) he hpl
/-! ### subscripts -/
theorem atI_map {α β : Type} {xs : List α} {ys : List β} {P : α → β → Prop} (hl : xs.length = ys.length) (hg : ∀ (i : Nat) (y : β), ys[i]? = some y → ∃ x, xs[i]? = some x ∧ P x y) {n : Int} {y : β} (h : atI ys n = some y) : ∃ x, atI xs n = some x ∧ P x y := by
  unfold atI at h ⊢
  rw [hl]
  cases e : ixN ys.length n with
  | none => rw [e] at h; cases h
  | some j =>
    rw [e] at h
    exact hg j y h
theorem xd_ixL {n : Int} (hs : PlainIx b) (ha : XD X M σ H a (.list ds)) (hb : XD X M σ H b (.int n)) (h : atI ds n = some d) : XD X M σ H (.Subscript a b pos) d := fun H1 s Q q =>
  ⟨_, pe_ix ix_list re_ re_ hs, ha H1 s _ fun v H2 s2 hv => hb H2 (s.trans s2) _ fun w H3 s3 hw => by
    obtain ⟨p, xs, rfl, hp, hx⟩ := dp_lst (hv.up (hid_mono s3))
    obtain ⟨u, hu, hd⟩ := atI_map (dpa_len hx) (fun i y h => dpa_get hx h) h
    exact ⟨p, xs, n, u, rfl, dp_int hw, SqL.of (hid_le _ _ hp), hu, q u H3 (s2.trans s3) hd⟩⟩
theorem xd_ixT {n : Int} (hs : PlainIx b) (ha : XD X M σ H a (.tuple ds)) (hb : XD X M σ H b (.int n)) (h : atI ds n = some d) : XD X M σ H (.Subscript a b pos) d := fun H1 s Q q =>
  ⟨_, pe_ix ix_tup re_ re_ hs, ha H1 s _ fun v H2 s2 hv => hb H2 (s.trans s2) _ fun w H3 s3 hw => by
    obtain ⟨p, xs, rfl, hp, hx⟩ := dp_tup (hv.up (hid_mono s3))
    obtain ⟨u, hu, hd⟩ := atI_map (dpa_len hx) (fun i y h => dpa_get hx h) h
    exact ⟨p, xs, n, u, rfl, dp_int hw, same_seqT hid_le hp, hu, q u H3 (s2.trans s3) hd⟩⟩
/-- xs[lo:hi] of a list -/
def XO (X : Cx) (σ : L2.St) (H : Hp) (e : Option Expr) (n : Option Int) : Prop := ∀ H1, Same H H1 → ∀ Q : Option Int → Hp → Prop, (∀ H2, Same H1 H2 → Q n H2) → ∃ t, PO X e t ∧ t σ H1 Q
theorem xo_none : XO X σ H none none := fun H1 s Q q => ⟨_, po_none, q H1 (Same.refl _)⟩
theorem xo_some {n : Int} (h : XD X M σ H e (.int n)) : XO X σ H (some e) (some n) := fun H1 s Q q => ⟨_, po_some re_, h H1 s _ fun v H2 s2 hv => ⟨n, dp_int hv, q H2 s2⟩⟩
def cutD (xs : List PyData) (lo hi : Option Int) : List PyData := (xs.drop (HT.sIx xs.length 0 lo)).take (HT.sIx xs.length xs.length hi - HT.sIx xs.length 0 lo)
def RO (X : Cx) (e : Option Expr) : L2.St → Hp → (Option Int → Hp → Prop) → Prop := fun σ H Q => ∃ t, PO X e t ∧ t σ H Q
theorem ro_ {e : Option Expr} : PO X e (RO X e) := ⟨fun pins s σ H Q I ⟨_, h, q⟩ => h.run pins s σ H Q I q⟩
theorem xl_cut {lo hi : Option Expr} {m n : Option Int} (L : Live M H) (ha : XD X M σ H a (.list ds)) (hl : XO X σ H lo m) (hu : XO X σ H hi n) : XL X M σ H (.Subscript a (.Slice lo hi none p2) pos) (cutD ds m n) := fun H1 s Q q =>
  ⟨_, pe_slice sl_list re_ ro_ ro_, ha H1 s _ fun v H2 s2 hv => hl H2 (s.trans s2) _ fun H3 s3 => hu H3 ((s.trans s2).trans s3) _ fun H4 s4 => by
    obtain ⟨p, xs, rfl, hp, hx⟩ := dp_lst (hv.up (hid_mono (s3.trans s4)))
    refine ⟨p, xs, rfl, SqL.of (hid_le _ _ hp), fun l hl => q l _ _ ((s2.trans (s3.trans s4)).trans (same_new hl)) ((s2.trans (s3.trans s4)).free hl) upd_same ?_⟩
    rw [hid_new (L.mono (s.trans (s2.trans (s3.trans s4)))) hl]
    have hz := dpa_len hx
    unfold cutV cutD
    rw [hz]
    exact (dpa_take _ (dpa_drop _ hx)).up (same_new (hid_free hl))⟩
/-! ### lists -/
theorem xl_cat (L : Live M H) (ha : XD X M σ H a (.list ds)) (hb : XD X M σ H b (.list ds2)) (hz : ds.length + ds2.length ≤ 100000) : XL X M σ H (.BinOp a .Add b pos) (ds ++ ds2) := fun H1 s Q q =>
  ⟨_, pe_op op_cat re_ re_, ha H1 s _ fun v H2 s2 hv => hb H2 (s.trans s2) _ fun w H3 s3 hw => by
    obtain ⟨p, xs, rfl, hp, hx⟩ := dp_lst (hv.up (hid_mono s3))
    obtain ⟨p', ys, rfl, hp', hy⟩ := dp_lst hw
    refine ⟨p, p', xs, ys, rfl, rfl, hid_le _ _ hp, hid_le _ _ hp', by rw [dpa_len hx, dpa_len hy]; exact small_sz hz, fun l hl => q l _ _ ((s2.trans s3).trans (same_new hl)) ((s2.trans s3).free hl) upd_same ?_⟩
    rw [hid_new (L.mono ((s.trans s2).trans s3)) hl]
    exact (dpa_app hx hy).up (same_new (hid_free hl))⟩
/-- l.append(e), l one of M's lists -/
theorem rb_append {l : Addr} {xs : List V} (hl : l ∈ M) (ho : XV X σ H o (.ref l)) (h1 : H l = some (.lst xs)) (he : XD X M σ H e d) (hz : xs.length < 100000) (k : ∀ v H1, Same H H1 → Dq X.K (hid M H1) v d → RB X rest D σ (upd H1 l (.lst (xs ++ [v]))))
    (hbase : attributeBase o "append" X.env (eval o X.env) = eval o X.env := by rfl)
    (hfew : ((backTo p2 (starEach [e] X.env)).all (fun x => !x.1) && (backToKw p2 (keywordEach [] X.env)).all (fun x => x.1.isSome) && decide ([e].length + ([] : List Keyword).length + (if ([] : List Keyword).isEmpty then 0 else 1) < 30)) = true := by rfl)
    (hline : (p1.endLine == p2.line) = true := by rfl) (hs : starEach [e] X.env = (false, eval e X.env) :: starEach [] X.env := by rfl) (hplain : (backTo p2 (starEach [] X.env)).any (·.1) = false := by rfl)
    (hsw : swapsWith (.Call (.Attribute o "append" p1) [e] [] p2) none pos.line X.env = pure false := by rfl) : RB X (.Expr (.Call (.Attribute o "append" p1) [e] [] p2) pos :: rest) D σ H :=
  rb_exprR ⟨_, pe_bm PySem.F.plainAttrs_list PySem.F.slot_list_append PySem.F.type_list_append mt_append re_ ra_ hbase hfew hline hs hplain,
    ho H (Same.refl H) _ fun H1 s1 => ⟨.inl ⟨rfl, xs, SqL.of (s1 _ _ h1)⟩, ra_1 (he H1 s1 _ fun v H2 s2 hv => ⟨l, xs, v, rfl, rfl, (s1.trans s2) _ _ h1, Nat.lt_of_lt_of_le hz (by decide), k v H2 (s1.trans s2) hv⟩) hs⟩⟩ hsw
/-- l.extend(e) -/
theorem rb_extend {l : Addr} {xs : List V} (hl : l ∈ M) (ho : XV X σ H o (.ref l)) (h1 : H l = some (.lst xs)) (he : XD X M σ H e (.list ds)) (hz : xs.length + ds.length ≤ 100000) (k : ∀ vs H1, Same H H1 → DqAll X.K (hid M H1) vs ds → RB X rest D σ (upd H1 l (.lst (xs ++ vs))))
    (hbase : attributeBase o "extend" X.env (eval o X.env) = eval o X.env := by rfl)
    (hfew : ((backTo p2 (starEach [e] X.env)).all (fun x => !x.1) && (backToKw p2 (keywordEach [] X.env)).all (fun x => x.1.isSome) && decide ([e].length + ([] : List Keyword).length + (if ([] : List Keyword).isEmpty then 0 else 1) < 30)) = true := by rfl)
    (hline : (p1.endLine == p2.line) = true := by rfl) (hs : starEach [e] X.env = (false, eval e X.env) :: starEach [] X.env := by rfl) (hplain : (backTo p2 (starEach [] X.env)).any (·.1) = false := by rfl)
    (hsw : swapsWith (.Call (.Attribute o "extend" p1) [e] [] p2) none pos.line X.env = pure false := by rfl) : RB X (.Expr (.Call (.Attribute o "extend" p1) [e] [] p2) pos :: rest) D σ H :=
  rb_exprR ⟨_, pe_bm PySem.F.plainAttrs_list PySem.F.slot_list_extend PySem.F.type_list_extend mt_extend re_ ra_ hbase hfew hline hs hplain,
    ho H (Same.refl H) _ fun H1 s1 => ⟨.inl ⟨rfl, xs, SqL.of (s1 _ _ h1)⟩, ra_1 (he H1 s1 _ fun v H2 s2 hv => by
      obtain ⟨b, ys, rfl, hb, hy⟩ := dp_lst hv
      exact ⟨l, b, xs, ys, rfl, rfl, (s1.trans s2) _ _ h1, hid_le _ _ hb, by rw [dpa_len hy]; exact small_sz hz, k ys H2 (s1.trans s2) hy⟩) hs⟩⟩ hsw
/-! ### loops -/
/-- for tg in e: .., e a list; Pv: by the turn; the known part must stand -/
theorem rb_for {tg : Expr} {body : List Stmt} (hit : XD X M σ H e (.list ds))
    (h : ∀ H1, Same H H1 → ∃ Pv : Nat → L2.St → Hp → Prop, Pv 0 σ H1 ∧ (∀ k σ' H', Pv k σ' H' → Same (hid M H1) (hid M H')) ∧
      (∀ k d, ds[k]? = some d → ∀ σ' H' v, Pv k σ' H' → Dq X.K (hid M H') v d → RG X tg v σ' H' fun σ2 H2 => RB X body { D with nx := Pv (k + 1), ct := Pv (k + 1), bk := RB X rest D } σ2 H2) ∧ ∀ σ' H', Pv ds.length σ' H' → RB X rest D σ' H')
    (hp : PassesOwn (model X.prog X.w) X.A X.env X.xe := by exact PassesOwn.never) (hc : X.calm = true := by rfl) (hs : ∀ x, foldedSetIterable e X.env x = pure x := by intro _; rfl) : RB X (.For tg e body [] pos :: rest) D σ H :=
  ⟨_, pss_cons (ps_for hp hc (pi_list re_) rg_ rb_ hs) rb_, hit H (Same.refl H) _ fun v H1 s1 hv => by
    obtain ⟨a, xs, rfl, ha, hx⟩ := dp_lst hv
    obtain ⟨Pv, h0, hk, hst, hd⟩ := h H1 s1
    refine ⟨a, rfl, ⟨xs, SqL.of (hid_le _ _ ha)⟩, for_list (xs := xs) Pv h0 (fun i σ' H' _ p => SqL.of (hid_le _ _ (hk i σ' H' p _ _ ha))) (fun i x σ' H' hi p => ?_) (by rw [dpa_len hx]; exact hd)⟩
    obtain ⟨d, h1, h2⟩ := dpa_get' hx hi
    exact hst i d h1 σ' H' x p (h2.up (hk i σ' H' p))⟩
theorem rb_forT {tg : Expr} {body : List Stmt} (hit : XD X M σ H e (.tuple ds))
    (h : ∀ H1, Same H H1 → ∃ Pv : Nat → L2.St → Hp → Prop, Pv 0 σ H1 ∧ (∀ k σ' H', Pv k σ' H' → Same (hid M H1) (hid M H')) ∧
      (∀ k d, ds[k]? = some d → ∀ σ' H' v, Pv k σ' H' → Dq X.K (hid M H') v d → RG X tg v σ' H' fun σ2 H2 => RB X body { D with nx := Pv (k + 1), ct := Pv (k + 1), bk := RB X rest D } σ2 H2) ∧ ∀ σ' H', Pv ds.length σ' H' → RB X rest D σ' H')
    (hp : PassesOwn (model X.prog X.w) X.A X.env X.xe := by exact PassesOwn.never) (hc : X.calm = true := by rfl) (hs : ∀ x, foldedSetIterable e X.env x = pure x := by intro _; rfl) : RB X (.For tg e body [] pos :: rest) D σ H :=
  ⟨_, pss_cons (ps_for hp hc (pi_tup re_) rg_ rb_ hs) rb_, hit H (Same.refl H) _ fun v H1 s1 hv => by
    obtain ⟨a, xs, rfl, ha, hx⟩ := dp_tup hv
    obtain ⟨Pv, h0, hk, hst, hd⟩ := h H1 s1
    refine ⟨a, rfl, ⟨xs, same_seqT hid_le ha⟩, for_tup (xs := xs) Pv h0 (fun i σ' H' _ p => same_seqT hid_le (same_seqT (hk i σ' H' p) ha)) (fun i x σ' H' hi p => ?_) (by rw [dpa_len hx]; exact hd)⟩
    obtain ⟨d, h1, h2⟩ := dpa_get' hx hi
    exact hst i d h1 σ' H' x p (h2.up (hk i σ' H' p))⟩
/-- for tg in range(e): .. -/
theorem rb_range {tg : Expr} {body : List Stmt} (hm : X.mg "range" = none) (hit : RE X e σ H fun v H1 => ∃ n : Nat, v = .int (n : Int) ∧ n < 2 ^ 61 ∧ ∃ Pv : Nat → L2.St → Hp → Prop, Pv 0 σ H1 ∧
      (∀ k σ' H', k < n → Pv k σ' H' → RG X tg (.int (k : Int)) σ' H' fun σ2 H2 => RB X body { D with nx := Pv (k + 1), ct := Pv (k + 1), bk := RB X rest D } σ2 H2) ∧ ∀ σ' H', Pv n σ' H' → RB X rest D σ' H')
    (hg : Gl X "range" := by rfl) (he : starEach [e] X.env = [(false, eval e X.env)] := by rfl) (hp : PassesOwn (model X.prog X.w) X.A X.env X.xe := by exact PassesOwn.never) (hc : X.calm = true := by rfl)
    (hs : ∀ x, foldedSetIterable (.Call (.Name "range" p1) [e] [] p2) X.env x = pure x := by intro _; rfl) : RB X (.For tg (.Call (.Name "range" p1) [e] [] p2) body [] pos :: rest) D σ H :=
  ⟨_, pss_cons (ps_for hp hc (pi_range1 hg hm ra_ he) rg_ rb_ hs) rb_, ra_1 (re_mono hit fun v H1 ⟨n, ev, hn, Pv, h0, hst, hd⟩ => by
    refine ⟨(n : Int), by rw [ev], by omega, by omega, ?_⟩
    rw [Int.toNat_natCast]
    refine for_range Pv h0 (fun i σ' H' hi p => ?_) hd
    rw [Int.zero_add]
    exact hst i σ' H' hi p) he⟩
end
/-! ### comprehensions -/
/-- what is read within a comprehension -/
def BE (X : Cx) (scope : Scope) (e : Expr) : TE := fun σ H Q => ∀ (s : Shared) (H0 : Hp) (C : Addr) (cl : List (Str × Addr)) (fp : List Addr), RE (X.blk s H0 scope (compEnvC scope cl C X.env) fp) e σ H Q
def BG (X : Cx) (scope : Scope) (e : Expr) : TG := fun v σ H Q => ∀ (s : Shared) (H0 : Hp) (C : Addr) (cl : List (Str × Addr)) (fp : List Addr), RG (X.blk s H0 scope (compEnvC scope cl C X.env) fp) e v σ H Q
def BT (X : Cx) (scope : Scope) (es : List Expr) : TT := fun σ H Q => ∀ (s : Shared) (H0 : Hp) (C : Addr) (cl : List (Str × Addr)) (fp : List Addr), ∃ t, PTs (X.blk s H0 scope (compEnvC scope cl C X.env) fp) es t ∧ t σ H Q
section
variable {X : Cx} {M : List Addr} {σ : L2.St} {H H' : Hp} {e a b c o elt tg iter : Expr} {ifs : List Expr} {scope : Scope} {own : List (Str × Nat)} {es : List Expr} {d d1 d2 : PyData} {ds ds2 es' : List PyData} {x : Str} {v : V} {pos p1 p2 p3 : Pos}
theorem be_ {s : Shared} {H0 : Hp} {C : Addr} {cl : List (Str × Addr)} {fp : List Addr} : PE (X.blk s H0 scope (compEnvC scope cl C X.env) fp) e (BE X scope e) := ⟨fun pins s' σ H Q I h => by
  obtain ⟨_, ht, q⟩ := h s H0 C cl fp
  exact ht.run pins s' σ H Q I q⟩
theorem bg_ {s : Shared} {H0 : Hp} {C : Addr} {cl : List (Str × Addr)} {fp : List Addr} : PG (X.blk s H0 scope (compEnvC scope cl C X.env) fp) e (BG X scope e) := ⟨fun pins s' σ H v u Q I r h => by
  obtain ⟨_, ht, q⟩ := h s H0 C cl fp
  exact ht.run pins s' σ H v u Q I r q⟩
theorem bt_ {s : Shared} {H0 : Hp} {C : Addr} {cl : List (Str × Addr)} {fp : List Addr} : PTs (X.blk s H0 scope (compEnvC scope cl C X.env) fp) es (BT X scope es) := ⟨fun pins s' σ H Q I h => by
  obtain ⟨_, ht, q⟩ := h s H0 C cl fp
  exact ht.run pins s' σ H Q I q⟩
theorem bt_nil {Q : Bool → Hp → Prop} (q : Q true H) : BT X scope [] σ H Q := fun _ _ _ _ _ => ⟨_, pts_nil, q⟩
theorem bt_one {k : Bool} {Q : Bool → Hp → Prop} (h : ∀ (s : Shared) (H0 : Hp) (C : Addr) (cl : List (Str × Addr)) (fp : List Addr), XT (X.blk s H0 scope (compEnvC scope cl C X.env) fp) σ H c k) (q : ∀ H2, Same H H2 → Q k H2) : BT X scope [c] σ H Q := fun s H0 C cl fp =>
  ⟨_, pts_one rt_, h s H0 C cl fp H (Same.refl H) _ q⟩
theorem rg_mono {Q Q' : L2.St → Hp → Prop} (h : RG X tg v σ H Q) (k : ∀ σ1 H1, Q σ1 H1 → Q' σ1 H1) : RG X tg v σ H Q' := by
  obtain ⟨g, hg, q⟩ := h
  exact ⟨fun v σ H Q' => ∃ Q, g v σ H Q ∧ ∀ σ1 H1, Q σ1 H1 → Q' σ1 H1, ⟨fun pins s σ H v u Q' I r ⟨Q, q, k⟩ => thn (hg.run pins s σ H v u Q I r q) fun _ s' ⟨σ', H', I', q'⟩ => ⟨σ', H', I', k _ _ q'⟩⟩, Q, q, k⟩
theorem bg_mono {Q Q' : L2.St → Hp → Prop} (h : BG X scope tg v σ H Q) (k : ∀ σ1 H1, Q σ1 H1 → Q' σ1 H1) : BG X scope tg v σ H Q' := fun s H0 C cl fp => rg_mono (h s H0 C cl fp) k
theorem be_mono {Q Q' : VK} (h : BE X scope e σ H Q) (k : ∀ v H1, Q v H1 → Q' v H1) : BE X scope e σ H Q' := fun s H0 C cl fp => re_mono (h s H0 C cl fp) k
theorem bt_mono {Q Q' : Bool → Hp → Prop} (h : BT X scope es σ H Q) (k : ∀ v H1, Q v H1 → Q' v H1) : BT X scope es σ H Q' := fun s H0 C cl fp => by
  obtain ⟨t, ht, q⟩ := h s H0 C cl fp
  exact ⟨fun σ H Q' => ∃ Q, t σ H Q ∧ ∀ v H1, Q v H1 → Q' v H1, ⟨fun pins s σ H Q' I ⟨Q, q, k⟩ => thn (ht.run pins s σ H Q I q) fun u s' ⟨H1, I1, q1⟩ => ⟨H1, I1, k u H1 q1⟩⟩, Q, q, k⟩
theorem hid_step {p : Addr} {H1 : Hp} (hp : H p = none) (s : Same H H1) : Same (hid M H) (hid (p :: M) H1) := fun b o e => by
  have nM : b ∉ M := fun z => by unfold hid at e; rw [if_pos z] at e; cases e
  have e' := hid_le _ _ e
  have np : b ≠ p := ne_of_none e' hp
  rw [hid_of (by simp [np, nM])]
  exact s _ _ e'
theorem hid_upd_ne {p : Addr} {o : HO} {H1 : Hp} : hid (p :: M) (upd H1 p o) = hid (p :: M) H1 := hid_upd_mem (List.mem_cons_self ..)
/-- [elt for tg in iter if ..]: f gives what an item comes to, none where it is left out -/
theorem xl_comp (f : PyData → Option PyData) (L : Live M H) (hN : X.N.Nodup) (hit : XD X M σ H iter (.list ds)) (ok : BlkOk X.N X.env.scope scope own) (hz : ds.length ≤ 100000)
    (hst : ∀ p d v H1, d ∈ ds → H p = none → Same H H1 → Live (p :: M) H1 → Dq X.K (hid (p :: M) H1) v d → BG X scope tg v (wipe σ (own.map (·.2))) H1 fun σ2 H2 => wipe σ2 (own.map (·.2)) = wipe σ (own.map (·.2)) ∧ BT X scope ifs σ2 H2 fun k H3 =>
      Same H1 H3 ∧ ((k = true ∧ ∃ d', f d = some d' ∧ BE X scope elt σ2 H3 fun y H4 => Same H3 H4 ∧ Dq X.K (hid (p :: M) H4) y d') ∨ (k = false ∧ f d = none)))
    (hc : X.calm = true := by rfl) (hs : ∀ x, foldedSetIterable iter X.env x = pure x := by intro _; rfl) : XL X M σ H (.ListComp elt [⟨tg, iter, ifs, 0⟩] scope pos) (ds.filterMap f) := fun H1 s1 Q q =>
  ⟨_, pe_lc (own := own) hc hN (pi_list re_) ok (fun _ _ _ _ _ => bg_) (fun _ _ _ _ _ => bt_) (fun _ _ _ _ _ => be_) hs, hit H1 s1 _ fun v H2 s2 hv => by
    obtain ⟨a, xs, rfl, ha, hx⟩ := dp_lst hv
    have L2' : Live M H2 := L.mono (s1.trans s2)
    refine ⟨a, rfl, ⟨xs, SqL.of (hid_le _ _ ha)⟩, fun p hp => ?_⟩
    have hpM : p ∉ M := L2'.fresh hp
    have hp0 : H p = none := (s1.trans s2).free hp
    refine lc_list (xs := xs) (a := a) (fun i H' => Same H2 H' ∧ ∃ acc, H' p = some (.lst acc) ∧ DqAll X.K (hid (p :: M) H') acc ((ds.take i).filterMap f)) ⟨same_new hp, [], upd_same, by simpa using DqAll.nil⟩ (fun i H' _ w => SqL.of (w.1 _ _ (hid_le _ _ ha))) (fun i x H' hi w => ?_) (fun H' w => ?_)
    · obtain ⟨sH, acc, hacc, hda⟩ := w
      obtain ⟨d, hd1, hd2⟩ := dpa_get' hx hi
      have hdm : d ∈ ds := List.mem_of_getElem? hd1
      have etake : ds.take (i + 1) = ds.take i ++ [d] := by
        rw [List.take_add_one, hd1]; rfl
      have hlen : acc.length < sizeLine := by
        rw [dpa_len hda]
        have h1 : ((ds.take i).filterMap f).length ≤ (ds.take i).length := List.length_filterMap_le ..
        have h2 : (ds.take i).length ≤ i := by rw [List.length_take]; omega
        have h3 : i < ds.length := (List.getElem?_eq_some_iff.mp hd1).1
        have h4 : 100000 < sizeLine := by decide
        omega
      have Lp : Live (p :: M) H' := fun b hb => by
        rcases List.mem_cons.mp hb with z | hb
        · subst z; rw [hacc]; simp
        · exact L2'.mono sH b hb
      have kx : Dq X.K (hid (p :: M) H') x d := hd2.up (hid_step hp sH)
      refine bg_mono (hst p d x H' hdm hp0 ((s1.trans s2).trans sH) Lp kx) fun σ2 Ha ⟨hw, hbt⟩ => ⟨hw, bt_mono hbt fun k Hb ⟨sb, hk⟩ => ?_⟩
      have sH' : Same H' Hb := sb
      rcases hk with ⟨hk, d', hf, hbe⟩ | ⟨hk, hf⟩
      · subst hk
        refine iteT (be_mono hbe fun y Hc ⟨sc, hy⟩ => ?_)
        have sd := sH'.trans sc
        refine ⟨acc, sd _ _ hacc, hlen, fun b o e => ?_, acc ++ [y], upd_same, ?_⟩
        · have nb : b ≠ p := ne_of_none e hp
          rw [upd_ne nb]
          exact sd _ _ (sH _ _ e)
        · rw [hid_upd_ne, etake, List.filterMap_append]
          have e2 : [d].filterMap f = [d'] := by simp [hf]
          rw [e2]
          exact dpa_app (hda.up (hid_mono sd)) (.cons hy .nil)
      · subst hk
        refine iteF ⟨sH.trans sH', acc, sH' _ _ hacc, ?_⟩
        rw [etake, List.filterMap_append]
        have e2 : [d].filterMap f = [] := by simp [hf]
        rw [e2, List.append_nil]
        exact hda.up (hid_mono sH')
    · obtain ⟨sH, acc, hacc, hda⟩ := w
      have e1 : ds.take xs.length = ds := by rw [dpa_len hx]; exact List.take_length
      rw [e1] at hda
      refine q p acc H' (s2.trans sH) (s2.free hp) hacc (hda.up fun b o e => ?_)
      have n1 : b ∉ p :: M := fun z => by unfold hid at e; rw [if_pos z] at e; cases e
      rw [hid_of (fun z => n1 (List.mem_cons_of_mem _ z))]
      exact hid_le _ _ e⟩
end
end Dl

set_option Elab.async false
set_option linter.all false
set_option maxRecDepth 100000
set_option maxHeartbeats 4000000
/-! Data layer, part 4: own defs by data, calls where no repr is under way, repr, isinstance, instances. -/
namespace Dl
open PySem PySem.Spec PyProof.Rows L2
/-! ### a def by data -/
/-- arguments ds with R ds d: the data d comes back, all stands -/
def spR (K : PySem.W.Frag) (R : List PyData → PyData → Prop) : Sp := fun vs H Q _ => ∃ (M : List Addr) (ds : List PyData) (d : PyData), Live M H ∧ DqAll K (hid M H) vs ds ∧ R ds d ∧ ∀ v H1, Same H H1 → Dq K (hid M H1) v d → Q v H1
/-- .. a new list of the data es -/
def spL (K : PySem.W.Frag) (R : List PyData → List PyData → Prop) : Sp := fun vs H Q _ => ∃ (M : List Addr) (ds es : List PyData), Live M H ∧ DqAll K (hid M H) vs ds ∧ R ds es ∧ ∀ p xs H1, Same H H1 → H p = none → H1 p = some (.lst xs) → DqAll K (hid M H1) xs es → Q (.ref p) H1
section
variable {X : Cx} {M : List Addr} {σ : L2.St} {H H' : Hp} {e a b c o : Expr} {es : List Expr} {d d1 d2 : PyData} {ds ds2 es' : List PyData} {x : Str} {v : V} {pos p1 p2 p3 : Pos} {D : Ends} {rest sts : List Stmt} {st : Stmt} {k : Nat} {f C : Addr} {fd : FuncData} {ps : List Str}
theorem re_call {sp : Sp} {Q : VK} (F : FnOk X.prog X.w X.K X.mg X.base CX0 k f fd ps sp) (hr : Room k X.A) (hm : X.mg x = some (.ref f)) (hk : PySem.W.keepIn X.K (.ref f) = true) (hb : Binds X.K fd ps []) (ha : RA X (e :: es) σ H fun vs H1 => sp vs H1 Q E0) (hg : Gl X x := by rfl)
    (hdb : (x == ("__debug__" : Str)) = false := by decide) (he : starEach (e :: es) X.env = (false, eval e X.env) :: starEach es X.env := by rfl) (hpl : (backTo pos (starEach es X.env)).any (·.1) = false := by rfl) : RE X (.Call (.Name x p1) (e :: es) [] pos) σ H Q :=
  ⟨_, pe_call F hr hg hm hk hb .nil pass0 ra_ hdb he hpl, ra_mono ha fun vs H1 q => by rw [List.append_nil]; exact q⟩
theorem re_callD {sp : Sp} {Q : VK} {dvs : List V} {dl : List Value} (F : FnOk X.prog X.w X.K X.mg X.base CX0 k f fd ps sp) (hr : Room k X.A) (hm : X.mg x = some (.ref f)) (hk : PySem.W.keepIn X.K (.ref f) = true) (hb : Binds X.K fd ps dl) (hd : Vals dvs dl) (ha : RA X (e :: es) σ H fun vs H1 => sp (vs ++ dvs) H1 Q E0) (hg : Gl X x := by rfl)
    (hdb : (x == ("__debug__" : Str)) = false := by decide) (he : starEach (e :: es) X.env = (false, eval e X.env) :: starEach es X.env := by rfl) (hpl : (backTo pos (starEach es X.env)).any (·.1) = false := by rfl) : RE X (.Call (.Name x p1) (e :: es) [] pos) σ H Q :=
  ⟨_, pe_call F hr hg hm hk hb hd pass0 ra_ hdb he hpl, ha⟩
theorem xd_call {R : List PyData → PyData → Prop} (L : Live M H) (F : FnOk X.prog X.w X.K X.mg X.base CX0 k f fd ps (spR X.K R)) (hr : Room k X.A) (hm : X.mg x = some (.ref f)) (hk : PySem.W.keepIn X.K (.ref f) = true) (hb : Binds X.K fd ps []) (ha : XA X M σ H (e :: es) ds) (hR : R ds d) (hg : Gl X x := by rfl)
    (hdb : (x == ("__debug__" : Str)) = false := by decide) (he : starEach (e :: es) X.env = (false, eval e X.env) :: starEach es X.env := by rfl) (hpl : (backTo pos (starEach es X.env)).any (·.1) = false := by rfl) : XD X M σ H (.Call (.Name x p1) (e :: es) [] pos) d := fun H1 s Q q =>
  re_call F hr hm hk hb (ha H1 s _ fun vs H2 s2 hv => ⟨M, ds, d, L.mono (s.trans s2), hv, hR, fun v H3 s3 hd => q v H3 (s2.trans s3) hd⟩) hg hdb he hpl
theorem xl_call {R : List PyData → List PyData → Prop} (L : Live M H) (F : FnOk X.prog X.w X.K X.mg X.base CX0 k f fd ps (spL X.K R)) (hr : Room k X.A) (hm : X.mg x = some (.ref f)) (hk : PySem.W.keepIn X.K (.ref f) = true) (hb : Binds X.K fd ps []) (ha : XA X M σ H (e :: es) ds) (hR : R ds ds2) (hg : Gl X x := by rfl)
    (hdb : (x == ("__debug__" : Str)) = false := by decide) (he : starEach (e :: es) X.env = (false, eval e X.env) :: starEach es X.env := by rfl) (hpl : (backTo pos (starEach es X.env)).any (·.1) = false := by rfl) : XL X M σ H (.Call (.Name x p1) (e :: es) [] pos) ds2 := fun H1 s Q q =>
  re_call F hr hm hk hb (ha H1 s _ fun vs H2 s2 hv => ⟨M, ds, ds2, L.mono (s.trans s2), hv, hR, fun p xs H3 s3 hp h3 hd => q p xs H3 (s2.trans s3) (s2.free hp) h3 hd⟩) hg hdb he hpl
/-! ### a def, called where no repr is under way -/
structure FnG (P : Program) (w : World) (K : PySem.W.Frag) (mg : Str → Option Value) (base : Heap) (k : Nat) (f : Addr) (fd : FuncData) (ps : List Str) (sp : Sp) : Prop where
  len : ∀ vs H Q E, sp vs H Q E → vs.length = ps.length
  run : ∀ (A : Around), A.guards = some [] → Room k A → ∀ (outer : List Env) (s : Shared) (H : Hp) (args : Args) (us : List Value) (vs : List V) (Q : VK) (E : XK), Env0 P w K mg base A outer s H → BindsTo s fd args (ps.zip us) → Vals vs us → sp vs H Q E →
    codeAny (model P w) A (.call (.ref f) args) (CR CX0 outer P w H s Q E) s
theorem fn_g {P : Program} {w : World} {K : PySem.W.Frag} {mg : Str → Option Value} {base : Heap} {sp : Sp} {qual x : Str} {st : Stmt} {N : List Str} (F : Fun K x qual st f fd) (S : FnScope N ps (defScope st)) (len : ∀ vs H Q E, sp vs H Q E → vs.length = ps.length)
    (hbody : ∀ (cdv : Value) (A : Around) (outer : List Env) (s : Shared) (H : Hp) (vs : List V) (Q : VK) (E : XK), A.guards = some [] → Room k (A.deeper (envOfC qual (defScope st) s.heap.objs.size f cdv)) → sp vs H Q E →
      RB (cxOf CX0 P w K mg base N qual (defScope st) f cdv A outer s H E).nox (defBody st) { nx := fun _ H1 => Q .non H1, rt := Q } (start N vs) H) : FnG P w K mg base (k + 1) f fd ps sp where
  len := len
  run := fun A hA hr outer s H args us vs Q E e0 hb r hsp => by
    obtain ⟨oc, od, kV, doc, pm, an, cdv, ct, osl, hfd, lk, hcd⟩ := F.ex
    subst hfd
    have hz := len _ _ _ _ hsp
    have KX : K.In s.heap := e0.mod.kin.keeps (fun b o e => (e0.bs b o e).1)
    have nl : s.heap.NoLimit := e0.mod.nolimit.keeps (fun b o e => (e0.bs b o e).1)
    have kinds : ∀ y ∈ ps.zip us, (defScope st).names.lookup y.1 = some .local ∨ ((defScope st).names.lookup y.1 = some .cell ∧ ((cellsFrom (s.heap.objs.size + 1) (defScope st).names []).lookup y.1).isSome = true) := by
      intro y hy
      rcases S.par y.1 (List.of_mem_zip (show (y.1, y.2) ∈ ps.zip us from hy)).1 with z | z
      · exact .inl z
      · exact .inr ⟨z, PySem.W.cellsFrom_some _ _ _ (.inl z)⟩
    refine codeAny_call_function (Room.depth hr) (KX _ _ lk) rfl S.co S.gen rfl (PySem.W.codeRec_of KX hcd) (hb _ _ _ _ ?_)
    refine wpAny_newFunctionEnv_cells S.kind kinds (fun env henv s1 inc => ?_)
    subst henv
    refine ⟨nl.keeps inc.toInCall.keep, codeAny_func ?_⟩
    obtain ⟨t, ht, q⟩ := hbody cdv A outer s H vs Q E hA (hr.deeper _) hsp
    have I0 := inv_start (CX := CX0) (E := E) S hr.hd e0 hz r inc
    refine wpAny_mono (ht.nox.run [] s1 (start N vs) H _ I0 q) (fun fl s2 hs => ?_) (fun _ _ z => z)
    cases fl with
    | ret u =>
      obtain ⟨v, _, H2, J, rv, q2⟩ := hs
      exact ⟨v, H2, J.os, J.bare, J.base, J.hok, rv, q2⟩
    | next =>
      obtain ⟨_, H2, J, q2⟩ := hs
      exact ⟨.non, H2, J.os, J.bare, J.base, J.hok, rfl, q2⟩
    | brk => obtain ⟨_, _, _, q2⟩ := hs; exact q2.elim
    | cont => obtain ⟨_, _, _, q2⟩ := hs; exact q2.elim
/-- f(..), f such a def -/
theorem re_callG {sp : Sp} {Q : VK} (F : FnG X.prog X.w X.K X.mg X.base k f fd ps sp) (hA : X.A.guards = some []) (hr : Room k X.A) (hm : X.mg x = some (.ref f)) (hk : PySem.W.keepIn X.K (.ref f) = true) (hb : Binds X.K fd ps []) (ha : RA X (e :: es) σ H fun vs H1 => sp vs H1 Q E0) (hg : Gl X x := by rfl)
    (hdb : (x == ("__debug__" : Str)) = false := by decide) (he : starEach (e :: es) X.env = (false, eval e X.env) :: starEach es X.env := by rfl) (hpl : (backTo pos (starEach es X.env)).any (·.1) = false := by rfl) : RE X (.Call (.Name x p1) (e :: es) [] pos) σ H Q := by
  refine ⟨fun σ H Q => RA X (e :: es) σ H fun vs H1 => sp vs H1 Q E0, ⟨fun pins s σ H Q I h => ?_⟩, ha⟩
  refine wpAny_Call_Name_kw (ld_glob I hg hm ?_ hdb)
  refine PySem.W.callWith_K (h₀ := X.base) I.ok.mod.kin hk (thn (ra_.run pos pins s σ H _ I h) fun us s1 ⟨vs, H1, I1, r, q⟩ => ⟨I1.kIn, ?_⟩) he hpl
  have hz : us.length = ps.length := by rw [← r.length]; exact F.len _ _ _ _ q
  have hb' := hb s1 us I1.kIn (by rw [List.append_nil]; exact hz)
  rw [List.append_nil] at hb'
  refine wpAny_call (codeAny_mono (F.run X.A hA hr X.stack s1 H1 ⟨us, []⟩ us vs Q E0 I1.env0 hb' r q) fun r' s' hq => ?_)
  cases r' with
  | error e => exact hq.elim
  | ok fl =>
    cases fl with
    | ret u => exact I1.after hq
    | next => exact hq.elim
    | brk => exact hq.elim
    | cont => exact hq.elim
/-! ### repr of data -/
theorem call_reprD (hA : X.A.guards = some []) (hu : X.A.units + 64 < cLine) : CallR X (.builtin "repr") (fun xs H Q => ∃ (p : Addr) (d : PyData), xs = [.ref p] ∧ Dp X.K H (.ref p) d ∧ d.showable = true ∧ d.hasDict = false ∧ d.depth ≤ 60 ∧ d.shown.length ≤ sizeLine ∧ Q (.str d.shown) H) := by
  intro pins s σ H xs us Q I r h
  obtain ⟨p, d, rfl, hd, h1, h2, h3, h4, q⟩ := h
  obtain ⟨u, rfl, rx⟩ := vals1 r
  obtain ⟨as, rd⟩ := Dp.reads I d _ u hd rx
  cases rx
  exact repr_of_reads' rd h1 (fun z => by rw [h2] at z; cases z) hA (by omega) (fun _ _ z => z) (fun h' u tk hk => ⟨.str d.shown, H, I.kept (t' := tk) hk, ⟨u, rfl⟩, q⟩) h4
/-- repr(a) != repr(b) of the same data: False -/
theorem xt_reprNe {pa pb : Pos} (hA : X.A.guards = some []) (hu : X.A.units + 64 < cLine) (hm : X.mg "repr" = none) (ha : XD X M σ H a (.list ds)) (hb : XD X M σ H b (.list ds)) (h1 : (PyData.list ds).showable = true) (h2 : (PyData.list ds).hasDict = false) (h3 : (PyData.list ds).depth ≤ 60) (h4 : (PyData.list ds).shown.length ≤ sizeLine) (hg : Gl X "repr" := by rfl)
    (he : starEach [a] X.env = (false, eval a X.env) :: starEach [] X.env := by rfl) (hpl : (backTo pa (starEach [] X.env)).any (·.1) = false := by rfl) (he2 : starEach [b] X.env = (false, eval b X.env) :: starEach [] X.env := by rfl) (hpl2 : (backTo pb (starEach [] X.env)).any (·.1) = false := by rfl) :
    XT X σ H (.Compare (.Call (.Name "repr" p1) [a] [] pa) [.NotEq] [.Call (.Name "repr" p2) [b] [] pb] pos) false := by
  have key : ∀ {e : Expr} {pp qq : Pos}, XD X M σ H e (.list ds) → starEach [e] X.env = (false, eval e X.env) :: starEach [] X.env → (backTo qq (starEach [] X.env)).any (·.1) = false → XD X M σ H (.Call (.Name "repr" pp) [e] [] qq) (.str (PyData.list ds).shown) := fun {e pp qq} h z1 z2 H1 s Q q =>
    re_B (call_reprD hA hu) (ra_1 (h H1 s _ fun v H2 s2 hv => by
      obtain ⟨p, xs, rfl, hp, hx⟩ := dp_lst hv
      exact ⟨p, _, rfl, (hv.up hid_le).dp, h1, h2, h3, h4, q _ H2 s2 (.str _)⟩) z1) hm (by decide +kernel) hg (by decide) (by decide) z1 z2
  refine xt_cmp op_ne (key ha he hpl) (key hb he2 hpl2) fun H1 v w s hv hw Q q => ?_
  rw [dp_str hv, dp_str hw]
  exact ⟨rfl, by rw [decide_eq_true rfl]; exact q H1 (Same.refl _)⟩
theorem xd_reprEq {pa pb : Pos} (hA : X.A.guards = some []) (hu : X.A.units + 64 < cLine) (hm : X.mg "repr" = none) (ha : XD X M σ H a (.list ds)) (hb : XD X M σ H b (.list ds)) (h1 : (PyData.list ds).showable = true) (h2 : (PyData.list ds).hasDict = false) (h3 : (PyData.list ds).depth ≤ 60) (h4 : (PyData.list ds).shown.length ≤ sizeLine) (hg : Gl X "repr" := by rfl)
    (he : starEach [a] X.env = (false, eval a X.env) :: starEach [] X.env := by rfl) (hpl : (backTo pa (starEach [] X.env)).any (·.1) = false := by rfl) (he2 : starEach [b] X.env = (false, eval b X.env) :: starEach [] X.env := by rfl) (hpl2 : (backTo pb (starEach [] X.env)).any (·.1) = false := by rfl) :
    XD X M σ H (.Compare (.Call (.Name "repr" p1) [a] [] pa) [.Eq] [.Call (.Name "repr" p2) [b] [] pb] pos) (.bool true) := by
  have key : ∀ {e : Expr} {pp qq : Pos}, XD X M σ H e (.list ds) → starEach [e] X.env = (false, eval e X.env) :: starEach [] X.env → (backTo qq (starEach [] X.env)).any (·.1) = false → XD X M σ H (.Call (.Name "repr" pp) [e] [] qq) (.str (PyData.list ds).shown) := fun {e pp qq} h z1 z2 H1 s Q q =>
    re_B (call_reprD hA hu) (ra_1 (h H1 s _ fun v H2 s2 hv => by
      obtain ⟨p, xs, rfl, hp, hx⟩ := dp_lst hv
      exact ⟨p, _, rfl, (hv.up hid_le).dp, h1, h2, h3, h4, q _ H2 s2 (.str _)⟩) z1) hm (by decide +kernel) hg (by decide) (by decide) z1 z2
  refine xd_cmp op_eq (key ha he hpl) (key hb he2 hpl2) fun H1 v w s hv hw Q q => ?_
  rw [dp_str hv, dp_str hw]
  exact ⟨rfl, by rw [decide_eq_true rfl]; exact q _ H1 (Same.refl _) (.bl _)⟩
/-! ### isinstance -/
def tyN : PyData → String
  | .none => "NoneType"
  | .bool _ => "bool"
  | .int _ => "int"
  | .str _ => "str"
  | .list _ => "list"
  | .tuple _ => "tuple"
  | .dict _ => "dict"
theorem ty_dq {K : PySem.W.Frag} (h : Dq K H v d) : TyX K H v (.type (tyN d)) := by
  cases h with
  | non => exact .base .non
  | bl b => exact .base (.bl b)
  | int i => exact .base (.int i)
  | str z => exact .base (.str z)
  | lst h1 _ => exact .base (.lst h1)
  | tup h1 _ =>
    rcases h1 with (h1 | ⟨o, h1⟩) | ⟨o, its, n, h1, h2, _⟩
    · exact .base (.tup h1)
    · exact .fTuple h1
    · exact .kTuple h1 h2
/-- isinstance(a, T), T a built-in type by its name -/
theorem xd_is1 {T : String} {r : Bool} {nm : Str} (hk : kitB (tyN d) T = some r) (hm : X.mg "isinstance" = none) (hmT : X.mg nm = none) (hvT : bootBuiltins nm = some (.type T)) (ha : XD X M σ H a d) (hg : Gl X "isinstance" := by rfl) (hgT : Gl X nm := by rfl) (hnT : nm ≠ "__name__" := by decide) (hdT : (nm == ("__debug__" : Str)) = false := by decide)
    (he : starEach [a, .Name nm p2] X.env = (false, eval a X.env) :: starEach [.Name nm p2] X.env := by rfl) (he2 : starEach [.Name nm p2] X.env = (false, eval (.Name nm p2) X.env) :: starEach [] X.env := by rfl) (hpl : (backTo pos (starEach [.Name nm p2] X.env)).any (·.1) = false := by rfl) :
    XD X M σ H (.Call (.Name "isinstance" p1) [a, .Name nm p2] [] pos) (.bool r) := fun H1 s Q q =>
  re_B call_isi (ra_cons (ha H1 s _ fun v H2 s2 hv => ra_1 (xv_bltn (v := .ty T) hmT hvT rfl hgT hnT hdT H2 (Same.refl _) _ fun H3 s3 =>
    ⟨v, .ty T, _, _, r, rfl, .ty T, ty_dq ((hv.up hid_le).up s3), kit_ty hk, q _ H3 (s2.trans s3) (.bl _)⟩) he2) he) hm (by decide +kernel) hg (by decide) (by decide) he hpl
/-- isinstance(a, (T1, T2)) -/
theorem xd_is2 {T1 T2 : String} {r1 r2 : Bool} {n1 n2 : Str} {k3} (h1 : kitB (tyN d) T1 = some r1) (h2 : kitB (tyN d) T2 = some r2) (hm : X.mg "isinstance" = none) (hm1 : X.mg n1 = none) (hv1 : bootBuiltins n1 = some (.type T1)) (hm2 : X.mg n2 = none) (hv2 : bootBuiltins n2 = some (.type T2)) (ha : XD X M σ H a d)
    (hg : Gl X "isinstance" := by rfl) (hg1 : Gl X n1 := by rfl) (hg2 : Gl X n2 := by rfl) (hn1 : n1 ≠ "__name__" := by decide) (hn2 : n2 ≠ "__name__" := by decide) (hd1 : (n1 == ("__debug__" : Str)) = false := by decide) (hd2 : (n2 == ("__debug__" : Str)) = false := by decide) {q1 q2 q3 : Pos}
    (he : starEach [a, .Tuple [.Name n1 q1, .Name n2 q2] k3 q3] X.env = (false, eval a X.env) :: starEach [.Tuple [.Name n1 q1, .Name n2 q2] k3 q3] X.env := by rfl) (he2 : starEach [.Tuple [.Name n1 q1, .Name n2 q2] k3 q3] X.env = (false, eval (.Tuple [.Name n1 q1, .Name n2 q2] k3 q3) X.env) :: starEach [] X.env := by rfl)
    (hs1 : starEach [.Name n1 q1, .Name n2 q2] X.env = (false, eval (.Name n1 q1) X.env) :: starEach [.Name n2 q2] X.env := by rfl) (hs2 : starEach [.Name n2 q2] X.env = (false, eval (.Name n2 q2) X.env) :: starEach [] X.env := by rfl)
    (hpl : (backTo pos (starEach [.Tuple [.Name n1 q1, .Name n2 q2] k3 q3] X.env)).any (·.1) = false := by rfl) :
    XD X M σ H (.Call (.Name "isinstance" p1) [a, .Tuple [.Name n1 q1, .Name n2 q2] k3 q3] [] pos) (.bool (r1 || r2)) := fun H1 s Q q =>
  re_B call_isiT (ra_cons (ha H1 s _ fun v H2 s2 hv => ra_1 ⟨_, pe_tup ra_, ra_cons (xv_bltn (v := .ty T1) hm1 hv1 rfl hg1 hn1 hd1 H2 (Same.refl _) _ fun H3 s3 => ra_1 (xv_bltn (v := .ty T2) hm2 hv2 rfl hg2 hn2 hd2 H3 (Same.refl _) _ fun H4 s4 => by
    refine ⟨by show 2 ≤ sizeLine; decide, fun p hp => ?_⟩
    have s5 : Same H2 (upd H4 p (.tup [V.ty T1, V.ty T2])) := (s3.trans s4).trans (same_new hp)
    refine ⟨v, p, [.ty T1, .ty T2], _, _, r1 || r2, rfl, upd_same, .cons (.ty T1) (.cons (.ty T2) .nil), ty_dq ((hv.up hid_le).up s5), ?_, q _ _ (s2.trans s5) (.bl _)⟩
    refine kitAny_cons (kit_ty h1) (fun z => ?_) (fun z => by rw [z]; rfl)
    rw [z, Bool.false_or]
    exact kitAny_cons (kit_ty h2) (fun z2 => by rw [z2]; exact kitAny_nil) (fun z2 => z2)) hs2) hs1⟩ he2) he) hm (by decide +kernel) hg (by decide) (by decide) he hpl
/-! ### instances -/
theorem xv_fld {dx pa : Addr} {fs : List (Str × V)} {f : Str} (ho : XV X σ H o (.ref pa)) (h1 : H pa = some (.ins C dx fs)) (hc : Cls X.K C) (hn : NoAttr X.K C f) (hl : fs.lookup f = some v) (hb : attributeBase o f X.env (eval o X.env) = eval o X.env := by rfl) : XV X σ H (.Attribute o f pos) v := fun H1 s Q q =>
  ⟨_, pe_fld re_ hb, ho H1 s _ fun H2 s2 => ⟨pa, C, dx, fs, v, rfl, (s.trans s2) _ _ h1, hc, hn, hl, q H2 s2⟩⟩
theorem re_meth {dx pa : Addr} {fs : List (Str × V)} {m : Str} {sp : Sp} {Q : VK} {pl : Sem Bool} {apos : Pos} (ho : XV X σ H o (.ref pa)) (h1 : H pa = some (.ins C dx fs)) (hc : Cls X.K C) (hM : Meth X.K C m f) (hl : fs.lookup m = none) (F : FnOk X.prog X.w X.K X.mg X.base CX0 k f fd ps sp) (hr : Room k X.A) (hb : Binds X.K fd ps [])
    (ha : ∀ H1, Same H H1 → RA X (e :: es) σ H1 fun vs H2 => sp (.ref pa :: vs) H2 Q E0) (hst : starEach (e :: es) X.env = (false, eval e X.env) :: starEach es X.env := by rfl) (hpl : (backTo pos (starEach es X.env)).any (·.1) = false := by rfl)
    (ht : eval (.Call (.Attribute o m apos) (e :: es) [] pos) X.env = (do
      let ov ← eval o X.env
      standAt apos.atName
      let (f, first) ← holding [ov] (getMethod ov m pl)
      callWith pos f first (backTo pos (starEach (e :: es) X.env)) (backToKw pos (keywordEach [] X.env))) := by rfl) : RE X (.Call (.Attribute o m apos) (e :: es) [] pos) σ H Q :=
  ⟨_, pe_meth re_ hc hM F hr hb .nil pass0 ra_ hst hpl ht, ho H (Same.refl H) _ fun H1 s1 => ⟨pa, dx, fs, rfl, s1 _ _ h1, hl, ra_mono (ha H1 s1) fun vs H2 q => by rw [List.append_nil]; exact q⟩⟩
theorem re_meth0 {dx pa : Addr} {fs : List (Str × V)} {m : Str} {sp : Sp} {Q : VK} {pl : Sem Bool} {apos : Pos} (ho : XV X σ H o (.ref pa)) (h1 : H pa = some (.ins C dx fs)) (hc : Cls X.K C) (hM : Meth X.K C m f) (hl : fs.lookup m = none) (F : FnOk X.prog X.w X.K X.mg X.base CX0 k f fd ps sp) (hr : Room k X.A) (hb : Binds X.K fd ps [])
    (ha : ∀ H1, Same H H1 → sp [.ref pa] H1 Q E0)
    (ht : eval (.Call (.Attribute o m apos) [] [] pos) X.env = (do
      let ov ← eval o X.env
      standAt apos.atName
      let (f, first) ← holding [ov] (getMethod ov m pl)
      callWith pos f first (backTo pos (starEach [] X.env)) (backToKw pos (keywordEach [] X.env))) := by rfl) : RE X (.Call (.Attribute o m apos) [] [] pos) σ H Q :=
  ⟨_, pe_meth0 re_ hc hM F hr hb .nil pass0 ht, ho H (Same.refl H) _ fun H1 s1 => ⟨pa, dx, fs, rfl, s1 _ _ h1, hl, ha H1 s1⟩⟩
end
end Dl

set_option Elab.async false
set_option linter.all false
set_option maxRecDepth 100000
set_option maxHeartbeats 4000000
/-! Data layer, part 5: operators of an own class; the end. -/
namespace Dl
open PySem PySem.Spec PyProof.Rows L2
/-- a namespace of the written part -/
theorem ns_at {K : PySem.W.Frag} {h : Heap} {N : Addr} {mN : Str → Option Value} {n : Str} {v : Value} (X : K.In h) (G : h.Ns N mN) (e : PySem.W.nsIn K N n = some (some v)) : mN n = some v := by
  obtain ⟨o, es, ep, ho, hd, _, hf⟩ := G
  unfold PySem.W.nsIn at e
  split at e
  · rename_i cc dd es2 nn sl q
    have z := X _ _ q
    rw [ho] at z
    cases z
    cases hd
    split at e
    · rename_i en he
      cases e
      rw [← hf]
      unfold nsFind findBy
      rw [← Array.find?_toList, he]
      rfl
    · split at e <;> cases e
  · cases e
/-- what the written part says of a class with an own == and no != -/
structure ClsEq (K : PySem.W.Frag) (C f : Addr) : Prop where
  cls : ∃ nm q N bs hdct sn sub ab col dd k0 k1 k2 k3 k5 newId, K.lookup C = some (excClassObj nm q C N bs [.type "object"] hdct sn sub ab col dd k0 k1 k2 k3 k5 newId) ∧ PySem.W.nsOkIn K N = true ∧ PySem.W.nsIn K N "__eq__" = some (some (.ref f)) ∧ PySem.W.nsIn K N "__ne__" = some none
  at_ : PySem.W.findIn K (.ref C) "__eq__" = some (some (.ref f))
  fn : PySem.W.isFn K (.ref f) = true
  obj : ∃ o, K.lookup f = some o ∧ o.cls = .type "function"
section
variable {X : Cx} {M : List Addr} {σ : L2.St} {H H' : Hp} {e a b c o : Expr} {es : List Expr} {d d1 d2 : PyData} {ds ds2 es' : List PyData} {x : Str} {v : V} {pos p1 p2 p3 : Pos} {D : Ends} {rest sts : List Stmt} {st : Stmt} {k : Nat} {f C : Addr} {fd : FuncData} {ps : List Str} {sp : Sp}
/-- a bool comes back -/
def bk (Q : Bool → Hp → Prop) : VK := fun v H => ∃ b, v = .bl b ∧ Q b H
theorem run_bool {A : Around} {E : Value → Shared → Prop} {pins : List (Addr × Obj)} {s : Shared} {us : List Value} {vs : List V} {Q : Bool → Hp → Prop} {R : Value → Shared → Prop} (I : Inv X pins σ H s) (fr : A.frames = X.A.frames) (F : FnOk X.prog X.w X.K X.mg X.base CX0 k f fd ps sp) (hr : Room k A) (hb : Binds X.K fd ps []) (r : Vals vs us) (h : sp vs H (bk Q) E0)
    (q : ∀ b s' H', Inv X pins σ H' s' → Q b H' → R (.bool b) s') : wpAny (model X.prog X.w) A (call (.ref f) us) R E s := by
  have hz : us.length = ps.length := by rw [← r.length]; exact F.len _ _ _ _ h
  have hb' := hb s us I.kIn (by rw [List.append_nil]; exact hz)
  rw [List.append_nil] at hb'
  have e := I.env0
  have e0 : Env0 X.prog X.w X.K X.mg X.base A X.stack s H := ⟨by rw [fr]; exact e.frames, e.mod, e.bs, e.bsz, e.funs, e.frf, e.hok, e.bare⟩
  refine wpAny_call (codeAny_mono (F.run A X.stack s H ⟨us, []⟩ us vs (bk Q) E0 hr e0 hb' r h) fun r' s' hq => ?_)
  cases r' with
  | error e => exact hq.elim
  | ok fl =>
    cases fl with
    | ret u =>
      obtain ⟨z, H1, I1, rz, b, ez, q1⟩ := I.after hq
      subst ez
      cases rz
      exact q b s' H1 I1 q1
    | next => exact hq.elim
    | brk => exact hq.elim
    | cont => exact hq.elim
/-- a == b, a of an own class; the other one of that class, or of a type that is not below it -/
theorem op_eqO {tb : Value → Prop} (E : ClsEq X.K C f) (F : FnOk X.prog X.w X.K X.mg X.base CX0 k f fd ps sp) (hr : Room k X.A) (hb : Binds X.K fd ps []) :
    OpR X (compareOp .Eq) (fun x y H Q => ∃ pa dx fs, x = .ref pa ∧ H pa = some (.ins C dx fs) ∧ ((∃ pb dy gs, y = .ref pb ∧ H pb = some (.ins C dy gs)) ∨ (PySem.W.subIn X.K (.type "list") (.ref C) = some false ∧ ∃ pb xs, y = .ref pb ∧ H pb = some (.lst xs))) ∧ sp [x, y] H (bk fun b H1 => Q (.bl b) H1) E0) := by
  intro pins s σ H x y u v Q I rx ry h
  obtain ⟨pa, dx, fs, rfl, ha, hy, hsp⟩ := h
  cases rx
  obtain ⟨mA, J, _⟩ := ins_get I.hok ha
  obtain ⟨od, J, _⟩ := J.look
  obtain ⟨m, hF⟩ := I.fr
  show wpAny (model X.prog X.w) X.A (richCompare .Eq (.ref pa) v) (EP X pins σ Q) X.xe s
  have fin : wpAny (model X.prog X.w) X.A (call (.ref f) [.ref pa, v]) (PySem.W.CmpBack (EP X pins σ Q)) X.xe s :=
    run_bool (Q := fun b H1 => Q (.bl b) H1) I rfl F hr hb (.cons (show RelV (.ref pa) (.ref pa) from rfl) (.cons ry .nil)) hsp fun b s' H' I' q => ⟨.bl b, H', I', rfl, q⟩
  rcases hy with ⟨pb, dy, gs, rfl, hb2⟩ | ⟨hsub, pb, xs, rfl, hb2⟩
  · cases ry
    obtain ⟨mB, J2, _⟩ := ins_get I.hok hb2
    obtain ⟨od2, J2, _⟩ := J2.look
    exact PySem.W.cmp_K (op := .Eq) (tb := .ref C) hr.units0 hF I.ok.mod.kin J J2.type (by simp [PySem.W.notFirst]) E.at_ E.fn fin
  · cases ry
    obtain ⟨_, its, n, r, e⟩ := (show ObjOk X.prog X.w H s.heap pb (.lst xs) from I.hok pb _ hb2)
    have z : PySem.W.Looks (model X.prog X.w) s.heap (typeOf (.ref pb)) (.type "list") := (PySem.W.Looks.ld e).andThen .now
    exact PySem.W.cmp_K (op := .Eq) (tb := .type "list") hr.units0 hF I.ok.mod.kin J z (by unfold PySem.W.notFirst; rw [hsub]; simp) E.at_ E.fn fin
/-- a != b of one own class -/
theorem op_neO (E : ClsEq X.K C f) (F : FnOk X.prog X.w X.K X.mg X.base CX0 k f fd ps sp) (hr : Room (k + 1) X.A) (hb : Binds X.K fd ps []) :
    OpR X (compareOp .NotEq) (fun x y H Q => ∃ pa dx fs pb dy gs, x = .ref pa ∧ H pa = some (.ins C dx fs) ∧ y = .ref pb ∧ H pb = some (.ins C dy gs) ∧ sp [x, y] H (bk fun b H1 => Q (.bl (!b)) H1) E0) := by
  intro pins s σ H x y u v Q I rx ry h
  obtain ⟨pa, dx, fs, pb, dy, gs, rfl, ha, rfl, hb2, hsp⟩ := h
  cases rx
  cases ry
  obtain ⟨mA, J, _⟩ := ins_get I.hok ha
  obtain ⟨od, J, _⟩ := J.look
  obtain ⟨mB, J2, _⟩ := ins_get I.hok hb2
  obtain ⟨od2, J2, _⟩ := J2.look
  obtain ⟨hox, hoc, _⟩ := J
  obtain ⟨hoy, hoyc, _⟩ := J2
  obtain ⟨nm, q, N, bs, hdct, sn, sub, ab, col, dd, k0, k1, k2, k3, k5, newId, hC, hN, he, hne⟩ := E.cls
  obtain ⟨of, hfo, hfc⟩ := E.obj
  have KX := I.kIn
  have hns := Heap.Ns.of_isNs (PySem.W.isNs_of_in KX hN)
  have Y : s.heap.OwnEqNoNe pa C f "object" [.type "object"] :=
    ⟨_, of, nm, q, N, bs, hdct, sn, sub, ab, col, dd, k0, k1, k2, k3, k5, newId, _, _, hox, hoc, KX _ _ hC, hns, ns_at KX hns he, KX _ _ hfo, hfc, PySem.F.mro_object, PySem.F.cmp_object.eq.lookup, PySem.W.ns_none_of KX hns hne⟩
  have hu := hr.units0
  obtain ⟨hh, g, dr, tk, os⟩ := s
  refine compareOp_ne_ownEq PySem.F.cmp_object Y hoy hoyc (by have := hr.un; omega) ?_
  exact run_bool (A := X.A.in1) (Q := fun b H1 => Q (.bl (!b)) H1) I rfl F hr.in1 hb (.cons (show RelV (.ref pa) (.ref pa) from rfl) (.cons (show RelV (.ref pb) (.ref pb) from rfl) .nil)) hsp fun b s' H' I' q => ⟨b, rfl, ⟨.bl (!b), H', I', rfl, q⟩⟩
/-- x in o, o of an own class -/
theorem op_inO (hs : PySem.W.findIn X.K (.ref C) "__contains__" = some (some (.ref f))) (hf : PySem.W.isFn X.K (.ref f) = true) (F : FnOk X.prog X.w X.K X.mg X.base CX0 k f fd ps sp) (hr : Room k X.A) (hb : Binds X.K fd ps []) :
    OpR X (compareOp .In) (fun x y H Q => ∃ pa dx fs, y = .ref pa ∧ H pa = some (.ins C dx fs) ∧ sp [y, x] H (bk fun b H1 => Q (.bl b) H1) E0) := by
  intro pins s σ H x y u v Q I rx ry h
  obtain ⟨pa, dx, fs, rfl, ha, hsp⟩ := h
  cases ry
  obtain ⟨mA, J, _⟩ := ins_get I.hok ha
  obtain ⟨od, J, _⟩ := J.look
  obtain ⟨m, hF⟩ := I.fr
  exact PySem.W.in_K hF I.ok.mod.kin J hs hf (run_bool (Q := fun b H1 => Q (.bl b) H1) I rfl F hr hb (.cons (show RelV (.ref pa) (.ref pa) from rfl) (.cons rx .nil)) hsp fun b s' H' I' q => wpAny_truthy_bool ⟨.bl b, H', I', rfl, q⟩)
/-- len(o) -/
theorem call_lenO (hs : PySem.W.findIn X.K (.ref C) "__len__" = some (some (.ref f))) (hf : PySem.W.isFn X.K (.ref f) = true) (F : FnOk X.prog X.w X.K X.mg X.base CX0 k f fd ps sp) (hr : Room (k + 1) X.A) (hb : Binds X.K fd ps []) :
    CallR X (.builtin "len") (fun xs H Q => ∃ pa dx fs, xs = [.ref pa] ∧ H pa = some (.ins C dx fs) ∧ sp xs H (fun v H1 => ∃ n : Nat, v = .int n ∧ n < 2 ^ 62 ∧ Q (.int n) H1) E0) := by
  intro pins s σ H xs us Q I r h
  obtain ⟨pa, dx, fs, rfl, ha, hsp⟩ := h
  obtain ⟨u, rfl, rx⟩ := vals1 r
  cases rx
  obtain ⟨mA, J, _⟩ := ins_get I.hok ha
  obtain ⟨od, J, _⟩ := J.look
  obtain ⟨m, hF⟩ := I.fr
  refine PySem.W.len_K hF I.ok.mod.kin J hs hf ?_
  have hz : [Value.ref pa].length = ps.length := F.len _ _ _ _ hsp
  have hb' := hb s [.ref pa] I.kIn (by rw [List.append_nil]; exact hz)
  rw [List.append_nil] at hb'
  have e := I.env0.in1
  refine wpAny_call (codeAny_mono (F.run X.A.in1 X.stack s H ⟨[.ref pa], []⟩ [.ref pa] [.ref pa] _ E0 hr.in1 e hb' (.cons rfl .nil) hsp) fun r' s' hq => ?_)
  cases r' with
  | error e => exact hq.elim
  | ok fl =>
    cases fl with
    | ret u =>
      obtain ⟨z, H1, I1, rz, n, ez, hn, q1⟩ := I.after hq
      subst ez
      obtain ⟨t, rfl⟩ := rz
      exact ⟨⟨by omega, by omega⟩, ⟨.int n, H1, I1.tok _, ⟨_, rfl⟩, q1⟩⟩
    | next => exact hq.elim
    | brk => exact hq.elim
    | cont => exact hq.elim
/-- o.p, a property -/
theorem re_prop {dx pa pp : Addr} {fs : List (Str × V)} {m : Str} {Q : VK} (ho : XV X σ H o (.ref pa)) (h1 : H pa = some (.ins C dx fs)) (hc : Cls X.K C) (hp : PropOf X.K C m pp f) (F : FnOk X.prog X.w X.K X.mg X.base CX0 k f fd ps sp) (hr : Room (k + 1) X.A) (hb : Binds X.K fd ps []) (ha : ∀ H1, Same H H1 → sp [.ref pa] H1 Q E0)
    (hab : attributeBase o m X.env (eval o X.env) = eval o X.env := by rfl) : RE X (.Attribute o m pos) σ H Q :=
  ⟨_, pe_prop re_ hc hp F hr hb .nil pass0 hab, ho H (Same.refl H) _ fun H1 s1 => ⟨pa, dx, fs, rfl, s1 _ _ h1, ha H1 s1⟩⟩
/-- C(e, ..) -/
theorem re_make {Q : VK} {dvs : List V} {dl : List Value} (Mm : Mk X.K C f) (F : FnOk X.prog X.w X.K X.mg X.base CX0 k f fd ps sp) (hr : Room (k + 1) X.A) (hm : X.mg x = some (.ref C)) (hb : Binds X.K fd ps dl) (hd : Vals dvs dl)
    (ha : RA X (e :: es) σ H fun vs H1 => ∀ y dx, H1 y = none → H1 dx = none → dx ≠ y → sp (.ref y :: (vs ++ dvs)) (upd (upd H1 dx (.own y)) y (.ins C dx [])) (fun v H2 => v = .non ∧ Q (.ref y) H2) E0) (hg : Gl X x := by rfl)
    (hdb : (x == ("__debug__" : Str)) = false := by decide) (he : starEach (e :: es) X.env = (false, eval e X.env) :: starEach es X.env := by rfl) (hpl : (backTo pos (starEach es X.env)).any (·.1) = false := by rfl) : RE X (.Call (.Name x p1) (e :: es) [] pos) σ H Q :=
  ⟨_, pe_make Mm F hr hg hm hb hd pass0 ra_ hdb he hpl, ha⟩
/-- o.f = e -/
theorem rb_fld {m : Str} {dx pa : Addr} {fs : List (Str × V)} {ap : Pos} (he : RE X e σ H fun v H1 => H1 pa = some (.ins C dx fs) ∧ fs.length < 1000 ∧ XV X σ H1 o (.ref pa) ∧ ∀ H2, Same H1 H2 → RB X rest D σ (upd H2 pa (.ins C dx (putF m v fs)))) (hc : Cls X.K C) (hn : NoAttr X.K C m) (hs : swapsWith e (some (.Attribute o m ap)) pos.line X.env = pure false := by rfl) :
    RB X (.Assign [.Attribute o m ap] e pos :: rest) D σ H :=
  ⟨_, pss_cons (ps_fld re_ re_ hs) rb_, re_mono he fun v H1 ⟨h1, hl, ho, q⟩ => ho H1 (Same.refl _) _ fun H2 s2 => ⟨pa, C, dx, fs, rfl, s2 _ _ h1, hc, hn, hl, q H2 s2⟩⟩
end
end Dl

set_option Elab.async false
set_option linter.all false
set_option maxRecDepth 100000
set_option maxHeartbeats 4000000
namespace Zn
open PySem PySem.Spec PyProof.Rows L2 Dl
def top (i : Nat) : Stmt := PySem.Challenge.pw_everyzone_k04_zones_made.main.body.getD i (.Pass ⟨0, 0, 0, 0⟩)
abbrev sWhole : Stmt := top 8
abbrev sPair : Stmt := top 9
abbrev sNeed : Stmt := top 10
abbrev sRows : Stmt := top 15
abbrev sFollow : Stmt := top 16
abbrev sIsJump : Stmt := top 17
abbrev sJump : Stmt := top 18
abbrev sTorn : Stmt := top 19
/-- built-in names that the module leaves alone -/
structure Nm (mg : Str → Option Value) : Prop where
  isi : mg "isinstance" = none
  int : mg "int" = none
  bool : mg "bool" = none
  lst : mg "list" = none
  tup : mg "tuple" = none
  len : mg "len" = none
  abs : mg "abs" = none
  min : mg "min" = none
  max : mg "max" = none
  rep : mg "repr" = none
  rng : mg "range" = none
/-- a def of the module -/
structure Df (K : PySem.W.Frag) (mg : Str → Option Value) (x : Str) (st : Stmt) (ps : List Str) (f : Addr) (fd : FuncData) : Prop where
  F : Fun K x x st f fd
  g : mg x = some (.ref f)
  b : Binds K fd ps []
section
variable {P : Program} {w : World} {K : PySem.W.Frag} {mg : Str → Option Value} {base : Heap}
/-! ### is_whole -/
def isI : PyData → Bool
  | .int _ => true
  | .bool _ => true
  | _ => false
def isBl : PyData → Bool
  | .bool _ => true
  | _ => false
def whole : PyData → Bool
  | .int _ => true
  | _ => false
theorem k_int (d : PyData) : kitB (tyN d) "int" = some (isI d) := by
  cases d with
  | none => exact (by decide +kernel : kitB "NoneType" "int" = some false)
  | bool b => exact (by decide +kernel : kitB "bool" "int" = some true)
  | int i => exact (by decide +kernel : kitB "int" "int" = some true)
  | str z => exact (by decide +kernel : kitB "str" "int" = some false)
  | list l => exact (by decide +kernel : kitB "list" "int" = some false)
  | tuple l => exact (by decide +kernel : kitB "tuple" "int" = some false)
  | dict l => exact (by decide +kernel : kitB "dict" "int" = some false)
theorem k_bool (d : PyData) : kitB (tyN d) "bool" = some (isBl d) := by
  cases d with
  | none => exact (by decide +kernel : kitB "NoneType" "bool" = some false)
  | bool b => exact (by decide +kernel : kitB "bool" "bool" = some true)
  | int i => exact (by decide +kernel : kitB "int" "bool" = some false)
  | str z => exact (by decide +kernel : kitB "str" "bool" = some false)
  | list l => exact (by decide +kernel : kitB "list" "bool" = some false)
  | tuple l => exact (by decide +kernel : kitB "tuple" "bool" = some false)
  | dict l => exact (by decide +kernel : kitB "dict" "bool" = some false)
theorem whole_eq (d : PyData) : (isI d && !isBl d) = whole d := by cases d <;> rfl
def RWhole (ds : List PyData) (d : PyData) : Prop := ∃ x, ds = [x] ∧ d = .bool (whole x)
theorem scWhole : FnScope ["value"] ["value"] (defScope sWhole) := ⟨rfl, rfl, rfl, by decide +kernel, rfl, by decide +kernel, by decide +kernel⟩
theorem ok_whole {f : Addr} {fd : FuncData} (T : Nm mg) (F : Df K mg "is_whole" sWhole ["value"] f fd) : FnOk P w K mg base CX0 1 f fd ["value"] (spR K RWhole) := by
  refine F.F.ok scWhole (fun vs H Q E h => ?_) (fun cdv A outer s H vs Q E hr h => ?_)
  · obtain ⟨M, ds, d, L, hd, ⟨x, rfl, rfl⟩, q⟩ := h
    exact dpa_len hd
  · obtain ⟨M, ds, d, L, hd, ⟨x, rfl, rfl⟩, q⟩ := h
    cases hd with
    | cons h1 h2 =>
      cases h2
      refine rb_ret (M := M) (xd_and2 (xd_is1 (k_int x) T.isi T.int (by decide +kernel) (xd_name 0 rfl h1)) fun _ => xd_not (xd_is1 (k_bool x) T.isi T.bool (by decide +kernel) (xd_name 0 rfl h1))) fun v H1 s hv => q v H1 s ?_
      rw [whole_eq] at hv
      exact hv

/-! ### need_integer -/
def RNeed (ds : List PyData) (d : PyData) : Prop := ∃ i : Int, ds = [.int i] ∧ d = .none
theorem scNeed : FnScope ["value"] ["value"] (defScope sNeed) := ⟨rfl, rfl, rfl, by decide +kernel, rfl, by decide +kernel, by decide +kernel⟩
theorem ok_need {f fW : Addr} {fd fdW : FuncData} (T : Nm mg) (FW : Df K mg "is_whole" sWhole ["value"] fW fdW) (F : Df K mg "need_integer" sNeed ["value"] f fd) : FnOk P w K mg base CX0 2 f fd ["value"] (spR K RNeed) := by
  have GW : FnOk P w K mg base CX0 1 fW fdW ["value"] (spR K RWhole) := ok_whole T FW
  refine F.F.ok scNeed (fun vs H Q E h => ?_) (fun cdv A outer s H vs Q E hr h => ?_)
  · obtain ⟨M, ds, d, L, hd, ⟨x, rfl, rfl⟩, q⟩ := h
    exact dpa_len hd
  · obtain ⟨M, ds, d, L, hd, ⟨x, rfl, rfl⟩, q⟩ := h
    cases hd with
    | cons h1 h2 =>
      cases h2
      refine rb_ifF ((xt_not (xt_val (M := M) (xd_call L GW hr FW.g FW.F.kp FW.b (xa_cons (xd_name 0 rfl h1) xa_nil) ⟨_, rfl, rfl⟩))).to rfl) fun H1 s => rb_nil (q _ H1 s .non)
/-! ### rows -/
abbrev Row := Int × Int × Int
def rowD (r : Row) : PyData := .tuple [.int r.1, .int r.2.1, .int r.2.2]
def jmp (r : Row) : Int := r.2.2 - r.2.1
def ab (n : Int) : Int := if n < 0 then -n else n
theorem pix {X : Cx} {n : Int} {j pos} : PlainIx (.Constant (.int n) j pos) := fun _ _ => rfl
def RJump (ds : List PyData) (d : PyData) : Prop := ∃ r : Row, ds = [rowD r] ∧ d = .int (jmp r)
theorem scJump : FnScope ["row"] ["row"] (defScope sJump) := ⟨rfl, rfl, rfl, by decide +kernel, rfl, by decide +kernel, by decide +kernel⟩
theorem ok_jump {f : Addr} {fd : FuncData} (F : Df K mg "jump_of" sJump ["row"] f fd) : FnOk P w K mg base CX0 1 f fd ["row"] (spR K RJump) := by
  refine F.F.ok scJump (fun vs H Q E h => ?_) (fun cdv A outer s H vs Q E hr h => ?_)
  · obtain ⟨M, ds, d, L, hd, ⟨x, rfl, rfl⟩, q⟩ := h
    exact dpa_len hd
  · obtain ⟨M, ds, d, L, hd, ⟨r, rfl, rfl⟩, q⟩ := h
    cases hd with
    | cons h1 h2 =>
      cases h2
      exact rb_ret (M := M) (xd_sub (xd_ixT (fun _ _ => rfl) (xd_name 0 rfl h1) xd_int rfl) (xd_ixT (fun _ _ => rfl) (xd_name 0 rfl h1) xd_int rfl)) q
def isJumpB (j : Int) : Bool := !decide (j = 0) && decide (ab j ≤ 720)
def RIsJump (ds : List PyData) (d : PyData) : Prop := ∃ j : Int, ds = [.int j] ∧ d = .bool (isJumpB j)
theorem scIsJump : FnScope ["value"] ["value"] (defScope sIsJump) := ⟨rfl, rfl, rfl, by decide +kernel, rfl, by decide +kernel, by decide +kernel⟩
theorem ok_isJump {f : Addr} {fd : FuncData} (T : Nm mg) (hG : ∃ t, mg "GREATEST_JUMP" = some (.int 720 t)) (F : Df K mg "is_jump" sIsJump ["value"] f fd) : FnOk P w K mg base CX0 1 f fd ["value"] (spR K RIsJump) := by
  obtain ⟨t, hG⟩ := hG
  refine F.F.ok scIsJump (fun vs H Q E h => ?_) (fun cdv A outer s H vs Q E hr h => ?_)
  · obtain ⟨M, ds, d, L, hd, ⟨x, rfl, rfl⟩, q⟩ := h
    exact dpa_len hd
  · obtain ⟨M, ds, d, L, hd, ⟨j, rfl, rfl⟩, q⟩ := h
    cases hd with
    | cons h1 h2 =>
      cases h2
      exact rb_ret (M := M) (xd_and2 (xd_neI (xd_name 0 rfl h1) xd_int) fun _ => xd_cmpI op_le (xd_abs T.abs (xd_name 0 rfl h1)) (xv_glob (v := .int 720) hG ⟨t, rfl⟩).int) q
def followB (rs : List Row) (r : Row) : Bool := match rs.getLast? with
  | none => true
  | some l => decide (ab (jmp l) + ab (jmp r) < r.1 - l.1)
def RFollow (ds : List PyData) (d : PyData) : Prop := ∃ (rs : List Row) (r : Row), ds = [.list (rs.map rowD), rowD r] ∧ d = .bool (isJumpB (jmp r) && followB rs r)
theorem scFollow : FnScope ["rows", "row", "last"] ["rows", "row"] (defScope sFollow) := ⟨rfl, rfl, rfl, by decide +kernel, rfl, by decide +kernel, by decide +kernel⟩
theorem at_last {rs : List Row} {l : Row} (h : rs.getLast? = some l) : atI (rs.map rowD) (-1) = some (rowD l) := by
  obtain ⟨ys, rfl⟩ := List.getLast?_eq_some_iff.mp h
  rw [List.map_append]
  exact atI_last _ _
theorem ok_follow {f fJ fI : Addr} {fd fdJ fdI : FuncData} (T : Nm mg) (hG : ∃ t, mg "GREATEST_JUMP" = some (.int 720 t)) (FJ : Df K mg "jump_of" sJump ["row"] fJ fdJ) (FI : Df K mg "is_jump" sIsJump ["value"] fI fdI) (F : Df K mg "can_follow" sFollow ["rows", "row"] f fd) : FnOk P w K mg base CX0 2 f fd ["rows", "row"] (spR K RFollow) := by
  have GJ : FnOk P w K mg base CX0 1 fJ fdJ ["row"] (spR K RJump) := ok_jump FJ
  have GI : FnOk P w K mg base CX0 1 fI fdI ["value"] (spR K RIsJump) := ok_isJump T hG FI
  refine F.F.ok scFollow (fun vs H Q E h => ?_) (fun cdv A outer s H vs Q E hr h => ?_)
  · obtain ⟨M, ds, d, L, hd, ⟨x, y, rfl, rfl⟩, q⟩ := h
    exact dpa_len hd
  · obtain ⟨M, ds, d, L, hd, ⟨rs, r, rfl, rfl⟩, q⟩ := h
    cases hd with
    | cons h1 h2 =>
      cases h2 with
      | cons h2 h3 =>
        cases h3
        refine rb_if (xt_not (xt_val (M := M) (xd_call L GI hr FI.g FI.F.kp FI.b (xa_cons (xd_call L GJ hr FJ.g FJ.F.kp FJ.b (xa_cons (xd_name 1 rfl h2) xa_nil) ⟨r, rfl, rfl⟩) xa_nil) ⟨_, rfl, rfl⟩))) (fun e H1 s => ?_) (fun e0 H0 s0 => rb_nil ?_)
        · refine rb_ret (M := M) xd_bl fun v H2 s2 hv => q v H2 (s.trans s2) ?_
          have ej : isJumpB (jmp r) = false := by
            cases z : isJumpB (jmp r)
            · rfl
            · rw [z] at e; exact absurd e Bool.false_ne_true
          rw [ej]
          exact hv
        have ej : isJumpB (jmp r) = true := by
          cases z : isJumpB (jmp r)
          · rw [z] at e0; exact absurd e0.symm Bool.false_ne_true
          · rfl
        have L := L.mono s0
        have h1 := h1.up (hid_mono (M := M) s0)
        have h2 := h2.up (hid_mono (M := M) s0)
        rw [ej] at q
        refine rb_if (xt_eqI (M := M) (xd_len T.len (xd_name 0 rfl h1)) xd_int) (fun e H1 s => ?_) (fun e H1 s => rb_nil ?_)
        · have e0 : rs = [] := by
            have z := of_decide_eq_true e
            rw [List.length_map] at z
            exact List.length_eq_zero_iff.mp (by omega)
          subst e0
          exact rb_ret (M := M) xd_bl fun v H2 s2 hv => q v H2 ((s0.trans s).trans s2) hv
        · have e0 : rs ≠ [] := fun z => by
            subst z
            simp at e
          obtain ⟨l, hl⟩ : ∃ l, rs.getLast? = some l := ⟨_, List.getLast?_eq_some_getLast e0⟩
          have g1 := h1.up (hid_mono (M := M) s)
          have g2 := h2.up (hid_mono (M := M) s)
          refine rb_set 2 (M := M) (xd_ixL (fun _ _ => rfl) (xd_name 0 rfl g1) (xd_neg xd_int) (at_last hl)) (fun v H2 s2 hv => ?_) scFollow.nd
          have g3 := g2.up (hid_mono (M := M) s2)
          have L2' := (L.mono s).mono s2
          refine rb_ret (M := M) (xd_cmpI op_gt (xd_sub (xd_ixT (fun _ _ => rfl) (xd_name 1 rfl g3) xd_int rfl) (xd_ixT (fun _ _ => rfl) (xd_name 2 rfl hv) xd_int rfl))
            (xd_add (xd_abs T.abs (xd_call L2' GJ hr FJ.g FJ.F.kp FJ.b (xa_cons (xd_name 2 rfl hv) xa_nil) ⟨l, rfl, rfl⟩)) (xd_abs T.abs (xd_call L2' GJ hr FJ.g FJ.F.kp FJ.b (xa_cons (xd_name 1 rfl g3) xa_nil) ⟨r, rfl, rfl⟩)))) fun v' H3 s3 hv' => q v' H3 (((s0.trans s).trans s2).trans s3) ?_
          unfold followB
          rw [hl, Bool.true_and]
          exact hv'
def tornD (r : Row) : PyData := .tuple [.int (r.1 + (if r.2.2 < r.2.1 then r.2.2 else r.2.1)), .int (r.1 + (if r.2.2 > r.2.1 then r.2.2 else r.2.1))]
def RTorn (ds : List PyData) (d : PyData) : Prop := ∃ r : Row, ds = [rowD r] ∧ d = tornD r
theorem scTorn : FnScope ["row", "moment", "before", "after"] ["row"] (defScope sTorn) := ⟨rfl, rfl, rfl, by decide +kernel, rfl, by decide +kernel, by decide +kernel⟩
theorem ok_torn {f : Addr} {fd : FuncData} (T : Nm mg) (F : Df K mg "torn_readings" sTorn ["row"] f fd) : FnOk P w K mg base CX0 1 f fd ["row"] (spR K RTorn) := by
  refine F.F.ok scTorn (fun vs H Q E h => ?_) (fun cdv A outer s H vs Q E hr h => ?_)
  · obtain ⟨M, ds, d, L, hd, ⟨x, rfl, rfl⟩, q⟩ := h
    exact dpa_len hd
  · obtain ⟨M, ds, d, L, hd, ⟨r, rfl, rfl⟩, q⟩ := h
    cases hd with
    | cons h1 h2 =>
      cases h2
      refine rb_asgR (XD.go (M := M) (xd_name 0 rfl h1) fun v H1 s1 hv => ?_)
      obtain ⟨p, xs, rfl, hp, hx⟩ := dp_tup hv
      cases hx with
      | cons a1 hx => cases hx with
        | cons a2 hx => cases hx with
          | cons a3 hx =>
            cases hx
            rw [dp_int a1, dp_int a2, dp_int a3] at hp
            refine rg_tup (same_seqT hid_le hp) (rgs_cons (rg_name 1 (rgs_cons (rg_name 2 (rgs_cons (rg_name 3 (rgs_nil ?_) scTorn.nd)) scTorn.nd)) scTorn.nd))
            exact rb_ret (M := M) (xd_tup (L.mono s1) (xa_cons (xd_add (xd_name 1 rfl (.int r.1)) (xd_min T.min (xa_cons (xd_name 2 rfl (.int r.2.1)) (xa_cons (xd_name 3 rfl (.int r.2.2)) xa_nil))))
              (xa_cons (xd_add (xd_name 1 rfl (.int r.1)) (xd_max T.max (xa_cons (xd_name 2 rfl (.int r.2.1)) (xa_cons (xd_name 3 rfl (.int r.2.2)) xa_nil)))) xa_nil))) fun v' H2 s2 hv' => q v' H2 (s1.trans s2) hv'
end
end Zn

set_option Elab.async false
set_option linter.all false
set_option maxRecDepth 100000
set_option maxHeartbeats 4000000
namespace Zn
open PySem PySem.Spec PyProof.Rows L2 Dl
/-! ### rows of changes: the mathematics -/
def rowsOf : Int → List (Int × Int) → List Row
  | _, [] => []
  | b, c :: cs => (c.1, b, c.2) :: rowsOf c.2 cs
def lastOff : Int → List (Int × Int) → Int
  | b, [] => b
  | _, c :: cs => lastOff c.2 cs
theorem rows_len : ∀ (b : Int) (cs : List (Int × Int)), (rowsOf b cs).length = cs.length
  | _, [] => rfl
  | _, c :: cs => by unfold rowsOf; rw [List.length_cons, List.length_cons, rows_len c.2 cs]
theorem rows_take : ∀ (b : Int) (cs : List (Int × Int)) (k : Nat), (rowsOf b cs).take k = rowsOf b (cs.take k)
  | _, [], k => by unfold rowsOf; cases k <;> rfl
  | _, c :: cs, 0 => rfl
  | _, c :: cs, k + 1 => by unfold rowsOf; rw [List.take_succ_cons, List.take_succ_cons, rows_take c.2 cs k]
theorem rows_get : ∀ (b : Int) (cs : List (Int × Int)) (k : Nat) (c : Int × Int), cs[k]? = some c → (rowsOf b cs)[k]? = some (c.1, lastOff b (cs.take k), c.2)
  | _, [], k, c, h => by simp at h
  | _, c' :: cs, 0, c, h => by simp at h; subst h; rfl
  | _, c' :: cs, k + 1, c, h => by
    have q := rows_get c'.2 cs k c (by simpa using h)
    unfold rowsOf lastOff
    rw [List.take_succ_cons]
    simpa using q
theorem last_snoc : ∀ (b : Int) (cs : List (Int × Int)) (c : Int × Int), lastOff b (cs ++ [c]) = c.2
  | _, [], c => rfl
  | _, c' :: cs, c => last_snoc c'.2 cs c
theorem rows_snoc : ∀ (b : Int) (cs : List (Int × Int)) (c : Int × Int), rowsOf b (cs ++ [c]) = rowsOf b cs ++ [(c.1, lastOff b cs, c.2)]
  | _, [], c => rfl
  | _, c' :: cs, c => by
    show (c'.1, _, c'.2) :: rowsOf c'.2 (cs ++ [c]) = _
    rw [rows_snoc c'.2 cs c]
    rfl
/-- each row passes the checks behind the ones ahead of it -/
def okR (rs : List Row) : Prop := ∀ (k : Nat) (r : Row), rs[k]? = some r → isJumpB (jmp r) = true ∧ followB (rs.take k) r = true
def IsPr (it : PyData) (c : Int × Int) : Prop := it = .tuple [.int c.1, .int c.2] ∨ it = .list [.int c.1, .int c.2]
def Items (items : List PyData) (cs : List (Int × Int)) : Prop := items.length = cs.length ∧ ∀ (i : Nat) (it : PyData), items[i]? = some it → ∃ c, cs[i]? = some c ∧ IsPr it c
def RPair (ds : List PyData) (d : PyData) : Prop := ∃ it c, ds = [it] ∧ IsPr it c ∧ d = .bool true
def RRows (ds es : List PyData) : Prop := ∃ (off : Int) (sq : PyData) (items : List PyData) (cs : List (Int × Int)), ds = [.int off, sq] ∧ (sq = .list items ∨ sq = .tuple items) ∧ Items items cs ∧ okR (rowsOf off cs) ∧ cs.length ≤ 1000 ∧ es = (rowsOf off cs).map rowD
theorem hid_weak {p : Addr} {M : List Addr} {H : Hp} : Same (hid (p :: M) H) (hid M H) := fun b o e => by
  have n : b ∉ p :: M := fun z => by unfold hid at e; rw [if_pos z] at e; cases e
  rw [hid_of (fun z => n (List.mem_cons_of_mem _ z))]
  exact hid_le _ _ e
theorem hid_cons_upd {p : Addr} {M : List Addr} {H : Hp} {o : HO} : hid (p :: M) (upd H p o) = hid (p :: M) H := hid_upd_mem (List.mem_cons_self ..)
theorem Live.tail {p : Addr} {M : List Addr} {H : Hp} (L : Live (p :: M) H) : Live M H := fun b hb => L b (List.mem_cons_of_mem _ hb)
theorem same_upd {H H' : Hp} {p : Addr} {o : HO} (s : Same H H') (hp : H p = none) : Same H (upd H' p o) := fun b u e => by rw [upd_ne (ne_of_none e hp)]; exact s b u e
theorem take_snoc {α : Type} {l : List α} {k : Nat} {x : α} (h : l[k]? = some x) : l.take (k + 1) = l.take k ++ [x] := by rw [List.take_add_one, h]; rfl
theorem k_tl : kitB "tuple" "list" = some false := by decide +kernel
theorem k_tt : kitB "tuple" "tuple" = some true := by decide +kernel
theorem k_ll : kitB "list" "list" = some true := by decide +kernel
theorem k_lt : kitB "list" "tuple" = some false := by decide +kernel
section
variable {P : Program} {w : World} {K : PySem.W.Frag} {mg : Str → Option Value} {base : Heap}
theorem scPair : FnScope ["value"] ["value"] (defScope sPair) := ⟨rfl, rfl, rfl, by decide +kernel, rfl, by decide +kernel, by decide +kernel⟩
theorem ok_pair {f fW : Addr} {fd fdW : FuncData} (T : Nm mg) (FW : Df K mg "is_whole" sWhole ["value"] fW fdW) (F : Df K mg "is_whole_pair" sPair ["value"] f fd) : FnOk P w K mg base CX0 2 f fd ["value"] (spR K RPair) := by
  have GW : FnOk P w K mg base CX0 1 fW fdW ["value"] (spR K RWhole) := ok_whole T FW
  refine F.F.ok scPair (fun vs H Q E h => ?_) (fun cdv A outer s H vs Q E hr h => ?_)
  · obtain ⟨M, ds, d, L, hd, ⟨x, c, rfl, _, rfl⟩, q⟩ := h
    exact dpa_len hd
  · obtain ⟨M, ds, d, L, hd, ⟨x, c, rfl, hx, rfl⟩, q⟩ := h
    cases hd with
    | cons h1 h2 =>
      cases h2
      rcases hx with rfl | rfl
      · refine rb_ret (M := M) (xd_andT ((xd_is2 (d := .tuple [.int c.1, .int c.2]) (r1 := false) (r2 := true) (T1 := "list") (T2 := "tuple") k_tl k_tt T.isi T.lst (by decide +kernel) T.tup (by decide +kernel) (xd_name 0 rfl h1)).to rfl)
          (xd_andT ((xd_eqI (xd_lenT T.len (xd_name 0 rfl h1)) xd_int).to rfl) (xd_andT (xd_call L GW hr FW.g FW.F.kp FW.b (xa_cons (xd_ixT (fun _ _ => rfl) (xd_name 0 rfl h1) xd_int rfl) xa_nil) ⟨.int c.1, rfl, rfl⟩)
            (xd_one (xd_call L GW hr FW.g FW.F.kp FW.b (xa_cons (xd_ixT (fun _ _ => rfl) (xd_name 0 rfl h1) xd_int rfl) xa_nil) ⟨.int c.2, rfl, rfl⟩))))) q
      · refine rb_ret (M := M) (xd_andT ((xd_is2 (d := .list [.int c.1, .int c.2]) (r1 := true) (r2 := false) (T1 := "list") (T2 := "tuple") k_ll k_lt T.isi T.lst (by decide +kernel) T.tup (by decide +kernel) (xd_name 0 rfl h1)).to rfl)
          (xd_andT ((xd_eqI (xd_len T.len (xd_name 0 rfl h1)) xd_int).to rfl) (xd_andT (xd_call L GW hr FW.g FW.F.kp FW.b (xa_cons (xd_ixL (fun _ _ => rfl) (xd_name 0 rfl h1) xd_int rfl) xa_nil) ⟨.int c.1, rfl, rfl⟩)
            (xd_one (xd_call L GW hr FW.g FW.F.kp FW.b (xa_cons (xd_ixL (fun _ _ => rfl) (xd_name 0 rfl h1) xd_int rfl) xa_nil) ⟨.int c.2, rfl, rfl⟩))))) q
/-- item[0], item[1] -/
theorem pr_ix {X : Cx} {M : List Addr} {σ : L2.St} {H : Hp} {a : Expr} {it : PyData} {c : Int × Int} {j : Nat} {p1 pos : Pos} (h : IsPr it c) (ha : XD X M σ H a it) {n : Int} {y : Int} (hn : atI [PyData.int c.1, PyData.int c.2] n = some (.int y)) : XD X M σ H (.Subscript a (.Constant (.int n) j p1) pos) (.int y) := by
  rcases h with rfl | rfl
  · exact xd_ixT (fun _ _ => rfl) ha xd_int hn
  · exact xd_ixL (fun _ _ => rfl) ha xd_int hn
theorem scRows : FnScope ["offset", "changes", "rows", "before", "item", "row"] ["offset", "changes"] (defScope sRows) := ⟨rfl, rfl, rfl, by decide +kernel, rfl, by decide +kernel, by decide +kernel⟩
theorem ok_rows {f fW fP fJ fI fF : Addr} {fd fdW fdP fdJ fdI fdF : FuncData} (T : Nm mg) (hG : ∃ t, mg "GREATEST_JUMP" = some (.int 720 t)) (FW : Df K mg "is_whole" sWhole ["value"] fW fdW) (FP : Df K mg "is_whole_pair" sPair ["value"] fP fdP)
    (FJ : Df K mg "jump_of" sJump ["row"] fJ fdJ) (FI : Df K mg "is_jump" sIsJump ["value"] fI fdI) (FF : Df K mg "can_follow" sFollow ["rows", "row"] fF fdF) (F : Df K mg "rows_of" sRows ["offset", "changes"] f fd) : FnOk P w K mg base CX0 3 f fd ["offset", "changes"] (spL K RRows) := by
  have GP : FnOk P w K mg base CX0 2 fP fdP ["value"] (spR K RPair) := ok_pair T FW FP
  have GF : FnOk P w K mg base CX0 2 fF fdF ["rows", "row"] (spR K RFollow) := ok_follow T hG FJ FI FF
  refine F.F.ok scRows (fun vs H Q E h => ?_) (fun cdv A outer s H vs Q E hr h => ?_)
  · obtain ⟨M, ds, es, L, hd, ⟨off, sq, items, cs, rfl, _⟩, q⟩ := h
    exact dpa_len hd
  · obtain ⟨M, ds, es, L, hd, ⟨off, sq, items, cs, rfl, hsq, hit, hok, hlen, rfl⟩, q⟩ := h
    cases hd with
    | cons h1 h2 =>
      cases h2 with
      | cons h2 h3 =>
        cases h3
        rename_i v0 v1
        have e0 := dp_int h1
        subst e0
        refine rb_setL 2 (xl_lst L xa_nil) (fun p xs H1 s1 hp h1p hxs => ?_) scRows.nd
        cases hxs
        have g0 : Same (hid M H) (hid (p :: M) H1) := hid_step hp s1
        have Lp : Live (p :: M) H1 := fun b hb => by
          rcases List.mem_cons.mp hb with z | hb
          · subst z; rw [h1p]; simp
          · exact L.mono s1 b hb
        have k2 := h2.up g0
        refine rb_set 3 (M := p :: M) (xd_name 0 rfl (.int off)) (fun v H2 s2 hv => ?_) scRows.nd
        have e3 := dp_int hv
        subst e3
        have k3 := k2.up (hid_mono (M := p :: M) s2)
        have Lp2 := Lp.mono s2
        rcases hsq with rfl | rfl
        · refine rb_for (M := p :: M) (xd_name 1 rfl k3) fun H3 s3 => ⟨fun k σ' H' => Same (hid (p :: M) H3) (hid (p :: M) H') ∧ Live (p :: M) H' ∧ Same H H' ∧ ∃ (xs : List V) (a4 a5 : Option V), σ' = [some (.int off), some v1, some (.ref p), some (.int (lastOff off (cs.take k))), a4, a5] ∧ H' p = some (.lst xs) ∧ DqAll K (hid (p :: M) H') xs ((rowsOf off (cs.take k)).map rowD),
            ⟨Same.refl _, Lp2.mono s3, (s1.trans s2).trans s3, [], none, none, rfl, s3 _ _ (s2 _ _ h1p), .nil⟩, fun k σ' H' w => w.1, fun k it hk σ' H' v hw hv => ?_, fun σ' H' hw => ?_⟩
          · obtain ⟨z1, L4, z2, xs, a4, a5, rfl, hp4, hx4⟩ := hw
            obtain ⟨c, hc, hpr⟩ := hit.2 k it hk
            have hklt : k < cs.length := (List.getElem?_eq_some_iff.mp hc).1
            have hrow := rows_get off cs k c hc
            obtain ⟨c1, c2⟩ := hok k _ hrow
            rw [rows_take] at c2
            have hxl : xs.length < 100000 := by
              rw [dpa_len hx4, List.length_map, rows_len, List.length_take]
              omega
            refine rg_name 4 ?_ scRows.nd
            refine rb_ifF ((xt_not (xt_val (M := p :: M) (xd_call L4 GP hr FP.g FP.F.kp FP.b (xa_cons (xd_name 4 rfl hv) xa_nil) ⟨it, c, rfl, hpr, rfl⟩))).to rfl) fun H5 s5 => ?_
            have hv5 := hv.up (hid_mono (M := p :: M) s5)
            have L5 := L4.mono s5
            refine rb_set 5 (M := p :: M) (xd_tup L5 (xa_cons (pr_ix hpr (xd_name 4 rfl hv5) rfl) (xa_cons (xd_name 3 rfl (.int _)) (xa_cons (pr_ix hpr (xd_name 4 rfl hv5) rfl) xa_nil)))) (fun v6 H6 s6 hv6 => ?_) scRows.nd
            have L6 := L5.mono s6
            have s46 := s5.trans s6
            have hx6 := hx4.up (hid_mono (M := p :: M) s46)
            have LM := Live.tail L6
            have hp6 : H6 p = some (.lst xs) := s46 _ _ hp4
            have kp : Dq K (hid M H6) (.ref p) (.list ((rowsOf off (cs.take k)).map rowD)) := .lst (by rw [hid_of (fun z => (L.fresh hp) z)]; exact hp6) (hx6.up hid_weak)
            refine rb_ifF ((xt_not (xt_val (M := M) (xd_call LM GF hr FF.g FF.F.kp FF.b (xa_cons (xd_name 2 rfl kp) (xa_cons (xd_name 5 rfl (hv6.up hid_weak)) xa_nil)) ⟨_, (c.1, lastOff off (cs.take k), c.2), rfl, rfl⟩))).to (by rw [c1, c2]; rfl)) fun H7 s7 => ?_
            refine rb_append (M := p :: M) (xs := xs) (List.mem_cons_self ..) (xv_name 2 rfl) (s7 _ _ (s46 _ _ hp4)) (xd_name 5 rfl (hv6.up (hid_mono s7))) hxl fun v8 H8 s8 hv8 => ?_
            have s68 := s7.trans s8
            have s48 := s46.trans s68
            have hv9 : Dq K (hid (p :: M) (upd H8 p (.lst (xs ++ [v8])))) v it := by rw [hid_cons_upd]; exact hv5.up (hid_mono (s6.trans s68))
            refine rb_set 3 (M := p :: M) (pr_ix hpr (xd_name 4 rfl hv9) rfl) (fun v10 H10 s10 hv10 => rb_nil ?_) scRows.nd
            have e10 := dp_int hv10
            subst e10
            have s4x : Same (hid (p :: M) H') (hid (p :: M) H10) := by
              refine (hid_mono (M := p :: M) s48).trans ?_
              have z := hid_mono (M := p :: M) s10
              rw [hid_cons_upd] at z
              exact z
            refine ⟨z1.trans s4x, (Live.upd (L6.mono s68)).mono s10, (same_upd (z2.trans s48) hp).trans s10, xs ++ [v8], some v, some v6, ?_, s10 _ _ upd_same, ?_⟩
            · rw [take_snoc hc, last_snoc]
              rfl
            · rw [take_snoc hc, rows_snoc, List.map_append]
              refine dpa_app (hx4.up s4x) (.cons (hv8.up ?_) .nil)
              have z := hid_mono (M := p :: M) s10
              rw [hid_cons_upd] at z
              exact z
          · obtain ⟨z1, L4, z2, xs, a4, a5, rfl, hp4, hx4⟩ := hw
            refine rb_retR (XV.go (xv_name 2 rfl) fun H5 s5 => q p xs H5 (z2.trans s5) hp (s5 _ _ hp4) ?_)
            rw [hit.1, List.take_length] at hx4
            exact (hx4.up (hid_mono (M := p :: M) s5)).up hid_weak
        · refine rb_forT (M := p :: M) (xd_name 1 rfl k3) fun H3 s3 => ⟨fun k σ' H' => Same (hid (p :: M) H3) (hid (p :: M) H') ∧ Live (p :: M) H' ∧ Same H H' ∧ ∃ (xs : List V) (a4 a5 : Option V), σ' = [some (.int off), some v1, some (.ref p), some (.int (lastOff off (cs.take k))), a4, a5] ∧ H' p = some (.lst xs) ∧ DqAll K (hid (p :: M) H') xs ((rowsOf off (cs.take k)).map rowD),
            ⟨Same.refl _, Lp2.mono s3, (s1.trans s2).trans s3, [], none, none, rfl, s3 _ _ (s2 _ _ h1p), .nil⟩, fun k σ' H' w => w.1, fun k it hk σ' H' v hw hv => ?_, fun σ' H' hw => ?_⟩
          · obtain ⟨z1, L4, z2, xs, a4, a5, rfl, hp4, hx4⟩ := hw
            obtain ⟨c, hc, hpr⟩ := hit.2 k it hk
            have hklt : k < cs.length := (List.getElem?_eq_some_iff.mp hc).1
            have hrow := rows_get off cs k c hc
            obtain ⟨c1, c2⟩ := hok k _ hrow
            rw [rows_take] at c2
            have hxl : xs.length < 100000 := by
              rw [dpa_len hx4, List.length_map, rows_len, List.length_take]
              omega
            refine rg_name 4 ?_ scRows.nd
            refine rb_ifF ((xt_not (xt_val (M := p :: M) (xd_call L4 GP hr FP.g FP.F.kp FP.b (xa_cons (xd_name 4 rfl hv) xa_nil) ⟨it, c, rfl, hpr, rfl⟩))).to rfl) fun H5 s5 => ?_
            have hv5 := hv.up (hid_mono (M := p :: M) s5)
            have L5 := L4.mono s5
            refine rb_set 5 (M := p :: M) (xd_tup L5 (xa_cons (pr_ix hpr (xd_name 4 rfl hv5) rfl) (xa_cons (xd_name 3 rfl (.int _)) (xa_cons (pr_ix hpr (xd_name 4 rfl hv5) rfl) xa_nil)))) (fun v6 H6 s6 hv6 => ?_) scRows.nd
            have L6 := L5.mono s6
            have s46 := s5.trans s6
            have hx6 := hx4.up (hid_mono (M := p :: M) s46)
            have LM := Live.tail L6
            have hp6 : H6 p = some (.lst xs) := s46 _ _ hp4
            have kp : Dq K (hid M H6) (.ref p) (.list ((rowsOf off (cs.take k)).map rowD)) := .lst (by rw [hid_of (fun z => (L.fresh hp) z)]; exact hp6) (hx6.up hid_weak)
            refine rb_ifF ((xt_not (xt_val (M := M) (xd_call LM GF hr FF.g FF.F.kp FF.b (xa_cons (xd_name 2 rfl kp) (xa_cons (xd_name 5 rfl (hv6.up hid_weak)) xa_nil)) ⟨_, (c.1, lastOff off (cs.take k), c.2), rfl, rfl⟩))).to (by rw [c1, c2]; rfl)) fun H7 s7 => ?_
            refine rb_append (M := p :: M) (xs := xs) (List.mem_cons_self ..) (xv_name 2 rfl) (s7 _ _ (s46 _ _ hp4)) (xd_name 5 rfl (hv6.up (hid_mono s7))) hxl fun v8 H8 s8 hv8 => ?_
            have s68 := s7.trans s8
            have s48 := s46.trans s68
            have hv9 : Dq K (hid (p :: M) (upd H8 p (.lst (xs ++ [v8])))) v it := by rw [hid_cons_upd]; exact hv5.up (hid_mono (s6.trans s68))
            refine rb_set 3 (M := p :: M) (pr_ix hpr (xd_name 4 rfl hv9) rfl) (fun v10 H10 s10 hv10 => rb_nil ?_) scRows.nd
            have e10 := dp_int hv10
            subst e10
            have s4x : Same (hid (p :: M) H') (hid (p :: M) H10) := by
              refine (hid_mono (M := p :: M) s48).trans ?_
              have z := hid_mono (M := p :: M) s10
              rw [hid_cons_upd] at z
              exact z
            refine ⟨z1.trans s4x, (Live.upd (L6.mono s68)).mono s10, (same_upd (z2.trans s48) hp).trans s10, xs ++ [v8], some v, some v6, ?_, s10 _ _ upd_same, ?_⟩
            · rw [take_snoc hc, last_snoc]
              rfl
            · rw [take_snoc hc, rows_snoc, List.map_append]
              refine dpa_app (hx4.up s4x) (.cons (hv8.up ?_) .nil)
              have z := hid_mono (M := p :: M) s10
              rw [hid_cons_upd] at z
              exact z
          · obtain ⟨z1, L4, z2, xs, a4, a5, rfl, hp4, hx4⟩ := hw
            refine rb_retR (XV.go (xv_name 2 rfl) fun H5 s5 => q p xs H5 (z2.trans s5) hp (s5 _ _ hp4) ?_)
            rw [hit.1, List.take_length] at hx4
            exact (hx4.up (hid_mono (M := p :: M) s5)).up hid_weak
end
end Zn

set_option Elab.async false
set_option linter.all false
set_option maxRecDepth 100000
set_option maxHeartbeats 4000000
namespace Zn
open PySem PySem.Spec PyProof.Rows L2 Dl
abbrev sInit : Stmt := inClass (top 14) 0
abbrev sFirst : Stmt := inClass (top 14) 1
abbrev sChanges : Stmt := inClass (top 14) 2
abbrev sJumps : Stmt := inClass (top 14) 3
abbrev sLen : Stmt := inClass (top 14) 4
abbrev sCont : Stmt := inClass (top 14) 5
abbrev sEq : Stmt := inClass (top 14) 6
abbrev sGaps : Stmt := inClass (top 14) 10
abbrev sFolds : Stmt := inClass (top 14) 11
/-! ### a zone -/
def zf (off : Int) (r : Addr) : List (Str × V) := [("base", .int off), ("rows", .ref r)]
theorem zf_base (off : Int) (r : Addr) : (zf off r).lookup ("base" : Str) = some (.int off) := by
  unfold zf
  simp [List.lookup]
theorem zf_rows (off : Int) (r : Addr) : (zf off r).lookup ("rows" : Str) = some (.ref r) := by
  unfold zf
  simp [List.lookup, show (("rows" : Str) == ("base" : Str)) = false by decide +kernel]
theorem zf_put (off : Int) (r : Addr) : putF "rows" (.ref r) [(("base" : Str), V.int off)] = zf off r := by
  show (if ("base" : Str) = "rows" then _ else (("base" : Str), V.int off) :: [(("rows" : Str), V.ref r)]) = _
  rw [if_neg (by decide +kernel)]
  rfl
theorem zf_none {m : Str} (off : Int) (r : Addr) (h1 : (m == ("base" : Str)) = false) (h2 : (m == ("rows" : Str)) = false) : (zf off r).lookup m = none := by
  unfold zf
  simp [List.lookup, h1, h2]
/-- at a a zone of the class at C: first offset off, rows rs -/
def ZAt (K : PySem.W.Frag) (C : Addr) (H : Hp) (a : Addr) (off : Int) (rs : List Row) : Prop := ∃ dx r, H a = some (.ins C dx (zf off r)) ∧ Dq K H (.ref r) (.list (rs.map rowD))
theorem ZAt.up {K : PySem.W.Frag} {C : Addr} {H H' : Hp} {a : Addr} {off : Int} {rs : List Row} (h : ZAt K C H a off rs) (s : Same H H') : ZAt K C H' a off rs := by
  obtain ⟨dx, r, h1, h2⟩ := h
  exact ⟨dx, r, s _ _ h1, h2.up s⟩
/-- what the written part says of the class -/
structure ZT (K : PySem.W.Frag) (mg : Str → Option Value) (C : Addr) : Prop where
  cl : Cls K C
  nB : NoAttr K C "base"
  nR : NoAttr K C "rows"
  mgC : mg "Zone" = some (.ref C)
/-- a method of the class -/
structure Mt (K : PySem.W.Frag) (C : Addr) (x q : Str) (st : Stmt) (ps : List Str) (f : Addr) (fd : FuncData) : Prop where
  F : Fun K x q st f fd
  b : Binds K fd ps []
  m : Meth K C x f
section
variable {X : Cx} {M : List Addr} {σ : L2.St} {H H' : Hp} {o : Expr} {pos : Pos} {K : PySem.W.Frag} {C pa : Addr} {off : Int} {rs : List Row}
/-- self.base, self.rows -/
theorem xv_base (hZ : ∃ mg, ZT X.K mg C) (h : ZAt X.K C (hid M H) pa off rs) (ho : XV X σ H o (.ref pa)) (hb : attributeBase o "base" X.env (eval o X.env) = eval o X.env := by rfl) : XV X σ H (.Attribute o "base" pos) (.int off) := by
  obtain ⟨dx, r, h1, h2⟩ := h
  obtain ⟨_, Z⟩ := hZ
  exact xv_fld ho (hid_le _ _ h1) Z.cl Z.nB (zf_base off r) hb
theorem xd_rows (hZ : ∃ mg, ZT X.K mg C) (h : ZAt X.K C (hid M H) pa off rs) (ho : XV X σ H o (.ref pa)) (hb : attributeBase o "rows" X.env (eval o X.env) = eval o X.env := by rfl) : XD X M σ H (.Attribute o "rows" pos) (.list (rs.map rowD)) := by
  obtain ⟨dx, r, h1, h2⟩ := h
  obtain ⟨_, Z⟩ := hZ
  exact (xv_fld ho (hid_le _ _ h1) Z.cl Z.nR (zf_rows off r) hb).dd h2
end
/-- a method without further arguments on a zone: a new list of the data f off rs; any data -/
def spML (K : PySem.W.Frag) (C : Addr) (f : Int → List Row → List PyData) : Sp := fun vs H Q _ => ∃ (M : List Addr) (a : Addr) (off : Int) (rs : List Row), vs = [.ref a] ∧ Live M H ∧ ZAt K C (hid M H) a off rs ∧ rs.length ≤ 1000 ∧
  ∀ p xs H1, Same H H1 → H p = none → H1 p = some (.lst xs) → DqAll K (hid M H1) xs (f off rs) → Q (.ref p) H1
def spMD (K : PySem.W.Frag) (C : Addr) (f : Int → List Row → PyData) : Sp := fun vs H Q _ => ∃ (M : List Addr) (a : Addr) (off : Int) (rs : List Row), vs = [.ref a] ∧ Live M H ∧ ZAt K C (hid M H) a off rs ∧ rs.length ≤ 1000 ∧
  ∀ v H1, Same H H1 → Dq K (hid M H1) v (f off rs) → Q v H1
section
variable {P : Program} {w : World} {K : PySem.W.Frag} {mg : Str → Option Value} {base : Heap} {C : Addr}
theorem fm_map {α : Type} (g : α → PyData) (f : PyData → Option PyData) (h : α → PyData) (e : ∀ r, f (g r) = some (h r)) : ∀ rs : List α, (rs.map g).filterMap f = rs.map h
  | [] => rfl
  | r :: rs => by rw [List.map_cons, List.filterMap_cons, e r, List.map_cons, fm_map g f h e rs]
theorem row_at {K : PySem.W.Frag} {H : Hp} {v : V} {r : Row} (h : Dq K H v (rowD r)) : ∃ p, v = .ref p ∧ SqT K H p [.int r.1, .int r.2.1, .int r.2.2] := by
  obtain ⟨p, xs, rfl, hp, hx⟩ := dp_tup h
  cases hx with
  | cons a1 hx => cases hx with
    | cons a2 hx => cases hx with
      | cons a3 hx => cases hx; rw [dp_int a1, dp_int a2, dp_int a3] at hp; exact ⟨p, rfl, hp⟩
/-- the row of an item -/
theorem mem_row {rs : List Row} {d : PyData} (h : d ∈ rs.map rowD) : ∃ r ∈ rs, d = rowD r := by
  obtain ⟨r, h1, h2⟩ := List.mem_map.mp h
  exact ⟨r, h1, h2.symm⟩
/-! first, len -/
theorem scFirst : FnScope ["self"] ["self"] (defScope sFirst) := ⟨rfl, rfl, rfl, by decide +kernel, rfl, by decide +kernel, by decide +kernel⟩
theorem ok_first {f : Addr} {fd : FuncData} (Z : ZT K mg C) (F : Fun K "first" "Zone.first" sFirst f fd) : FnOk P w K mg base CX0 1 f fd ["self"] (spMD K C fun off _ => .int off) := by
  refine F.ok scFirst (fun vs H Q E h => ?_) (fun cdv A outer s H vs Q E hr h => ?_)
  · obtain ⟨M, a, off, rs, rfl, _⟩ := h; rfl
  · obtain ⟨M, a, off, rs, rfl, L, hz, _, q⟩ := h
    exact rb_retR (XV.go (xv_base ⟨_, Z⟩ hz (xv_name 0 rfl)) fun H1 s => q _ H1 s (.int off))
theorem scLen : FnScope ["self"] ["self"] (defScope sLen) := ⟨rfl, rfl, rfl, by decide +kernel, rfl, by decide +kernel, by decide +kernel⟩
theorem ok_len {f : Addr} {fd : FuncData} (T : Nm mg) (Z : ZT K mg C) (F : Fun K "__len__" "Zone.__len__" sLen f fd) : FnOk P w K mg base CX0 1 f fd ["self"] (spMD K C fun _ rs => .int rs.length) := by
  refine F.ok scLen (fun vs H Q E h => ?_) (fun cdv A outer s H vs Q E hr h => ?_)
  · obtain ⟨M, a, off, rs, rfl, _⟩ := h; rfl
  · obtain ⟨M, a, off, rs, rfl, L, hz, _, q⟩ := h
    exact rb_ret (M := M) ((xd_len T.len (xd_rows ⟨_, Z⟩ hz (xv_name 0 rfl))).to (by rw [List.length_map])) q
/-! changes -/
def chD (r : Row) : PyData := .tuple [.int r.1, .int r.2.2]
theorem scChanges : FnScope ["self", "moment", "before", "after"] ["self"] (defScope sChanges) := ⟨rfl, rfl, rfl, by decide +kernel, rfl, by decide +kernel, by decide +kernel⟩
theorem ok_changes {f : Addr} {fd : FuncData} (Z : ZT K mg C) (F : Fun K "changes" "Zone.changes" sChanges f fd) : FnOk P w K mg base CX0 1 f fd ["self"] (spML K C fun _ rs => rs.map chD) := by
  refine F.ok scChanges (fun vs H Q E h => ?_) (fun cdv A outer s H vs Q E hr h => ?_)
  · obtain ⟨M, a, off, rs, rfl, _⟩ := h; rfl
  · obtain ⟨M, a, off, rs, rfl, L, hz, hlen, q⟩ := h
    refine rb_retR (XL.go (M := M) ((xl_comp (own := [("moment", 1), ("before", 2), ("after", 3)]) (fun d => match d with | .tuple [x, _, z] => some (.tuple [x, z]) | _ => none) L scChanges.nd (xd_rows ⟨_, Z⟩ hz (xv_name 0 rfl))
      (blkOk_by (own := [("moment", 1), ("before", 2), ("after", 3)]) (N := ["self", "moment", "before", "after"]) (sc := defScope sChanges) (by decide +kernel)) (by rw [List.length_map]; omega) (fun p d v H1 hd hp s1 Lp hv => ?_)).to (fm_map rowD _ chD (fun _ => rfl) rs)) q)
    obtain ⟨r, _, rfl⟩ := mem_row hd
    obtain ⟨t, rfl, ht⟩ := row_at hv
    intro s0 H0 C0 cl fp
    refine rg_tup (same_seqT hid_le ht) (rgs_cons (rg_name 1 (rgs_cons (rg_name 2 (rgs_cons (rg_name 3 (rgs_nil ?_) scChanges.nd)) scChanges.nd)) scChanges.nd))
    refine ⟨rfl, bt_nil ⟨Same.refl _, .inl ⟨rfl, _, rfl, fun s0 H0 C0 cl fp => ?_⟩⟩⟩
    exact XD.go (xd_tup Lp (xa_cons (xd_name 1 rfl (.int r.1)) (xa_cons (xd_name 3 rfl (.int r.2.2)) xa_nil))) fun v H2 s2 hv2 => ⟨s2, hv2⟩
/-! jump_list, gaps, folds -/
theorem scJumps : FnScope ["self", "row"] ["self"] (defScope sJumps) := ⟨rfl, rfl, rfl, by decide +kernel, rfl, by decide +kernel, by decide +kernel⟩
theorem ok_jumps {f fJ : Addr} {fd fdJ : FuncData} (Z : ZT K mg C) (FJ : Df K mg "jump_of" sJump ["row"] fJ fdJ) (F : Fun K "jump_list" "Zone.jump_list" sJumps f fd) : FnOk P w K mg base CX0 2 f fd ["self"] (spML K C fun _ rs => rs.map fun r => .int (jmp r)) := by
  have GJ : FnOk P w K mg base CX0 1 fJ fdJ ["row"] (spR K RJump) := ok_jump FJ
  refine F.ok scJumps (fun vs H Q E h => ?_) (fun cdv A outer s H vs Q E hr h => ?_)
  · obtain ⟨M, a, off, rs, rfl, _⟩ := h; rfl
  · obtain ⟨M, a, off, rs, rfl, L, hz, hlen, q⟩ := h
    refine rb_retR (XL.go (M := M) ((xl_comp (own := [("row", 1)]) (fun d => match d with | .tuple [_, .int y, .int z] => some (.int (z - y)) | _ => none) L scJumps.nd (xd_rows ⟨_, Z⟩ hz (xv_name 0 rfl))
      (blkOk_by (own := [("row", 1)]) (N := ["self", "row"]) (sc := defScope sJumps) (by decide +kernel)) (by rw [List.length_map]; omega) (fun p d v H1 hd hp s1 Lp hv => ?_)).to (fm_map rowD _ (fun r => .int (jmp r)) (fun _ => rfl) rs)) q)
    obtain ⟨r, _, rfl⟩ := mem_row hd
    intro s0 H0 C0 cl fp
    refine rg_name 1 ?_ scJumps.nd
    refine ⟨rfl, bt_nil ⟨Same.refl _, .inl ⟨rfl, _, rfl, fun s0 H0 C0 cl fp => ?_⟩⟩⟩
    exact XD.go (xd_call Lp GJ hr FJ.g FJ.F.kp FJ.b (xa_cons (xd_name 1 rfl hv) xa_nil) ⟨r, rfl, rfl⟩) fun v H2 s2 hv2 => ⟨s2, hv2⟩
end
end Zn

set_option Elab.async false
set_option linter.all false
set_option maxRecDepth 100000
set_option maxHeartbeats 4000000
namespace Zn
open PySem PySem.Spec PyProof.Rows L2 Dl
/-! ### data of rows compared -/
theorem eqv_row (r r' : Row) : PyData.eqv (rowD r) (rowD r') = decide (r = r') := by
  obtain ⟨a, b, c⟩ := r
  obtain ⟨a', b', c'⟩ := r'
  by_cases h : ((a, b, c) : Row) = (a', b', c')
  · cases h
    simp [rowD, PyData.eqv, PyData.eqvAll]
  · rw [decide_eq_false h]
    simp only [rowD, PyData.eqv, PyData.eqvAll, Bool.and_true]
    by_cases h1 : a = a'
    · by_cases h2 : b = b'
      · by_cases h3 : c = c'
        · subst h1; subst h2; subst h3; exact absurd rfl h
        · simp [h3]
      · simp [h2]
    · simp [h1]
theorem eqv_rows : ∀ (rs rs' : List Row), PyData.eqvAll (rs.map rowD) (rs'.map rowD) = decide (rs = rs')
  | [], [] => by simp [PyData.eqvAll]
  | [], r' :: rs' => by simp [PyData.eqvAll]
  | r :: rs, [] => by simp [PyData.eqvAll]
  | r :: rs, r' :: rs' => by
    rw [List.map_cons, List.map_cons]
    show (PyData.eqv (rowD r) (rowD r') && PyData.eqvAll (rs.map rowD) (rs'.map rowD)) = _
    rw [eqv_row, eqv_rows rs rs']
    by_cases h1 : r = r'
    · by_cases h2 : rs = rs'
      · simp [h1, h2]
      · simp [h1, h2]
    · simp [h1]
theorem lay_rows : ∀ rs : List Row, PyData.canLayAll0 (rs.map rowD) = true
  | [] => by simp [PyData.canLayAll0]
  | r :: rs => by
    rw [List.map_cons]
    show (PyData.canLay0 (rowD r) && PyData.canLayAll0 (rs.map rowD)) = true
    rw [lay_rows rs]
    simp [rowD, PyData.canLay0, PyData.canLayAll0]
theorem depth_rows : ∀ rs : List Row, PyData.depthAll (rs.map rowD) ≤ 1
  | [] => by simp [PyData.depthAll]
  | r :: rs => by
    rw [List.map_cons]
    show max (PyData.depth (rowD r)) (PyData.depthAll (rs.map rowD)) ≤ 1
    have := depth_rows rs
    have e : PyData.depth (rowD r) = 1 := by simp [rowD, PyData.depth, PyData.depthAll]
    omega
theorem shaped_rows (rs : List Row) : SeqAt.shaped (.list (rs.map rowD)) = true := by
  unfold SeqAt.shaped
  have h := depth_rows rs
  have e : PyData.depth (.list (rs.map rowD)) = PyData.depthAll (rs.map rowD) + 1 := by simp [PyData.depth]
  rw [show PyData.canLay0 (.list (rs.map rowD)) = PyData.canLayAll0 (rs.map rowD) by simp [PyData.canLay0], lay_rows, e]
  simp
  omega
/-! ### gaps, folds -/
def gapsOf (rs : List Row) : List PyData := rs.filterMap fun r => if 0 < jmp r then some (tornD r) else none
def foldsOf (rs : List Row) : List PyData := rs.filterMap fun r => if jmp r < 0 then some (tornD r) else none
theorem fm_fm {α : Type} (g : α → PyData) (f : PyData → Option PyData) (h : α → Option PyData) (e : ∀ r, f (g r) = h r) : ∀ rs : List α, (rs.map g).filterMap f = rs.filterMap h
  | [] => rfl
  | r :: rs => by rw [List.map_cons, List.filterMap_cons, List.filterMap_cons, e r, fm_fm g f h e rs]
theorem int_all {K : PySem.W.Frag} {H : Hp} : ∀ {ns : List Int} {xs : List V}, DqAll K H xs (ns.map PyData.int) → xs = ns.map V.int
  | [], _, h => by cases h; rfl
  | n :: ns, _, h => by
    cases h with
    | cons a b => rw [dp_int a, int_all b]; rfl
theorem inV_int (n : Int) : ∀ ns : List Int, inV (.int n) (ns.map V.int) = ns.any (fun m => m == n)
  | [] => rfl
  | m :: ns => by
    show (eqV (.int m) (.int n) || inV (.int n) (ns.map V.int)) = _
    rw [inV_int n ns]
    rfl
theorem flat_int : ∀ ns : List Int, (ns.map V.int).all flatV = true
  | [] => rfl
  | n :: ns => flat_int ns
section
variable {X : Cx} {M : List Addr} {σ : L2.St} {H H' : Hp} {a b : Expr} {pos : Pos}
theorem xd_inI {n : Int} {ns : List Int} (ha : XD X M σ H a (.int n)) (hb : XD X M σ H b (.list (ns.map PyData.int))) (hm : behindInMarks .In b = false := by rfl) : XD X M σ H (.Compare a [.In] [b] pos) (.bool (ns.any fun m => m == n)) :=
  xd_cmp op_in_seq ha hb (fun H1 v w s hv hw Q q => by
    obtain ⟨p, xs, rfl, hp, hx⟩ := dp_lst hw
    have e := int_all hx
    subst e
    rw [dp_int hv]
    exact ⟨p, _, rfl, .inl (SqL.of (hid_le _ _ hp)), rfl, flat_int ns, by rw [inV_int]; exact q _ H1 (Same.refl _) (.bl _)⟩) hm
end
section
variable {P : Program} {w : World} {K : PySem.W.Frag} {mg : Str → Option Value} {base : Heap} {C : Addr}
theorem scGaps : FnScope ["self", "row"] ["self"] (defScope sGaps) := ⟨rfl, rfl, rfl, by decide +kernel, rfl, by decide +kernel, by decide +kernel⟩
theorem ok_gaps {f fJ fT : Addr} {fd fdJ fdT : FuncData} (T : Nm mg) (Z : ZT K mg C) (FJ : Df K mg "jump_of" sJump ["row"] fJ fdJ) (FT : Df K mg "torn_readings" sTorn ["row"] fT fdT) (F : Fun K "gaps" "Zone.gaps" sGaps f fd) : FnOk P w K mg base CX0 2 f fd ["self"] (spML K C fun _ rs => gapsOf rs) := by
  have GJ : FnOk P w K mg base CX0 1 fJ fdJ ["row"] (spR K RJump) := ok_jump FJ
  have GT : FnOk P w K mg base CX0 1 fT fdT ["row"] (spR K RTorn) := ok_torn T FT
  refine F.ok scGaps (fun vs H Q E h => ?_) (fun cdv A outer s H vs Q E hr h => ?_)
  · obtain ⟨M, a, off, rs, rfl, _⟩ := h; rfl
  · obtain ⟨M, a, off, rs, rfl, L, hz, hlen, q⟩ := h
    refine rb_retR (XL.go (M := M) ((xl_comp (own := [("row", 1)]) (fun d => match d with | .tuple [.int x, .int y, .int z] => if 0 < z - y then some (tornD (x, y, z)) else none | _ => none) L scGaps.nd (xd_rows ⟨_, Z⟩ hz (xv_name 0 rfl))
      (blkOk_by (own := [("row", 1)]) (N := ["self", "row"]) (sc := defScope sGaps) (by decide +kernel)) (by rw [List.length_map]; omega) (fun p d v H1 hd hp s1 Lp hv => ?_)).to (fm_fm rowD _ (fun r => if 0 < jmp r then some (tornD r) else none) (fun _ => rfl) rs)) q)
    obtain ⟨r, _, rfl⟩ := mem_row hd
    intro s0 H0 C0 cl fp
    refine rg_name 1 ?_ scGaps.nd
    refine ⟨rfl, bt_one (k := decide (0 < jmp r)) (fun s0 H0 C0 cl fp => xt_cmpI (M := p :: M) op_gt (xd_call Lp GJ hr FJ.g FJ.F.kp FJ.b (xa_cons (xd_name 1 rfl hv) xa_nil) ⟨r, rfl, rfl⟩) xd_int) fun H2 s2 => ⟨s2, ?_⟩⟩
    by_cases hj : 0 < jmp r
    · refine .inl ⟨decide_eq_true hj, tornD r, if_pos hj, fun s0 H0 C0 cl fp => ?_⟩
      exact XD.go (xd_call (Lp.mono s2) GT hr FT.g FT.F.kp FT.b (xa_cons (xd_name 1 rfl (hv.up (hid_mono s2))) xa_nil) ⟨r, rfl, rfl⟩) fun v H2 s2 hv2 => ⟨s2, hv2⟩
    · exact .inr ⟨decide_eq_false hj, if_neg hj⟩
theorem scFolds : FnScope ["self", "row"] ["self"] (defScope sFolds) := ⟨rfl, rfl, rfl, by decide +kernel, rfl, by decide +kernel, by decide +kernel⟩
theorem ok_folds {f fJ fT : Addr} {fd fdJ fdT : FuncData} (T : Nm mg) (Z : ZT K mg C) (FJ : Df K mg "jump_of" sJump ["row"] fJ fdJ) (FT : Df K mg "torn_readings" sTorn ["row"] fT fdT) (F : Fun K "folds" "Zone.folds" sFolds f fd) : FnOk P w K mg base CX0 2 f fd ["self"] (spML K C fun _ rs => foldsOf rs) := by
  have GJ : FnOk P w K mg base CX0 1 fJ fdJ ["row"] (spR K RJump) := ok_jump FJ
  have GT : FnOk P w K mg base CX0 1 fT fdT ["row"] (spR K RTorn) := ok_torn T FT
  refine F.ok scFolds (fun vs H Q E h => ?_) (fun cdv A outer s H vs Q E hr h => ?_)
  · obtain ⟨M, a, off, rs, rfl, _⟩ := h; rfl
  · obtain ⟨M, a, off, rs, rfl, L, hz, hlen, q⟩ := h
    refine rb_retR (XL.go (M := M) ((xl_comp (own := [("row", 1)]) (fun d => match d with | .tuple [.int x, .int y, .int z] => if z - y < 0 then some (tornD (x, y, z)) else none | _ => none) L scFolds.nd (xd_rows ⟨_, Z⟩ hz (xv_name 0 rfl))
      (blkOk_by (own := [("row", 1)]) (N := ["self", "row"]) (sc := defScope sFolds) (by decide +kernel)) (by rw [List.length_map]; omega) (fun p d v H1 hd hp s1 Lp hv => ?_)).to (fm_fm rowD _ (fun r => if jmp r < 0 then some (tornD r) else none) (fun _ => rfl) rs)) q)
    obtain ⟨r, _, rfl⟩ := mem_row hd
    intro s0 H0 C0 cl fp
    refine rg_name 1 ?_ scFolds.nd
    refine ⟨rfl, bt_one (k := decide (jmp r < 0)) (fun s0 H0 C0 cl fp => xt_cmpI (M := p :: M) op_lt (xd_call Lp GJ hr FJ.g FJ.F.kp FJ.b (xa_cons (xd_name 1 rfl hv) xa_nil) ⟨r, rfl, rfl⟩) xd_int) fun H2 s2 => ⟨s2, ?_⟩⟩
    by_cases hj : jmp r < 0
    · refine .inl ⟨decide_eq_true hj, tornD r, if_pos hj, fun s0 H0 C0 cl fp => ?_⟩
      exact XD.go (xd_call (Lp.mono s2) GT hr FT.g FT.F.kp FT.b (xa_cons (xd_name 1 rfl (hv.up (hid_mono s2))) xa_nil) ⟨r, rfl, rfl⟩) fun v H2 s2 hv2 => ⟨s2, hv2⟩
    · exact .inr ⟨decide_eq_false hj, if_neg hj⟩
/-! ### in -/
def inB (rs : List Row) : PyData → Bool
  | .int n => (rs.map (·.1)).any fun m => m == n
  | _ => false
def spCont (K : PySem.W.Frag) (C : Addr) : Sp := fun vs H Q _ => ∃ (M : List Addr) (a : Addr) (off : Int) (rs : List Row) (v : V) (d : PyData), vs = [.ref a, v] ∧ Live M H ∧ ZAt K C (hid M H) a off rs ∧ rs.length ≤ 1000 ∧ Dq K (hid M H) v d ∧
  ∀ H1, Same H H1 → Q (.bl (inB rs d)) H1
theorem scCont : FnScope ["self", "x", "row"] ["self", "x"] (defScope sCont) := ⟨rfl, rfl, rfl, by decide +kernel, rfl, by decide +kernel, by decide +kernel⟩
theorem ok_cont {f fW : Addr} {fd fdW : FuncData} (T : Nm mg) (Z : ZT K mg C) (FW : Df K mg "is_whole" sWhole ["value"] fW fdW) (F : Fun K "__contains__" "Zone.__contains__" sCont f fd) : FnOk P w K mg base CX0 2 f fd ["self", "x"] (spCont K C) := by
  have GW : FnOk P w K mg base CX0 1 fW fdW ["value"] (spR K RWhole) := ok_whole T FW
  refine F.ok scCont (fun vs H Q E h => ?_) (fun cdv A outer s H vs Q E hr h => ?_)
  · obtain ⟨M, a, off, rs, v, d, rfl, _⟩ := h; rfl
  · obtain ⟨M, a, off, rs, v, d, rfl, L, hz, hlen, hd, q⟩ := h
    by_cases hwh : whole d = true
    · obtain ⟨n, rfl⟩ : ∃ n, d = .int n := by
        cases d <;> first | exact ⟨_, rfl⟩ | exact absurd hwh Bool.false_ne_true
      refine rb_ret (M := M) (xd_andT (xd_call L GW hr FW.g FW.F.kp FW.b (xa_cons (xd_name 1 rfl hd) xa_nil) ⟨.int n, rfl, rfl⟩) (xd_one (xd_inI (ns := rs.map (·.1)) (xd_name 1 rfl hd) (((xl_comp (own := [("row", 2)]) (fun d => match d with | .tuple [x, _, _] => some x | _ => none) L scCont.nd (xd_rows ⟨_, Z⟩ hz (xv_name 0 rfl))
        (blkOk_by (own := [("row", 2)]) (N := ["self", "x", "row"]) (sc := defScope sCont) (by decide +kernel)) (by rw [List.length_map]; omega) (fun p d v H1 hd hp s1 Lp hv => ?_)).to ((fm_map rowD _ (fun r => .int r.1) (fun _ => rfl) rs).trans (by rw [List.map_map]; rfl))).dd L)))) fun v H1 s1 hv => by
        rw [dp_bl hv]
        exact q H1 s1
      obtain ⟨r, _, rfl⟩ := mem_row hd
      intro s0 H0 C0 cl fp
      refine rg_name 2 ?_ scCont.nd
      refine ⟨rfl, bt_nil ⟨Same.refl _, .inl ⟨rfl, _, rfl, fun s0 H0 C0 cl fp => ?_⟩⟩⟩
      exact XD.go (xd_ixT (fun _ _ => rfl) (xd_name 2 rfl hv) xd_int rfl) fun v H2 s2 hv2 => ⟨s2, hv2⟩
    · have e : whole d = false := by cases h : whole d <;> simp_all
      refine rb_ret (M := M) (xd_andF ((xd_call L GW hr FW.g FW.F.kp FW.b (xa_cons (xd_name 1 rfl hd) xa_nil) ⟨d, rfl, rfl⟩).to (by rw [e]))) fun v H1 s1 hv => ?_
      rw [dp_bl hv]
      have e2 : inB rs d = false := by cases d <;> first | rfl | exact absurd rfl hwh
      rw [← e2]
      exact q H1 s1
end
end Zn

set_option Elab.async false
set_option linter.all false
set_option maxRecDepth 100000
set_option maxHeartbeats 4000000
namespace Zn
open PySem PySem.Spec PyProof.Rows L2 Dl
/-! ### == -/
/-- what the written part says of isinstance(.., Zone) -/
structure ZI (K : PySem.W.Frag) (C : Addr) : Prop where
  ha : PySem.W.findIn K (.ref C) "__class__" = some (some (.builtin "object.__class__"))
  hn : PySem.W.specialIn K (.builtin "object.__class__") "__get__" = some (some (.builtin "getset_descriptor.__get__"))
  htk : PySem.W.takesIn K (.builtin "object.__class__") = some true
  hm : PySem.W.mroIn K C (.type "object") = some true
  yes : PySem.W.kitOne K (.ref C) (.ref C) = some true
  no : PySem.W.kitOne K (.type "list") (.ref C) = some false
def spEqZ (K : PySem.W.Frag) (C : Addr) : Sp := fun vs H Q _ => ∃ (M : List Addr) (a b : Addr) (off : Int) (rs : List Row), vs = [.ref a, .ref b] ∧ Live M H ∧ ZAt K C (hid M H) a off rs ∧
  ((∃ off' rs', ZAt K C (hid M H) b off' rs' ∧ ∀ H1, Same H H1 → Q (.bl (decide (off = off' ∧ rs = rs'))) H1) ∨ (∃ xs, H b = some (.lst xs) ∧ ∀ H1, Same H H1 → Q (.bl false) H1))
section
variable {P : Program} {w : World} {K : PySem.W.Frag} {mg : Str → Option Value} {base : Heap} {C : Addr}
/-- isinstance(o, Zone) -/
theorem xd_isZ {X : Cx} {M : List Addr} {σ : L2.St} {H : Hp} {o : Expr} {pos p1 p2 : Pos} {t : Value} {r : Bool} {v : V} (hm : X.mg "isinstance" = none) (hC : X.mg "Zone" = some (.ref C)) (ho : XV X σ H o v) (hty : TyX X.K H v t) (hup : ∀ H1, Same H H1 → TyX X.K H1 v t) (hk : PySem.W.kitOne X.K t (.ref C) = some r) (hg : Gl X "isinstance" := by rfl) (hgZ : Gl X "Zone" := by rfl)
    (he : starEach [o, .Name "Zone" p2] X.env = (false, eval o X.env) :: starEach [.Name "Zone" p2] X.env := by rfl) (he2 : starEach [.Name "Zone" p2] X.env = (false, eval (.Name "Zone" p2) X.env) :: starEach [] X.env := by rfl) (hpl : (backTo pos (starEach [.Name "Zone" p2] X.env)).any (·.1) = false := by rfl) :
    XD X M σ H (.Call (.Name "isinstance" p1) [o, .Name "Zone" p2] [] pos) (.bool r) := fun H1 s Q q =>
  re_B call_isi (ra_cons (ho H1 s _ fun H2 s2 => ra_1 (xv_glob (v := .ref C) hC rfl hgZ (by decide) H2 (Same.refl _) _ fun H3 s3 => ⟨v, .ref C, t, .ref C, r, rfl, .own C, hup H3 ((s.trans s2).trans s3), hk, q _ H3 (s2.trans s3) (.bl _)⟩) he2) he) hm (by decide +kernel) hg (by decide) (by decide) he hpl
theorem scEq : FnScope ["self", "other"] ["self", "other"] (defScope sEq) := ⟨rfl, rfl, rfl, by decide +kernel, rfl, by decide +kernel, by decide +kernel⟩
theorem ok_eq {f : Addr} {fd : FuncData} (T : Nm mg) (Z : ZT K mg C) (I : ZI K C) (F : Fun K "__eq__" "Zone.__eq__" sEq f fd) : FnOk P w K mg base CX0 1 f fd ["self", "other"] (spEqZ K C) := by
  refine F.ok scEq (fun vs H Q E h => ?_) (fun cdv A outer s H vs Q E hr h => ?_)
  · obtain ⟨M, a, b, off, rs, rfl, _⟩ := h; rfl
  · obtain ⟨M, a, b, off, rs, rfl, L, hz, h⟩ := h
    rcases h with ⟨off', rs', hz', q⟩ | ⟨xs, hb, q⟩
    · have hty : ∀ H1, Same H H1 → TyX K H1 (.ref b) (.ref C) := fun H1 s1 => by
        obtain ⟨dx, r, e1, _⟩ := hz'
        exact .base (.ins (s1 _ _ (hid_le _ _ e1)) Z.cl I.ha I.hn I.htk I.hm)
      have e : (decide (off = off') && decide (rs = rs')) = decide (off = off' ∧ rs = rs') := by rw [Bool.decide_and]
      refine rb_ret (M := M) (xd_andT (xd_isZ T.isi Z.mgC (xv_name 1 rfl) (hty H (Same.refl H)) hty I.yes) (xd_and2 (xd_eqI (xv_base ⟨_, Z⟩ hz (xv_name 0 rfl)).int (xv_base ⟨_, Z⟩ hz' (xv_name 1 rfl)).int) fun _ =>
        ((xd_eqD hr.units (xd_rows ⟨_, Z⟩ hz (xv_name 0 rfl)) (xd_rows ⟨_, Z⟩ hz' (xv_name 1 rfl)) (shaped_rows rs) (shaped_rows rs')).to (by rw [show PyData.eqv (.list (rs.map rowD)) (.list (rs'.map rowD)) = PyData.eqvAll (rs.map rowD) (rs'.map rowD) by simp [PyData.eqv], eqv_rows])))) fun v H1 s1 hv => ?_
      rw [dp_bl hv, e]
      exact q H1 s1
    · have hty : ∀ H1, Same H H1 → TyX K H1 (.ref b) (.type "list") := fun H1 s1 => .base (.lst (s1 _ _ hb))
      refine rb_ret (M := M) (xd_andF (xd_isZ T.isi Z.mgC (xv_name 1 rfl) (hty H (Same.refl H)) hty I.no)) fun v H1 s1 hv => ?_
      rw [dp_bl hv]
      exact q H1 s1
/-! ### Zone(..) -/
/-- a zone just made: neither it nor its list of rows was there before -/
def ZNew (K : PySem.W.Frag) (C : Addr) (H0 : Hp) (M : List Addr) (H1 : Hp) (y : Addr) (off : Int) (rs : List Row) : Prop := H0 y = none ∧ ∃ dx r, H0 r = none ∧ hid M H1 y = some (.ins C dx (zf off r)) ∧ Dq K (hid M H1) (.ref r) (.list (rs.map rowD))
theorem ZNew.at {K : PySem.W.Frag} {C : Addr} {H0 : Hp} {M : List Addr} {H1 : Hp} {y : Addr} {off : Int} {rs : List Row} (h : ZNew K C H0 M H1 y off rs) : ZAt K C (hid M H1) y off rs := by
  obtain ⟨_, dx, r, _, h1, h2⟩ := h
  exact ⟨dx, r, h1, h2⟩
def spInit (K : PySem.W.Frag) (C : Addr) : Sp := fun vs H Q _ => ∃ (M : List Addr) (H0 : Hp) (y dx : Addr) (off : Int) (vq : V) (sq : PyData) (items : List PyData) (cs : List (Int × Int)), vs = [.ref y, .int off, vq] ∧ H = upd (upd H0 dx (.own y)) y (.ins C dx []) ∧ H0 y = none ∧ H0 dx = none ∧ dx ≠ y ∧ Live M H0 ∧
  Dq K (hid M H0) vq sq ∧ (sq = .list items ∨ sq = .tuple items) ∧ Items items cs ∧ okR (rowsOf off cs) ∧ cs.length ≤ 1000 ∧ ∀ H1, Same H0 H1 → ZNew K C H0 M H1 y off (rowsOf off cs) → Q .non H1
theorem scInit : FnScope ["self", "offset", "changes"] ["self", "offset", "changes"] (defScope sInit) := ⟨rfl, rfl, rfl, by decide +kernel, rfl, by decide +kernel, by decide +kernel⟩
theorem ok_init {f fN fR fW fP fJ fI fF : Addr} {fd fdN fdR fdW fdP fdJ fdI fdF : FuncData} (T : Nm mg) (Z : ZT K mg C) (hG : ∃ t, mg "GREATEST_JUMP" = some (.int 720 t)) (FW : Df K mg "is_whole" sWhole ["value"] fW fdW) (FP : Df K mg "is_whole_pair" sPair ["value"] fP fdP)
    (FJ : Df K mg "jump_of" sJump ["row"] fJ fdJ) (FI : Df K mg "is_jump" sIsJump ["value"] fI fdI) (FF : Df K mg "can_follow" sFollow ["rows", "row"] fF fdF) (FR : Df K mg "rows_of" sRows ["offset", "changes"] fR fdR) (FN : Df K mg "need_integer" sNeed ["value"] fN fdN)
    {kV dc pm cd ct oc dV : Value} {od an : Option Addr} {osl : Array (Option Value)} (lk : K.lookup f = some ⟨oc, od, .func (PySem.W.fnOf "__init__" "Zone.__init__" (defArgs sInit) (defBody sInit) (defScope sInit) dV kV dc pm an cd ct), osl⟩) (hcd : PySem.W.codeIn K cd "Zone.__init__" = true) :
    FnOk P w K mg base CX0 4 f (PySem.W.fnOf "__init__" "Zone.__init__" (defArgs sInit) (defBody sInit) (defScope sInit) dV kV dc pm an cd ct) ["self", "offset", "changes"] (spInit K C) := by
  have GN : FnOk P w K mg base CX0 3 fN fdN ["value"] (spR K RNeed) := (ok_need T FW FN).mono (by decide)
  have GR : FnOk P w K mg base CX0 3 fR fdR ["offset", "changes"] (spL K RRows) := ok_rows T hG FW FP FJ FI FF FR
  refine fn_of lk hcd scInit (fun vs H Q E h => ?_) (fun A outer s H vs Q E hr h => ?_)
  · obtain ⟨M, H0, y, dx, off, vq, sq, items, cs, rfl, _⟩ := h; rfl
  · obtain ⟨M, H0, y, dx, off, vq, sq, items, cs, rfl, rfl, hy, hdx, hne, L, hq, hsq, hit, hok, hlen, q⟩ := h
    suffices h : RB (cxOf CX0 P w K mg base ["self", "offset", "changes"] "Zone.__init__" (defScope sInit) f cd A outer s (upd (upd H0 dx (.own y)) y (.ins C dx [])) E).nox (defBody sInit) { nx := fun _ H' => Q .non H', rt := Q } (start ["self", "offset", "changes"] [V.ref y, V.int off, vq]) (upd (upd H0 dx (.own y)) y (.ins C dx [])) by
      obtain ⟨t, h1, h2⟩ := h
      exact ⟨t, h1.nox, h2⟩
    have hy1 : upd H0 dx (.own y) y = none := by rw [upd_ne (Ne.symm hne)]; exact hy
    have s0 : Same H0 (upd (upd H0 dx (.own y)) y (.ins C dx [])) := (same_new hdx).trans (same_new hy1)
    have eh : hid (y :: M) (upd (upd H0 dx (.own y)) y (.ins C dx [])) = hid M (upd H0 dx (.own y)) := hid_cons hy1
    have Ly : Live (y :: M) (upd (upd H0 dx (.own y)) y (.ins C dx [])) := (L.mono (same_new hdx)).cons hy1
    have hq1 : Dq K (hid (y :: M) (upd (upd H0 dx (.own y)) y (.ins C dx []))) vq sq := by rw [eh]; exact hq.up (hid_mono (same_new hdx))
    generalize hH : upd (upd H0 dx (.own y)) y (.ins C dx []) = H at s0 Ly hq1
    have hyH : H y = some (.ins C dx []) := by rw [← hH]; exact upd_same
    -- need_integer(offset)
    refine rb_expr (M := y :: M) (d := .none) (xd_call Ly GN hr FN.g FN.F.kp FN.b (xa_cons (xd_name 1 rfl (.int off)) xa_nil) ⟨off, rfl, rfl⟩) fun H1 s1 => ?_
    have hq2 := hq1.up (hid_mono (M := y :: M) s1)
    have Ly1 := Ly.mono s1
    -- isinstance(changes, (list, tuple))
    have ist : ∀ {p1 p2 p3 p4 p5 p6 : Pos} {k3}, XD (cxOf CX0 P w K mg base ["self", "offset", "changes"] "Zone.__init__" (defScope sInit) f cd A outer s H E).nox (y :: M) (start ["self", "offset", "changes"] [V.ref y, V.int off, vq]) H1 (.Call (.Name "isinstance" p1) [.Name "changes" p2, .Tuple [.Name "list" p3, .Name "tuple" p4] k3 p5] [] p6) (.bool true) := fun {p1 p2 p3 p4 p5 p6 k3} => by
      rcases hsq with rfl | rfl
      · exact (xd_is2 (d := .list items) (r1 := true) (r2 := false) (T1 := "list") (T2 := "tuple") k_ll k_lt T.isi T.lst (by decide +kernel) T.tup (by decide +kernel) (xd_name 2 rfl hq2)).to rfl
      · exact (xd_is2 (d := .tuple items) (r1 := false) (r2 := true) (T1 := "list") (T2 := "tuple") k_tl k_tt T.isi T.lst (by decide +kernel) T.tup (by decide +kernel) (xd_name 2 rfl hq2)).to rfl
    refine rb_ifF ((xt_not (xt_val (M := y :: M) ist)).to rfl) fun H2 s2 => ?_
    -- self.base = offset
    refine rb_fld (pa := y) (dx := dx) (fs := []) (XV.go (xv_name 1 rfl) fun H3 s3 => ⟨s3 _ _ (s2 _ _ (s1 _ _ hyH)), (by decide), xv_name 0 rfl, fun H4 s4 => ?_⟩) Z.cl Z.nB
    have s24 := (s2.trans s3).trans s4
    have hq5 : Dq K (hid (y :: M) (upd H4 y (.ins C dx (putF "base" (.int off) [])))) vq sq := by rw [hid_cons_upd]; exact hq2.up (hid_mono s24)
    have L5 : Live (y :: M) (upd H4 y (.ins C dx (putF "base" (.int off) []))) := (Ly1.mono s24).upd
    have s05 : Same H0 (upd H4 y (.ins C dx (putF "base" (.int off) []))) := same_upd ((s0.trans s1).trans s24) hy
    have h5y : upd H4 y (.ins C dx (putF "base" (.int off) [])) y = some (.ins C dx [("base", .int off)]) := upd_same
    generalize upd H4 y (.ins C dx (putF "base" (.int off) [])) = H5 at hq5 L5 s05 h5y
    -- self.rows = rows_of(offset, changes)
    refine rb_fld (pa := y) (dx := dx) (fs := [("base", .int off)]) (XL.go (M := y :: M) (xl_call L5 GR hr FR.g FR.F.kp FR.b (xa_cons (xd_name 1 rfl (.int off)) (xa_cons (xd_name 2 rfl hq5) xa_nil)) ⟨off, sq, items, cs, rfl, hsq, hit, hok, hlen, rfl⟩) fun p xs H6 s6 hp6 h6 hx6 =>
      ⟨s6 _ _ h5y, (by show 1 < 1000; decide), xv_name 0 rfl, fun H7 s7 => rb_nil (q _ (same_upd ((s05.trans s6).trans s7) hy) ?_)⟩) Z.cl Z.nR
    rw [zf_put]
    have npy : p ≠ y := fun z => by rw [z, h5y] at hp6; cases hp6
    have npM : p ∉ M := fun z => (Live.tail L5) p z hp6
    refine ⟨hy, dx, p, s05.free hp6, by rw [hid_of (L.fresh hy)]; exact upd_same, .lst (xs := xs) ?_ (hx6.up ?_)⟩
    · rw [hid_of npM, upd_ne npy]
      exact s7 _ _ h6
    · have z := (hid_mono (M := y :: M) s7)
      have z2 : Same (hid (y :: M) (upd H7 y (.ins C dx (zf off p)))) (hid M (upd H7 y (.ins C dx (zf off p)))) := hid_weak
      rw [hid_cons_upd] at z2
      exact z.trans z2
/-! ### a zone is made -/
/-- the expression makes a new zone -/
def XZ (C : Addr) (X : Cx) (M : List Addr) (σ : L2.St) (H : Hp) (e : Expr) (off : Int) (rs : List Row) : Prop := ∀ H1, Same H H1 → ∀ Q : VK, (∀ y H2, Same H1 H2 → ZAt X.K C (hid M H2) y off rs → Q (.ref y) H2) → RE X e σ H1 Q
theorem XZ.go {X : Cx} {M : List Addr} {σ : L2.St} {H : Hp} {e : Expr} {off : Int} {rs : List Row} {Q : VK} (h : XZ C X M σ H e off rs) (k : ∀ y H2, Same H H2 → ZAt X.K C (hid M H2) y off rs → Q (.ref y) H2) : RE X e σ H Q := h H (Same.refl H) Q k
/-- all that making a zone wants -/
structure ZMk (P : Program) (w : World) (K : PySem.W.Frag) (mg : Str → Option Value) (base : Heap) (C f : Addr) (fd : FuncData) (et : Addr) : Prop where
  Z : ZT K mg C
  mkk : Mk K C f
  G : FnOk P w K mg base CX0 4 f fd ["self", "offset", "changes"] (spInit K C)
  b2 : Binds K fd ["self", "offset", "changes"] []
  b1 : Binds K fd ["self", "offset", "changes"] [.ref et]
  et : SqT K (fun _ => none) et []
theorem xzn_make {X : Cx} {M : List Addr} {σ : L2.St} {H : Hp} {a b : Expr} {pos p1 : Pos} {off : Int} {sq : PyData} {items : List PyData} {cs : List (Int × Int)} {f et : Addr} {fd : FuncData} (L : Live M H) (W : ZMk X.prog X.w X.K X.mg X.base C f fd et) (hr : Room 5 X.A)
    (ha : XD X M σ H a (.int off)) (hb : XD X M σ H b sq) (hsq : sq = .list items ∨ sq = .tuple items) (hit : Items items cs) (hok : okR (rowsOf off cs)) (hlen : cs.length ≤ 1000) (hg : Gl X "Zone" := by rfl)
    (he : starEach [a, b] X.env = (false, eval a X.env) :: starEach [b] X.env := by rfl) (he2 : starEach [b] X.env = (false, eval b X.env) :: starEach [] X.env := by rfl) (hpl : (backTo pos (starEach [b] X.env)).any (·.1) = false := by rfl) : ∀ H1, Same H H1 → ∀ Q : VK, (∀ y H0 H2, Same H1 H0 → Same H0 H2 → ZNew X.K C H0 M H2 y off (rowsOf off cs) → Q (.ref y) H2) → RE X (.Call (.Name "Zone" p1) [a, b] [] pos) σ H1 Q := fun H1 s Q q =>
  re_make W.mkk W.G hr W.Z.mgC W.b2 .nil (ra_cons (ha H1 s _ fun v H2 s2 hv => ra_1 (hb H2 (s.trans s2) _ fun u H3 s3 hu y dx hy hdx hne => by
    rw [dp_int hv]
    refine ⟨M, H3, y, dx, off, u, sq, items, cs, rfl, rfl, hy, hdx, hne, L.mono ((s.trans s2).trans s3), hu, hsq, hit, hok, hlen, fun H4 s4 hz => ⟨rfl, q y H3 H4 (s2.trans s3) s4 hz⟩⟩) he2) he) hg (by decide) he hpl
theorem xz_make {X : Cx} {M : List Addr} {σ : L2.St} {H : Hp} {a b : Expr} {pos p1 : Pos} {off : Int} {sq : PyData} {items : List PyData} {cs : List (Int × Int)} {f et : Addr} {fd : FuncData} (L : Live M H) (W : ZMk X.prog X.w X.K X.mg X.base C f fd et) (hr : Room 5 X.A)
    (ha : XD X M σ H a (.int off)) (hb : XD X M σ H b sq) (hsq : sq = .list items ∨ sq = .tuple items) (hit : Items items cs) (hok : okR (rowsOf off cs)) (hlen : cs.length ≤ 1000) (hg : Gl X "Zone" := by rfl)
    (he : starEach [a, b] X.env = (false, eval a X.env) :: starEach [b] X.env := by rfl) (he2 : starEach [b] X.env = (false, eval b X.env) :: starEach [] X.env := by rfl) (hpl : (backTo pos (starEach [b] X.env)).any (·.1) = false := by rfl) : XZ C X M σ H (.Call (.Name "Zone" p1) [a, b] [] pos) off (rowsOf off cs) := fun H1 s Q q =>
  xzn_make L W hr ha hb hsq hit hok hlen hg he he2 hpl H1 s Q fun y H0 H2 s1 s2 hz => q y H2 (s1.trans s2) hz.at
theorem xz_make1 {X : Cx} {M : List Addr} {σ : L2.St} {H : Hp} {a : Expr} {pos p1 : Pos} {off : Int} {f et : Addr} {fd : FuncData} (L : Live M H) (W : ZMk X.prog X.w X.K X.mg X.base C f fd et) (hr : Room 5 X.A)
    (ha : XD X M σ H a (.int off)) (hg : Gl X "Zone" := by rfl) (he : starEach [a] X.env = (false, eval a X.env) :: starEach [] X.env := by rfl) (hpl : (backTo pos (starEach [] X.env)).any (·.1) = false := by rfl) : XZ C X M σ H (.Call (.Name "Zone" p1) [a] [] pos) off [] := fun H1 s Q q =>
  re_make (dvs := [.ref et]) W.mkk W.G hr W.Z.mgC W.b1 (.cons rfl .nil) (ra_1 (ha H1 s _ fun v H2 s2 hv y dx hy hdx hne => by
    rw [dp_int hv]
    refine ⟨M, H2, y, dx, off, .ref et, .tuple [], [], [], rfl, rfl, hy, hdx, hne, L.mono (s.trans s2), .tup (same_seqT (fun _ _ z => by cases z) W.et) .nil, .inr rfl, ⟨rfl, fun i it z => by simp at z⟩, fun k r z => by simp [rowsOf] at z, Nat.zero_le _, fun H4 s4 hz => ⟨rfl, q y H4 (s2.trans s4) hz.at⟩⟩) he) hg (by decide) he hpl
end
end Zn

set_option Elab.async false
set_option linter.all false
set_option maxRecDepth 100000
set_option maxHeartbeats 4000000
namespace Zn
open PySem PySem.Spec PyProof.Rows L2 Dl
section
variable {X : Cx} {M : List Addr} {σ : L2.St} {H H' : Hp} {e a b o ie : Expr} {d : PyData} {ds : List PyData} {pos p1 p2 p3 : Pos} {D : Ends} {rest : List Stmt} {v : V} {xs : List V}
/-! ### lists by the values themselves -/
theorem xv_lenS {p : Addr} (hm : X.mg "len" = none) (ha : XV X σ H e (.ref p)) (hS : SqL X.K H p xs) (hg : Gl X "len" := by rfl) (he : starEach [e] X.env = (false, eval e X.env) :: starEach [] X.env := by rfl) (hpl : (backTo pos (starEach [] X.env)).any (·.1) = false := by rfl) :
    XV X σ H (.Call (.Name "len" p1) [e] [] pos) (.int xs.length) := fun H1 s Q q =>
  re_B call_len_seq (ra_1 (ha H1 s _ fun H2 s2 => ⟨p, xs, rfl, .inl ((s.trans s2).seq hS), q H2 s2⟩) he) hm PySem.boot_len hg (by decide) (by decide) he hpl
theorem xv_ixS {p : Addr} {n : Int} (hs : PlainIx b) (ha : XV X σ H a (.ref p)) (hS : SqL X.K H p xs) (hb : XV X σ H b (.int n)) (h : atI xs n = some v) : XV X σ H (.Subscript a b pos) v := fun H1 s Q q =>
  ⟨_, pe_ix ix_list re_ re_ hs, ha H1 s _ fun H2 s2 => hb H2 (s.trans s2) _ fun H3 s3 => ⟨p, xs, n, v, rfl, rfl, ((s.trans s2).trans s3).seq hS, h, q H3 (s2.trans s3)⟩⟩
/-- o[i] = e -/
theorem rb_setIx {l : Addr} {n : Int} {j : Nat} (hl : H l = some (.lst xs)) (he : XD X M σ H e d) (ho : XV X σ H o (.ref l)) (hi : XV X σ H ie (.int n)) (hj : ixN xs.length n = some j) (k : ∀ v H1, Same H H1 → Dq X.K (hid M H1) v d → RB X rest D σ (upd H1 l (.lst (xs.set j v))))
    (hs : swapsWithSole [.Subscript o ie p1] e pos.line X.env = pure false := by rfl) (hw : swappedStores [.Subscript o ie p1] e X.env = pure none := by rfl) (h1 : (assignEach [.Subscript o ie p1] X.env).map (·.2) = [assign (.Subscript o ie p1) X.env] := by rfl)
    (hg : PG X (.Subscript o ie p1) (gSub (RE X o) (RE X ie) rSetL) := by exact pg_sub re_ re_ set_list) : RB X (.Assign [.Subscript o ie p1] e pos :: rest) D σ H :=
  rb_asgR (he.go fun v H1 s1 hv => ⟨_, hg, ho H1 s1 _ fun H2 s2 => hi H2 (s1.trans s2) _ fun H3 s3 => ⟨l, xs, n, j, rfl, rfl, ((s1.trans s2).trans s3) _ _ hl, hj, k v H3 ((s1.trans s2).trans s3) (hv.up (hid_mono (s2.trans s3)))⟩⟩) hs hw h1
theorem xd_pow {m n : Int} (ha : XD X M σ H a (.int m)) (hb : XD X M σ H b (.int n)) (hc : CPow m n) : XD X M σ H (.BinOp a .Pow b pos) (.int (m ^ n.toNat)) := xd_binI op_pow ha hb hc
theorem xd_mod {m n : Int} (ha : XD X M σ H a (.int m)) (hb : XD X M σ H b (.int n)) (hc : 0 < n) : XD X M σ H (.BinOp a .Mod b pos) (.int (m % n)) := xd_binI op_mod ha hb hc
theorem xd_div {m n : Int} (ha : XD X M σ H a (.int m)) (hb : XD X M σ H b (.int n)) (hc : CDivW m n) : XD X M σ H (.BinOp a .FloorDiv b pos) (.int (m / n)) := xd_binI op_fdivW ha hb hc
end
abbrev sCell : Stmt := top 23
abbrev sBag : Stmt := top 24
abbrev sTake : Stmt := top 25
/-- the bag: a great rest, a seed, a count up to n -/
def BagAt (H : Hp) (b : Addr) (n : Nat) : Prop := ∃ (g m c : Int), H b = some (.lst [.int g, .int m, .int c]) ∧ 0 ≤ m ∧ m < 2147483648 ∧ 0 ≤ c ∧ c ≤ n
theorem BagAt.up {H H' : Hp} {b : Addr} {n n' : Nat} (h : BagAt H b n) (s : Same H H') (hn : n ≤ n') : BagAt H' b n' := by
  obtain ⟨g, m, c, h1, h2, h3, h4, h5⟩ := h
  exact ⟨g, m, c, s _ _ h1, h2, h3, h4, by omega⟩
/-- all but b stands -/
def SameB (b : Addr) (H H' : Hp) : Prop := ∀ a o, a ≠ b → H a = some o → H' a = some o
theorem SameB.of {b : Addr} {H H' : Hp} (s : Same H H') : SameB b H H' := fun a o _ e => s a o e
theorem SameB.trans {b : Addr} {H H1 H2 : Hp} (s : SameB b H H1) (t : SameB b H1 H2) : SameB b H H2 := fun a o n e => t a o n (s a o n e)
theorem SameB.upd {b : Addr} {H H' : Hp} {o : HO} (s : SameB b H H') : SameB b H (upd H' b o) := fun a u n e => by rw [upd_ne n]; exact s a u n e
theorem SameB.hid {b : Addr} {M : List Addr} {H H' : Hp} (s : SameB b H H') (h : b ∈ M) : Same (hid M H) (hid M H') := fun a o e => by
  have n : a ∉ M := fun z => by unfold Dl.hid at e; rw [if_pos z] at e; cases e
  have nb : a ≠ b := fun z => n (z ▸ h)
  rw [hid_of n]
  exact s a o nb (hid_le _ _ e)
theorem SameB.live {b : Addr} {M : List Addr} {H H' : Hp} (s : SameB b H H') (L : Live M H) (hb : H' b ≠ none) : Live M H' := fun a ha z => by
  by_cases e : a = b
  · subst e; exact hb z
  · cases q : H a with
    | none => exact L a ha q
    | some o => rw [s a o e q] at z; cases z
theorem BagAt.some {H : Hp} {b : Addr} {n : Nat} (h : BagAt H b n) : H b ≠ none := by
  obtain ⟨g, m, c, h1, _⟩ := h
  rw [h1]; simp
def spCell (K : PySem.W.Frag) : Sp := fun vs H Q _ => ∃ (a : Addr) (ns : List Int) (j : Nat), vs = [.ref a, .int j] ∧ SqL K H a (ns.map V.int) ∧ ∀ (n : Int) H1, Same H H1 → Q (.int n) H1
def spBag : Sp := fun vs H Q _ => ∃ (n : Int), vs = [.int n] ∧ ∀ b H1, Same H H1 → H b = none → BagAt H1 b 0 → Q (.ref b) H1
def spTake : Sp := fun vs H Q _ => ∃ (b : Addr) (many : Int) (n : Nat), vs = [.ref b, .int many] ∧ 0 < many ∧ many.natAbs < 2 ^ 200 ∧ n ≤ 1000000 ∧ BagAt H b n ∧
  ∀ (r : Int) H1, 0 ≤ r → r < many → SameB b H H1 → BagAt H1 b (n + 1) → Q (.int r) H1
section
variable {P : Program} {w : World} {K : PySem.W.Frag} {mg : Str → Option Value} {base : Heap}
theorem scCell : FnScope ["_law_script", "_law_index"] ["_law_script", "_law_index"] (defScope sCell) := ⟨rfl, rfl, rfl, by decide +kernel, rfl, by decide +kernel, by decide +kernel⟩
theorem ok_cell {f : Addr} {fd : FuncData} (T : Nm mg) (F : Df K mg "_law_cell" sCell ["_law_script", "_law_index"] f fd) : FnOk P w K mg base CX0 1 f fd ["_law_script", "_law_index"] (spCell K) := by
  refine F.F.ok scCell (fun vs H Q E h => ?_) (fun cdv A outer s H vs Q E hr h => ?_)
  · obtain ⟨a, ns, j, rfl, _⟩ := h; rfl
  · obtain ⟨a, ns, j, rfl, hS, q⟩ := h
    refine rb_if (xt_cmpI (M := []) op_lt (xv_name 1 rfl).int (xv_lenS T.len (xv_name 0 rfl) hS).int) (fun e H1 s1 => ?_) (fun e H1 s1 => rb_nil ?_)
    · have hj : j < ns.length := by
        have z := of_decide_eq_true e
        rw [List.length_map] at z
        omega
      have ha : atI (ns.map V.int) ((j : Nat) : Int) = some (V.int ns[j]) := atI_nat (by rw [List.getElem?_map, List.getElem?_eq_getElem hj]; rfl)
      exact rb_retR (XV.go (xv_ixS (fun _ _ => rfl) (xv_name 0 rfl) (s1.seq hS) (xv_name 1 rfl) ha) fun H2 s2 => q _ H2 (s1.trans s2))
    · exact rb_ret (M := []) (xd_add (xd_mul xd_int (xv_name 1 rfl).int (.inl ⟨by decide, by decide⟩)) xd_int) fun v H2 s2 hv => by
        rw [dp_int hv]
        exact q _ H2 (s1.trans s2)
theorem scBag : FnScope ["_law_cell_here"] ["_law_cell_here"] (defScope sBag) := ⟨rfl, rfl, rfl, by decide +kernel, rfl, by decide +kernel, by decide +kernel⟩
theorem ok_bag {f : Addr} {fd : FuncData} (T : Nm mg) (F : Df K mg "_law_bag" sBag ["_law_cell_here"] f fd) : FnOk P w K mg base CX0 1 f fd ["_law_cell_here"] spBag := by
  refine F.F.ok scBag (fun vs H Q E h => ?_) (fun cdv A outer s H vs Q E hr h => ?_)
  · obtain ⟨n, rfl, _⟩ := h; rfl
  · obtain ⟨n, rfl, q⟩ := h
    refine rb_retR (XL.go (M := []) (xl_lst Live.nil (xa_cons (xd_max T.max (xa_cons xd_int (xa_cons (xd_sub (xv_name 0 rfl).int (xd_pow xd_int xd_int ⟨by decide, by decide, by decide⟩)) xa_nil))) (xa_cons (xd_mod (xv_name 0 rfl).int xd_int (by decide)) (xa_cons xd_int xa_nil)))) fun p xs H1 s1 hp h1 hx => ?_)
    cases hx with
    | cons a1 hx => cases hx with
      | cons a2 hx => cases hx with
        | cons a3 hx =>
          cases hx
          rw [dp_int a1, dp_int a2, dp_int a3] at h1
          exact q p H1 s1 hp ⟨_, _, _, h1, by omega, by omega, by decide, by decide⟩
theorem scTake : FnScope ["_law_bag_here", "_law_many", "_law_digit", "_law_mixed"] ["_law_bag_here", "_law_many"] (defScope sTake) := ⟨rfl, rfl, rfl, by decide +kernel, rfl, by decide +kernel, by decide +kernel⟩
theorem cdiv {m n : Int} (h : 0 < n) (h2 : n.natAbs < 2 ^ 200) : CDivW m n := wide_div h h2 (by decide) (by decide)
theorem ok_take {f : Addr} {fd : FuncData} (F : Df K mg "_law_take" sTake ["_law_bag_here", "_law_many"] f fd) : FnOk P w K mg base CX0 1 f fd ["_law_bag_here", "_law_many"] spTake := by
  refine F.F.ok scTake (fun vs H Q E h => ?_) (fun cdv A outer s H vs Q E hr h => ?_)
  · obtain ⟨b, many, n, rfl, _⟩ := h; rfl
  · obtain ⟨b, many, n, rfl, hm, hm2, hn, ⟨g, m, c, hb, m0, m1, c0, c1⟩, q⟩ := h
    have at0 : ∀ {x y z : V}, atI [x, y, z] 0 = some x := fun {x y z} => rfl
    have at1 : ∀ {x y z : V}, atI [x, y, z] 1 = some y := fun {x y z} => rfl
    have at2 : ∀ {x y z : V}, atI [x, y, z] 2 = some z := fun {x y z} => rfl
    refine rb_if (xt_cmpI (M := []) op_gt (xv_ixS (fun _ _ => rfl) (xv_name 0 rfl) (SqL.of hb) xv_int at0).int xd_int) (fun e H1 s1 => ?_) (fun e H1 s1 => rb_nil ?_)
    · have hb1 := s1 _ _ hb
      refine rb_set 2 (M := []) (xd_mod (xv_ixS (fun _ _ => rfl) (xv_name 0 rfl) (SqL.of hb1) xv_int at0).int (xv_name 1 rfl).int hm) (fun v H2 s2 hv => ?_) scTake.nd
      have ev := dp_int hv
      subst ev
      have hb2 := s2 _ _ hb1
      refine rb_setIx (M := []) (n := 0) (j := 0) hb2 (xd_div (xv_ixS (fun _ _ => rfl) (xv_name 0 rfl) (SqL.of hb2) xv_int at0).int (xv_name 1 rfl).int (cdiv hm hm2)) (xv_name 0 rfl) xv_int rfl fun v H3 s3 hv => ?_
      have ev := dp_int hv
      subst ev
      refine rb_retR (XV.go (xv_name 2 rfl) fun H4 s4 => q _ H4 (Int.emod_nonneg _ (by omega)) (Int.emod_lt_of_pos _ hm) ((((SameB.of s1).trans (.of s2)).trans (.of s3)).upd.trans (.of s4)) ⟨g / many, m, c, s4 _ _ upd_same, m0, m1, c0, by omega⟩)
    · have hb1 := s1 _ _ hb
      refine rb_setIx (M := []) (n := 2) (j := 2) hb1 (xd_add (xv_ixS (fun _ _ => rfl) (xv_name 0 rfl) (SqL.of hb1) xv_int at2).int xd_int) (xv_name 0 rfl) xv_int rfl fun v H2 s2 hv => ?_
      have ev := dp_int hv
      subst ev
      have hb3 : upd H2 b (.lst [V.int g, V.int m, V.int (c + 1)]) b = some (.lst [V.int g, V.int m, V.int (c + 1)]) := upd_same
      have sB : SameB b H (upd H2 b (.lst [V.int g, V.int m, V.int (c + 1)])) := ((SameB.of s1).trans (.of s2)).upd
      show RB _ _ _ _ (upd H2 b (.lst [V.int g, V.int m, V.int (c + 1)]))
      generalize upd H2 b (.lst [V.int g, V.int m, V.int (c + 1)]) = H3 at hb3 sB
      refine rb_set 3 (M := []) (xd_mod (xd_pow (xd_add (xd_add (xv_ixS (fun _ _ => rfl) (xv_name 0 rfl) (SqL.of hb3) xv_int at1).int (xd_mul xd_int (xv_ixS (fun _ _ => rfl) (xv_name 0 rfl) (SqL.of hb3) xv_int at2).int (.inl ⟨by decide, by decide⟩))) xd_int) xd_int ⟨by decide, by decide, by omega⟩) xd_int (by decide)) (fun v H4 s4 hv => ?_) scTake.nd
      have ev := dp_int hv
      subst ev
      generalize hx : ((m + 179424691 * (c + 1) + 563) ^ (5 : Int).toNat % 2147483647 : Int) = x1
      have x0 : 0 ≤ x1 := by rw [← hx]; exact Int.emod_nonneg _ (by decide)
      have x2 : x1 < 2147483647 := by rw [← hx]; exact Int.emod_lt_of_pos _ (by decide)
      have hb4 := s4 _ _ hb3
      refine rb_set 3 (M := []) (xd_mod (xd_pow (xd_add (xv_name 3 rfl).int (xd_mul xd_int (xv_ixS (fun _ _ => rfl) (xv_name 0 rfl) (SqL.of hb4) xv_int at2).int (.inl ⟨by decide, by decide⟩))) xd_int ⟨by decide, by decide, by omega⟩) xd_int (by decide)) (fun v H5 s5 hv => ?_) scTake.nd
      have ev := dp_int hv
      subst ev
      refine rb_ret (M := []) (xd_mod (xd_div (xv_name 3 rfl).int xd_int (cdiv (by decide) (by decide))) (xv_name 1 rfl).int hm) fun v H6 s6 hv => ?_
      rw [dp_int hv]
      exact q _ H6 (Int.emod_nonneg _ (by omega)) (Int.emod_lt_of_pos _ hm) (((sB.trans (.of s4)).trans (.of s5)).trans (.of s6)) ⟨g, m, c + 1, s6 _ _ (s5 _ _ hb4), m0, m1, by omega, by omega⟩
end
end Zn

set_option Elab.async false
set_option linter.all false
set_option maxRecDepth 100000
set_option maxHeartbeats 8000000
namespace Zn
open PySem PySem.Spec PyProof.Rows L2 Dl
/-! ### plans -/
abbrev Step := Int × Int
def stepD (s : Step) : PyData := .tuple [.int s.1, .int s.2]
def planD (f : Int) (st : List Step) : PyData := .tuple [.int f, .list (st.map stepD)]
def okJ (j : Int) : Prop := j ≠ 0 ∧ -720 ≤ j ∧ j ≤ 720
def gapJ (s t : Step) : Prop := ab s.2 + ab t.2 < t.1 - s.1
def okS (st : List Step) : Prop := (∀ s ∈ st, okJ s.2) ∧ ∀ (k : Nat) (s t : Step), st[k]? = some s → st[k + 1]? = some t → gapJ s t
def bigS (n : Int) (st : List Step) : Prop := ∀ s ∈ st, -n ≤ s.1 ∧ s.1 ≤ n
structure PlanOk (f : Int) (st : List Step) : Prop where
  len : st.length ≤ 19
  ok : okS st
  f0 : -850 ≤ f
  f1 : f ≤ 850
  big : bigS 2000000000000 st
theorem okS_nil : okS [] := ⟨fun _ h => by simp at h, fun k s t h => by simp at h⟩
theorem okS_one {t : Step} (h : okJ t.2) : okS [t] := ⟨fun s hs => by rw [List.mem_singleton.mp hs]; exact h, fun k s u h1 h2 => by simp at h2⟩
theorem okS_snoc {st : List Step} {l t : Step} (h : okS st) (hl : st.getLast? = some l) (hj : okJ t.2) (hg : gapJ l t) : okS (st ++ [t]) := by
  refine ⟨fun s hs => ?_, fun k s u h1 h2 => ?_⟩
  · rcases List.mem_append.mp hs with z | z
    · exact h.1 s z
    · rw [List.mem_singleton.mp z]; exact hj
  · have hk : k + 1 < (st ++ [t]).length := (List.getElem?_eq_some_iff.mp h2).1
    rw [List.length_append, List.length_singleton] at hk
    by_cases e : k + 1 < st.length
    · rw [List.getElem?_append_left (by omega)] at h1
      rw [List.getElem?_append_left e] at h2
      exact h.2 k s u h1 h2
    · have ek : k + 1 = st.length := by omega
      rw [List.getElem?_append_left (by omega)] at h1
      rw [List.getElem?_append_right (by omega), ek, Nat.sub_self] at h2
      cases h2
      have e2 : st.getLast? = st[k]? := by rw [List.getLast?_eq_getElem?, ← ek]; rfl
      rw [e2, h1] at hl
      cases hl
      exact hg
theorem bigS_snoc {n n' : Int} {st : List Step} {t : Step} (h : bigS n st) (hn : n ≤ n') (h0 : -n' ≤ t.1) (h1 : t.1 ≤ n') : bigS n' (st ++ [t]) := fun s hs => by
  rcases List.mem_append.mp hs with z | z
  · have := h s z; omega
  · rw [List.mem_singleton.mp z]; omega
section
variable {X : Cx} {M : List Addr} {σ : L2.St} {H H' : Hp} {e a b o ie : Expr} {es : List Expr} {d : PyData} {ds : List PyData} {pos p1 p2 p3 : Pos} {D : Ends} {rest : List Stmt} {v : V} {xs : List V} {Q : VK}
theorem re_bin {op : Operator} {r : R2} (ho : OpR X (binaryOp op) r) (h : RE X a σ H fun x H1 => RE X b σ H1 fun y H2 => r x y H2 Q) : RE X (.BinOp a op b pos) σ H Q := ⟨_, pe_op ho re_ re_, h⟩
theorem re_addI (h : RE X a σ H fun x H1 => ∃ i, x = .int i ∧ RE X b σ H1 fun y H2 => ∃ j, y = .int j ∧ Q (.int (i + j)) H2) : RE X (.BinOp a .Add b pos) σ H Q :=
  re_bin op_add (re_mono h fun x H1 ⟨i, ei, h1⟩ => re_mono h1 fun y H2 ⟨j, ej, q⟩ => ⟨i, j, ei, ej, q⟩)
theorem re_subI (h : RE X a σ H fun x H1 => ∃ i, x = .int i ∧ RE X b σ H1 fun y H2 => ∃ j, y = .int j ∧ Q (.int (i - j)) H2) : RE X (.BinOp a .Sub b pos) σ H Q :=
  re_bin op_sub (re_mono h fun x H1 ⟨i, ei, h1⟩ => re_mono h1 fun y H2 ⟨j, ej, q⟩ => ⟨i, j, ei, ej, q⟩)
theorem re_mulI (h : RE X a σ H fun x H1 => ∃ i, x = .int i ∧ (-(2 ^ 64) < i ∧ i < 2 ^ 64) ∧ RE X b σ H1 fun y H2 => ∃ j, y = .int j ∧ Q (.int (i * j)) H2) : RE X (.BinOp a .Mult b pos) σ H Q :=
  re_bin op_mul (re_mono h fun x H1 ⟨i, ei, hi, h1⟩ => re_mono h1 fun y H2 ⟨j, ej, q⟩ => ⟨i, j, ei, ej, .inl hi, q⟩)
theorem at_menu {ms : List Int} {r : Int} (h0 : 0 ≤ r) (h1 : r.toNat < ms.length) : atI (ms.map V.int) r = some (V.int (ms[r.toNat])) := by
  have h : atI (ms.map V.int) ((r.toNat : Nat) : Int) = some (V.int (ms[r.toNat])) := atI_nat (by rw [List.getElem?_map, List.getElem?_eq_getElem h1]; rfl)
  rw [Int.toNat_of_nonneg h0] at h
  exact h
/-- [ints][e] -/
theorem re_menu {esl : List Expr} {n : Nat} (hs : PlainIx b) (hn : n ≤ 1000) (h : RA X esl σ H fun vs H1 => ∃ ms : List Int, vs = ms.map V.int ∧ ms.length = n ∧ ∀ l, H1 l = none → RE X b σ (upd H1 l (.lst vs)) fun y H3 => ∃ r : Int, y = .int r ∧ 0 ≤ r ∧ r < n ∧ H3 l = some (.lst vs) ∧ ∀ z, z ∈ ms → Q (.int z) H3) :
    RE X (.Subscript (.List esl p1) b pos) σ H Q :=
  ⟨_, pe_ix ix_list (pe_lst ra_) re_ hs, ra_mono h fun vs H1 ⟨ms, e1, e2, k⟩ => ⟨by rw [e1, List.length_map, e2]; exact Nat.le_trans hn (by decide), fun l hl => re_mono (k l hl) fun y H3 ⟨r, ey, r0, r1, h3, q⟩ => by
    subst ey
    have hlt : r.toNat < ms.length := by omega
    exact ⟨l, vs, r, .int (ms[r.toNat]), rfl, rfl, SqL.of h3, by rw [e1]; exact at_menu r0 hlt, q _ (List.getElem_mem hlt)⟩⟩⟩
theorem ra_int {n : Int} {Q : List V → Hp → Prop} (h : XV X σ H e (.int n)) (k : ∀ H1, Same H H1 → RA X es σ H1 fun vs H2 => Q (.int n :: vs) H2) (hs : starEach (e :: es) X.env = (false, eval e X.env) :: starEach es X.env := by rfl) : RA X (e :: es) σ H Q := ra_cons (h.go fun H1 s => k H1 s) hs
theorem re_int {n : Int} (h : XV X σ H e (.int n)) (k : ∀ H1, Same H H1 → Q (.int n) H1) : RE X e σ H Q := h.go k
end
/-- a draw -/
theorem re_take {X : Cx} {σ : L2.St} {H : Hp} {o e : Expr} {pos p1 : Pos} {Q : VK} {k n : Nat} {f b : Addr} {fd : FuncData} {many : Int} (G : FnOk X.prog X.w X.K X.mg X.base CX0 k f fd ["_law_bag_here", "_law_many"] spTake) (F : Df X.K X.mg "_law_take" sTake ["_law_bag_here", "_law_many"] f fd) (hr : Room k X.A)
    (ho : XV X σ H o (.ref b)) (he : XV X σ H e (.int many)) (hB : BagAt H b n) (q : ∀ (r : Int) H1, 0 ≤ r → r < many → SameB b H H1 → BagAt H1 b (n + 1) → Q (.int r) H1) (h0 : 0 < many := by decide) (h1 : many.natAbs < 2 ^ 200 := by decide) (hn : n ≤ 1000000 := by omega) (hg : Gl X "_law_take" := by rfl)
    (hs : starEach [o, e] X.env = (false, eval o X.env) :: starEach [e] X.env := by rfl) (hs2 : starEach [e] X.env = (false, eval e X.env) :: starEach [] X.env := by rfl) (hpl : (backTo pos (starEach [e] X.env)).any (·.1) = false := by rfl) : RE X (.Call (.Name "_law_take" p1) [o, e] [] pos) σ H Q :=
  re_call G hr F.g F.F.kp F.b (ra_cons (ho.go fun H1 s1 => ra_1 ((he.up s1).go fun H2 s2 => ⟨b, many, n, rfl, h0, h1, hn, hB.up (s1.trans s2) (Nat.le_refl _), fun r H3 r0 r1 sB hB3 => q r H3 r0 r1 ((SameB.of (s1.trans s2)).trans sB) hB3⟩) hs2) hs) hg (by decide) hs hpl
theorem sameB_new {b l : Addr} {H : Hp} {o : HO} (h : H l = none) : SameB b H (upd H l o) := SameB.of (same_new h)
theorem bag_new {H : Hp} {b l : Addr} {n : Nat} {o : HO} (h : BagAt H b n) (hl : H l = none) : BagAt (upd H l o) b n := h.up (same_new hl) (Nat.le_refl _)
theorem bag_sameB {H H' : Hp} {b : Addr} {n : Nat} (h : BagAt H b n) (s : Same H H') : BagAt H' b n := h.up s (Nat.le_refl _)
end Zn

set_option Elab.async false
set_option linter.all false
set_option maxRecDepth 100000
set_option maxHeartbeats 8000000
namespace Zn
open PySem PySem.Spec PyProof.Rows L2 Dl
abbrev sZone : Stmt := top 26
def spZone (K : PySem.W.Frag) : Sp := fun vs H Q _ => ∃ (M : List Addr) (b : Addr) (most : Int) (n : Nat), vs = [.ref b, .int most] ∧ 0 ≤ most ∧ most ≤ 18 ∧ Live M H ∧ BagAt H b n ∧ n ≤ 10000 ∧
  ∀ (f : Int) (st : List Step) v H1, PlanOk f st → SameB b H H1 → BagAt H1 b (n + 300) → Dq K (hid (b :: M) H1) v (planD f st) → Q v H1
theorem mem4 {z a b c d : Int} (h : z ∈ [a, b, c, d]) : z = a ∨ z = b ∨ z = c ∨ z = d := by simpa using h
section
variable {P : Program} {w : World} {K : PySem.W.Frag} {mg : Str → Option Value} {base : Heap}
theorem scZone : FnScope ["_law_bag_here", "_law_most", "_law_found", "_law_moment", "_law_lap", "_law_drawn", "_law_jump", "_law_near"] ["_law_bag_here", "_law_most"] (defScope sZone) := ⟨rfl, rfl, rfl, by decide +kernel, rfl, by decide +kernel, by decide +kernel⟩
theorem eqv_steps (st : List Step) : PyData.eqv (.list (st.map stepD)) (.list []) = decide (st = []) := by
  cases st with
  | nil => simp [PyData.eqv, PyData.eqvAll]
  | cons s st => simp [PyData.eqv, PyData.eqvAll]
theorem lay_steps : ∀ st : List Step, PyData.canLayAll0 (st.map stepD) = true
  | [] => by simp [PyData.canLayAll0]
  | r :: rs => by
    rw [List.map_cons]
    show (PyData.canLay0 (stepD r) && PyData.canLayAll0 (rs.map stepD)) = true
    rw [lay_steps rs]
    simp [stepD, PyData.canLay0, PyData.canLayAll0]
theorem depth_steps : ∀ st : List Step, PyData.depthAll (st.map stepD) ≤ 1
  | [] => by simp [PyData.depthAll]
  | r :: rs => by
    rw [List.map_cons]
    show max (PyData.depth (stepD r)) (PyData.depthAll (rs.map stepD)) ≤ 1
    have := depth_steps rs
    have e : PyData.depth (stepD r) = 1 := by simp [stepD, PyData.depth, PyData.depthAll]
    omega
theorem shaped_steps (st : List Step) : SeqAt.shaped (.list (st.map stepD)) = true := by
  unfold SeqAt.shaped
  have h := depth_steps st
  have e : PyData.depth (.list (st.map stepD)) = PyData.depthAll (st.map stepD) + 1 := by simp [PyData.depth]
  rw [show PyData.canLay0 (.list (st.map stepD)) = PyData.canLayAll0 (st.map stepD) by simp [PyData.canLay0], lay_steps, e]
  simp
  omega
theorem shaped_nil : SeqAt.shaped (.list []) = true := by decide +kernel
theorem mem5 {z a b c d e : Int} (h : z ∈ [a, b, c, d, e]) : z = a ∨ z = b ∨ z = c ∨ z = d ∨ z = e := by simpa using h
theorem mem10 {z a b c d e f g h i j : Int} (q : z ∈ [a, b, c, d, e, f, g, h, i, j]) : z = a ∨ z = b ∨ z = c ∨ z = d ∨ z = e ∨ z = f ∨ z = g ∨ z = h ∨ z = i ∨ z = j := by simpa using q
theorem last_step {st : List Step} {l : Step} (h : st.getLast? = some l) : atI (st.map stepD) (-1) = some (stepD l) := by
  obtain ⟨ys, rfl⟩ := List.getLast?_eq_some_iff.mp h
  rw [List.map_append]
  exact atI_last _ _
theorem ab_eq (n : Int) : ab n = (if n < 0 then -n else n) := rfl
theorem ok_zone {f fT : Addr} {fd fdT : FuncData} (T : Nm mg) (FT : Df K mg "_law_take" sTake ["_law_bag_here", "_law_many"] fT fdT) (F : Df K mg "_law_zone" sZone ["_law_bag_here", "_law_most"] f fd) : FnOk P w K mg base CX0 2 f fd ["_law_bag_here", "_law_most"] (spZone K) := by
  have GT : FnOk P w K mg base CX0 1 fT fdT ["_law_bag_here", "_law_many"] spTake := ok_take FT
  refine F.F.ok scZone (fun vs H Q E h => ?_) (fun cdv A outer s H vs Q E hr h => ?_)
  · obtain ⟨M, b, most, n, rfl, _⟩ := h; rfl
  · obtain ⟨M, b, most, n, rfl, hm0, hm1, L, hB, hn, q⟩ := h
    refine rb_setL 2 (M := []) (xl_lst Live.nil xa_nil) (fun p xs0 H1 s1 hp h1p hx0 => ?_) scZone.nd
    cases hx0
    have hB1 := bag_sameB hB s1
    have npb : p ≠ b := fun z => by subst z; exact hB.some hp
    -- the first moment
    refine rb_setR 3 ?_ scZone.nd
    refine re_addI (re_menu (n := 4) (fun _ _ => rfl) (by decide) ?_)
    refine ra_int xv_int fun H2 s2 => ?_
    refine ra_int (xd_neg (M := []) xd_int).vint fun H3 s3 => ?_
    refine ra_int (xd_pow (M := []) xd_int xd_int ⟨by decide, by decide, by decide⟩).vint fun H4 s4 => ?_
    refine ra_1 (re_mulI (re_int xv_int fun H5 s5 => ⟨1440, rfl, ⟨by decide, by decide⟩, ?_⟩))
    have s15 := ((s2.trans s3).trans s4).trans s5
    refine re_take GT FT hr (xv_name 0 rfl) xv_int (bag_sameB hB1 s15) fun r1 H6 r10 r11 sB6 hB6 => ⟨r1, rfl, [0, -5000, 10 ^ 12, 1440 * r1], rfl, rfl, fun l hl => ?_⟩
    refine re_take GT FT hr (xv_name 0 rfl) xv_int (bag_new hB6 hl) fun r2 H7 r20 r21 sB7 hB7 => ⟨r2, rfl, r20, r21, sB7 _ _ (fun z => by subst z; exact hB6.some hl) upd_same, fun z hz => ⟨z, rfl, ?_⟩⟩
    refine re_take GT FT hr (xv_name 0 rfl) xv_int hB7 fun r3 H8 r30 r31 sB8 hB8 => ⟨r3, rfl, ?_⟩
    have sB18 : SameB b H1 H8 := ((((SameB.of s15).trans sB6).trans (sameB_new hl)).trans sB7).trans sB8
    have hz1 : -5000 ≤ z ∧ z ≤ 1000000000000 := by
      rcases mem4 hz with e | e | e | e
      · omega
      · omega
      · rw [e]; decide
      · omega
    have sB08 : SameB b H H8 := (SameB.of s1).trans sB18
    have h8p : H8 p = some (.lst []) := sB18 _ _ npb h1p
    have hB8' : BagAt H8 b (n + 10) := hB8.up (Same.refl _) (by omega)
    clear hB8
    generalize hmo : z + r3 = mo
    have hm : -5000 ≤ mo ∧ mo ≤ 1000000001500 := by omega
    -- the laps
    have Lp : Live (p :: b :: M) H8 := fun a ha => by
      rcases List.mem_cons.mp ha with e | ha
      · subst e; rw [h8p]; simp
      · rcases List.mem_cons.mp ha with e | ha
        · subst e; exact hB8'.some
        · by_cases e : a = b
          · subst e; exact hB8'.some
          · intro q0
            cases q1 : H a with
            | none => exact L a ha q1
            | some o => rw [sB08 a o e q1] at q0; cases q0
    refine rb_range T.rng ?_
    -- range(take(bag, [..][take(bag, 4)]))
    refine re_call GT hr FT.g FT.F.kp FT.b (ra_cons ((xv_name 0 rfl).go fun H9 s9 => ?_))
    refine ra_1 (re_menu (n := 4) (fun _ _ => rfl) (by decide) ?_)
    refine ra_int (xd_add (M := []) (xv_name 1 rfl).int xd_int).vint fun H10 s10 => ?_
    refine ra_int (xd_add (M := []) (xv_name 1 rfl).int xd_int).vint fun H11 s11 => ?_
    refine ra_int (xd_add (M := []) (xv_name 1 rfl).int xd_int).vint fun H12 s12 => ?_
    have s812 := ((s9.trans s10).trans s11).trans s12
    refine ra_1 (re_int xv_int fun H13 s13 => ⟨[most + 1, most + 1, most + 1, 20], rfl, rfl, fun l hl => ?_⟩)
    refine re_take GT FT hr (xv_name 0 rfl) xv_int (bag_new (bag_sameB hB8' (s812.trans s13)) hl) fun r4 H14 r40 r41 sB14 hB14 => ⟨r4, rfl, r40, r41, sB14 _ _ (fun z => by subst z; exact (bag_sameB hB8' (s812.trans s13)).some hl) upd_same, fun z2 hz2 => ?_⟩
    have hz3 : 0 < z2 ∧ z2 ≤ 20 := by
      rcases mem4 hz2 with e | e | e | e <;> omega
    refine ⟨b, z2, n + 11, rfl, hz3.1, by omega, by omega, hB14, fun r5 H15 r50 r51 sB15 hB15 => ?_⟩
    have sB815 : SameB b H8 H15 := (((SameB.of (s812.trans s13)).trans (sameB_new hl)).trans sB14).trans sB15
    have h15p : H15 p = some (.lst []) := sB815 _ _ npb h8p
    have sB015 : SameB b H H15 := sB08.trans sB815
    refine ⟨r5.toNat, by rw [Int.toNat_of_nonneg r50], by omega, fun k σ' H' => ∃ (mm : Int) (st : List Step) (xs : List V) (a4 a5 a6 a7 : Option V), σ' = [some (.ref b), some (.int most), some (.ref p), some (.int mm), a4, a5, a6, a7] ∧ SameB b H H' ∧ H' p = some (.lst xs) ∧ BagAt H' b (n + 20 + 10 * k) ∧
        DqAll K (hid (p :: b :: M) H') xs (st.map stepD) ∧ st.length = k ∧ okS st ∧ bigS (1000000010000 + 500000 * (k : Int)) st ∧ (-(1000000010000 + 500000 * (k : Int)) ≤ mm ∧ mm ≤ 1000000010000 + 500000 * (k : Int)) ∧ ∀ l, st.getLast? = some l → mm = l.1, ?_, ?_, ?_⟩
    · exact ⟨mo, [], [], none, none, none, none, rfl, sB015, h15p, hB15.up (Same.refl _) (by omega), .nil, rfl, okS_nil, fun s hs => by simp at hs, by omega, fun l hl => by simp at hl⟩
    · intro k σ' H' hkn hw
      obtain ⟨mm, st, xs, a4, a5, a6, a7, rfl, sB, hpx, hBk, hx, hk, hok, hbig, hmm, hlast⟩ := hw
      have hxl : xs.length < 100000 := by rw [dpa_len hx, List.length_map]; omega
      have hk19 : k ≤ 19 := by omega
      refine rg_name 4 ?_ scZone.nd
      -- drawn
      refine rb_setR 5 ?_ scZone.nd
      refine re_addI (re_int xv_int fun Ha sa => ⟨1, rfl, ?_⟩)
      refine re_take GT FT hr (xv_name 0 rfl) xv_int (bag_sameB hBk sa) fun t1 Hb t10 t11 sBb hBb => ⟨t1, rfl, ?_⟩
      generalize hdr : 1 + t1 = dr
      have hdr1 : 1 ≤ dr ∧ dr ≤ 300 := by omega
      -- jump
      refine rb_setR 6 ?_ scZone.nd
      refine re_menu (n := 10) (fun _ _ => rfl) (by decide) ?_
      refine ra_int xv_int fun Hc sc => ra_int (xd_neg (M := []) xd_int).vint fun Hd sd => ra_int xv_int fun He se => ra_int (xd_neg (M := []) xd_int).vint fun Hf sf => ?_
      refine ra_int xv_int fun Hg sg => ra_int (xd_neg (M := []) xd_int).vint fun Hh sh => ra_int xv_int fun Hi si => ra_int (xd_neg (M := []) xd_int).vint fun Hj sj => ?_
      refine ra_int (xv_name 5 rfl) fun Hk sk => ra_1 (re_int (xd_neg (M := []) (xv_name 5 rfl).int).vint fun Hl sl => ⟨[60, -60, 30, -30, 1, -1, 720, -720, dr, -dr], rfl, rfl, fun l hl => ?_⟩)
      have sbl := ((((((((sc.trans sd).trans se).trans sf).trans sg).trans sh).trans si).trans sj).trans sk).trans sl
      have hBl := bag_sameB hBb sbl
      refine re_take GT FT hr (xv_name 0 rfl) xv_int (bag_new hBl hl) fun t2 Hm t20 t21 sBm hBm => ⟨t2, rfl, t20, t21, sBm _ _ (fun z => by subst z; exact hBl.some hl) upd_same, fun j hj => ?_⟩
      have hj1 : okJ j := by
        unfold okJ
        rcases mem10 hj with e | e | e | e | e | e | e | e | e | e <;> omega
      have sB1 : SameB b H' Hm := ((((SameB.of sa).trans sBb).trans (.of sbl)).trans (sameB_new hl)).trans sBm
      clear sBm sBb
      have hpm := sB1 _ _ npb hpx
      have Lm : Live (p :: b :: M) Hm := fun a ha => by
        rcases List.mem_cons.mp ha with e | ha
        · subst e; rw [hpm]; simp
        · rcases List.mem_cons.mp ha with e | ha
          · subst e; exact hBm.some
          · by_cases e : a = b
            · subst e; exact hBm.some
            · intro q0
              cases q1 : H a with
              | none => exact L a ha q1
              | some o => rw [sB1 a o e (sB a o e q1)] at q0; cases q0
      have npM : p ∉ b :: M := fun z => by
        rcases List.mem_cons.mp z with e | e
        · exact npb e
        · exact L p e hp
      have hxm := hx.up (sB1.hid (M := p :: b :: M) (List.mem_cons_of_mem _ (List.mem_cons_self ..)))
      have kp : Dq K (hid (b :: M) Hm) (.ref p) (.list (st.map stepD)) := .lst (by rw [hid_of npM]; exact hpm) (hxm.up hid_weak)
      -- if found != []
      refine rb_if (xt_neD (M := b :: M) hr.units (xd_name 2 rfl kp) (xd_lst (Live.tail Lm) xa_nil) (shaped_steps st) shaped_nil) (fun e0 Hn sn => ?_) (fun e0 Hn sn => rb_nil ?_)
      · rw [eqv_steps] at e0
        have hne : st ≠ [] := fun z => by rw [decide_eq_true z] at e0; cases e0
        obtain ⟨ls, hls⟩ : ∃ ls, st.getLast? = some ls := ⟨_, List.getLast?_eq_some_getLast hne⟩
        have kpn := kp.up (hid_mono (M := b :: M) sn)
        refine rb_set 7 (M := b :: M) (xd_add (xd_add (xd_abs T.abs (xv_name 6 rfl).int) (xd_abs T.abs (xd_ixT (fun _ _ => rfl) (xd_ixL (fun _ _ => rfl) (xd_name 2 rfl kpn) (xd_neg xd_int) (last_step hls)) xd_int (show atI [PyData.int ls.1, PyData.int ls.2] 1 = some (.int ls.2) from rfl)))) xd_int) (fun vn Ho so hvn => ?_) scZone.nd
        have ev := dp_int hvn
        subst ev
        rw [← ab_eq, ← ab_eq]
        have hab1 : 0 ≤ ab j ∧ ab j ≤ 720 := by unfold ab; unfold okJ at hj1; split <;> omega
        have hls2 := hok.1 ls (List.mem_of_getLast? hls)
        have hab2 : 0 ≤ ab ls.2 ∧ ab ls.2 ≤ 720 := by unfold ab; unfold okJ at hls2; split <;> omega
        have hmm1 := hlast ls hls
        -- moment
        refine rb_setR 3 ?_ scZone.nd
        refine re_addI (re_int (xd_add (M := []) (xv_name 3 rfl).int (xv_name 7 rfl).int).vint fun Hp sp => ⟨_, rfl, ?_⟩)
        refine re_menu (n := 5) (fun _ _ => rfl) (by decide) ?_
        refine ra_int xv_int fun Hq sq => ra_int xv_int fun Hr2 sr => ra_cons (re_take GT FT hr (xv_name 0 rfl) xv_int (bag_sameB hBm ((((sn.trans so).trans sp).trans sq).trans sr)) fun t3 Hs t30 t31 sBs hBs => ?_)
        refine ra_int xv_int fun Ht st' => ra_1 (re_take GT FT hr (xv_name 0 rfl) xv_int (bag_sameB hBs st') fun t4 Hu t40 t41 sBu hBu => ⟨[0, 1, t3, 1440, t4], rfl, rfl, fun l2 hl2 => ?_⟩)
        refine re_take GT FT hr (xv_name 0 rfl) xv_int (bag_new hBu hl2) fun t5 Hv t50 t51 sBv hBv => ⟨t5, rfl, t50, t51, sBv _ _ (fun z => by subst z; exact hBu.some hl2) upd_same, fun ex hex => ⟨ex, rfl, rb_nil ?_⟩⟩
        have hex1 : 0 ≤ ex ∧ ex ≤ 400000 := by
          rcases mem5 hex with e | e | e | e | e <;> omega
        have sB2 : SameB b H' Hv := (((((sB1.trans (.of ((((sn.trans so).trans sp).trans sq).trans sr))).trans sBs).trans (.of st')).trans sBu).trans (sameB_new hl2)).trans sBv
        have hpv := sB2 _ _ npb hpx
        have Lv : Live (p :: b :: M) Hv := (((((SameB.of ((((sn.trans so).trans sp).trans sq).trans sr)).trans sBs).trans (.of st')).trans sBu).trans (sameB_new hl2)).trans sBv |>.live Lm hBv.some
        have hgap : gapJ ls (mm + (ab j + ab ls.2 + 1) + ex, j) := by
          show ab ls.2 + ab j < mm + (ab j + ab ls.2 + 1) + ex - ls.1
          omega
        generalize hm3 : mm + (ab j + ab ls.2 + 1) + ex = m3 at hgap
        have hm3b : -(1000000010000 + 500000 * ((k + 1 : Nat) : Int)) ≤ m3 ∧ m3 ≤ 1000000010000 + 500000 * ((k + 1 : Nat) : Int) := by omega
        refine rb_append (M := p :: b :: M) (xs := xs) (List.mem_cons_self ..) (xv_name 2 rfl) hpv (xd_tup Lv (xa_cons (xv_name 3 rfl).int (xa_cons (xv_name 6 rfl).int xa_nil))) hxl fun v9 H9 s9 hv9 => rb_nil ?_
        have sBx : SameB b H' H9 := sB2.trans (SameB.of s9)
        have hx9 := hx.up (sBx.hid (M := p :: b :: M) (List.mem_cons_of_mem _ (List.mem_cons_self ..)))
        refine ⟨m3, st ++ [(m3, j)], xs ++ [v9], _, _, _, _, rfl, fun a o n e => ?_, upd_same, ?_, ?_, ?_, ?_, ?_, ?_, ?_⟩
        · have nap : a ≠ p := ne_of_none e hp
          rw [upd_ne nap]
          exact sBx a o n (sB a o n e)
        · have hBz := (hBv).up s9 (Nat.le_refl _)
          obtain ⟨g1, m1, c1, e1, e2⟩ := hBz
          exact ⟨g1, m1, c1, by rw [upd_ne (Ne.symm npb)]; exact e1, e2.1, e2.2.1, e2.2.2.1, by omega⟩
        · rw [hid_cons_upd, List.map_append]
          exact dpa_app hx9 (.cons hv9 .nil)
        · rw [List.length_append, hk]; rfl
        · exact okS_snoc hok hls hj1 hgap
        · refine bigS_snoc hbig (by omega) ?_ ?_ <;> (show _ ≤ _) <;> omega
        · omega
        · intro l0 hl0
          rw [List.getLast?_append] at hl0
          simp at hl0
          rw [← hl0]
      · rw [eqv_steps] at e0
        have hst : st = [] := by
          by_cases z : st = []
          · exact z
          · rw [decide_eq_false z] at e0; cases e0
        subst hst
        have sB2 : SameB b H' Hn := sB1.trans (.of sn)
        have hm3b : -(1000000010000 + 500000 * ((k + 1 : Nat) : Int)) ≤ mm ∧ mm ≤ 1000000010000 + 500000 * ((k + 1 : Nat) : Int) := by omega
        refine rb_append (M := p :: b :: M) (xs := xs) (List.mem_cons_self ..) (xv_name 2 rfl) (sn _ _ hpm) (xd_tup (Lm.mono sn) (xa_cons (xv_name 3 rfl).int (xa_cons (xv_name 6 rfl).int xa_nil))) hxl fun v9 H9 s9 hv9 => rb_nil ?_
        have sBx : SameB b H' H9 := sB2.trans (SameB.of s9)
        have hx9 := hx.up (sBx.hid (M := p :: b :: M) (List.mem_cons_of_mem _ (List.mem_cons_self ..)))
        refine ⟨mm, [] ++ [(mm, j)], xs ++ [v9], _, _, _, _, rfl, fun a o n e => ?_, upd_same, ?_, ?_, ?_, ?_, ?_, ?_, ?_⟩
        · have nap : a ≠ p := ne_of_none e hp
          rw [upd_ne nap]
          exact sBx a o n (sB a o n e)
        · have hBz := (bag_sameB hBm sn).up s9 (Nat.le_refl _)
          obtain ⟨g1, m1, c1, e1, e2⟩ := hBz
          exact ⟨g1, m1, c1, by rw [upd_ne (Ne.symm npb)]; exact e1, e2.1, e2.2.1, e2.2.2.1, by omega⟩
        · rw [hid_cons_upd, List.map_append]
          exact dpa_app hx9 (.cons hv9 .nil)
        · rw [List.length_append, hk]; rfl
        · exact okS_one hj1
        · refine bigS_snoc hbig (by omega) ?_ ?_ <;> (show _ ≤ _) <;> omega
        · omega
        · intro l0 hl0
          rw [List.getLast?_append] at hl0
          simp at hl0
          rw [← hl0]
    · intro σ' H' hw
      obtain ⟨mm, st, xs, a4, a5, a6, a7, rfl, sB, hpx, hBk, hx, hk, hok, hbig, hmm, hlast⟩ := hw
      refine rb_retR ⟨_, pe_tup ra_, ra_cons ?_⟩
      refine re_subI (re_take GT FT hr (xv_name 0 rfl) xv_int hBk fun r Ha r0 r1 sBa hBa => ⟨r, rfl, re_int xv_int fun Hb sb => ⟨850, rfl, ra_1 ((xv_name 2 rfl).go fun Hc sc => ⟨by show 2 ≤ sizeLine; decide, fun t ht => ?_⟩)⟩⟩)
      have sB1 : SameB b H' Hc := (sBa.trans (.of sb)).trans (.of sc)
      have sB2 : SameB b H Hc := sB.trans sB1
      have hBc := bag_sameB hBa (sb.trans sc)
      have hpc := sB1 _ _ npb hpx
      have hxc := hx.up (sB1.hid (M := p :: b :: M) (List.mem_cons_of_mem _ (List.mem_cons_self ..)))
      have npM : p ∉ b :: M := fun z => by
        rcases List.mem_cons.mp z with e | e
        · exact npb e
        · exact L p e hp
      have Lc : Live (b :: M) Hc := fun a ha => by
        rcases List.mem_cons.mp ha with e | ha
        · subst e; exact hBc.some
        · by_cases e : a = b
          · subst e; exact hBc.some
          · intro q0
            cases q1 : H a with
            | none => exact L a ha q1
            | some o => rw [sB2 a o e q1] at q0; cases q0
      refine q (r - 850) st _ _ ⟨by omega, hok, by omega, by omega, fun s hs => ?_⟩ (sB2.trans (sameB_new ht)) ((bag_new hBc ht).up (Same.refl _) (by omega)) ?_
      · have z := hbig s hs
        omega
      · rw [hid_new Lc ht]
        refine .tup (SqT.of upd_same) (DqAll.up (.cons (.int _) (.cons (.lst (xs := xs) (by rw [hid_of npM]; exact hpc) (hxc.up hid_weak)) .nil)) (same_new (hid_free ht)))
end
end Zn

set_option Elab.async false
set_option linter.all false
set_option maxRecDepth 100000
set_option maxHeartbeats 8000000
namespace Zn
open PySem PySem.Spec PyProof.Rows L2 Dl
abbrev sLChanges : Stmt := top 27
abbrev sLMade : Stmt := top 28
abbrev sLSpans : Stmt := top 29
/-! ### the mathematics of plans -/
def chOf : Int → List Step → List (Int × Int)
  | _, [] => []
  | o, s :: st => (s.1, o + s.2) :: chOf (o + s.2) st
def offS : Int → List Step → Int
  | o, [] => o
  | o, s :: st => offS (o + s.2) st
/-- the rows of a plan -/
def rowsP (f : Int) (st : List Step) : List Row := rowsOf f (chOf f st)
theorem ch_len : ∀ (o : Int) (st : List Step), (chOf o st).length = st.length
  | _, [] => rfl
  | o, s :: st => by unfold chOf; rw [List.length_cons, List.length_cons, ch_len]
theorem ch_snoc : ∀ (o : Int) (st : List Step) (s : Step), chOf o (st ++ [s]) = chOf o st ++ [(s.1, offS o st + s.2)]
  | _, [], s => rfl
  | o, t :: st, s => by
    show (t.1, o + t.2) :: chOf (o + t.2) (st ++ [s]) = _
    rw [ch_snoc (o + t.2) st s]
    rfl
theorem off_snoc : ∀ (o : Int) (st : List Step) (s : Step), offS o (st ++ [s]) = offS o st + s.2
  | _, [], s => rfl
  | o, t :: st, s => off_snoc (o + t.2) st s
theorem last_ch : ∀ (o : Int) (st : List Step), lastOff o (chOf o st) = offS o st
  | _, [] => rfl
  | o, s :: st => last_ch (o + s.2) st
theorem rowsP_snoc (f : Int) (st : List Step) (s : Step) : rowsP f (st ++ [s]) = rowsP f st ++ [(s.1, offS f st, offS f st + s.2)] := by
  unfold rowsP
  rw [ch_snoc, rows_snoc, last_ch]
theorem rowsP_len (f : Int) (st : List Step) : (rowsP f st).length = st.length := by unfold rowsP; rw [rows_len, ch_len]
theorem rowsP_cons (f : Int) (s : Step) (st : List Step) : rowsP f (s :: st) = (s.1, f, f + s.2) :: rowsP (f + s.2) st := rfl
theorem rowsP_get : ∀ (f : Int) (st : List Step) (k : Nat) (s : Step), st[k]? = some s → ∃ o, (rowsP f st)[k]? = some (s.1, o, o + s.2)
  | _, [], k, s, h => by simp at h
  | f, t :: st, 0, s, h => by simp at h; subst h; exact ⟨f, rfl⟩
  | f, t :: st, k + 1, s, h => by
    obtain ⟨o, ho⟩ := rowsP_get (f + t.2) st k s (by simpa using h)
    exact ⟨o, by rw [rowsP_cons]; simpa using ho⟩
theorem ab_le {j : Int} (h : okJ j) : isJumpB j = true := by
  unfold isJumpB ab
  unfold okJ at h
  simp
  refine ⟨h.1, ?_⟩
  split <;> omega
/-- a plan's rows pass all checks -/
theorem okR_of {f : Int} {st : List Step} (h : okS st) : okR (rowsP f st) := by
  intro k r hr
  have hk : k < st.length := by rw [← rowsP_len f st]; exact (List.getElem?_eq_some_iff.mp hr).1
  obtain ⟨o, ho⟩ := rowsP_get f st k st[k] (List.getElem?_eq_getElem hk)
  rw [hr] at ho
  cases ho
  have ej : jmp (st[k].1, o, o + st[k].2) = st[k].2 := by show o + st[k].2 - o = _; omega
  refine ⟨by rw [ej]; exact ab_le (h.1 _ (List.getElem_mem hk)), ?_⟩
  unfold followB
  cases k with
  | zero => rfl
  | succ k =>
    have hk2 : k < st.length := by omega
    obtain ⟨o2, ho2⟩ := rowsP_get f st k st[k] (List.getElem?_eq_getElem hk2)
    have hl : ((rowsP f st).take (k + 1)).getLast? = some (st[k].1, o2, o2 + st[k].2) := by
      rw [take_snoc ho2, List.getLast?_append]
      simp
    rw [hl]
    have ej2 : jmp (st[k].1, o2, o2 + st[k].2) = st[k].2 := by show o2 + st[k].2 - o2 = _; omega
    show decide (ab (jmp (st[k].1, o2, o2 + st[k].2)) + ab (jmp (st[k + 1].1, o, o + st[k + 1].2)) < st[k + 1].1 - st[k].1) = true
    rw [ej, ej2]
    exact decide_eq_true (h.2 k _ _ (List.getElem?_eq_getElem hk2) (List.getElem?_eq_getElem hk))
def RLChanges (ds es : List PyData) : Prop := ∃ (f : Int) (st : List Step), ds = [planD f st] ∧ st.length ≤ 1000 ∧ es = (chOf f st).map stepD
theorem items_ch : ∀ cs : List (Int × Int), Items (cs.map stepD) cs := fun cs => ⟨by rw [List.length_map], fun i it h => by
  rw [List.getElem?_map] at h
  cases e : cs[i]? with
  | none => rw [e] at h; cases h
  | some c => rw [e] at h; cases h; exact ⟨c, rfl, .inl rfl⟩⟩
theorem step_at {K : PySem.W.Frag} {H : Hp} {v : V} {s : Step} (h : Dq K H v (stepD s)) : ∃ p, v = .ref p ∧ SqT K H p [.int s.1, .int s.2] := by
  obtain ⟨p, xs, rfl, hp, hx⟩ := dp_tup h
  cases hx with
  | cons a1 hx => cases hx with
    | cons a2 hx => cases hx; rw [dp_int a1, dp_int a2] at hp; exact ⟨p, rfl, hp⟩
theorem map_get {α : Type} {g : α → PyData} {xs : List α} {k : Nat} {d : PyData} (h : (xs.map g)[k]? = some d) : ∃ x, xs[k]? = some x ∧ d = g x := by
  rw [List.getElem?_map] at h
  cases e : xs[k]? with
  | none => rw [e] at h; cases h
  | some x => rw [e] at h; cases h; exact ⟨x, rfl, rfl⟩
section
variable {X : Cx} {M : List Addr} {σ : L2.St} {H H' : Hp} {e a b o ie : Expr} {pos p1 p2 p3 : Pos} {D : Ends} {rest : List Stmt}
theorem rb_parR (i j : Nat) {x y : Str} {px py pt : Pos} {kt k2 pt2} (ha : RA X [a, b] σ H fun vs H1 => ∃ v w, vs = [v, w] ∧ RB X rest D ((σ.set i (some v)).set j (some w)) H1) (hN : X.N.Nodup)
    (hw : swappedStores [.Tuple [.Name x px, .Name y py] kt pt] (.Tuple [a, b] k2 pt2) X.env = pure (some [x, y]) := by rfl) (hc : X.calm = true := by rfl) (hi : X.N[i]? = some x := by rfl) (hj : X.N[j]? = some y := by rfl) (hij : i ≠ j := by decide)
    (hx : X.env.scope.names.lookup x = some .local := by rfl) (hy : X.env.scope.names.lookup y = some .local := by rfl)
    (hs : swapsWithSole [.Tuple [.Name x px, .Name y py] kt pt] (.Tuple [a, b] k2 pt2) pos.line X.env = pure false := by rfl) : RB X (.Assign [.Tuple [.Name x px, .Name y py] kt pt] (.Tuple [a, b] k2 pt2) pos :: rest) D σ H :=
  ⟨_, pss_cons (ps_par hc hN hi hj hij hx hy ra_ hw hs) rb_, ha⟩
end
section
variable {P : Program} {w : World} {K : PySem.W.Frag} {mg : Str → Option Value} {base : Heap} {C : Addr}
theorem scLChanges : FnScope ["_law_plan", "_law_found", "_law_offset", "_law_moment", "_law_jump"] ["_law_plan"] (defScope sLChanges) := ⟨rfl, rfl, rfl, by decide +kernel, rfl, by decide +kernel, by decide +kernel⟩
theorem ok_lchanges {f : Addr} {fd : FuncData} (F : Df K mg "_law_changes" sLChanges ["_law_plan"] f fd) : FnOk P w K mg base CX0 1 f fd ["_law_plan"] (spL K RLChanges) := by
  refine F.F.ok scLChanges (fun vs H Q E h => ?_) (fun cdv A outer s H vs Q E hr h => ?_)
  · obtain ⟨M, ds, es, L, hd, ⟨f, st, rfl, _⟩, q⟩ := h
    exact dpa_len hd
  · obtain ⟨M, ds, es, L, hd, ⟨f, st, rfl, hlen, rfl⟩, q⟩ := h
    cases hd with
    | cons h1 h2 =>
      cases h2
      rename_i v0
      refine rb_parR 1 2 (ra_cons (XL.go (xl_lst L xa_nil) fun p xs H1 s1 hp h1p hxs => ra_1 (XD.go (xd_ixT (fun _ _ => rfl) (xd_name 0 rfl (h1.up (hid_mono s1))) xd_int (show atI [PyData.int f, .list (st.map stepD)] 0 = some (.int f) from rfl)) fun v2 H2 s2 hv2 => ⟨_, _, rfl, ?_⟩))) scLChanges.nd
      cases hxs
      have e2 := dp_int hv2
      subst e2
      have s12 := s1.trans s2
      have g0 : Same (hid M H) (hid (p :: M) H2) := hid_step hp s12
      have Lp : Live (p :: M) H2 := fun b hb => by
        rcases List.mem_cons.mp hb with z | hb
        · subst z; rw [s2 _ _ h1p]; simp
        · exact L.mono s12 b hb
      have k1 := h1.up g0
      refine rb_for (M := p :: M) (xd_ixT (fun _ _ => rfl) (xd_name 0 rfl k1) xd_int (show atI [PyData.int f, .list (st.map stepD)] 1 = some (.list (st.map stepD)) from rfl)) fun H3 s3 => ⟨fun k σ' H' => Same (hid (p :: M) H3) (hid (p :: M) H') ∧ Live (p :: M) H' ∧ Same H H' ∧ ∃ (xs : List V) (a3 a4 : Option V), σ' = [some v0, some (.ref p), some (.int (offS f (st.take k))), a3, a4] ∧ H' p = some (.lst xs) ∧ DqAll K (hid (p :: M) H') xs ((chOf f (st.take k)).map stepD),
        ⟨Same.refl _, Lp.mono s3, s12.trans s3, [], none, none, rfl, s3 _ _ (s2 _ _ h1p), .nil⟩, fun k σ' H' w => w.1, fun k it hk σ' H' v hw hv => ?_, fun σ' H' hw => ?_⟩
      · obtain ⟨z1, L4, z2, xs, a3, a4, rfl, hp4, hx4⟩ := hw
        obtain ⟨sx, hsx, rfl⟩ := map_get hk
        have hklt : k < st.length := (List.getElem?_eq_some_iff.mp hsx).1
        have hxl : xs.length < 100000 := by
          rw [dpa_len hx4, List.length_map, ch_len, List.length_take]
          omega
        obtain ⟨t, rfl, ht⟩ := step_at hv
        refine rg_tup (same_seqT hid_le ht) (rgs_cons (rg_name 3 (rgs_cons (rg_name 4 (rgs_nil ?_) scLChanges.nd)) scLChanges.nd))
        refine rb_set 2 (M := p :: M) (xd_add (xv_name 2 rfl).int (xv_name 4 rfl).int) (fun v5 H5 s5 hv5 => ?_) scLChanges.nd
        have e5 := dp_int hv5
        subst e5
        refine rb_append (M := p :: M) (xs := xs) (List.mem_cons_self ..) (xv_name 1 rfl) (s5 _ _ hp4) (xd_tup (L4.mono s5) (xa_cons (xv_name 3 rfl).int (xa_cons (xv_name 2 rfl).int xa_nil))) hxl fun v6 H6 s6 hv6 => rb_nil ?_
        have s46 := s5.trans s6
        refine ⟨?_, (L4.mono s46).upd, same_upd (z2.trans s46) hp, xs ++ [v6], some (.int sx.1), some (.int sx.2), ?_, upd_same, ?_⟩
        · rw [hid_cons_upd]; exact z1.trans (hid_mono s46)
        · rw [take_snoc hsx, off_snoc]; rfl
        · rw [hid_cons_upd, take_snoc hsx, ch_snoc, List.map_append]
          exact dpa_app (hx4.up (hid_mono s46)) (.cons hv6 .nil)
      · obtain ⟨z1, L4, z2, xs, a3, a4, rfl, hp4, hx4⟩ := hw
        refine rb_retR (XV.go (xv_name 1 rfl) fun H5 s5 => q p xs H5 (z2.trans s5) hp (s5 _ _ hp4) ?_)
        rw [List.length_map, List.take_length] at hx4
        exact (hx4.up (hid_mono (M := p :: M) s5)).up hid_weak
/-! made -/
def spMade (K : PySem.W.Frag) (C : Addr) : Sp := fun vs H Q _ => ∃ (M : List Addr) (v : V) (f : Int) (st : List Step), vs = [v] ∧ Live M H ∧ Dq K (hid M H) v (planD f st) ∧ st.length ≤ 1000 ∧ okS st ∧ ∀ y H1, Same H H1 → ZAt K C (hid M H1) y f (rowsP f st) → Q (.ref y) H1
theorem scLMade : FnScope ["_law_plan"] ["_law_plan"] (defScope sLMade) := ⟨rfl, rfl, rfl, by decide +kernel, rfl, by decide +kernel, by decide +kernel⟩
theorem ok_lmade {f fC fZ et : Addr} {fd fdC fdZ : FuncData} (W : ZMk P w K mg base C fZ fdZ et) (FC : Df K mg "_law_changes" sLChanges ["_law_plan"] fC fdC) (F : Df K mg "_law_made" sLMade ["_law_plan"] f fd) : FnOk P w K mg base CX0 6 f fd ["_law_plan"] (spMade K C) := by
  have GC : FnOk P w K mg base CX0 5 fC fdC ["_law_plan"] (spL K RLChanges) := (ok_lchanges FC).mono (by decide)
  refine F.F.ok scLMade (fun vs H Q E h => ?_) (fun cdv A outer s H vs Q E hr h => ?_)
  · obtain ⟨M, v, f, st, rfl, _⟩ := h; rfl
  · obtain ⟨M, v, f, st, rfl, L, h1, hlen, hok, q⟩ := h
    refine rb_retR ((xz_make (items := (chOf f st).map stepD) (cs := chOf f st) L W hr (xd_ixT (fun _ _ => rfl) (xd_name 0 rfl h1) xd_int (show atI [PyData.int f, .list (st.map stepD)] 0 = some (.int f) from rfl))
      (XL.dd (xl_call L GC hr FC.g FC.F.kp FC.b (xa_cons (xd_name 0 rfl h1) xa_nil) ⟨f, st, rfl, hlen, rfl⟩) L) (.inl rfl) (items_ch _) (okR_of hok) (by rw [ch_len]; exact hlen)).go q)
/-! spans -/
def spansOf (f : Int) (st : List Step) (sg : Int) : List PyData := (rowsP f st).filterMap fun r => if 0 < jmp r * sg then some (tornD r) else none
def RLSpans (ds es : List PyData) : Prop := ∃ (f : Int) (st : List Step) (sg : Int), ds = [planD f st, .int sg] ∧ st.length ≤ 1000 ∧ (∀ s ∈ st, okJ s.2) ∧ es = spansOf f st sg
theorem spans_snoc (f : Int) (st : List Step) (s : Step) (sg : Int) : spansOf f (st ++ [s]) sg = spansOf f st sg ++ (if 0 < s.2 * sg then [tornD (s.1, offS f st, offS f st + s.2)] else []) := by
  unfold spansOf
  rw [rowsP_snoc, List.filterMap_append]
  have e : jmp (s.1, offS f st, offS f st + s.2) = s.2 := by show offS f st + s.2 - offS f st = _; omega
  simp only [List.filterMap_cons, List.filterMap_nil, e]
  split <;> simp_all
theorem spans_len (f : Int) (st : List Step) (sg : Int) : (spansOf f st sg).length ≤ st.length := by
  rw [← rowsP_len f st]
  exact List.length_filterMap_le ..
theorem scLSpans : FnScope ["_law_plan", "_law_sign", "_law_found", "_law_offset", "_law_moment", "_law_jump"] ["_law_plan", "_law_sign"] (defScope sLSpans) := ⟨rfl, rfl, rfl, by decide +kernel, rfl, by decide +kernel, by decide +kernel⟩
theorem ok_lspans {f : Addr} {fd : FuncData} (T : Nm mg) (F : Df K mg "_law_spans" sLSpans ["_law_plan", "_law_sign"] f fd) : FnOk P w K mg base CX0 1 f fd ["_law_plan", "_law_sign"] (spL K RLSpans) := by
  refine F.F.ok scLSpans (fun vs H Q E h => ?_) (fun cdv A outer s H vs Q E hr h => ?_)
  · obtain ⟨M, ds, es, L, hd, ⟨f, st, sg, rfl, _⟩, q⟩ := h
    exact dpa_len hd
  · obtain ⟨M, ds, es, L, hd, ⟨f, st, sg, rfl, hlen, hok, rfl⟩, q⟩ := h
    cases hd with
    | cons h1 h2 => cases h2 with
      | cons h2 h3 =>
      cases h3
      rename_i v0 v1
      have e1 := dp_int h2
      subst e1
      refine rb_parR 2 3 (ra_cons (XL.go (xl_lst L xa_nil) fun p xs H1 s1 hp h1p hxs => ra_1 (XD.go (xd_ixT (fun _ _ => rfl) (xd_name 0 rfl (h1.up (hid_mono s1))) xd_int (show atI [PyData.int f, .list (st.map stepD)] 0 = some (.int f) from rfl)) fun v2 H2 s2 hv2 => ⟨_, _, rfl, ?_⟩))) scLSpans.nd
      cases hxs
      have e2 := dp_int hv2
      subst e2
      have s12 := s1.trans s2
      have g0 : Same (hid M H) (hid (p :: M) H2) := hid_step hp s12
      have Lp : Live (p :: M) H2 := fun b hb => by
        rcases List.mem_cons.mp hb with z | hb
        · subst z; rw [s2 _ _ h1p]; simp
        · exact L.mono s12 b hb
      have k1 := h1.up g0
      refine rb_for (M := p :: M) (xd_ixT (fun _ _ => rfl) (xd_name 0 rfl k1) xd_int (show atI [PyData.int f, .list (st.map stepD)] 1 = some (.list (st.map stepD)) from rfl)) fun H3 s3 => ⟨fun k σ' H' => Same (hid (p :: M) H3) (hid (p :: M) H') ∧ Live (p :: M) H' ∧ Same H H' ∧ ∃ (xs : List V) (a3 a4 : Option V), σ' = [some v0, some (.int sg), some (.ref p), some (.int (offS f (st.take k))), a3, a4] ∧ H' p = some (.lst xs) ∧ DqAll K (hid (p :: M) H') xs (spansOf f (st.take k) sg),
        ⟨Same.refl _, Lp.mono s3, s12.trans s3, [], none, none, rfl, s3 _ _ (s2 _ _ h1p), .nil⟩, fun k σ' H' w => w.1, fun k it hk σ' H' v hw hv => ?_, fun σ' H' hw => ?_⟩
      · obtain ⟨z1, L4, z2, xs, a3, a4, rfl, hp4, hx4⟩ := hw
        obtain ⟨sx, hsx, rfl⟩ := map_get hk
        have hklt : k < st.length := (List.getElem?_eq_some_iff.mp hsx).1
        have hjx := hok sx (List.mem_of_getElem? hsx)
        unfold okJ at hjx
        have hxl : xs.length < 100000 := by
          have := spans_len f (st.take k) sg
          rw [dpa_len hx4]
          rw [List.length_take] at this
          omega
        obtain ⟨t, rfl, ht⟩ := step_at hv
        refine rg_tup (same_seqT hid_le ht) (rgs_cons (rg_name 4 (rgs_cons (rg_name 5 (rgs_nil ?_) scLSpans.nd)) scLSpans.nd))
        refine rb_if (xt_cmpI (M := []) op_gt (xd_mul (xv_name 5 rfl).int (xv_name 1 rfl).int (.inl (by omega))) xd_int) (fun e H5 s5 => ?_) (fun e H5 s5 => rb_nil ?_)
        · have hpos := of_decide_eq_true e
          refine rb_append (M := p :: M) (d := tornD (sx.1, offS f (st.take k), offS f (st.take k) + sx.2)) (xs := xs) (List.mem_cons_self ..) (xv_name 2 rfl) (s5 _ _ hp4)
            (xd_tup (L4.mono s5) (xa_cons (xd_add (xv_name 4 rfl).int (xd_min T.min (xa_cons (xv_name 3 rfl).int (xa_cons (xd_add (xv_name 3 rfl).int (xv_name 5 rfl).int) xa_nil)))) (xa_cons (xd_add (xv_name 4 rfl).int (xd_max T.max (xa_cons (xv_name 3 rfl).int (xa_cons (xd_add (xv_name 3 rfl).int (xv_name 5 rfl).int) xa_nil)))) xa_nil))) hxl fun v6 H6 s6 hv6 => rb_nil ?_
          have s46 := s5.trans s6
          refine rb_set 3 (M := p :: M) (xd_add (xv_name 3 rfl).int (xv_name 5 rfl).int) (fun v7 H7 s7 hv7 => rb_nil ?_) scLSpans.nd
          have e7 := dp_int hv7
          subst e7
          have z7 : Same (hid (p :: M) H6) (hid (p :: M) H7) := by
            have z := hid_mono (M := p :: M) s7
            rw [hid_cons_upd] at z
            exact z
          refine ⟨(z1.trans (hid_mono s46)).trans z7, ((L4.mono s46).upd).mono s7, (same_upd (z2.trans s46) hp).trans s7, xs ++ [v6], some (.int sx.1), some (.int sx.2), ?_, s7 _ _ upd_same, ?_⟩
          · rw [take_snoc hsx, off_snoc]; rfl
          · rw [take_snoc hsx, spans_snoc, if_pos hpos]
            exact dpa_app ((hx4.up (hid_mono s46)).up z7) (.cons (hv6.up z7) .nil)
        · have hneg := of_decide_eq_false e
          refine rb_set 3 (M := p :: M) (xd_add (xv_name 3 rfl).int (xv_name 5 rfl).int) (fun v7 H7 s7 hv7 => rb_nil ?_) scLSpans.nd
          have e7 := dp_int hv7
          subst e7
          have s47 := s5.trans s7
          refine ⟨z1.trans (hid_mono s47), L4.mono s47, z2.trans s47, xs, some (.int sx.1), some (.int sx.2), ?_, s47 _ _ hp4, ?_⟩
          · rw [take_snoc hsx, off_snoc]; rfl
          · rw [take_snoc hsx, spans_snoc, if_neg hneg, List.append_nil]
            exact hx4.up (hid_mono s47)
      · obtain ⟨z1, L4, z2, xs, a3, a4, rfl, hp4, hx4⟩ := hw
        refine rb_retR (XV.go (xv_name 2 rfl) fun H5 s5 => q p xs H5 (z2.trans s5) hp (s5 _ _ hp4) ?_)
        rw [List.length_map, List.take_length] at hx4
        exact (hx4.up (hid_mono (M := p :: M) s5)).up hid_weak
end
end Zn

set_option Elab.async false
set_option linter.all false
set_option maxRecDepth 100000
set_option maxHeartbeats 8000000
namespace Zn
open PySem PySem.Spec PyProof.Rows L2 Dl
abbrev sLOthers : Stmt := top 30
/-! ### plans with one thing otherwise -/
theorem rowsP_inj : ∀ (f : Int) (st st' : List Step), rowsP f st = rowsP f st' → st = st'
  | _, [], [], _ => rfl
  | f, [], s :: st', h => by rw [rowsP_cons] at h; cases h
  | f, s :: st, [], h => by rw [rowsP_cons] at h; cases h
  | f, s :: st, t :: st', h => by
    rw [rowsP_cons, rowsP_cons] at h
    injection h with h1 h2
    injection h1 with a b
    injection b with b1 b2
    have e : s.2 = t.2 := by omega
    rw [e] at h2
    rw [rowsP_inj _ _ _ h2, Prod.ext a e]
theorem okS_init {ini : List Step} {l : Step} (h : okS (ini ++ [l])) : okS ini := ⟨fun s hs => h.1 s (List.mem_append_left _ hs), fun k s t h1 h2 => by
  have k1 : k + 1 < ini.length := (List.getElem?_eq_some_iff.mp h2).1
  exact h.2 k s t (by rw [List.getElem?_append_left (by omega)]; exact h1) (by rw [List.getElem?_append_left k1]; exact h2)⟩
theorem okS_gap {ini : List Step} {l m : Step} (h : okS (ini ++ [l])) (hm : ini.getLast? = some m) : gapJ m l := by
  obtain ⟨ys, rfl⟩ := List.getLast?_eq_some_iff.mp hm
  refine h.2 ys.length m l ?_ ?_
  · rw [List.getElem?_append_left (by simp)]
    simp
  · rw [List.getElem?_append_right (by simp)]
    simp
theorem okS_swap {ini : List Step} {l : Step} {j : Int} (h : okS (ini ++ [l])) (hj : okJ j) (ha : ab j ≤ ab l.2) : okS (ini ++ [(l.1, j)]) := by
  cases e : ini.getLast? with
  | none =>
    have e2 : ini = [] := List.getLast?_eq_none_iff.mp e
    subst e2
    exact okS_one hj
  | some m =>
    have g := okS_gap h e
    refine okS_snoc (okS_init h) e hj ?_
    show ab m.2 + ab j < l.1 - m.1
    unfold gapJ at g
    omega
theorem okS_head {s : Step} {r : List Step} (h : okS (s :: r)) : okS ((s.1 - 1, s.2) :: r) := by
  refine ⟨fun t ht => ?_, fun k a b h1 h2 => ?_⟩
  · rcases List.mem_cons.mp ht with e | e
    · subst e; exact h.1 s (List.mem_cons_self ..)
    · exact h.1 t (List.mem_cons_of_mem _ e)
  · cases k with
    | zero =>
      simp at h1
      subst h1
      have g := h.2 0 s b rfl (by simpa using h2)
      show ab s.2 + ab b.2 < b.1 - (s.1 - 1)
      unfold gapJ at g
      omega
    | succ k => exact h.2 (k + 1) a b (by simpa using h1) (by simpa using h2)
theorem okS_far {st : List Step} {l : Step} (h : okS st) (hl : st.getLast? = some l) : okS (st ++ [(l.1 + 2000, 7)]) := by
  have z := h.1 l (List.mem_of_getLast? hl)
  refine okS_snoc h hl (by unfold okJ; omega) ?_
  show ab l.2 + ab 7 < l.1 + 2000 - l.1
  unfold okJ at z
  unfold ab
  split <;> split <;> omega
def OtherOf (f : Int) (st : List Step) (d : PyData) : Prop := ∃ (f' : Int) (st' : List Step), d = planD f' st' ∧ okS st' ∧ st'.length ≤ 1000 ∧ ¬ (f' = f ∧ rowsP f' st' = rowsP f st)
theorem other_st {f : Int} {st st' : List Step} (h : okS st') (hl : st'.length ≤ 1000) (hn : st' ≠ st) : OtherOf f st (planD f st') := ⟨f, st', rfl, h, hl, fun z => hn (rowsP_inj f _ _ z.2)⟩
theorem sIx_neg (n : Nat) (h : 0 < n) : HT.sIx n n (some (-1)) = n - 1 := by unfold HT.sIx; simp <;> omega
theorem cut_init (ini : List Step) (l : Step) : Dl.cutD ((ini ++ [l]).map stepD) none (some (-1)) = ini.map stepD := by
  unfold Dl.cutD
  rw [sIx_neg _ (by simp)]
  have e : HT.sIx ((ini ++ [l]).map stepD).length 0 none = 0 := by unfold HT.sIx; rfl
  rw [e]
  simp
theorem cut_tail (s : Step) (r : List Step) : Dl.cutD ((s :: r).map stepD) (some 1) none = r.map stepD := by
  unfold Dl.cutD
  have e : HT.sIx ((s :: r).map stepD).length ((s :: r).map stepD).length none = r.length + 1 := by unfold HT.sIx; simp
  have e1 : HT.sIx ((s :: r).map stepD).length 0 (some 1) = 1 := by unfold HT.sIx; simp
  rw [e, e1]
  show List.take (r.length + 1 - 1) (List.drop 1 ((s :: r).map stepD)) = _
  rw [List.map_cons, List.drop_one, List.tail_cons, Nat.add_sub_cancel, ← List.length_map (f := stepD), List.take_length]
theorem re_lstR {X : Cx} {σ : L2.St} {H : Hp} {es : List Expr} {pos : Pos} {Q : VK} (ha : RA X es σ H fun vs H1 => vs.length ≤ 100000 ∧ ∀ p, H1 p = none → Q (.ref p) (upd H1 p (.lst vs))) : RE X (.List es pos) σ H Q :=
  ⟨_, pe_lst ra_, ra_mono ha fun vs H1 h => ⟨small_sz h.1, h.2⟩⟩
def spOthers (K : PySem.W.Frag) : Sp := fun vs H Q _ => ∃ (M : List Addr) (v : V) (f : Int) (st : List Step), vs = [v] ∧ Live M H ∧ Dq K (hid M H) v (planD f st) ∧ st.length ≤ 900 ∧ okS st ∧
  ∀ p xs es H1, Same H H1 → H p = none → H1 p = some (.lst xs) → DqAll K (hid M H1) xs es → (∀ d ∈ es, OtherOf f st d) → es.length ≤ 10 → Q (.ref p) H1
theorem plan_at {K : PySem.W.Frag} {H : Hp} {v : V} {f : Int} {st : List Step} (h : Dq K H v (planD f st)) : ∃ p x, v = .ref p ∧ SqT K H p [.int f, x] ∧ Dq K H x (.list (st.map stepD)) := by
  obtain ⟨p, xs, rfl, hp, hx⟩ := dp_tup h
  cases hx with
  | cons a1 hx => cases hx with
    | cons a2 hx => cases hx; rw [dp_int a1] at hp; exact ⟨p, _, rfl, hp, a2⟩
theorem oth1 {f : Int} {st : List Step} (h : okS st) (hl : st.length ≤ 900) : OtherOf f st (planD (f + 1) st) := ⟨f + 1, st, rfl, h, by omega, fun z => by have := z.1; omega⟩
theorem oth2 {f : Int} {ini : List Step} {l : Step} (h : okS (ini ++ [l])) (hl : (ini ++ [l]).length ≤ 900) : OtherOf f (ini ++ [l]) (planD f ini) :=
  other_st (okS_init h) (by simp at hl; omega) fun z => by have := congrArg List.length z; simp at this
theorem oth3 {f : Int} {s : Step} {r : List Step} (h : okS (s :: r)) (hl : (s :: r).length ≤ 900) : OtherOf f (s :: r) (planD f ((s.1 - 1, s.2) :: r)) :=
  other_st (okS_head h) (by simp at hl ⊢; omega) fun z => by
    injection z with z1 z2
    have := congrArg Prod.fst z1
    simp at this
    omega
theorem oth4 {f : Int} {ini : List Step} {l : Step} {j : Int} (h : okS (ini ++ [l])) (hl : (ini ++ [l]).length ≤ 900) (hj : okJ j) (ha : ab j ≤ ab l.2) (hn : j ≠ l.2) : OtherOf f (ini ++ [l]) (planD f (ini ++ [(l.1, j)])) :=
  other_st (okS_swap h hj ha) (by simp at hl ⊢; omega) fun z => by
    have := List.append_cancel_left z
    injection this with z1 z2
    exact hn (congrArg Prod.snd z1)
theorem oth5 {f : Int} {ini : List Step} {l : Step} (h : okS (ini ++ [l])) (hl : (ini ++ [l]).length ≤ 900) : OtherOf f (ini ++ [l]) (planD f ((ini ++ [l]) ++ [(l.1 + 2000, 7)])) :=
  other_st (okS_far h (by simp)) (by simp at hl ⊢; omega) fun z => by have := congrArg List.length z; simp at this
theorem ab_one {j : Int} (h : okJ j) : ab 1 ≤ ab j ∧ ab (-1) ≤ ab j := by
  unfold okJ at h
  unfold ab
  constructor <;> (split <;> split <;> omega)
section
variable {P : Program} {w : World} {K : PySem.W.Frag} {mg : Str → Option Value} {base : Heap} {C : Addr}
theorem scLOthers : FnScope ["_law_plan", "_law_first", "_law_steps", "_law_found", "_law_far"] ["_law_plan"] (defScope sLOthers) := ⟨rfl, rfl, rfl, by decide +kernel, rfl, by decide +kernel, by decide +kernel⟩
theorem ok_lothers {f : Addr} {fd : FuncData} (T : Nm mg) (F : Df K mg "_law_others" sLOthers ["_law_plan"] f fd) : FnOk P w K mg base CX0 1 f fd ["_law_plan"] (spOthers K) := by
  refine F.F.ok scLOthers (fun vs H Q E h => ?_) (fun cdv A outer s H vs Q E hr h => ?_)
  · obtain ⟨M, v, f, st, rfl, _⟩ := h; rfl
  · obtain ⟨M, v0, f, st, rfl, L, h1, hlen, hok, q⟩ := h
    refine rb_asgR (XV.go (xv_name 0 rfl) fun H1 s1 => ?_)
    obtain ⟨t, x0, rfl, ht, hx0⟩ := plan_at (h1.up (hid_mono s1))
    refine rg_tup (same_seqT hid_le ht) (rgs_cons (rg_name 1 (rgs_cons (rg_name 2 (rgs_nil ?_) scLOthers.nd)) scLOthers.nd))
    have L1 := L.mono s1
    refine rb_setR 3 (re_lstR (XA.go (xa_cons (xd_tup (M := M) L1 (xa_cons (xd_add (xv_name 1 rfl).int xd_int) (xa_cons (xd_name 2 rfl hx0) xa_nil))) xa_nil) fun vs H2 s2 hvs => ⟨by rw [dpa_len hvs]; simp, fun p hp => ?_⟩)) scLOthers.nd
    obtain ⟨y0, rfl, hy0⟩ : ∃ y0, vs = [y0] ∧ Dq K (hid M H2) y0 (planD (f + 1) st) := by
      cases hvs with
      | cons a hx => cases hx; exact ⟨_, rfl, a⟩
    have L2 := L1.mono s2
    have Lp : Live (p :: M) (upd H2 p (.lst [y0])) := L2.cons hp
    have eh : hid (p :: M) (upd H2 p (.lst [y0])) = hid M H2 := hid_cons hp
    have hy : DqAll K (hid (p :: M) (upd H2 p (.lst [y0]))) [y0] [planD (f + 1) st] := by rw [eh]; exact .cons hy0 .nil
    have kst : Dq K (hid (p :: M) (upd H2 p (.lst [y0]))) x0 (.list (st.map stepD)) := by rw [eh]; exact hx0.up (hid_mono s2)
    have hpp : upd H2 p (.lst [y0]) p = some (.lst [y0]) := upd_same
    have sH : Same H (upd H2 p (.lst [y0])) := (s1.trans s2).trans (same_new hp)
    have hp0 : H p = none := (s1.trans s2).free hp
    generalize upd H2 p (.lst [y0]) = H3 at Lp eh hy kst hpp sH ⊢
    refine rb_if (xt_neD (M := p :: M) hr.units (xd_name 2 rfl kst) (xd_lst Lp xa_nil) (shaped_steps st) shaped_nil) (fun e0 H4 s4 => ?_) (fun e0 H4 s4 => rb_nil ?_)
    · rw [eqv_steps] at e0
      have hne : st ≠ [] := fun z => by rw [decide_eq_true z] at e0; cases e0
      obtain ⟨ini, l, hA⟩ : ∃ ini l, st = ini ++ [l] := ⟨_, _, (List.dropLast_concat_getLast hne).symm⟩
      obtain ⟨s0, r, hB⟩ : ∃ s0 r, st = s0 :: r := by
        cases st with
        | nil => exact absurd rfl hne
        | cons a b => exact ⟨a, b, rfl⟩
      have a0 : atI (st.map stepD) 0 = some (stepD s0) := by rw [hB]; exact atI_nat (j := 0) rfl
      have aL : atI (st.map stepD) (-1) = some (stepD l) := last_step (by rw [hA]; simp)
      have cI : Dl.cutD (st.map stepD) none (some (-1)) = ini.map stepD := by rw [hA]; exact cut_init ini l
      have cT : Dl.cutD (st.map stepD) (some 1) none = r.map stepD := by rw [hB]; exact cut_tail s0 r
      have lI : (ini.map stepD).length ≤ 900 := by rw [hA] at hlen; simp at hlen ⊢; omega
      have lT : (r.map stepD).length ≤ 900 := by rw [hB] at hlen; simp at hlen ⊢; omega
      have lS : (st.map stepD).length ≤ 900 := by simpa using hlen
      have hjl : okJ l.2 := hok.1 l (by rw [hA]; simp)
      have k4 := kst.up (hid_mono (M := p :: M) s4)
      have L4 := Lp.mono s4
      have n0 : ([PyData.int s0.1, PyData.int s0.2].length) = 2 := rfl
      refine rb_extend (M := p :: M) (ds := [planD f ini, planD f ((s0.1 - 1, s0.2) :: r)]) (xs := [y0]) (List.mem_cons_self ..) (xv_name 3 rfl) (s4 _ _ hpp) (xd_lst L4 (xa_cons
        (xd_tup (ds := [.int f, .list (ini.map stepD)]) L4 (xa_cons (xv_name 1 rfl).int (xa_cons (((xl_cut L4 (xd_name 2 rfl k4) xo_none (xo_some (M := []) (xd_neg xd_int))).to cI).dd L4) xa_nil)))
        (xa_cons (xd_tup (ds := [.int f, .list (stepD (s0.1 - 1, s0.2) :: r.map stepD)]) L4 (xa_cons (xv_name 1 rfl).int (xa_cons ((xl_cat (ds := [stepD (s0.1 - 1, s0.2)]) L4 (xd_lst L4 (xa_cons (xd_tup L4 (xa_cons (xd_sub (xd_ixT (fun _ _ => rfl) (xd_ixL (fun _ _ => rfl) (xd_name 2 rfl k4) xd_int a0) xd_int (show atI [PyData.int s0.1, PyData.int s0.2] 0 = some (.int s0.1) from rfl)) xd_int) (xa_cons (xd_ixT (fun _ _ => rfl) (xd_ixL (fun _ _ => rfl) (xd_name 2 rfl k4) xd_int a0) xd_int (show atI [PyData.int s0.1, PyData.int s0.2] 1 = some (.int s0.2) from rfl)) xa_nil))) xa_nil))
          (((xl_cut L4 (xd_name 2 rfl k4) (xo_some (M := []) xd_int) xo_none).to cT).dd L4) (by simp at lT ⊢; omega)).dd L4) xa_nil))) xa_nil))) (by simp) fun vs H5 s5 hvs => ?_
      have hy5 : DqAll K (hid (p :: M) (upd H5 p (.lst ([y0] ++ vs)))) ([y0] ++ vs) ([planD (f + 1) st] ++ [planD f ini, planD f ((s0.1 - 1, s0.2) :: r)]) := by
        rw [hid_cons_upd]; exact dpa_app (hy.up (hid_mono (s4.trans s5))) hvs
      have k5 : Dq K (hid (p :: M) (upd H5 p (.lst ([y0] ++ vs)))) x0 (.list (st.map stepD)) := by rw [hid_cons_upd]; exact k4.up (hid_mono s5)
      have L5 : Live (p :: M) (upd H5 p (.lst ([y0] ++ vs))) := (L4.mono s5).upd
      have s05 : Same H (upd H5 p (.lst ([y0] ++ vs))) := same_upd ((sH.trans s4).trans s5) hp0
      have h5p : upd H5 p (.lst ([y0] ++ vs)) p = some (.lst ([y0] ++ vs)) := upd_same
      generalize upd H5 p (.lst ([y0] ++ vs)) = H6 at hy5 k5 L5 s05 h5p ⊢
      obtain ⟨jn, hj1, hj2, hj3⟩ : ∃ jn : Int, atI [PyData.int 1, PyData.int (-1)] (if decide (l.2 = 1) then 1 else 0) = some (.int jn) ∧ (jn = 1 ∨ jn = -1) ∧ jn ≠ l.2 := by
        by_cases z : l.2 = 1
        · rw [decide_eq_true z]
          exact ⟨-1, rfl, .inr rfl, by rw [z]; decide⟩
        · rw [decide_eq_false z]
          exact ⟨1, rfl, .inl rfl, fun e => z e.symm⟩
      have lenv : vs.length = 2 := dpa_len hvs
      have hlv : ([y0] ++ vs).length < 100000 := by simp; omega
      refine rb_append (M := p :: M) (d := planD f (ini ++ [(l.1, jn)])) (xs := [y0] ++ vs) (List.mem_cons_self ..) (xv_name 3 rfl) h5p
        ((xd_tup (ds := [.int f, .list (ini.map stepD ++ [stepD (l.1, jn)])]) L5 (xa_cons (xv_name 1 rfl).int (xa_cons ((xl_cat L5 (((xl_cut L5 (xd_name 2 rfl k5) xo_none (xo_some (M := []) (xd_neg xd_int))).to cI).dd L5) (xd_lst L5 (xa_cons (xd_tup L5 (xa_cons (xd_ixT (fun _ _ => rfl) (xd_ixL (fun _ _ => rfl) (xd_name 2 rfl k5) (xd_neg xd_int) aL) xd_int (show atI [PyData.int l.1, PyData.int l.2] 0 = some (.int l.1) from rfl))
          (xa_cons (xd_ixL (fun _ _ => rfl) (xd_lst L5 (xa_cons xd_int (xa_cons (xd_neg xd_int) xa_nil))) (xd_intB T.int (xd_eqI (xd_ixT (fun _ _ => rfl) (xd_ixL (fun _ _ => rfl) (xd_name 2 rfl k5) (xd_neg xd_int) aL) xd_int (show atI [PyData.int l.1, PyData.int l.2] 1 = some (.int l.2) from rfl)) xd_int)) hj1) xa_nil))) xa_nil)) (by simp at lI ⊢; omega)).dd L5) xa_nil))).to (by unfold planD; rw [List.map_append]; rfl)) hlv fun v7 H7 s7 hv7 => ?_
      have hy7 : DqAll K (hid (p :: M) (upd H7 p (.lst (([y0] ++ vs) ++ [v7])))) (([y0] ++ vs) ++ [v7]) (([planD (f + 1) st] ++ [planD f ini, planD f ((s0.1 - 1, s0.2) :: r)]) ++ [planD f (ini ++ [(l.1, jn)])]) := by
        rw [hid_cons_upd]; exact dpa_app (hy5.up (hid_mono s7)) (.cons hv7 .nil)
      have k7 : Dq K (hid (p :: M) (upd H7 p (.lst (([y0] ++ vs) ++ [v7])))) x0 (.list (st.map stepD)) := by rw [hid_cons_upd]; exact k5.up (hid_mono s7)
      have L7 : Live (p :: M) (upd H7 p (.lst (([y0] ++ vs) ++ [v7]))) := (L5.mono s7).upd
      have s07 : Same H (upd H7 p (.lst (([y0] ++ vs) ++ [v7]))) := same_upd (s05.trans s7) hp0
      have h7p : upd H7 p (.lst (([y0] ++ vs) ++ [v7])) p = some (.lst (([y0] ++ vs) ++ [v7])) := upd_same
      generalize upd H7 p (.lst (([y0] ++ vs) ++ [v7])) = H8 at hy7 k7 L7 s07 h7p ⊢
      have o1 := oth1 (f := f) hok hlen
      have o2 : OtherOf f st (planD f ini) := by rw [hA] at hok hlen ⊢; exact oth2 hok hlen
      have o3 : OtherOf f st (planD f ((s0.1 - 1, s0.2) :: r)) := by rw [hB] at hok hlen ⊢; exact oth3 hok hlen
      have o4 : OtherOf f st (planD f (ini ++ [(l.1, jn)])) := by
        rw [hA] at hok hlen ⊢
        refine oth4 hok hlen ?_ ?_ hj3
        · unfold okJ; omega
        · rcases hj2 with z | z
          · rw [z]; exact (ab_one hjl).1
          · rw [z]; exact (ab_one hjl).2
      have o5 : OtherOf f st (planD f (st ++ [(l.1 + 2000, 7)])) := by
        have z := @oth5 f ini l (by rw [← hA]; exact hok) (by rw [← hA]; exact hlen)
        rw [← hA] at z; exact z
      refine rb_if (xt_eqI (xd_ixT (M := p :: M) (fun _ _ => rfl) (xd_ixL (fun _ _ => rfl) (xd_name 2 rfl k7) (xd_neg xd_int) aL) xd_int (show atI [PyData.int l.1, PyData.int l.2] 1 = some (.int l.2) from rfl)) (xd_neg xd_int)) (fun e1 H9 s9 => ?_) (fun e1 H9 s9 => rb_nil ?_)
      · have hm1 := of_decide_eq_true e1
        have k9 := k7.up (hid_mono (M := p :: M) s9)
        have L9 := L7.mono s9
        have o6 : OtherOf f st (planD f (ini ++ [(l.1, 1)])) := by
          rw [hA] at hok hlen ⊢
          exact oth4 hok hlen (by unfold okJ; omega) (ab_one hjl).1 (by rw [hm1]; decide)
        have hix : ixN ((([y0] ++ vs) ++ [v7])).length (-1) = some 3 := by simp [lenv]; rfl
        refine rb_setIx (M := p :: M) (d := planD f (ini ++ [(l.1, 1)])) (n := -1) (j := 3) (s9 _ _ h7p)
          ((xd_tup (ds := [.int f, .list (ini.map stepD ++ [stepD (l.1, 1)])]) L9 (xa_cons (xv_name 1 rfl).int (xa_cons ((xl_cat L9 (((xl_cut L9 (xd_name 2 rfl k9) xo_none (xo_some (M := []) (xd_neg xd_int))).to cI).dd L9) (xd_lst L9 (xa_cons (xd_tup L9 (xa_cons (xd_ixT (fun _ _ => rfl) (xd_ixL (fun _ _ => rfl) (xd_name 2 rfl k9) (xd_neg xd_int) aL) xd_int (show atI [PyData.int l.1, PyData.int l.2] 0 = some (.int l.1) from rfl))
            (xa_cons xd_int xa_nil))) xa_nil)) (by simp at lI ⊢; omega)).dd L9) xa_nil))).to (by unfold planD; rw [List.map_append]; rfl)) (xv_name 3 rfl) (xd_neg (M := []) xd_int).vint hix fun va Ha sa hva => rb_nil ?_
        obtain ⟨y1, y2, rfl, hy1, hy2⟩ : ∃ y1 y2, vs = [y1, y2] ∧ Dq K (hid (p :: M) H8) y1 (planD f ini) ∧ Dq K (hid (p :: M) H8) y2 (planD f ((s0.1 - 1, s0.2) :: r)) := by
          match vs, lenv, hy7 with
          | [a, b], _, .cons _ (.cons q1 (.cons q2 _)) => exact ⟨a, b, rfl, q1, q2⟩
        have hy0' : Dq K (hid (p :: M) H8) y0 (planD (f + 1) st) := by cases hy7 with | cons a _ => exact a
        have g9 : Same (hid (p :: M) H8) (hid (p :: M) Ha) := (hid_mono s9).trans (hid_mono sa)
        have hyb : DqAll K (hid (p :: M) (upd Ha p (.lst [y0, y1, y2, va]))) [y0, y1, y2, va] [planD (f + 1) st, planD f ini, planD f ((s0.1 - 1, s0.2) :: r), planD f (ini ++ [(l.1, 1)])] := by
          rw [hid_cons_upd]; exact .cons (hy0'.up g9) (.cons (hy1.up g9) (.cons (hy2.up g9) (.cons hva .nil)))
        have kb : Dq K (hid (p :: M) (upd Ha p (.lst [y0, y1, y2, va]))) x0 (.list (st.map stepD)) := by rw [hid_cons_upd]; exact k7.up g9
        have Lb : Live (p :: M) (upd Ha p (.lst [y0, y1, y2, va])) := (L9.mono sa).upd
        have s0b : Same H (upd Ha p (.lst [y0, y1, y2, va])) := same_upd ((s07.trans s9).trans sa) hp0
        have hbp : upd Ha p (.lst [y0, y1, y2, va]) p = some (.lst [y0, y1, y2, va]) := upd_same
        show RB _ _ _ _ (upd Ha p (.lst [y0, y1, y2, va]))
        generalize upd Ha p (.lst [y0, y1, y2, va]) = Hb at hyb kb Lb s0b hbp ⊢
        refine rb_set 4 (M := p :: M) (d := stepD (l.1 + 2000, 7)) (xd_tup Lb (xa_cons (xd_add (xd_ixT (fun _ _ => rfl) (xd_ixL (fun _ _ => rfl) (xd_name 2 rfl kb) (xd_neg xd_int) aL) xd_int (show atI [PyData.int l.1, PyData.int l.2] 0 = some (.int l.1) from rfl)) xd_int) (xa_cons xd_int xa_nil))) (fun vc Hc sc hvc => ?_) scLOthers.nd
        have kc := kb.up (hid_mono (M := p :: M) sc)
        have Lc := Lb.mono sc
        refine rb_append (M := p :: M) (d := planD f (st ++ [(l.1 + 2000, 7)])) (xs := [y0, y1, y2, va]) (List.mem_cons_self ..) (xv_name 3 rfl) (sc _ _ hbp)
          ((xd_tup (ds := [.int f, .list (st.map stepD ++ [stepD (l.1 + 2000, 7)])]) Lc (xa_cons (xv_name 1 rfl).int (xa_cons ((xl_cat Lc (xd_name 2 rfl kc) (xd_lst Lc (xa_cons (xd_name 4 rfl hvc) xa_nil)) (by simp at lS ⊢; omega)).dd Lc) xa_nil))).to (by unfold planD; rw [List.map_append]; rfl)) (by simp) fun vd Hd sd hvd => rb_nil ?_
        refine rb_retR (XV.go (xv_name 3 rfl) fun He se => q p _ _ He ((same_upd ((s0b.trans sc).trans sd) hp0).trans se) hp0 (se _ _ upd_same) (DqAll.up (DqAll.up (dpa_app (hyb.up (hid_mono (sc.trans sd))) (.cons hvd .nil)) (by rw [← hid_cons_upd (p := p) (M := M) (H := Hd)]; exact hid_mono se)) hid_weak) ?_ (by simp))
        intro d hd
        simp only [List.mem_append, List.mem_cons, List.not_mem_nil, or_false] at hd
        rcases hd with (e | e | e | e) | e <;> (rw [e]; assumption)
      · have hyb := hy7.up (hid_mono (M := p :: M) s9)
        have kb := k7.up (hid_mono (M := p :: M) s9)
        have Lb := L7.mono s9
        have s0b := s07.trans s9
        have hbp := s9 _ _ h7p
        refine rb_set 4 (M := p :: M) (d := stepD (l.1 + 2000, 7)) (xd_tup Lb (xa_cons (xd_add (xd_ixT (fun _ _ => rfl) (xd_ixL (fun _ _ => rfl) (xd_name 2 rfl kb) (xd_neg xd_int) aL) xd_int (show atI [PyData.int l.1, PyData.int l.2] 0 = some (.int l.1) from rfl)) xd_int) (xa_cons xd_int xa_nil))) (fun vc Hc sc hvc => ?_) scLOthers.nd
        have kc := kb.up (hid_mono (M := p :: M) sc)
        have Lc := Lb.mono sc
        refine rb_append (M := p :: M) (d := planD f (st ++ [(l.1 + 2000, 7)])) (xs := ([y0] ++ vs) ++ [v7]) (List.mem_cons_self ..) (xv_name 3 rfl) (sc _ _ hbp)
          ((xd_tup (ds := [.int f, .list (st.map stepD ++ [stepD (l.1 + 2000, 7)])]) Lc (xa_cons (xv_name 1 rfl).int (xa_cons ((xl_cat Lc (xd_name 2 rfl kc) (xd_lst Lc (xa_cons (xd_name 4 rfl hvc) xa_nil)) (by simp at lS ⊢; omega)).dd Lc) xa_nil))).to (by unfold planD; rw [List.map_append]; rfl)) (by simp; omega) fun vd Hd sd hvd => rb_nil ?_
        refine rb_retR (XV.go (xv_name 3 rfl) fun He se => q p _ _ He ((same_upd ((s0b.trans sc).trans sd) hp0).trans se) hp0 (se _ _ upd_same) (DqAll.up (DqAll.up (dpa_app (hyb.up (hid_mono (sc.trans sd))) (.cons hvd .nil)) (by rw [← hid_cons_upd (p := p) (M := M) (H := Hd)]; exact hid_mono se)) hid_weak) ?_ (by simp))
        intro d hd
        simp only [List.mem_append, List.mem_cons, List.not_mem_nil, or_false] at hd
        rcases hd with ((e | e | e) | e) | e <;> (rw [e]; assumption)
    · exact rb_retR (XV.go (xv_name 3 rfl) fun H5 s5 => q p [y0] [planD (f + 1) st] H5 (sH.trans (s4.trans s5)) hp0 (s5 _ _ (s4 _ _ hpp)) ((hy.up (hid_mono (s4.trans s5))).up hid_weak) (fun d hd => by rw [List.mem_singleton.mp hd]; exact oth1 hok hlen) (by simp))
end
end Zn

set_option Elab.async false
set_option linter.all false
set_option maxRecDepth 100000
set_option maxHeartbeats 8000000
namespace Zn
open PySem PySem.Spec PyProof.Rows L2 Dl
abbrev sLFresh : Stmt := top 31
/-! ### what is told and what is due -/
theorem jmp_rows : ∀ (f : Int) (st : List Step), (rowsP f st).map jmp = st.map (·.2)
  | _, [] => rfl
  | f, s :: st => by
    rw [rowsP_cons, List.map_cons, List.map_cons, jmp_rows]
    have e : jmp (s.1, f, f + s.2) = s.2 := by show f + s.2 - f = _; omega
    rw [e]
theorem jumps_rows (f : Int) (st : List Step) : (rowsP f st).map (fun r => PyData.int (jmp r)) = st.map fun s => PyData.int s.2 := by
  have h := congrArg (List.map PyData.int) (jmp_rows f st)
  rw [List.map_map, List.map_map] at h
  exact h
theorem ch_rows : ∀ (f : Int) (st : List Step), (rowsP f st).map chD = (chOf f st).map stepD
  | _, [] => rfl
  | f, s :: st => by
    rw [rowsP_cons, List.map_cons, ch_rows]
    rfl
theorem mom_rows : ∀ (f : Int) (st : List Step), (rowsP f st).map (·.1) = st.map (·.1)
  | _, [] => rfl
  | f, s :: st => by rw [rowsP_cons, List.map_cons, mom_rows]; rfl
theorem gaps_spans (f : Int) (st : List Step) : gapsOf (rowsP f st) = spansOf f st 1 := by
  unfold gapsOf spansOf
  congr 1
  funext r
  rw [Int.mul_one]
theorem folds_spans (f : Int) (st : List Step) : foldsOf (rowsP f st) = spansOf f st (-1) := by
  unfold foldsOf spansOf
  congr 1
  funext r
  by_cases h : jmp r < 0
  · rw [if_pos h, if_pos (by omega)]
  · rw [if_neg h, if_neg (by omega)]
/-! ### data that can be shown -/
structure Sm (k W : Nat) (d : PyData) : Prop where
  ls : d.leavesShort 20 = true
  sh : d.showable = true
  nd : d.hasDict = false
  dp : d.depth ≤ k
  wt : d.weight ≤ W
theorem sm_int {i : Int} (h : i.natAbs < 10 ^ 13) : Sm 0 64 (.int i) := by
  have e := int_text_length_le10 (k := 13) (by decide) h
  have hl : i.natAbs.log2 < 50 := by
    by_cases z : i.natAbs = 0
    · rw [z]; decide
    · rw [Nat.log2_lt z]
      exact Nat.lt_trans h (by decide)
  refine ⟨?_, ?_, rfl, Nat.le_refl _, ?_⟩
  · simp only [PyData.leavesShort, decide_eq_true_eq]
    show (Str.ofString (toString i)).length ≤ 20
    rw [PySem.ofString_length]; omega
  · simp only [PyData.showable, decide_eq_true_eq]; omega
  · simp only [PyData.weight]
    split <;> omega
theorem sm_all {k W : Nat} : ∀ {xs : List PyData}, (∀ x ∈ xs, Sm k W x) → PyData.leavesShortAll 20 xs = true ∧ PyData.showableAll xs = true ∧ PyData.hasDictAll xs = false ∧ PyData.depthAll xs ≤ k ∧ PyData.weightAll xs ≤ (W + 1) * xs.length
  | [], _ => ⟨rfl, rfl, rfl, Nat.zero_le _, Nat.zero_le _⟩
  | x :: xs, h => by
    have a := h x (List.mem_cons_self ..)
    obtain ⟨b1, b2, b3, b4, b5⟩ := sm_all (xs := xs) fun y hy => h y (List.mem_cons_of_mem _ hy)
    refine ⟨?_, ?_, ?_, ?_, ?_⟩
    · simp only [PyData.leavesShortAll, a.ls, b1, Bool.and_self]
    · simp only [PyData.showableAll, a.sh, b2, Bool.and_self]
    · simp only [PyData.hasDictAll, a.nd, b3, Bool.or_self]
    · simp only [PyData.depthAll]; have := a.dp; omega
    · simp only [PyData.weightAll, List.length_cons, Nat.mul_add]; have := a.wt; omega
theorem sm_list {k W n : Nat} {xs : List PyData} (h : ∀ x ∈ xs, Sm k W x) (hn : xs.length ≤ n) : Sm (k + 1) ((W + 1) * n) (.list xs) := by
  obtain ⟨b1, b2, b3, b4, b5⟩ := sm_all h
  refine ⟨by simpa only [PyData.leavesShort] using b1, by simpa only [PyData.showable] using b2, by simpa only [PyData.hasDict] using b3, by simp only [PyData.depth]; omega, ?_⟩
  simp only [PyData.weight]
  exact Nat.le_trans b5 (Nat.mul_le_mul_left _ hn)
theorem sm_tup {k W n : Nat} {xs : List PyData} (h : ∀ x ∈ xs, Sm k W x) (hn : xs.length ≤ n) : Sm (k + 1) ((W + 1) * n) (.tuple xs) := by
  obtain ⟨b1, b2, b3, b4, b5⟩ := sm_all h
  refine ⟨by simpa only [PyData.leavesShort] using b1, by simpa only [PyData.showable] using b2, by simpa only [PyData.hasDict] using b3, by simp only [PyData.depth]; omega, ?_⟩
  simp only [PyData.weight]
  exact Nat.le_trans b5 (Nat.mul_le_mul_left _ hn)
theorem Sm.up {k W k' W' : Nat} {d : PyData} (h : Sm k W d) (h1 : k ≤ k') (h2 : W ≤ W') : Sm k' W' d := ⟨h.ls, h.sh, h.nd, Nat.le_trans h.dp h1, Nat.le_trans h.wt h2⟩
theorem Sm.fit {k W : Nat} {d : PyData} (h : Sm k W d) (hW : W ≤ 500000) : d.shown.length ≤ sizeLine := by
  have e := PyData.shown_le 20 (by decide) d h.ls
  have := h.wt
  rw [sizeLine_eq]
  omega
theorem sm_pair {a b : Int} (h1 : a.natAbs < 10 ^ 13) (h2 : b.natAbs < 10 ^ 13) : Sm 1 130 (.tuple [.int a, .int b]) := sm_tup (k := 0) (W := 64) (n := 2) (fun x hx => by
  simp only [List.mem_cons, List.not_mem_nil, or_false] at hx
  rcases hx with e | e
  · rw [e]; exact sm_int h1
  · rw [e]; exact sm_int h2) (by simp)
/-- the offsets of a plan's rows are small -/
theorem rows_small : ∀ (f : Int) (st : List Step), (∀ s ∈ st, okJ s.2) → bigS 2000000000000 st → ∀ r ∈ rowsP f st, (r.1.natAbs < 5 * 10 ^ 12) ∧ (r.2.1.natAbs ≤ f.natAbs + 720 * st.length) ∧ (r.2.2.natAbs ≤ f.natAbs + 720 * st.length)
  | _, [], _, _, r, h => by simp [rowsP, rowsOf, chOf] at h
  | f, s :: st, hj, hb, r, h => by
    rw [rowsP_cons] at h
    have hs := hj s (List.mem_cons_self ..)
    have hbs := hb s (List.mem_cons_self ..)
    unfold okJ at hs
    rcases List.mem_cons.mp h with e | e
    · subst e
      simp only [List.length_cons]
      refine ⟨?_, ?_, ?_⟩
      · have e5 : (5 : Nat) * 10 ^ 12 = 5000000000000 := by decide
        omega
      · omega
      · omega
    · obtain ⟨a, b, c⟩ := rows_small (f + s.2) st (fun t ht => hj t (List.mem_cons_of_mem _ ht)) (fun t ht => hb t (List.mem_cons_of_mem _ ht)) r e
      simp only [List.length_cons]
      refine ⟨a, ?_, ?_⟩ <;> omega
theorem sm_spans {f : Int} {st : List Step} (h : PlanOk f st) (sg : Int) : Sm 2 2489 (.list (spansOf f st sg)) := by
  refine sm_list (k := 1) (W := 130) (n := 19) (fun d hd => ?_) (Nat.le_trans (spans_len f st sg) h.len)
  obtain ⟨r, hr, e⟩ := List.mem_filterMap.mp hd
  obtain ⟨a, b, c⟩ := rows_small f st h.ok.1 h.big r hr
  have e5 : (5 : Nat) * 10 ^ 12 = 5000000000000 := by decide
  have e13 : (10 : Nat) ^ 13 = 10000000000000 := by decide
  have l := h.len
  have f0 := h.f0
  have f1 := h.f1
  split at e
  · cases e
    refine sm_pair ?_ ?_
    · split <;> omega
    · split <;> omega
  · cases e
theorem sm_jumps {f : Int} {st : List Step} (h : PlanOk f st) : Sm 2 2489 (.list (st.map fun s => PyData.int s.2)) := by
  refine (sm_list (k := 0) (W := 64) (n := 19) (fun d hd => ?_) (by simpa using h.len)).up (by decide) (by decide)
  obtain ⟨s, hs, rfl⟩ := List.mem_map.mp hd
  have hj := h.ok.1 s hs
  unfold okJ at hj
  have e13 : (10 : Nat) ^ 13 = 10000000000000 := by decide
  exact sm_int (by omega)
theorem sm_ch {f : Int} {st : List Step} (h : PlanOk f st) : Sm 2 2489 (.list ((chOf f st).map stepD)) := by
  rw [← ch_rows]
  refine sm_list (k := 1) (W := 130) (n := 19) (fun d hd => ?_) (by rw [List.length_map, rowsP_len]; exact h.len)
  obtain ⟨r, hr, rfl⟩ := List.mem_map.mp hd
  obtain ⟨a, b, c⟩ := rows_small f st h.ok.1 h.big r hr
  have e5 : (5 : Nat) * 10 ^ 12 = 5000000000000 := by decide
  have e13 : (10 : Nat) ^ 13 = 10000000000000 := by decide
  have l := h.len
  have f0 := h.f0
  have f1 := h.f1
  exact sm_pair (by omega) (by omega)
/-! ### zones in expressions -/
section
variable {X : Cx} {M : List Addr} {σ : L2.St} {H : Hp} {e o : Expr} {C : Addr} {off : Int} {rs : List Row} {pos apos p1 : Pos} {f : Addr} {fd : FuncData}
theorem xz_v {pa : Addr} (ho : XV X σ H o (.ref pa)) (hz : ZAt X.K C (hid M H) pa off rs) : XZ C X M σ H o off rs := fun H1 s Q q => ho H1 s Q fun H2 s2 => q pa H2 s2 (hz.up (hid_mono (s.trans s2)))
/-- o.m(), a new list -/
theorem xl_z {m : Str} {g : Int → List Row → List PyData} {k : Nat} {pl : Sem Bool} (L : Live M H) (hc : Cls X.K C) (hM : Meth X.K C m f) (h1 : (m == ("base" : Str)) = false) (h2 : (m == ("rows" : Str)) = false) (F : FnOk X.prog X.w X.K X.mg X.base CX0 k f fd ["self"] (spML X.K C g)) (hr : Room k X.A) (hb : Binds X.K fd ["self"] [])
    (ho : XZ C X M σ H o off rs) (hlen : rs.length ≤ 1000)
    (ht : eval (.Call (.Attribute o m apos) [] [] pos) X.env = (do
      let ov ← eval o X.env
      standAt apos.atName
      let (f, first) ← holding [ov] (getMethod ov m pl)
      callWith pos f first (backTo pos (starEach [] X.env)) (backToKw pos (keywordEach [] X.env))) := by rfl) : XL X M σ H (.Call (.Attribute o m apos) [] [] pos) (g off rs) := fun H1 s Q q =>
  ⟨_, pe_meth0 re_ hc hM F hr hb .nil pass0 ht, ho H1 s _ fun y H2 s2 hz => by
    obtain ⟨dx, r, e1, e2⟩ := hz
    exact ⟨y, dx, _, rfl, hid_le _ _ e1, zf_none off r h1 h2, M, y, off, rs, rfl, L.mono (s.trans s2), ⟨dx, r, e1, e2⟩, hlen, fun p xs H3 s3 hp h3 hd => q p xs H3 (s2.trans s3) (s2.free hp) h3 hd⟩⟩
/-- o.first -/
theorem xd_first {pp : Addr} (L : Live M H) (hc : Cls X.K C) (hp : PropOf X.K C "first" pp f) (F : FnOk X.prog X.w X.K X.mg X.base CX0 1 f fd ["self"] (spMD X.K C fun off _ => .int off)) (hr : Room 2 X.A) (hb : Binds X.K fd ["self"] [])
    {pa : Addr} (ho : XV X σ H o (.ref pa)) (hz : ZAt X.K C (hid M H) pa off rs) (hlen : rs.length ≤ 1000) (hab : attributeBase o "first" X.env (eval o X.env) = eval o X.env := by rfl) : XD X M σ H (.Attribute o "first" pos) (.int off) := fun H1 s Q q => by
  have hz0 := hz
  obtain ⟨dx, r, e1, e2⟩ := hz
  exact re_prop (ho.up s) (s _ _ (hid_le _ _ e1)) hc hp F hr hb (fun H2 s2 => ⟨M, pa, off, rs, rfl, L.mono (s.trans s2), hz0.up (hid_mono (s.trans s2)), hlen, fun v H3 s3 hv => q v H3 (s2.trans s3) hv⟩) hab
/-- len(o) -/
theorem xd_lenZ (L : Live M H) (hs : PySem.W.findIn X.K (.ref C) "__len__" = some (some (.ref f))) (hf : PySem.W.isFn X.K (.ref f) = true) (F : FnOk X.prog X.w X.K X.mg X.base CX0 1 f fd ["self"] (spMD X.K C fun _ rs => .int rs.length)) (hr : Room 2 X.A) (hb : Binds X.K fd ["self"] []) (hm : X.mg "len" = none)
    {pa : Addr} (ho : XV X σ H o (.ref pa)) (hz : ZAt X.K C (hid M H) pa off rs) (hlen : rs.length ≤ 1000) (hg : Gl X "len" := by rfl) (he : starEach [o] X.env = (false, eval o X.env) :: starEach [] X.env := by rfl) (hpl : (backTo pos (starEach [] X.env)).any (·.1) = false := by rfl) :
    XD X M σ H (.Call (.Name "len" p1) [o] [] pos) (.int rs.length) := fun H1 s Q q =>
  re_B (call_lenO hs hf F hr hb) (ra_1 (ho H1 s _ fun H2 s2 => by
    have hz2 := hz.up (hid_mono (M := M) (s.trans s2))
    have hz0 := hz2
    obtain ⟨dx, r, e1, e2⟩ := hz2
    exact ⟨pa, dx, _, rfl, hid_le _ _ e1, M, pa, off, rs, rfl, L.mono (s.trans s2), hz0, hlen, fun v H3 s3 hv => ⟨rs.length, dp_int hv, by omega, q _ H3 (s2.trans s3) (.int _)⟩⟩) he) hm (by decide +kernel) hg (by decide) (by decide) he hpl
/-- _law_made(e) -/
theorem xz_made {st : List Step} (L : Live M H) (F : FnOk X.prog X.w X.K X.mg X.base CX0 6 f fd ["_law_plan"] (spMade X.K C)) (hr : Room 6 X.A) (hm : X.mg "_law_made" = some (.ref f)) (hk : PySem.W.keepIn X.K (.ref f) = true) (hb : Binds X.K fd ["_law_plan"] []) (ha : XD X M σ H e (planD off st)) (hlen : st.length ≤ 1000) (hok : okS st)
    (hg : Gl X "_law_made" := by rfl) (he : starEach [e] X.env = (false, eval e X.env) :: starEach [] X.env := by rfl) (hpl : (backTo pos (starEach [] X.env)).any (·.1) = false := by rfl) : XZ C X M σ H (.Call (.Name "_law_made" p1) [e] [] pos) off (rowsP off st) := fun H1 s Q q =>
  re_call F hr hm hk hb (ra_1 (ha H1 s _ fun v H2 s2 hv => ⟨M, v, off, st, rfl, L.mono (s.trans s2), hv, hlen, hok, fun y H3 s3 hz => q y H3 (s2.trans s3) hz⟩) he) hg (by decide) he hpl
end
/-! ### what is told is right -/
def spFresh (K : PySem.W.Frag) : Sp := fun vs H Q _ => ∃ (M : List Addr) (v : V) (f : Int) (st : List Step), vs = [v] ∧ Live M H ∧ Dq K (hid M H) v (planD f st) ∧ PlanOk f st ∧ ∀ H1, Same H H1 → Q (.bl true) H1
section
variable {P : Program} {w : World} {K : PySem.W.Frag} {mg : Str → Option Value} {base : Heap} {C : Addr}
theorem scLFresh : FnScope ["_law_plan", "_law_second", "_law_third", "_law_told", "_law_due", "_law_moment", "_law_jump"] ["_law_plan"] (defScope sLFresh) := ⟨rfl, rfl, rfl, by decide +kernel, rfl, by decide +kernel, by decide +kernel⟩
theorem steps_at {K : PySem.W.Frag} {st : List Step} {d : PyData} (h : d ∈ st.map stepD) : ∃ s ∈ st, d = stepD s := by
  obtain ⟨s, h1, h2⟩ := List.mem_map.mp h
  exact ⟨s, h1, h2.symm⟩
/-- [_law_jump for _law_moment, _law_jump in e] -/
theorem xl_jumps {X : Cx} {M : List Addr} {σ : L2.St} {H : Hp} {e : Expr} {st : List Step} {scope : Scope} {p0 p1 p2 p3 pt : Pos} {kt : Nat} {i j : Nat} (L : Live M H) (hN : X.N.Nodup) (ok : BlkOk X.N X.env.scope scope [("_law_moment", i), ("_law_jump", j)]) (he : XD X M σ H e (.list (st.map stepD))) (hl : st.length ≤ 1000)
    (k : ∀ (s1 : Step) (t : Addr) (p : Addr) (H1 : Hp), SqT X.K (hid (p :: M) H1) t [.int s1.1, .int s1.2] → BG X scope (.Tuple [.Name "_law_moment" p1, .Name "_law_jump" p2] kt pt) (.ref t) (wipe σ [i, j]) H1 fun σ2 H2 => wipe σ2 [i, j] = wipe σ [i, j] ∧ H2 = H1 ∧ ∀ (s : Shared) (H0 : Hp) (C : Addr) (cl : List (Str × Addr)) (fp : List Addr), XV (X.blk s H0 scope (compEnvC scope cl C X.env) fp) σ2 H1 (.Name "_law_jump" p3) (.int s1.2))
    (hc : X.calm = true := by rfl) (hs : ∀ x, foldedSetIterable e X.env x = pure x := by intro _; rfl) : XL X M σ H (.ListComp (.Name "_law_jump" p3) [⟨.Tuple [.Name "_law_moment" p1, .Name "_law_jump" p2] kt pt, e, [], 0⟩] scope p0) (st.map fun s => PyData.int s.2) := by
  refine (xl_comp (own := [("_law_moment", i), ("_law_jump", j)]) (fun d => match d with | .tuple [_, x] => some x | _ => none) L hN he ok (by rw [List.length_map]; omega) (fun p d v H1 hd hp s1 Lp hv => ?_) hc hs).to (fm_map stepD _ (fun s => .int s.2) (fun _ => rfl) st)
  obtain ⟨s1, _, rfl⟩ := steps_at (K := X.K) hd
  obtain ⟨t, rfl, ht⟩ := step_at hv
  refine bg_mono (k s1 t p H1 ht) fun σ2 H2 ⟨h1, h2, h3⟩ => ⟨h1, bt_nil ⟨by rw [h2]; exact Same.refl _, .inl ⟨rfl, _, rfl, fun s0 H0 C0 cl fp => ?_⟩⟩⟩
  subst h2
  exact XV.go (h3 s0 H0 C0 cl fp) fun H3 s3 => ⟨s3, .int _⟩
theorem ok_fresh {f fM fS : Addr} {fd fdM fdS : FuncData} {fg ff fj : Addr} {fdg fdf fdj : FuncData} (T : Nm mg) (Z : ZT K mg C)
    (GM : FnOk P w K mg base CX0 6 fM fdM ["_law_plan"] (spMade K C)) (FM : Df K mg "_law_made" sLMade ["_law_plan"] fM fdM) (GS : FnOk P w K mg base CX0 1 fS fdS ["_law_plan", "_law_sign"] (spL K RLSpans)) (FS : Df K mg "_law_spans" sLSpans ["_law_plan", "_law_sign"] fS fdS)
    (Gg : FnOk P w K mg base CX0 2 fg fdg ["self"] (spML K C fun _ rs => gapsOf rs)) (Mg : Mt K C "gaps" "Zone.gaps" sGaps ["self"] fg fdg) (Gf : FnOk P w K mg base CX0 2 ff fdf ["self"] (spML K C fun _ rs => foldsOf rs)) (Mf : Mt K C "folds" "Zone.folds" sFolds ["self"] ff fdf)
    (Gj : FnOk P w K mg base CX0 2 fj fdj ["self"] (spML K C fun _ rs => rs.map fun r => .int (jmp r))) (Mj : Mt K C "jump_list" "Zone.jump_list" sJumps ["self"] fj fdj)
    (F : Df K mg "_law_fresh_right" sLFresh ["_law_plan"] f fd) : FnG P w K mg base 7 f fd ["_law_plan"] (spFresh K) := by
  refine fn_g F.F scLFresh (fun vs H Q E h => ?_) (fun cdv A outer s H vs Q E hA hr h => ?_)
  · obtain ⟨M, v, f, st, rfl, _⟩ := h; rfl
  · obtain ⟨M, v0, f, st, rfl, L, h1, hok, q⟩ := h
    have hlen : st.length ≤ 1000 := by have := hok.len; omega
    replace Gg := Gg.mono (k := 6) (by decide)
    replace Gf := Gf.mono (k := 6) (by decide)
    replace Gj := Gj.mono (k := 6) (by decide)
    replace GS := GS.mono (k := 6) (by decide)
    refine rb_parR 1 2 (ra_cons (XZ.go (xz_made L GM hr FM.g FM.F.kp FM.b (xd_name 0 rfl h1) hlen hok.ok) fun y1 H1 s1 z1 => ra_1 (XZ.go (xz_made (L.mono s1) GM hr FM.g FM.F.kp FM.b (xd_name 0 rfl (h1.up (hid_mono s1))) hlen hok.ok) fun y2 H2 s2 z2 => ⟨_, _, rfl, ?_⟩))) scLFresh.nd
    have z1' := z1.up (hid_mono s2)
    have s12 := s1.trans s2
    have L2 := L.mono s12
    have k2 := h1.up (hid_mono s12)
    have rl : (rowsP f st).length ≤ 1000 := by rw [rowsP_len]; exact hlen
    refine rb_set 3 (M := M) (d := .list [.list (spansOf f st (-1)), .list (spansOf f st 1), .list (st.map fun s => PyData.int s.2), .list (spansOf f st 1)]) (xd_lst L2
      (xa_cons (((xl_z L2 Z.cl Mf.m (by decide +kernel) (by decide +kernel) Gf hr Mf.b (xz_v (xv_name 1 rfl) z1') rl).to (folds_spans f st)).dd L2)
      (xa_cons (((xl_z L2 Z.cl Mg.m (by decide +kernel) (by decide +kernel) Gg hr Mg.b (xz_v (xv_name 1 rfl) z1') rl).to (gaps_spans f st)).dd L2)
      (xa_cons (((xl_z L2 Z.cl Mj.m (by decide +kernel) (by decide +kernel) Gj hr Mj.b (xz_v (xv_name 2 rfl) z2) rl).to (jumps_rows f st)).dd L2)
      (xa_cons (((xl_z L2 Z.cl Mg.m (by decide +kernel) (by decide +kernel) Gg hr Mg.b (xz_made L2 GM hr FM.g FM.F.kp FM.b (xd_name 0 rfl k2) hlen hok.ok) rl).to (gaps_spans f st)).dd L2) xa_nil))))) (fun v3 H3 s3 hv3 => ?_) scLFresh.nd
    have L3 := L2.mono s3
    have k3 := k2.up (hid_mono s3)
    have spn : ∀ sg : Int, RLSpans [planD f st, .int sg] (spansOf f st sg) := fun sg => ⟨f, st, sg, rfl, hlen, hok.ok.1, rfl⟩
    refine rb_set 4 (M := M) (d := .list [.list (spansOf f st (-1)), .list (spansOf f st 1), .list (st.map fun s => PyData.int s.2), .list (spansOf f st 1)]) (xd_lst L3
      (xa_cons ((xl_call L3 GS hr FS.g FS.F.kp FS.b (xa_cons (xd_name 0 rfl k3) (xa_cons (xd_neg xd_int) xa_nil)) (spn (-1))).dd L3)
      (xa_cons ((xl_call L3 GS hr FS.g FS.F.kp FS.b (xa_cons (xd_name 0 rfl k3) (xa_cons xd_int xa_nil)) (spn 1)).dd L3)
      (xa_cons ((xl_jumps (i := 5) (j := 6) (st := st) L3 scLFresh.nd (blkOk_by (own := [("_law_moment", 5), ("_law_jump", 6)]) (N := ["_law_plan", "_law_second", "_law_third", "_law_told", "_law_due", "_law_moment", "_law_jump"]) (sc := defScope sLFresh) (by decide +kernel))
        (xd_ixT (fun _ _ => rfl) (xd_name 0 rfl k3) xd_int (show atI [PyData.int f, .list (st.map stepD)] 1 = some (.list (st.map stepD)) from rfl)) hlen (fun s1 t p H1 ht s0 H0 C0 cl fp => ?cmp)).dd L3)
      (xa_cons ((xl_call L3 GS hr FS.g FS.F.kp FS.b (xa_cons (xd_name 0 rfl k3) (xa_cons xd_int xa_nil)) (spn 1)).dd L3) xa_nil))))) (fun v4 H4 s4 hv4 => ?_) scLFresh.nd
    case cmp => exact rg_tup (same_seqT hid_le ht) (rgs_cons (rg_name 5 (rgs_cons (rg_name 6 (rgs_nil ⟨rfl, rfl, fun s0 H0 C0 cl fp => xv_name 6 rfl⟩) scLFresh.nd)) scLFresh.nd))
    have smd : Sm 3 (2490 * 4) (.list [.list (spansOf f st (-1)), .list (spansOf f st 1), .list (st.map fun s => PyData.int s.2), .list (spansOf f st 1)]) := sm_list (k := 2) (W := 2489) (n := 4) (fun x hx => by
      simp only [List.mem_cons, List.not_mem_nil, or_false] at hx
      rcases hx with e | e | e | e
      · rw [e]; exact sm_spans hok _
      · rw [e]; exact sm_spans hok _
      · rw [e]; exact sm_jumps hok
      · rw [e]; exact sm_spans hok _) (by simp)
    refine rb_ret (M := M) (xd_reprEq hA hr.units T.rep (xd_name 3 rfl (hv3.up (hid_mono s4))) (xd_name 4 rfl hv4) smd.sh smd.nd (Nat.le_trans smd.dp (by decide)) (smd.fit (by decide))) fun v5 H5 s5 hv5 => ?_
    rw [dp_bl hv5]
    exact q H5 (((s12.trans s3).trans s4).trans s5)
end
end Zn

set_option Elab.async false
set_option linter.all false
set_option maxRecDepth 100000
set_option maxHeartbeats 8000000
namespace Zn
open PySem PySem.Spec PyProof.Rows L2 Dl
/-! ### lists that may change -/
def Ls (H : Hp) (n : Nat) (ps : List Addr) : Prop := ∀ a ∈ ps, ∃ ys, H a = some (.lst ys) ∧ ys.length ≤ n
def Out (ps : List Addr) (H H' : Hp) : Prop := ∀ a o, a ∉ ps → H a = some o → H' a = some o
theorem Out.of {ps : List Addr} {H H' : Hp} (s : Same H H') : Out ps H H' := fun a o _ e => s a o e
theorem Out.trans {ps : List Addr} {H H1 H2 : Hp} (s : Out ps H H1) (t : Out ps H1 H2) : Out ps H H2 := fun a o n e => t a o n (s a o n e)
theorem Out.upd {ps : List Addr} {H H1 : Hp} {p : Addr} {u : HO} (s : Out ps H H1) (hp : p ∈ ps) : Out ps H (upd H1 p u) := fun a o n e => by
  rw [upd_ne (fun z => n (by rw [z]; exact hp))]
  exact s a o n e
theorem Out.hid {ps N : List Addr} {H H' : Hp} (s : Out ps H H') (h : ∀ a ∈ ps, a ∈ N) : Same (hid N H) (hid N H') := fun a o e => by
  have n : a ∉ N := fun z => by unfold Dl.hid at e; rw [if_pos z] at e; cases e
  rw [hid_of n] at e ⊢
  exact s a o (fun z => n (h a z)) e
theorem Ls.mono {H H' : Hp} {n m : Nat} {ps : List Addr} (h : Ls H n ps) (s : Same H H') (hm : n ≤ m) : Ls H' m ps := fun a ha => by
  obtain ⟨ys, e, l⟩ := h a ha
  exact ⟨ys, s _ _ e, Nat.le_trans l hm⟩
theorem hid_many {M N : List Addr} {H H1 : Hp} (hn : ∀ q ∈ N, H q = none) (s : Same H H1) : Same (hid M H) (hid (N ++ M) H1) := fun a o e => by
  have nM : a ∉ M := fun z => by unfold hid at e; rw [if_pos z] at e; cases e
  have e' := hid_le _ _ e
  have nN : a ∉ N := fun z => by rw [hn a z] at e'; cases e'
  rw [hid_of (by simp [nM, nN])]
  exact s _ _ e'
theorem seq_hide {K : PySem.W.Frag} {M N : List Addr} {H : Hp} {t : Addr} {xs : List V} (hN : ∀ q ∈ N, ∃ ys, H q = some (.lst ys)) (h : SqT K (hid M H) t xs) : SqT K (hid (N ++ M) H) t xs := by
  have key : ∀ o, hid M H t = some o → (∀ ys, o ≠ .lst ys) → hid (N ++ M) H t = some o := fun o e ne => by
    have nM : t ∉ M := fun z => by unfold hid at e; rw [if_pos z] at e; cases e
    have e' := hid_le _ _ e
    have nN : t ∉ N := fun z => by
      obtain ⟨ys, ey⟩ := hN t z
      rw [ey] at e'
      cases e'
      exact ne ys rfl
    rw [hid_of (by simp [nM, nN])]
    exact e'
  rcases h with (h | ⟨o, h⟩) | h
  · exact .inl (.inl (key _ h fun ys z => by cases z))
  · exact .inl (.inr ⟨o, key _ h fun ys z => by cases z⟩)
  · exact .inr h
theorem rows_hide {K : PySem.W.Frag} {M N : List Addr} {H : Hp} (hN : ∀ q ∈ N, ∃ ys, H q = some (.lst ys)) : ∀ {rs : List Row} {xs : List V}, DqAll K (hid M H) xs (rs.map rowD) → DqAll K (hid (N ++ M) H) xs (rs.map rowD)
  | [], _, h => by cases h; exact .nil
  | r :: rs, _, h => by
    cases h with
    | cons h1 h2 =>
      obtain ⟨t, rfl, ht⟩ := row_at h1
      exact .cons (.tup (seq_hide hN ht) (.cons (.int _) (.cons (.int _) (.cons (.int _) .nil)))) (rows_hide hN h2)
/-- a new zone holds nothing of lists that were there before it -/
theorem znew_hide {K : PySem.W.Frag} {C : Addr} {H0 H1 : Hp} {M N : List Addr} {y : Addr} {off : Int} {rs : List Row} (h : ZNew K C H0 M H1 y off rs) (s : Same H0 H1) (hN : ∀ q ∈ N, ∃ ys, H0 q = some (.lst ys)) : ZAt K C (hid (N ++ M) H1) y off rs := by
  obtain ⟨hy, dx, r, hr, e1, e2⟩ := h
  have hN1 : ∀ q ∈ N, ∃ ys, H1 q = some (.lst ys) := fun q hq => by
    obtain ⟨ys, e⟩ := hN q hq
    exact ⟨ys, s _ _ e⟩
  have nin : ∀ a, H0 a = none → a ∉ N := fun a ha z => by
    obtain ⟨ys, e⟩ := hN a z
    rw [ha] at e; cases e
  have key : ∀ a o, H0 a = none → hid M H1 a = some o → hid (N ++ M) H1 a = some o := fun a o ha e => by
    have nM : a ∉ M := fun z => by unfold hid at e; rw [if_pos z] at e; cases e
    have nN := nin a ha
    rw [hid_of (by simp [nM, nN])]
    exact hid_le _ _ e
  obtain ⟨a, xs, ea, hp, hx⟩ := dp_lst e2
  cases ea
  exact ⟨dx, _, key _ _ hy e1, .lst (key _ _ hr hp) (rows_hide hN1 hx)⟩
/-! ### rules on such lists -/
section
variable {X : Cx} {M : List Addr} {σ : L2.St} {H H' : Hp} {e a b c o elt tg iter : Expr} {ifs : List Expr} {scope : Scope} {own : List (Str × Nat)} {es : List Expr} {d : PyData} {ds : List PyData} {x : Str} {v : V} {pos p0 p1 p2 p3 p4 : Pos} {D : Ends} {rest : List Stmt}
/-- a[lo:hi], the list's own items -/
theorem re_cutV {lo hi : Option Expr} {m n : Option Int} {t : Addr} {xs : List V} {Q : VK} (ha : XV X σ H a (.ref t)) (ht : H t = some (.lst xs)) (hl : XO X σ H lo m) (hu : XO X σ H hi n) (q : ∀ l H1, Same H H1 → H1 l = none → Q (.ref l) (upd H1 l (.lst (cutV xs m n)))) : RE X (.Subscript a (.Slice lo hi none p2) pos) σ H Q :=
  ⟨_, pe_slice sl_list re_ ro_ ro_, ha H (Same.refl H) _ fun H2 s2 => hl H2 s2 _ fun H3 s3 => hu H3 (s2.trans s3) _ fun H4 s4 => ⟨t, xs, rfl, SqL.of (((s2.trans s3).trans s4) _ _ ht), fun l hl => q l H4 ((s2.trans s3).trans s4) hl⟩⟩
/-- l.append(e), e a new list -/
theorem rb_appendL {l : Addr} {xs : List V} (ho : XV X σ H o (.ref l)) (h1 : H l = some (.lst xs)) (he : XL X M σ H e ds) (hz : xs.length < 100000) (k : ∀ p ys H1, Same H H1 → H p = none → H1 p = some (.lst ys) → ys.length = ds.length → RB X rest D σ (upd H1 l (.lst (xs ++ [.ref p]))))
    (hbase : attributeBase o "append" X.env (eval o X.env) = eval o X.env := by rfl)
    (hfew : ((backTo p2 (starEach [e] X.env)).all (fun x => !x.1) && (backToKw p2 (keywordEach [] X.env)).all (fun x => x.1.isSome) && decide ([e].length + ([] : List Keyword).length + (if ([] : List Keyword).isEmpty then 0 else 1) < 30)) = true := by rfl)
    (hline : (p1.endLine == p2.line) = true := by rfl) (hs : starEach [e] X.env = (false, eval e X.env) :: starEach [] X.env := by rfl) (hplain : (backTo p2 (starEach [] X.env)).any (·.1) = false := by rfl)
    (hsw : swapsWith (.Call (.Attribute o "append" p1) [e] [] p2) none pos.line X.env = pure false := by rfl) : RB X (.Expr (.Call (.Attribute o "append" p1) [e] [] p2) pos :: rest) D σ H :=
  rb_exprR ⟨_, pe_bm PySem.F.plainAttrs_list PySem.F.slot_list_append PySem.F.type_list_append mt_append re_ ra_ hbase hfew hline hs hplain,
    ho H (Same.refl H) _ fun H1 s1 => ⟨.inl ⟨rfl, xs, SqL.of (s1 _ _ h1)⟩, ra_1 (he H1 s1 _ fun p ys H2 s2 hp h2 hv => ⟨l, xs, .ref p, rfl, rfl, (s1.trans s2) _ _ h1, Nat.lt_of_lt_of_le hz (by decide), k p ys H2 (s1.trans s2) (s1.free hp) h2 (dpa_len hv)⟩) hs⟩⟩ hsw
/-- for x in e: x.append(c), e a list of such lists -/
theorem rb_forApp (i : Nat) {ps : List Addr} {n : Nat} {u0 : Option V} {dc : PyData} (hN : X.N.Nodup) (hit : RE X e σ H fun v H1 => ∃ a, v = .ref a ∧ a ∉ ps ∧ H1 a = some (.lst (ps.map V.ref)) ∧ Ls H1 n ps ∧ n + ps.length < 100000 ∧ ∀ H' u, Out ps H1 H' → Ls H' (n + ps.length) ps → RB X rest D (σ.set i u) H')
    (hu : σ.set i u0 = σ) (hil : i < σ.length) (hcst : ∀ M σ' H', XD X M σ' H' c dc) (hi : X.N[i]? = some x := by rfl) (hx : Loc X.env.scope x := by first | exact Or.inl rfl | exact Or.inr rfl) (hf : X.fn x = true ∨ X.env.scope.names.lookup x = some .local := by first | exact .inl rfl | exact .inr rfl)
    (hvis : Vis X.env.scope x := by first | exact Or.inl rfl | exact Or.inr (Or.inl rfl) | exact Or.inr (Or.inr rfl)) (hdb : (x == ("__debug__" : Str)) = false := by decide) (hcd : (x == ("__classdict__" : Str)) = false := by decide)
    (hbase : attributeBase (.Name x p3) "append" X.env (eval (.Name x p3) X.env) = eval (.Name x p3) X.env := by rfl)
    (hfew : ((backTo p2 (starEach [c] X.env)).all (fun x => !x.1) && (backToKw p2 (keywordEach [] X.env)).all (fun x => x.1.isSome) && decide ([c].length + ([] : List Keyword).length + (if ([] : List Keyword).isEmpty then 0 else 1) < 30)) = true := by rfl)
    (hline : (p1.endLine == p2.line) = true := by rfl) (hsE : starEach [c] X.env = (false, eval c X.env) :: starEach [] X.env := by rfl) (hplain : (backTo p2 (starEach [] X.env)).any (·.1) = false := by rfl)
    (hsw : swapsWith (.Call (.Attribute (.Name x p3) "append" p1) [c] [] p2) none p4.line X.env = pure false := by rfl)
    (hp : PassesOwn (model X.prog X.w) X.A X.env X.xe := by exact PassesOwn.never) (hc : X.calm = true := by rfl) (hs : ∀ x, foldedSetIterable e X.env x = pure x := by intro _; rfl) :
    RB X (.For (.Name x p0) e [.Expr (.Call (.Attribute (.Name x p3) "append" p1) [c] [] p2) p4] [] pos :: rest) D σ H :=
  ⟨_, pss_cons (ps_for hp hc (pi_list re_) rg_ rb_ hs) rb_, re_mono hit fun v H1 ⟨a, ev, hna, ha, hls, hn, q⟩ => by
    subst ev
    refine ⟨a, rfl, ⟨_, SqL.of ha⟩, for_list (xs := ps.map V.ref) (fun k σ' H' => (∃ u, σ' = σ.set i u) ∧ Out ps H1 H' ∧ Ls H' (n + k) ps) ⟨⟨u0, hu.symm⟩, .of (Same.refl _), hls⟩ (fun k σ' H' _ w => SqL.of (w.2.1 _ _ hna ha)) (fun k y σ' H' hk w => ?_) fun σ' H' w => ?_⟩
    · obtain ⟨⟨u, rfl⟩, ho, hl⟩ := w
      rw [List.getElem?_map] at hk
      cases ep : ps[k]? with
      | none => rw [ep] at hk; cases hk
      | some p =>
        rw [ep] at hk
        cases hk
        have hpm : p ∈ ps := List.mem_of_getElem? ep
        have hkl : k < ps.length := (List.getElem?_eq_some_iff.mp ep).1
        obtain ⟨ys, ey, ly⟩ := hl p hpm
        refine rg_name i ?_ hN hi hx hf
        rw [List.set_set]
        refine rb_append (M := [p]) (xs := ys) (List.mem_singleton.mpr rfl) (xv_name i (by rw [List.getElem?_set_self hil]) hi hvis hdb hcd) ey (hcst _ _ _) (by omega) (fun v H3 s3 hv => rb_nil ⟨⟨_, rfl⟩, (ho.trans (.of s3)).upd hpm, fun b hb => ?_⟩) hbase hfew hline hsE hplain hsw
        by_cases z : b = p
        · subst z
          exact ⟨_, upd_same, by rw [List.length_append]; simp; omega⟩
        · obtain ⟨zs, ez, lz⟩ := hl b hb
          exact ⟨zs, by rw [upd_ne z]; exact s3 _ _ ez, by omega⟩
    · obtain ⟨⟨u, rfl⟩, ho, hl⟩ := w
      rw [List.length_map] at hl
      exact q H' u ho hl⟩
/-- a comprehension; Pv: what more is known of each item -/
theorem lc_P (f : PyData → Option PyData) (Pv : Addr → V → Hp → Prop) (mono : ∀ p v H1 H2, (∀ b o, b ≠ p → H1 b = some o → H2 b = some o) → Pv p v H1 → Pv p v H2) (L : Live M H) (hN : X.N.Nodup) (hit : XD X M σ H iter (.list ds)) (ok : BlkOk X.N X.env.scope scope own) (hz : ds.length ≤ 100000)
    (hst : ∀ p d v H1, d ∈ ds → H p = none → Same H H1 → Live (p :: M) H1 → Dq X.K (hid (p :: M) H1) v d → BG X scope tg v (wipe σ (own.map (·.2))) H1 fun σ2 H2 => wipe σ2 (own.map (·.2)) = wipe σ (own.map (·.2)) ∧ BT X scope ifs σ2 H2 fun k H3 =>
      Same H1 H3 ∧ ((k = true ∧ ∃ d', f d = some d' ∧ BE X scope elt σ2 H3 fun y H4 => Same H3 H4 ∧ Dq X.K (hid (p :: M) H4) y d' ∧ Pv p y H4) ∨ (k = false ∧ f d = none)))
    {Q : VK} (q : ∀ p xs H2, Same H H2 → H p = none → H2 p = some (.lst xs) → DqAll X.K (hid (p :: M) H2) xs (ds.filterMap f) → (∀ v ∈ xs, Pv p v H2) → Q (.ref p) H2)
    : ∃ wi, PI X tg iter wi ∧ tLc wi (BG X scope tg) (BT X scope ifs) (BE X scope elt) (own.map (·.2)) σ H Q :=
  ⟨_, pi_list re_, hit H (Same.refl H) _ fun v H2 s2 hv => by
    obtain ⟨a, xs, rfl, ha, hx⟩ := dp_lst hv
    have L2' : Live M H2 := L.mono s2
    refine ⟨a, rfl, ⟨xs, SqL.of (hid_le _ _ ha)⟩, fun p hp => ?_⟩
    have hpM : p ∉ M := L2'.fresh hp
    have hp0 : H p = none := s2.free hp
    refine lc_list (xs := xs) (a := a) (fun i H' => Same H2 H' ∧ ∃ acc, H' p = some (.lst acc) ∧ DqAll X.K (hid (p :: M) H') acc ((ds.take i).filterMap f) ∧ ∀ v ∈ acc, Pv p v H') ⟨same_new hp, [], upd_same, by simpa using DqAll.nil, fun v hv => by simp at hv⟩ (fun i H' _ w => SqL.of (w.1 _ _ (hid_le _ _ ha))) (fun i x H' hi w => ?_) (fun H' w => ?_)
    · obtain ⟨sH, acc, hacc, hda, hpv⟩ := w
      obtain ⟨d, hd1, hd2⟩ := dpa_get' hx hi
      have hdm : d ∈ ds := List.mem_of_getElem? hd1
      have etake : ds.take (i + 1) = ds.take i ++ [d] := by
        rw [List.take_add_one, hd1]; rfl
      have hlen : acc.length < sizeLine := by
        rw [dpa_len hda]
        have h1 : ((ds.take i).filterMap f).length ≤ (ds.take i).length := List.length_filterMap_le ..
        have h2 : (ds.take i).length ≤ i := by rw [List.length_take]; omega
        have h3 : i < ds.length := (List.getElem?_eq_some_iff.mp hd1).1
        have h4 : 100000 < sizeLine := by decide
        omega
      have Lp : Live (p :: M) H' := fun b hb => by
        rcases List.mem_cons.mp hb with z | hb
        · subst z; rw [hacc]; simp
        · exact L2'.mono sH b hb
      have kx : Dq X.K (hid (p :: M) H') x d := hd2.up (hid_step hp sH)
      refine bg_mono (hst p d x H' hdm hp0 (s2.trans sH) Lp kx) fun σ2 Ha ⟨hw, hbt⟩ => ⟨hw, bt_mono hbt fun k Hb ⟨sb, hk⟩ => ?_⟩
      have sH' : Same H' Hb := sb
      rcases hk with ⟨hk, d', hf, hbe⟩ | ⟨hk, hf⟩
      · subst hk
        refine iteT (be_mono hbe fun y Hc ⟨sc, hy, hpy⟩ => ?_)
        have sd := sH'.trans sc
        refine ⟨acc, sd _ _ hacc, hlen, fun b o e => ?_, acc ++ [y], upd_same, ?_, fun v hv => ?_⟩
        · have nb : b ≠ p := ne_of_none e hp
          rw [upd_ne nb]
          exact sd _ _ (sH _ _ e)
        · rw [hid_upd_ne, etake, List.filterMap_append]
          have e2 : [d].filterMap f = [d'] := by simp [hf]
          rw [e2]
          exact dpa_app (hda.up (hid_mono sd)) (.cons hy .nil)
        · rcases List.mem_append.mp hv with z | z
          · exact mono p v H' _ (fun b o nb e => by rw [upd_ne nb]; exact sd _ _ e) (hpv v z)
          · rw [List.mem_singleton.mp z]
            exact mono p y Hc _ (fun b o nb e => by rw [upd_ne nb]; exact e) hpy
      · subst hk
        refine iteF ⟨sH.trans sH', acc, sH' _ _ hacc, ?_, fun v hv => mono p v H' _ (fun b o _ e => sH' _ _ e) (hpv v hv)⟩
        rw [etake, List.filterMap_append]
        have e2 : [d].filterMap f = [] := by simp [hf]
        rw [e2, List.append_nil]
        exact hda.up (hid_mono sH')
    · obtain ⟨sH, acc, hacc, hda, hpv⟩ := w
      have e1 : ds.take xs.length = ds := by rw [dpa_len hx]; exact List.take_length
      rw [e1] at hda
      exact q p acc H' (s2.trans sH) hp0 hacc hda hpv⟩
theorem re_compP (f : PyData → Option PyData) (Pv : Addr → V → Hp → Prop) (mono : ∀ p v H1 H2, (∀ b o, b ≠ p → H1 b = some o → H2 b = some o) → Pv p v H1 → Pv p v H2) (L : Live M H) (hN : X.N.Nodup) (hit : XD X M σ H iter (.list ds)) (ok : BlkOk X.N X.env.scope scope own) (hz : ds.length ≤ 100000)
    (hst : ∀ p d v H1, d ∈ ds → H p = none → Same H H1 → Live (p :: M) H1 → Dq X.K (hid (p :: M) H1) v d → BG X scope tg v (wipe σ (own.map (·.2))) H1 fun σ2 H2 => wipe σ2 (own.map (·.2)) = wipe σ (own.map (·.2)) ∧ BT X scope ifs σ2 H2 fun k H3 =>
      Same H1 H3 ∧ ((k = true ∧ ∃ d', f d = some d' ∧ BE X scope elt σ2 H3 fun y H4 => Same H3 H4 ∧ Dq X.K (hid (p :: M) H4) y d' ∧ Pv p y H4) ∨ (k = false ∧ f d = none)))
    {Q : VK} (q : ∀ p xs H2, Same H H2 → H p = none → H2 p = some (.lst xs) → DqAll X.K (hid (p :: M) H2) xs (ds.filterMap f) → (∀ v ∈ xs, Pv p v H2) → Q (.ref p) H2)
    (hc : X.calm = true := by rfl) (hs : ∀ x, foldedSetIterable iter X.env x = pure x := by intro _; rfl) : RE X (.ListComp elt [⟨tg, iter, ifs, 0⟩] scope pos) σ H Q := by
  obtain ⟨wi, h1, h2⟩ := lc_P f Pv mono L hN hit ok hz hst q
  exact ⟨_, pe_lc (own := own) hc hN h1 ok (fun _ _ _ _ _ => bg_) (fun _ _ _ _ _ => bt_) (fun _ _ _ _ _ => be_) hs, h2⟩
/-- x = [..], on one line -/
theorem rb_setC (i : Nat) {py : Pos} {spos : Pos} (f : PyData → Option PyData) (Pv : Addr → V → Hp → Prop) (mono : ∀ p v H1 H2, (∀ b o, b ≠ p → H1 b = some o → H2 b = some o) → Pv p v H1 → Pv p v H2) (L : Live M H) (hN : X.N.Nodup) (hit : XD X M σ H iter (.list ds)) (ok : BlkOk X.N X.env.scope scope own) (hz : ds.length ≤ 100000)
    (hst : ∀ p d v H1, d ∈ ds → H p = none → Same H H1 → Live (p :: M) H1 → Dq X.K (hid (p :: M) H1) v d → BG X scope tg v (wipe σ (own.map (·.2))) H1 fun σ2 H2 => wipe σ2 (own.map (·.2)) = wipe σ (own.map (·.2)) ∧ BT X scope ifs σ2 H2 fun k H3 =>
      Same H1 H3 ∧ ((k = true ∧ ∃ d', f d = some d' ∧ BE X scope elt σ2 H3 fun y H4 => Same H3 H4 ∧ Dq X.K (hid (p :: M) H4) y d' ∧ Pv p y H4) ∨ (k = false ∧ f d = none)))
    (q : ∀ p xs H2, Same H H2 → H p = none → H2 p = some (.lst xs) → DqAll X.K (hid (p :: M) H2) xs (ds.filterMap f) → (∀ v ∈ xs, Pv p v H2) → RB X rest D (σ.set i (some (.ref p))) H2)
    (hi : X.N[i]? = some x := by rfl) (hx : X.env.scope.names.lookup x = some .local := by rfl) (hsw : swapsWith (.ListComp elt [⟨tg, iter, ifs, 0⟩] scope pos) (some (.Name x py)) spos.line X.env = pure true := by exact sw_true rfl rfl rfl rfl)
    (hc : X.calm = true := by rfl) (hs : ∀ x, foldedSetIterable iter X.env x = pure x := by intro _; rfl) : RB X (.Assign [.Name x py] (.ListComp elt [⟨tg, iter, ifs, 0⟩] scope pos) spos :: rest) D σ H := by
  obtain ⟨wi, h1, h2⟩ := lc_P (Q := fun v H1 => RB X rest D (σ.set i (some v)) H1) f Pv mono L hN hit ok hz hst q
  exact ⟨_, pss_cons (ps_setLc (own := own) hc hN hi hx hsw h1 ok (fun _ _ _ _ _ => bg_) (fun _ _ _ _ _ => bt_) (fun _ _ _ _ _ => be_) hs) rb_, h2⟩
/-! ### in, ==, != -/
theorem xd_inD (hu : X.A.units + 65 < cLine) (ha : XD X M σ H a d) (hb : XD X M σ H b (.list ds)) (s1 : SeqAt.shaped d = true) (s2 : SeqAt.shaped (.list ds) = true) (hm : behindInMarks .In b = false := by rfl) : XD X M σ H (.Compare a [.In] [b] pos) (.bool (ds.any fun z => PyData.eqv z d)) :=
  xd_cmp (op_inD hu) ha hb (fun H1 v w s hv hw Q q => ⟨d, ds, (hv.up hid_le).dp, (hw.up hid_le).dp, s1, s2, q _ H1 (Same.refl _) (.bl _)⟩) hm
theorem xt_neB {k : Bool} (ha : XD X M σ H a (.bool k)) (hb : XD X M σ H b (.bool k)) : XT X σ H (.Compare a [.NotEq] [b] pos) false :=
  xt_cmp op_ne ha hb fun H1 v w s hv hw Q q => by
    rw [dp_bl hv, dp_bl hw]
    exact ⟨rfl, by rw [decide_eq_true rfl]; exact q H1 (Same.refl _)⟩
variable {C : Addr} {off off' : Int} {rs rs' : List Row} {f : Addr} {fd : FuncData}
/-- what == on zones wants -/
structure ZQ (P : Program) (w : World) (K : PySem.W.Frag) (mg : Str → Option Value) (base : Heap) (C f : Addr) (fd : FuncData) : Prop where
  E : ClsEq K C f
  G : FnOk P w K mg base CX0 1 f fd ["self", "other"] (spEqZ K C)
  b : Binds K fd ["self", "other"] []
  sub : PySem.W.subIn K (.type "list") (.ref C) = some false
theorem xt_eqZ (L : Live M H) (W : ZQ X.prog X.w X.K X.mg X.base C f fd) (hr : Room 1 X.A) (ha : XZ C X M σ H a off rs) (hb : XZ C X M σ H b off' rs') (hm : behindInMarks .Eq b = false := by first | exact nomark _ | rfl) : XT X σ H (.Compare a [.Eq] [b] pos) (decide (off = off' ∧ rs = rs')) := fun H1 s Q q =>
  ⟨_, pt_cmpR (op_eqO (tb := fun _ => True) W.E W.G hr W.b) re_ re_ hm, ha H1 s _ fun y H2 s2 hz => hb H2 (s.trans s2) _ fun y' H3 s3 hz' => by
    have hz3 := hz.up (hid_mono s3)
    have h1 := hz3
    have h2 := hz'
    obtain ⟨dx, r, e1, _⟩ := h1
    obtain ⟨dy, r', e2, _⟩ := h2
    exact ⟨y, dx, _, rfl, hid_le _ _ e1, .inl ⟨y', dy, _, rfl, hid_le _ _ e2⟩, M, y, y', off, rs, rfl, L.mono ((s.trans s2).trans s3), hz3, .inl ⟨off', rs', hz', fun H4 s4 => ⟨_, rfl, _, rfl, q H4 ((s2.trans s3).trans s4)⟩⟩⟩⟩
theorem xt_neZ (L : Live M H) (W : ZQ X.prog X.w X.K X.mg X.base C f fd) (hr : Room 2 X.A) (ha : XZ C X M σ H a off rs) (hb : XZ C X M σ H b off' rs') (hm : behindInMarks .NotEq b = false := by first | exact nomark _ | rfl) : XT X σ H (.Compare a [.NotEq] [b] pos) (!decide (off = off' ∧ rs = rs')) := fun H1 s Q q =>
  ⟨_, pt_cmpR (op_neO W.E W.G hr W.b) re_ re_ hm, ha H1 s _ fun y H2 s2 hz => hb H2 (s.trans s2) _ fun y' H3 s3 hz' => by
    have hz3 := hz.up (hid_mono s3)
    have h1 := hz3
    have h2 := hz'
    obtain ⟨dx, r, e1, _⟩ := h1
    obtain ⟨dy, r', e2, _⟩ := h2
    exact ⟨y, dx, _, y', dy, _, rfl, hid_le _ _ e1, rfl, hid_le _ _ e2, M, y, y', off, rs, rfl, L.mono ((s.trans s2).trans s3), hz3, .inl ⟨off', rs', hz', fun H4 s4 => ⟨_, rfl, _, rfl, q H4 ((s2.trans s3).trans s4)⟩⟩⟩⟩
theorem xt_eqZL {p : Addr} {xs : List V} (L : Live M H) (W : ZQ X.prog X.w X.K X.mg X.base C f fd) (hr : Room 1 X.A) (ha : XZ C X M σ H a off rs) (hb : XV X σ H b (.ref p)) (hp : H p = some (.lst xs)) (hm : behindInMarks .Eq b = false := by first | exact nomark _ | rfl) : XT X σ H (.Compare a [.Eq] [b] pos) false := fun H1 s Q q =>
  ⟨_, pt_cmpR (op_eqO (tb := fun _ => True) W.E W.G hr W.b) re_ re_ hm, ha H1 s _ fun y H2 s2 hz => hb H2 (s.trans s2) _ fun H3 s3 => by
    have hz3 := hz.up (hid_mono s3)
    have h1 := hz3
    obtain ⟨dx, r, e1, _⟩ := h1
    have hp3 := ((s.trans s2).trans s3) _ _ hp
    exact ⟨y, dx, _, rfl, hid_le _ _ e1, .inr ⟨W.sub, p, xs, rfl, hp3⟩, M, y, p, off, rs, rfl, L.mono ((s.trans s2).trans s3), hz3, .inr ⟨xs, hp3, fun H4 s4 => ⟨_, rfl, _, rfl, q H4 ((s2.trans s3).trans s4)⟩⟩⟩⟩
/-- e in a zone -/
theorem xd_inZ (L : Live M H) (hs : PySem.W.findIn X.K (.ref C) "__contains__" = some (some (.ref f))) (hf : PySem.W.isFn X.K (.ref f) = true) (F : FnOk X.prog X.w X.K X.mg X.base CX0 2 f fd ["self", "x"] (spCont X.K C)) (hr : Room 2 X.A) (hb : Binds X.K fd ["self", "x"] [])
    (ha : XD X M σ H a d) (hz : XZ C X M σ H b off rs) (hlen : rs.length ≤ 1000) (hm : behindInMarks .In b = false := by first | exact nomark _ | rfl) : XD X M σ H (.Compare a [.In] [b] pos) (.bool (inB rs d)) := fun H1 s Q q =>
  ⟨_, pe_cmpR (op_inO hs hf F hr hb) re_ re_ hm, ha H1 s _ fun v H2 s2 hv => hz H2 (s.trans s2) _ fun y H3 s3 hz3 => by
    have h1 := hz3
    obtain ⟨dx, r, e1, _⟩ := h1
    exact ⟨y, dx, _, rfl, hid_le _ _ e1, M, y, off, rs, v, d, rfl, L.mono ((s.trans s2).trans s3), hz3, hlen, hv.up (hid_mono s3), fun H4 s4 => ⟨_, rfl, q _ H4 ((s2.trans s3).trans s4) (.bl _)⟩⟩⟩
theorem xw_andB {k1 k2 : Bool} {rest : List Expr} (ha : XT X σ H a k1) (hb : k1 = true → XW X σ H (.BoolOp .And (b :: rest) pos) k2) : XW X σ H (.BoolOp .And (a :: b :: rest) pos) (k1 && k2) := by
  cases k1 with
  | true => exact xw_andT ha (hb rfl)
  | false => exact xw_andF ha
theorem xt_notInD {ds : List PyData} (hu : X.A.units + 65 < cLine) (ha : XD X M σ H a d) (hb : XD X M σ H b (.list ds)) (s1 : SeqAt.shaped d = true) (s2 : SeqAt.shaped (.list ds) = true) (hm : behindInMarks .NotIn b = false := by rfl) : XT X σ H (.Compare a [.NotIn] [b] pos) (!ds.any fun z => PyData.eqv z d) :=
  xt_cmp (op_notInD hu) ha hb (fun H1 v w s hv hw Q q => ⟨d, ds, (hv.up hid_le).dp, (hw.up hid_le).dp, s1, s2, q H1 (Same.refl _)⟩) hm
/-- len of a zone, whatever the expression -/
theorem xd_lenX (L : Live M H) (hs : PySem.W.findIn X.K (.ref C) "__len__" = some (some (.ref f))) (hf : PySem.W.isFn X.K (.ref f) = true) (F : FnOk X.prog X.w X.K X.mg X.base CX0 1 f fd ["self"] (spMD X.K C fun _ rs => .int rs.length)) (hr : Room 2 X.A) (hb : Binds X.K fd ["self"] []) (hm : X.mg "len" = none)
    (ho : XZ C X M σ H o off rs) (hlen : rs.length ≤ 1000) (hg : Gl X "len" := by rfl) (he : starEach [o] X.env = (false, eval o X.env) :: starEach [] X.env := by rfl) (hpl : (backTo pos (starEach [] X.env)).any (·.1) = false := by rfl) :
    XD X M σ H (.Call (.Name "len" p1) [o] [] pos) (.int rs.length) := fun H1 s Q q =>
  re_B (call_lenO hs hf F hr hb) (ra_1 (ho H1 s _ fun y H2 s2 hz => by
    have hz0 := hz
    obtain ⟨dx, r, e1, e2⟩ := hz
    exact ⟨y, dx, _, rfl, hid_le _ _ e1, M, y, off, rs, rfl, L.mono (s.trans s2), hz0, hlen, fun v H3 s3 hv => ⟨rs.length, dp_int hv, by omega, q _ H3 (s2.trans s3) (.int _)⟩⟩) he) hm (by decide +kernel) hg (by decide) (by decide) he hpl
/-- a comprehension that leaves all out -/
theorem re_lcNone (Pd : PyData → Prop) (L : Live M H) (hN : X.N.Nodup) (hit : RE X iter σ H fun v H1 => Same H H1 ∧ ∃ ds, Dq X.K (hid M H1) v (.list ds) ∧ ∀ d ∈ ds, Pd d) (ok : BlkOk X.N X.env.scope scope own)
    (hst : ∀ p d v H1, Pd d → H p = none → Same H H1 → Live (p :: M) H1 → Dq X.K (hid (p :: M) H1) v d → BG X scope tg v (wipe σ (own.map (·.2))) H1 fun σ2 H2 => wipe σ2 (own.map (·.2)) = wipe σ (own.map (·.2)) ∧ BT X scope ifs σ2 H2 fun k H3 => Same H1 H3 ∧ k = false)
    {Q : VK} (q : ∀ p H2, Same H H2 → H p = none → H2 p = some (.lst []) → Q (.ref p) H2)
    (hc : X.calm = true := by rfl) (hs : ∀ x, foldedSetIterable iter X.env x = pure x := by intro _; rfl) : RE X (.ListComp elt [⟨tg, iter, ifs, 0⟩] scope pos) σ H Q :=
  ⟨_, pe_lc (own := own) hc hN (pi_list re_) ok (fun _ _ _ _ _ => bg_) (fun _ _ _ _ _ => bt_) (fun _ _ _ _ _ => be_) hs, re_mono hit fun v H2 ⟨s2, ds, hv, hP⟩ => by
    obtain ⟨a, xs, rfl, ha, hx⟩ := dp_lst hv
    have L2' : Live M H2 := L.mono s2
    refine ⟨a, rfl, ⟨xs, SqL.of (hid_le _ _ ha)⟩, fun p hp => ?_⟩
    have hp0 : H p = none := s2.free hp
    refine lc_list (xs := xs) (a := a) (fun i H' => Same H2 H' ∧ H' p = some (.lst [])) ⟨same_new hp, upd_same⟩ (fun i H' _ w => SqL.of (w.1 _ _ (hid_le _ _ ha))) (fun i x H' hi w => ?_) (fun H' w => q p H' (s2.trans w.1) hp0 w.2)
    obtain ⟨sH, hacc⟩ := w
    obtain ⟨d, hd1, hd2⟩ := dpa_get' hx hi
    have Lp : Live (p :: M) H' := fun b hb => by
      rcases List.mem_cons.mp hb with z | hb
      · subst z; rw [hacc]; simp
      · exact L2'.mono sH b hb
    refine bg_mono (hst p d x H' (hP d (List.mem_of_getElem? hd1)) hp0 (s2.trans sH) Lp (hd2.up (hid_step hp sH))) fun σ2 Ha ⟨hw, hbt⟩ => ⟨hw, bt_mono hbt fun k Hb ⟨sb, hk⟩ => ?_⟩
    subst hk
    exact iteF ⟨sH.trans sb, sb _ _ hacc⟩⟩
/-- _law_fresh_right(e) -/
theorem xd_fresh {st : List Step} (L : Live M H) (F : FnG X.prog X.w X.K X.mg X.base 7 f fd ["_law_plan"] (spFresh X.K)) (hA : X.A.guards = some []) (hr : Room 7 X.A) (hm : X.mg "_law_fresh_right" = some (.ref f)) (hk : PySem.W.keepIn X.K (.ref f) = true) (hb : Binds X.K fd ["_law_plan"] []) (ha : XD X M σ H e (planD off st)) (hok : PlanOk off st)
    (hg : Gl X "_law_fresh_right" := by rfl) (he : starEach [e] X.env = (false, eval e X.env) :: starEach [] X.env := by rfl) (hpl : (backTo pos (starEach [] X.env)).any (·.1) = false := by rfl) : XD X M σ H (.Call (.Name "_law_fresh_right" p1) [e] [] pos) (.bool true) := fun H1 s Q q =>
  re_callG F hA hr hm hk hb (ra_1 (ha H1 s _ fun v H2 s2 hv => ⟨M, v, off, st, rfl, L.mono (s.trans s2), hv, hok, fun H3 s3 => q _ H3 (s2.trans s3) (.bl true)⟩) he) hg (by decide) he hpl
end
/-! ### what is asked of a zone with odd values -/
theorem lay_ints : ∀ ns : List Int, PyData.canLayAll0 (ns.map PyData.int) = true
  | [] => by simp [PyData.canLayAll0]
  | r :: rs => by
    rw [List.map_cons]
    show (PyData.canLay0 (.int r) && PyData.canLayAll0 (rs.map PyData.int)) = true
    rw [lay_ints rs]
    simp [PyData.canLay0]
theorem depth_ints : ∀ ns : List Int, PyData.depthAll (ns.map PyData.int) = 0
  | [] => by simp [PyData.depthAll]
  | r :: rs => by
    rw [List.map_cons]
    show max (PyData.depth (.int r)) (PyData.depthAll (rs.map PyData.int)) = 0
    rw [depth_ints rs]
    simp [PyData.depth]
theorem shaped_ints (ns : List Int) : SeqAt.shaped (.list (ns.map PyData.int)) = true := by
  unfold SeqAt.shaped
  rw [show PyData.canLay0 (.list (ns.map PyData.int)) = PyData.canLayAll0 (ns.map PyData.int) by simp [PyData.canLay0], lay_ints, show PyData.depth (.list (ns.map PyData.int)) = PyData.depthAll (ns.map PyData.int) + 1 by simp [PyData.depth], depth_ints]
  simp
theorem shaped_int (n : Int) : SeqAt.shaped (.int n) = true := by
  unfold SeqAt.shaped
  simp [PyData.canLay0, PyData.depth]
/-- values that are no numbers -/
def Odd (d : PyData) : Prop := d = .none ∨ d = .str "0" ∨ d = .list [.int 0] ∨ d = .tuple [.int 0, .int 0]
theorem odd_shaped {d : PyData} (h : Odd d) : SeqAt.shaped d = true := by
  rcases h with e | e | e | e <;> (rw [e]; decide +kernel)
theorem odd_any {d : PyData} (h : Odd d) : ∀ ns : List Int, ((ns.map PyData.int).any fun z => PyData.eqv z d) = false
  | [] => rfl
  | n :: ns => by
    rw [List.map_cons, List.any_cons, odd_any h ns]
    rcases h with e | e | e | e <;> (rw [e]; simp [PyData.eqv])
theorem odd_inB {d : PyData} (h : Odd d) (rs : List Row) : inB rs d = false := by
  rcases h with e | e | e | e <;> (rw [e]; rfl)
theorem odd_kit {d : PyData} (h : Odd d) : kitB (tyN d) "bool" = some false := by
  rcases h with e | e | e | e <;> (rw [e]; decide +kernel)
theorem room65 {k : Nat} {A : Around} (r : Room k A) : A.units + 65 < cLine := by have := r.un; omega
/-- one change near the first offset -/
def condK : List Step → Bool
  | [] => false
  | s :: r => (!([PyData.int 1, PyData.int 720].any fun z => PyData.eqv z (.int s.2))) && (decide ((if s.2 < 0 then -s.2 else s.2) < 300) && decide ((((s :: r).map stepD).length : Int) = 1))
theorem cond_one {st : List Step} (h : condK st = true) : ∃ s, st = [s] ∧ s.2 ≠ 1 ∧ -300 < s.2 ∧ s.2 < 300 := by
  cases st with
  | nil => cases h
  | cons s r =>
    unfold condK at h
    simp [PyData.eqv] at h
    obtain ⟨⟨h1, h2⟩, h3, h4⟩ := h
    have hr : r = [] := List.length_eq_zero_iff.mp (by omega)
    refine ⟨s, by rw [hr], fun z => h1 z.symm, ?_, ?_⟩ <;> (split at h3 <;> omega)
theorem okR_single {r : Row} (h : isJumpB (jmp r) = true) : okR [r] := by
  intro k x hx
  cases k with
  | zero => cases hx; exact ⟨h, rfl⟩
  | succ k => simp at hx
theorem okR_nil : okR [] := fun k x hx => by simp at hx
theorem okR_near {f : Int} {s : Step} (h1 : s.2 ≠ 1) (h2 : -300 < s.2) (h3 : s.2 < 300) : okR (rowsOf (f + 1) (chOf f [s])) := by
  refine okR_single ?_
  show isJumpB (f + s.2 - (f + 1)) = true
  unfold isJumpB ab
  simp
  refine ⟨by omega, ?_⟩
  split <;> omega
end Zn

set_option Elab.async false
set_option linter.all false
set_option maxRecDepth 100000
set_option maxHeartbeats 16000000
namespace Zn
open PySem PySem.Spec PyProof.Rows L2 Dl
abbrev sLaw : Stmt := top 32
/-- all that the law calls -/
structure Al (P : Program) (w : World) (K : PySem.W.Frag) (mg : Str → Option Value) (base : Heap) (C : Addr) : Prop where
  T : Nm mg
  W : ∃ fZ fdZ et, ZMk P w K mg base C fZ fdZ et
  cell : ∃ f fd, Df K mg "_law_cell" sCell ["_law_script", "_law_index"] f fd ∧ FnOk P w K mg base CX0 1 f fd ["_law_script", "_law_index"] (spCell K)
  bag : ∃ f fd, Df K mg "_law_bag" sBag ["_law_cell_here"] f fd ∧ FnOk P w K mg base CX0 1 f fd ["_law_cell_here"] spBag
  zone : ∃ f fd, Df K mg "_law_zone" sZone ["_law_bag_here", "_law_most"] f fd ∧ FnOk P w K mg base CX0 2 f fd ["_law_bag_here", "_law_most"] (spZone K)
  chg : ∃ f fd, Df K mg "_law_changes" sLChanges ["_law_plan"] f fd ∧ FnOk P w K mg base CX0 1 f fd ["_law_plan"] (spL K RLChanges)
  made : ∃ f fd, Df K mg "_law_made" sLMade ["_law_plan"] f fd ∧ FnOk P w K mg base CX0 6 f fd ["_law_plan"] (spMade K C)
  spans : ∃ f fd, Df K mg "_law_spans" sLSpans ["_law_plan", "_law_sign"] f fd ∧ FnOk P w K mg base CX0 1 f fd ["_law_plan", "_law_sign"] (spL K RLSpans)
  others : ∃ f fd, Df K mg "_law_others" sLOthers ["_law_plan"] f fd ∧ FnOk P w K mg base CX0 1 f fd ["_law_plan"] (spOthers K)
  fresh : ∃ f fd, Df K mg "_law_fresh_right" sLFresh ["_law_plan"] f fd ∧ FnG P w K mg base 7 f fd ["_law_plan"] (spFresh K)
  mC : ∃ f fd, Mt K C "changes" "Zone.changes" sChanges ["self"] f fd ∧ FnOk P w K mg base CX0 1 f fd ["self"] (spML K C fun _ rs => rs.map chD)
  mJ : ∃ f fd, Mt K C "jump_list" "Zone.jump_list" sJumps ["self"] f fd ∧ FnOk P w K mg base CX0 2 f fd ["self"] (spML K C fun _ rs => rs.map fun r => .int (jmp r))
  mG : ∃ f fd, Mt K C "gaps" "Zone.gaps" sGaps ["self"] f fd ∧ FnOk P w K mg base CX0 2 f fd ["self"] (spML K C fun _ rs => gapsOf rs)
  mF : ∃ f fd, Mt K C "folds" "Zone.folds" sFolds ["self"] f fd ∧ FnOk P w K mg base CX0 2 f fd ["self"] (spML K C fun _ rs => foldsOf rs)
  first : ∃ pp f fd, PropOf K C "first" pp f ∧ Binds K fd ["self"] [] ∧ FnOk P w K mg base CX0 1 f fd ["self"] (spMD K C fun off _ => .int off)
  len : ∃ f fd, PySem.W.findIn K (.ref C) "__len__" = some (some (.ref f)) ∧ PySem.W.isFn K (.ref f) = true ∧ Binds K fd ["self"] [] ∧ FnOk P w K mg base CX0 1 f fd ["self"] (spMD K C fun _ rs => .int rs.length)
  cont : ∃ f fd, PySem.W.findIn K (.ref C) "__contains__" = some (some (.ref f)) ∧ PySem.W.isFn K (.ref f) = true ∧ Binds K fd ["self", "x"] [] ∧ FnOk P w K mg base CX0 2 f fd ["self", "x"] (spCont K C)
  eq : ∃ f fd, ZQ P w K mg base C f fd
def spLaw (K : PySem.W.Frag) : Sp := fun vs H Q _ => ∃ (a : Addr) (ns : List Int), vs = [.ref a] ∧ SqL K H a (ns.map V.int) ∧ ∀ H1, Same H H1 → Q (.bl true) H1
/-- the handed items -/
def prL (c : Int × Int) : PyData := .list [.int c.1, .int c.2]
theorem items_prL : ∀ cs : List (Int × Int), Items (cs.map prL) cs := fun cs => ⟨by rw [List.length_map], fun i it h => by
  rw [List.getElem?_map] at h
  cases e : cs[i]? with
  | none => rw [e] at h; cases h
  | some c => rw [e] at h; cases h; exact ⟨c, rfl, .inr rfl⟩⟩
/-- a new list, not the one being built -/
def PvL (H0 : Hp) (p : Addr) (v : V) (H : Hp) : Prop := ∃ q, v = .ref q ∧ q ≠ p ∧ H0 q = none ∧ ∃ ys, H q = some (.lst ys) ∧ ys.length ≤ 2
theorem pv_all {H0 H : Hp} {p : Addr} : ∀ {xs : List V}, (∀ v ∈ xs, PvL H0 p v H) → ∃ hs : List Addr, xs = hs.map V.ref ∧ p ∉ hs ∧ (∀ q ∈ hs, H0 q = none) ∧ Ls H 2 hs
  | [], _ => ⟨[], rfl, by simp, by simp, fun a h => by simp at h⟩
  | v :: xs, h => by
    obtain ⟨q, rfl, nq, hq, ys, e, l⟩ := h v (List.mem_cons_self ..)
    obtain ⟨hs, rfl, a1, a2, a3⟩ := pv_all (xs := xs) fun w hw => h w (List.mem_cons_of_mem _ hw)
    refine ⟨q :: hs, rfl, ?_, ?_, ?_⟩
    · intro z
      rcases List.mem_cons.mp z with z | z
      · exact nq z.symm
      · exact a1 z
    · intro b hb
      rcases List.mem_cons.mp hb with z | z
      · rw [z]; exact hq
      · exact a2 b z
    · intro b hb
      rcases List.mem_cons.mp hb with z | z
      · rw [z]; exact ⟨ys, e, l⟩
      · exact a3 b z
theorem same_out {H H1 H2 : Hp} {ps : List Addr} (hf : ∀ a ∈ ps, H a = none) (s : Same H H1) (o : Out ps H1 H2) : Same H H2 := fun a u e => o a u (fun z => by rw [hf a z] at e; cases e) (s a u e)
/-- the state behind a lap -/
def Lap (K : PySem.W.Frag) (C : Addr) (H : Hp) (p y : Addr) (vp : V) (f : Int) (st : List Step) (k : Nat) (Hc : Hp) : Prop := ∃ (N hs : List Addr), Same H Hc ∧ (∀ a ∈ N, H a = none) ∧ p ∈ N ∧ (∀ a ∈ hs, a ∈ N) ∧ p ∉ hs ∧ Hc p = some (.lst (hs.map V.ref)) ∧ Ls Hc (2 + 30 * k) hs ∧ hs.length ≤ 20 + k ∧
  Live N Hc ∧ ZAt K C (hid N Hc) y f (rowsP f st) ∧ Dq K (hid N Hc) vp (planD f st)
theorem Lap.mono {K : PySem.W.Frag} {C : Addr} {H : Hp} {p y : Addr} {vp : V} {f : Int} {st : List Step} {k : Nat} {Hc Hd : Hp} (h : Lap K C H p y vp f st k Hc) (s : Same Hc Hd) : Lap K C H p y vp f st k Hd := by
  obtain ⟨N, hs, a1, a2, a3, a4, a5, a6, a7, a8, a9, a10, a11⟩ := h
  exact ⟨N, hs, a1.trans s, a2, a3, a4, a5, s _ _ a6, a7.mono s (Nat.le_refl _), a8, a9.mono s, a10.up (hid_mono s), a11.up (hid_mono s)⟩
theorem xl_dq {K : PySem.W.Frag} {M : List Addr} {H H1 : Hp} {p : Addr} {xs : List V} {ds : List PyData} (L : Live M H) (hp : H p = none) (h1 : H1 p = some (.lst xs)) (hd : DqAll K (hid M H1) xs ds) : Dq K (hid M H1) (.ref p) (.list ds) := .lst (by rw [hid_of (L.fresh hp)]; exact h1) hd
section
variable {P : Program} {w : World} {K : PySem.W.Frag} {mg : Str → Option Value} {base : Heap} {C : Addr}
theorem scLaw : FnScope ["_law_script", "_law_index", "_law_bag_here", "_law_plan", "_law_handed", "_law_zone_here", "_law_lap", "_law_told", "_law_due", "_law_each", "_law_moments", "_law_odd", "_law_change", "_law_moment", "_law_jump", "_law_other"] ["_law_script"] (defScope sLaw) := ⟨rfl, rfl, rfl, by decide +kernel, rfl, by decide +kernel, by decide +kernel⟩
theorem ok_law {f : Addr} {fd : FuncData} (A : Al P w K mg base C) (F : Fun K "law" "law" sLaw f fd) : FnG P w K mg base 8 f fd ["_law_script"] (spLaw K) := by
  obtain ⟨fZ, fdZ, et, W⟩ := A.W
  obtain ⟨fc, fdc, FC, GC⟩ := A.cell
  obtain ⟨fb, fdb, FB, GB⟩ := A.bag
  obtain ⟨fzo, fdzo, FZo, GZo⟩ := A.zone
  obtain ⟨fch, fdch, FCh, GCh⟩ := A.chg
  obtain ⟨fm, fdm, FM, GM⟩ := A.made
  obtain ⟨fs, fds, FS, GS⟩ := A.spans
  obtain ⟨fo, fdo, FO, GO⟩ := A.others
  obtain ⟨ff, fdf, FF, GF⟩ := A.fresh
  obtain ⟨f1, fd1, M1, G1⟩ := A.mC
  obtain ⟨f2, fd2, M2, G2⟩ := A.mJ
  obtain ⟨f3, fd3, M3, G3⟩ := A.mG
  obtain ⟨f4, fd4, M4, G4⟩ := A.mF
  obtain ⟨pp, f5, fd5, P5, B5, G5⟩ := A.first
  obtain ⟨f6, fd6, I6, J6, B6, G6⟩ := A.len
  obtain ⟨f7, fd7, I7, J7, B7, G7⟩ := A.cont
  obtain ⟨f8, fd8, Q8⟩ := A.eq
  have T := A.T
  have Z := W.Z
  refine fn_g F scLaw (fun vs H Q E h => ?_) (fun cdv A outer s H vs Q E hA hr h => ?_)
  · obtain ⟨a, ns, rfl, _⟩ := h; rfl
  · obtain ⟨a, ns, rfl, hS, q⟩ := h
    have hr6 := hr.mono (show 6 ≤ 7 by decide)
    have hr5 := hr.mono (show 5 ≤ 7 by decide)
    have hr2 := hr.mono (show 2 ≤ 7 by decide)
    have hr1 := hr.mono (show 1 ≤ 7 by decide)
    refine rb_range T.rng (XD.go (M := []) (xd_max T.max (xa_cons xd_int (xa_cons (xd_min T.min (xa_cons xd_int (xa_cons (xv_lenS T.len (xv_name 0 rfl) hS).int xa_nil))) xa_nil))) fun v H0 s0 hv => ?_)
    have ev := dp_int hv
    subst ev
    generalize hnn : (if (if ((ns.map V.int).length : Int) < 8 then ((ns.map V.int).length : Int) else 8) > 2 then (if ((ns.map V.int).length : Int) < 8 then ((ns.map V.int).length : Int) else 8) else 2) = nn
    have hn2 : 0 ≤ nn ∧ nn ≤ 100 := by
      rw [← hnn]
      split <;> split <;> omega
    refine ⟨nn.toNat, by rw [Int.toNat_of_nonneg hn2.1], by omega, fun k σ' H' => Same H H' ∧ ∃ u1 u2 u3 u4 u5 u6 u7 u8 u9 u10 u11 u12 u13 u14 u15, σ' = [some (.ref a), u1, u2, u3, u4, u5, u6, u7, u8, u9, u10, u11, u12, u13, u14, u15], ⟨s0, none, none, none, none, none, none, none, none, none, none, none, none, none, none, none, rfl⟩, fun k σ' H' hk w => ?_, fun σ' H' w => ?_⟩
    · obtain ⟨sH0, u1, u2, u3, u4, u5, u6, u7, u8, u9, u10, u11, u12, u13, u14, u15, rfl⟩ := w
      refine rg_name 1 ?_ scLaw.nd
      -- the bag, the plan
      refine rb_setR 2 (re_call GB hr1 FB.g FB.F.kp FB.b (ra_1 (re_call GC hr1 FC.g FC.F.kp FC.b (ra_cons (XV.go (xv_name 0 rfl) fun Ha sa => ra_1 (XV.go (xv_name 1 rfl) fun Hb sb => ⟨a, ns, k, rfl, ((sH0.trans sa).trans sb).seq hS, fun nc Hc sc => ⟨nc, rfl, fun b H1 s1 hb hB => ?_⟩⟩)))))) scLaw.nd
      have s01 : Same H' H1 := ((sa.trans sb).trans sc).trans s1
      have hb0 : H' b = none := ((sa.trans sb).trans sc).free hb
      refine rb_setR 3 (re_call GZo hr2 FZo.g FZo.F.kp FZo.b (ra_cons (XV.go (xv_name 2 rfl) fun H2 s2 => ra_1 (XV.go xv_int fun H3 s3 => ⟨[], b, 6, 0, rfl, by decide, by decide, Live.nil, hB.up (s2.trans s3) (Nat.le_refl _), by decide, fun f st vp H4 hp4 sB hB4 hvp => ?_⟩)))) scLaw.nd
      have s04 : Same H' H4 := fun x o e => sB x o (ne_of_none e hb0) ((s01.trans (s2.trans s3)) x o e)
      replace hvp : Dq K (hid [] H4) vp (planD f st) := hvp.up hid_weak
      have hlen : st.length ≤ 1000 := by have := hp4.len; omega
      have hok := hp4.ok
      clear sB hB4
      -- what is handed
      refine rb_setC 4 (own := [("_law_change", 12)]) (M := []) (fun d => match d with | .tuple [x, z] => some (.list [x, z]) | _ => none) (PvL H4) (fun p v Ha Hb hk ⟨q, e1, e2, e3, ys, e4, e5⟩ => ⟨q, e1, e2, e3, ys, hk q _ e2 e4, e5⟩) Live.nil scLaw.nd
        ((xl_call Live.nil GCh hr1 FCh.g FCh.F.kp FCh.b (xa_cons (xd_name 3 rfl hvp) xa_nil) ⟨f, st, rfl, hlen, rfl⟩).dd Live.nil)
        (blkOk_by (own := [("_law_change", 12)]) (N := ["_law_script", "_law_index", "_law_bag_here", "_law_plan", "_law_handed", "_law_zone_here", "_law_lap", "_law_told", "_law_due", "_law_each", "_law_moments", "_law_odd", "_law_change", "_law_moment", "_law_jump", "_law_other"]) (sc := defScope sLaw) (by decide +kernel)) (by rw [List.length_map, ch_len]; omega)
        (fun p d v Ha hd hp sa Lp hv s00 H00 C00 cl fp => ?hcmp) (fun p xs H5 s5 hp h5 hx hpv => ?_)
      case hcmp =>
        obtain ⟨c, hc1, rfl⟩ := List.mem_map.mp hd
        refine rg_name 12 ?_ scLaw.nd
        refine ⟨rfl, bt_nil ⟨Same.refl _, .inl ⟨rfl, prL c, rfl, fun s00 H00 C00 cl fp => ?_⟩⟩⟩
        refine XL.go (xl_listT T.lst Lp (xd_name 12 rfl hv)) fun qa ys Hb sb hq h2 hy => ?_
        have nqp : qa ≠ p := fun z => Lp p (List.mem_cons_self ..) (by rw [← z]; exact hq)
        exact ⟨sb, .lst (by rw [hid_of (Lp.fresh hq)]; exact h2) hy, qa, rfl, nqp, sa.free hq, ys, h2, by rw [dpa_len hy]; exact Nat.le_refl _⟩
      obtain ⟨hs, rfl, hph, hhs, hLs⟩ := pv_all hpv
      have ecs : ((chOf f st).map stepD).filterMap (fun d => match d with | .tuple [x, z] => some (.list [x, z]) | _ => none) = (chOf f st).map prL := fm_map stepD _ prL (fun _ => rfl) _
      rw [ecs] at hx
      have hhl : hs.length ≤ 20 := by
        have z := dpa_len hx
        rw [List.length_map, List.length_map, ch_len] at z
        have := hp4.len
        omega
      have kh : Dq K (hid [] H5) (.ref p) (.list ((chOf f st).map prL)) := .lst (by rw [hid_nil]; exact h5) (hx.up hid_weak)
      have hvp5 := hvp.up (hid_mono (M := []) s5)
      -- the zone
      refine rb_setR 5 (xzn_make (M := []) Live.nil W hr5 (xd_ixT (fun _ _ => rfl) (xd_name 3 rfl hvp5) xd_int (show atI [PyData.int f, .list (st.map stepD)] 0 = some (.int f) from rfl)) (xd_name 4 rfl kh) (.inl rfl) (items_prL _) (okR_of hok) (by rw [ch_len]; exact hlen) (by rfl) (by rfl) (by rfl) (by rfl) H5 (Same.refl _) _ fun y H6 H7 s6 s7 hz => ?_) scLaw.nd
      have hN5 : ∀ q ∈ p :: hs, ∃ ys, H6 q = some (.lst ys) := fun q hq => by
        rcases List.mem_cons.mp hq with z | z
        · rw [z]; exact ⟨_, s6 _ _ h5⟩
        · obtain ⟨ys, e, _⟩ := hLs q z
          exact ⟨ys, s6 _ _ e⟩
      have hz7 := znew_hide hz s7 hN5
      have hfr : ∀ q ∈ p :: hs, H4 q = none := fun q hq => by
        rcases List.mem_cons.mp hq with z | z
        · rw [z]; exact hp
        · exact hhs q z
      have hvp7 : Dq K (hid ((p :: hs) ++ []) H7) vp (planD f st) := hvp.up (hid_many hfr (s5.trans (s6.trans s7)))
      rw [List.append_nil] at hz7 hvp7
      have s07 : Same H' H7 := s04.trans (s5.trans (s6.trans s7))
      have live7 : Live (p :: hs) H7 := fun q hq z => by
        obtain ⟨ys, e⟩ := hN5 q hq
        rw [s7 _ _ e] at z
        cases z
      have lap0 : Lap K C H' p y vp f st 0 H7 := ⟨p :: hs, hs, s07, fun q hq => s04.free (hfr q hq), List.mem_cons_self .., fun q hq => List.mem_cons_of_mem _ hq, hph, s7 _ _ (s6 _ _ h5), hLs.mono (s6.trans s7) (by omega), by omega, live7, hz7, hvp7⟩
      -- the laps
      refine rb_range T.rng (XV.go xv_int fun H8 s8 => ⟨2, rfl, by decide, fun j σ' Hc => Lap K C H' p y vp f st j Hc ∧ ∃ w6 w7 w8 w9, σ' = [some (.ref a), some (.int k), some (.ref b), some vp, some (.ref p), some (.ref y), w6, w7, w8, w9, u10, u11, u12, u13, u14, u15], ⟨lap0.mono s8, u6, u7, u8, u9, rfl⟩, fun j σ' Hc hj w => ?_, fun σ' Hc w => ?_⟩)
      · obtain ⟨⟨N, hs, sHc, hN, hpN, hsN, hph, hpc, hLc, hhl, Lc, zc, vc⟩, w6, w7, w8, w9, rfl⟩ := w
        have hrl : (rowsP f st).length ≤ 1000 := by rw [rowsP_len]; exact hlen
        refine rg_name 6 ?_ scLaw.nd
        -- told
        refine rb_setR 7 (re_lstR (ra_cons (XD.go (xd_first Lc Z.cl P5 G5 hr2 B5 (xv_name 5 rfl) zc hrl) fun v1 Ha sa hv1 => ra_cons (XL.go (M := N) (xl_z (Lc.mono sa) Z.cl M1.m (by decide +kernel) (by decide +kernel) G1 hr1 M1.b (xz_v (xv_name 5 rfl) (zc.up (hid_mono sa))) hrl) fun p1 x1 Hb sb q1 g1 d1 =>
          ra_cons (XL.go (M := N) (xl_z (Lc.mono (sa.trans sb)) Z.cl M2.m (by decide +kernel) (by decide +kernel) G2 hr2 M2.b (xz_v (xv_name 5 rfl) (zc.up (hid_mono (sa.trans sb)))) hrl) fun p2 x2 Hd sd q2 g2 d2 =>
          ra_cons (XL.go (M := N) (xl_z (Lc.mono ((sa.trans sb).trans sd)) Z.cl M3.m (by decide +kernel) (by decide +kernel) G3 hr2 M3.b (xz_v (xv_name 5 rfl) (zc.up (hid_mono ((sa.trans sb).trans sd)))) hrl) fun p3 x3 He se q3 g3 d3 =>
          ra_1 (XL.go (M := N) (xl_z (Lc.mono (((sa.trans sb).trans sd).trans se)) Z.cl M4.m (by decide +kernel) (by decide +kernel) G4 hr2 M4.b (xz_v (xv_name 5 rfl) (zc.up (hid_mono (((sa.trans sb).trans sd).trans se)))) hrl) fun p4 x4 Hf sf q4 g4 d4 => ⟨by simp, fun t ht => ?_⟩))))))) scLaw.nd
        rw [ch_rows] at d1
        rw [jumps_rows] at d2
        rw [gaps_spans] at d3
        rw [folds_spans] at d4
        have e1 := dp_int hv1
        subst e1
        have sab := sa.trans sb
        have sad := sab.trans sd
        have sae := sad.trans se
        have saf := sae.trans sf
        have k1 : Dq K (hid N Hf) (.ref p1) _ := (xl_dq (Lc.mono sa) q1 g1 d1).up (hid_mono ((sd.trans se).trans sf))
        have k2 : Dq K (hid N Hf) (.ref p2) _ := (xl_dq (Lc.mono sab) q2 g2 d2).up (hid_mono (se.trans sf))
        have k3 : Dq K (hid N Hf) (.ref p3) _ := (xl_dq (Lc.mono sad) q3 g3 d3).up (hid_mono sf)
        have k4 : Dq K (hid N Hf) (.ref p4) _ := xl_dq (Lc.mono sae) q4 g4 d4
        have i1 : Hf p1 = some (.lst x1) := sf _ _ (se _ _ (sd _ _ g1))
        have i2 : Hf p2 = some (.lst x2) := sf _ _ (se _ _ g2)
        have i3 : Hf p3 = some (.lst x3) := sf _ _ g3
        have n1 : Hc p1 = none := sa.free q1
        have n2 : Hc p2 = none := sab.free q2
        have n3 : Hc p3 = none := sad.free q3
        have n4 : Hc p4 = none := sae.free q4
        have l1 : x1.length ≤ 1000 := by rw [dpa_len d1, List.length_map, ch_len]; exact hlen
        have l2 : x2.length ≤ 1000 := by rw [dpa_len d2, List.length_map]; exact hlen
        have l3 : x3.length ≤ 1000 := by rw [dpa_len d3]; exact Nat.le_trans (spans_len f st 1) hlen
        have l4 : x4.length ≤ 1000 := by rw [dpa_len d4]; exact Nat.le_trans (spans_len f st (-1)) hlen
        have Lf := Lc.mono saf
        have kt : Dq K (hid N (upd Hf t (.lst [.int f, .ref p1, .ref p2, .ref p3, .ref p4]))) (.ref t) (.list [.int f, .list ((chOf f st).map stepD), .list (st.map fun s => PyData.int s.2), .list (spansOf f st 1), .list (spansOf f st (-1))]) := by
          rw [hid_new Lf ht]
          have g : Same (hid N Hf) (upd (hid N Hf) t (.lst [.int f, .ref p1, .ref p2, .ref p3, .ref p4])) := same_new (hid_free (M := N) ht)
          exact .lst upd_same (.cons (.int f) (.cons (k1.up g) (.cons (k2.up g) (.cons (k3.up g) (.cons (k4.up g) .nil)))))
        have sft : Same Hf (upd Hf t (.lst [.int f, .ref p1, .ref p2, .ref p3, .ref p4])) := same_new ht
        have htt : upd Hf t (.lst [.int f, .ref p1, .ref p2, .ref p3, .ref p4]) t = some (.lst [.int f, .ref p1, .ref p2, .ref p3, .ref p4]) := upd_same
        have ntc : Hc t = none := saf.free ht
        generalize upd Hf t (.lst [.int f, .ref p1, .ref p2, .ref p3, .ref p4]) = H10 at kt sft htt ⊢
        have s10 : Same Hc H10 := saf.trans sft
        have L10 := Lc.mono s10
        have v10 := vc.up (hid_mono (M := N) s10)
        -- due
        refine rb_set 8 (M := N) (d := .list [.int f, .list ((chOf f st).map stepD), .list (st.map fun s => PyData.int s.2)]) (xd_lst L10
          (xa_cons (xd_ixT (fun _ _ => rfl) (xd_name 3 rfl v10) xd_int (show atI [PyData.int f, .list (st.map stepD)] 0 = some (.int f) from rfl))
          (xa_cons ((xl_call L10 GCh hr1 FCh.g FCh.F.kp FCh.b (xa_cons (xd_name 3 rfl v10) xa_nil) ⟨f, st, rfl, hlen, rfl⟩).dd L10)
          (xa_cons ((xl_jumps (i := 13) (j := 14) (st := st) L10 scLaw.nd (blkOk_by (own := [("_law_moment", 13), ("_law_jump", 14)]) (N := ["_law_script", "_law_index", "_law_bag_here", "_law_plan", "_law_handed", "_law_zone_here", "_law_lap", "_law_told", "_law_due", "_law_each", "_law_moments", "_law_odd", "_law_change", "_law_moment", "_law_jump", "_law_other"]) (sc := defScope sLaw) (by decide +kernel))
            (xd_ixT (fun _ _ => rfl) (xd_name 3 rfl v10) xd_int (show atI [PyData.int f, .list (st.map stepD)] 1 = some (.list (st.map stepD)) from rfl)) hlen (fun s1 t p H1 ht s0 H0 C0 cl fp => ?cmp)).dd L10) xa_nil)))) (fun v11 H11 s11 hv11 => ?_) scLaw.nd
        case cmp => exact rg_tup (same_seqT hid_le ht) (rgs_cons (rg_name 13 (rgs_cons (rg_name 14 (rgs_nil ⟨rfl, rfl, fun s0 H0 C0 cl fp => xv_name 14 rfl⟩) scLaw.nd)) scLaw.nd))
        have L11 := L10.mono s11
        have v11' := v10.up (hid_mono (M := N) s11)
        have z11 := zc.up (hid_mono (M := N) (s10.trans s11))
        have spn : ∀ sg : Int, RLSpans [planD f st, .int sg] (spansOf f st sg) := fun sg => ⟨f, st, sg, rfl, hlen, hok.1, rfl⟩
        have smd : Sm 3 (2490 * 5) (.list [.int f, .list ((chOf f st).map stepD), .list (st.map fun s => PyData.int s.2), .list (spansOf f st 1), .list (spansOf f st (-1))]) := sm_list (k := 2) (W := 2489) (n := 5) (fun x hx => by
          simp only [List.mem_cons, List.not_mem_nil, or_false] at hx
          have f0 := hp4.f0
          have f1 := hp4.f1
          have e13 : (10 : Nat) ^ 13 = 10000000000000 := by decide
          rcases hx with e | e | e | e | e
          · rw [e]; exact (sm_int (by omega)).up (by decide) (by decide)
          · rw [e]; exact sm_ch hp4
          · rw [e]; exact sm_jumps hp4
          · rw [e]; exact sm_spans hp4 _
          · rw [e]; exact sm_spans hp4 _) (by simp)
        refine rb_ifF (XW.t (xw_orF (xt_reprNe (M := N) hA hr.units T.rep (xd_name 7 rfl (kt.up (hid_mono s11))) (((xl_cat L11 (xd_name 8 rfl hv11) (xd_lst L11
          (xa_cons ((xl_call L11 GS hr1 FS.g FS.F.kp FS.b (xa_cons (xd_name 3 rfl v11') (xa_cons xd_int xa_nil)) (spn 1)).dd L11)
          (xa_cons ((xl_call L11 GS hr1 FS.g FS.F.kp FS.b (xa_cons (xd_name 3 rfl v11') (xa_cons (xd_neg xd_int) xa_nil)) (spn (-1))).dd L11) xa_nil))) (by simp)).dd L11).to rfl) smd.sh smd.nd (Nat.le_trans smd.dp (by decide)) (smd.fit (by decide)))
          (xw_or1 ((xt_neI (M := N) (xd_lenZ L11 I6 J6 G6 hr2 B6 T.len (xv_name 5 rfl) z11 hrl) (xd_len T.len (xd_ixT (fun _ _ => rfl) (xd_name 3 rfl v11') xd_int (show atI [PyData.int f, .list (st.map stepD)] 1 = some (.list (st.map stepD)) from rfl)))).to (by rw [rowsP_len, List.length_map, decide_eq_true rfl]; rfl))))) fun H12 s12 => ?_
        -- what was told changes
        have s1012 : Same H10 H12 := s11.trans s12
        have sc12 : Same Hc H12 := s10.trans s1012
        refine rb_forApp 9 (ps := [p1, p2, p3, p4]) (n := 1000) (u0 := w9) scLaw.nd (re_cutV (t := t) (xv_name 7 rfl) (s1012 _ _ htt) (xo_some (M := []) xd_int) xo_none fun l H13 s13 hl => ?_) rfl (by simp) (fun M σ' H' => xd_str)
        have sf13 : Same Hf H13 := (sft.trans s1012).trans s13
        have ne : ∀ q, Hf q ≠ none → q ≠ l := fun q hq z => by
          cases e : Hf q with
          | none => exact hq e
          | some o => rw [z] at e; rw [sf13 _ _ e] at hl; cases hl
        have lst4 : ∀ q ∈ [p1, p2, p3, p4], ∃ ys, Hf q = some (.lst ys) ∧ ys.length ≤ 1000 := fun q hq => by
          simp only [List.mem_cons, List.not_mem_nil, or_false] at hq
          rcases hq with e | e | e | e
          · rw [e]; exact ⟨_, i1, l1⟩
          · rw [e]; exact ⟨_, i2, l2⟩
          · rw [e]; exact ⟨_, i3, l3⟩
          · rw [e]; exact ⟨_, g4, l4⟩
        have fr4 : ∀ q ∈ [p1, p2, p3, p4], Hc q = none := fun q hq => by
          simp only [List.mem_cons, List.not_mem_nil, or_false] at hq
          rcases hq with e | e | e | e
          · rw [e]; exact n1
          · rw [e]; exact n2
          · rw [e]; exact n3
          · rw [e]; exact n4
        have sc13 : Same Hc (upd H13 l (.lst (cutV [.int f, .ref p1, .ref p2, .ref p3, .ref p4] (some 1) none))) := (sc12.trans s13).trans (same_new hl)
        refine ⟨l, rfl, fun z => ?_, by rw [upd_same]; rfl, fun q hq => ?_, by simp, fun H14 u o14 ls14 => ?_⟩
        · obtain ⟨ys, e, _⟩ := lst4 l z
          exact ne l (by rw [e]; simp) rfl
        · obtain ⟨ys, e, h⟩ := lst4 q hq
          exact ⟨ys, by rw [upd_ne (ne q (by rw [e]; simp))]; exact sf13 _ _ e, h⟩
        have hp4' : p ∉ [p1, p2, p3, p4] := fun z => by rw [fr4 p z] at hpc; cases hpc
        have hs4 : ∀ a ∈ hs, a ∉ [p1, p2, p3, p4] := fun a ha z => by
          obtain ⟨ys, e, _⟩ := hLc a ha
          rw [fr4 a z] at e; cases e
        have z14 : ZAt K C (hid ([p1, p2, p3, p4] ++ N) H14) y f (rowsP f st) := (zc.up (hid_many fr4 sc13)).up (o14.hid fun a ha => List.mem_append_left _ ha)
        have v14 : Dq K (hid ([p1, p2, p3, p4] ++ N) H14) vp (planD f st) := (vc.up (hid_many fr4 sc13)).up (o14.hid fun a ha => List.mem_append_left _ ha)
        have p14 : H14 p = some (.lst (hs.map V.ref)) := o14 p _ hp4' (sc13 _ _ hpc)
        have h14 : Ls H14 (2 + 30 * j) hs := fun a ha => by
          obtain ⟨ys, e, h⟩ := hLc a ha
          exact ⟨ys, o14 a _ (hs4 a ha) (sc13 _ _ e), h⟩
        have L14 : Live ([p1, p2, p3, p4] ++ N) H14 := fun a ha => by
          by_cases z : a ∈ [p1, p2, p3, p4]
          · obtain ⟨ys, e, _⟩ := ls14 a z
            rw [e]; simp
          · have ha' : a ∈ N := (List.mem_append.mp ha).resolve_left z
            cases e : Hc a with
            | none => exact absurd e (Lc a ha')
            | some o => rw [o14 a o z (sc13 _ _ e)]; simp
        have s14 : Same H' H14 := same_out (fun a ha => sHc.free (fr4 a ha)) (sHc.trans sc13) o14
        -- what was handed changes
        refine rb_forApp 9 (ps := hs) (n := 2 + 30 * j) (u0 := u) scLaw.nd (XV.go (xv_name 4 rfl) fun H15 s15 => ⟨p, rfl, hph, s15 _ _ p14, h14.mono s15 (Nat.le_refl _), by omega, fun H16 u2 o16 ls16 => ?_⟩) rfl (by simp) (fun M σ' H' => xd_int)
        have hsN2 : ∀ a ∈ hs, a ∈ [p1, p2, p3, p4] ++ N := fun a ha => List.mem_append_right _ (hsN a ha)
        have z16 := (z14.up (hid_mono s15)).up (o16.hid hsN2)
        have v16 := (v14.up (hid_mono s15)).up (o16.hid hsN2)
        have p16 : H16 p = some (.lst (hs.map V.ref)) := o16 p _ hph (s15 _ _ p14)
        have L16 : Live ([p1, p2, p3, p4] ++ N) H16 := fun a ha => by
          by_cases z : a ∈ hs
          · obtain ⟨ys, e, _⟩ := ls16 a z
            rw [e]; simp
          · cases e : H14 a with
            | none => exact absurd e (L14 a ha)
            | some o => rw [o16 a o z (s15 _ _ e)]; simp
        have s16 : Same H' H16 := same_out (fun a ha => hN a (hsN a ha)) (s14.trans s15) o16
        refine rb_appendL (M := [p1, p2, p3, p4] ++ N) (xs := hs.map V.ref) (xv_name 4 rfl) p16 (xl_lst L16 (xa_cons xd_str xa_nil)) (by rw [List.length_map]; omega) fun q ys H17 s17 hq e17 l17 => rb_nil ?_
        have hqp : q ≠ p := fun z => by rw [z, p16] at hq; cases hq
        refine ⟨⟨q :: ([p1, p2, p3, p4] ++ N), hs ++ [q], same_upd (s16.trans s17) (hN p hpN), fun a ha => ?_, List.mem_cons_of_mem _ (List.mem_append_right _ hpN), fun a ha => ?_, fun z => ?_, by rw [upd_same, List.map_append]; rfl, fun a ha => ?_, by rw [List.length_append, List.length_singleton]; omega, Live.upd fun a ha => ?_, ?_, ?_⟩, _, _, _, _, rfl⟩
        · rcases List.mem_cons.mp ha with e | e
          · rw [e]; exact s16.free hq
          · rcases List.mem_append.mp e with e | e
            · exact sHc.free (fr4 a e)
            · exact hN a e
        · rcases List.mem_append.mp ha with e | e
          · exact List.mem_cons_of_mem _ (hsN2 a e)
          · rw [List.mem_singleton.mp e]; exact List.mem_cons_self ..
        · rcases List.mem_append.mp z with e | e
          · exact hph e
          · exact hqp (List.mem_singleton.mp e).symm
        · rcases List.mem_append.mp ha with e | e
          · obtain ⟨zs, ez, lz⟩ := ls16 a e
            exact ⟨zs, by rw [upd_ne (fun z => hph (by rw [← z]; exact e))]; exact s17 _ _ ez, by omega⟩
          · rw [List.mem_singleton.mp e]
            exact ⟨ys, by rw [upd_ne hqp]; exact e17, by rw [l17]; simp; omega⟩
        · rcases List.mem_cons.mp ha with e | e
          · rw [e, e17]; simp
          · exact (L16.mono s17) a e
        · rw [hid_upd_mem (List.mem_cons_of_mem _ (List.mem_append_right _ hpN))]
          exact z16.up (hid_step hq s17)
        · rw [hid_upd_mem (List.mem_cons_of_mem _ (List.mem_append_right _ hpN))]
          exact v16.up (hid_step hq s17)
      · obtain ⟨⟨N, hs, sHc, hN, hpN, hsN, hph, hpc, hLc, hhl, Lc, zc, vc⟩, w6, w7, w8, w9, rfl⟩ := w
        have hrl : (rowsP f st).length ≤ 1000 := by rw [rowsP_len]; exact hlen
        -- fresh
        refine rb_ifF ((xt_not (xt_val (M := N) (xd_fresh Lc GF hA hr FF.g FF.F.kp FF.b (xd_name 3 rfl vc) hp4))).to rfl) fun Hd sd => ?_
        have Ld := Lc.mono sd
        have vd := vc.up (hid_mono (M := N) sd)
        have zd := zc.up (hid_mono (M := N) sd)
        -- the moments
        refine rb_setC 10 (own := [("_law_moment", 13), ("_law_jump", 14)]) (M := N) (fun d => match d with | .tuple [x, _] => some x | _ => none) (fun _ _ _ => True) (fun _ _ _ _ _ _ => trivial) Ld scLaw.nd
          (xd_ixT (fun _ _ => rfl) (xd_name 3 rfl vd) xd_int (show atI [PyData.int f, .list (st.map stepD)] 1 = some (.list (st.map stepD)) from rfl))
          (blkOk_by (own := [("_law_moment", 13), ("_law_jump", 14)]) (N := ["_law_script", "_law_index", "_law_bag_here", "_law_plan", "_law_handed", "_law_zone_here", "_law_lap", "_law_told", "_law_due", "_law_each", "_law_moments", "_law_odd", "_law_change", "_law_moment", "_law_jump", "_law_other"]) (sc := defScope sLaw) (by decide +kernel)) (by rw [List.length_map]; omega)
          (fun p d v Ha hd hp sa Lp hv s00 H00 C00 cl fp => ?mcmp) (fun pm xm He se hpm hm hxm _ => ?_)
        case mcmp =>
          obtain ⟨s1, _, rfl⟩ := steps_at (K := K) hd
          obtain ⟨t, rfl, ht⟩ := step_at hv
          refine rg_tup (same_seqT hid_le ht) (rgs_cons (rg_name 13 (rgs_cons (rg_name 14 (rgs_nil ?_) scLaw.nd)) scLaw.nd))
          exact ⟨rfl, bt_nil ⟨Same.refl _, .inl ⟨rfl, _, rfl, fun s00 H00 C00 cl fp => XV.go (xv_name 13 rfl) fun Hb sb => ⟨sb, .int _, trivial⟩⟩⟩⟩
        have ems : (st.map stepD).filterMap (fun d => match d with | .tuple [x, _] => some x | _ => none) = (st.map (·.1)).map PyData.int := by
          rw [fm_map stepD _ (fun s => .int s.1) (fun _ => rfl) st, List.map_map]; rfl
        rw [ems] at hxm
        have Le := Ld.mono se
        have ve := vd.up (hid_mono (M := N) se)
        have ze := zd.up (hid_mono (M := N) se)
        have km : Dq K (hid N He) (.ref pm) (.list ((st.map (·.1)).map PyData.int)) := .lst (by rw [hid_of (Ld.fresh hpm)]; exact hm) (hxm.up hid_weak)
        have pe : He p = some (.lst (hs.map V.ref)) := se _ _ (sd _ _ hpc)
        have s0e : Same H' He := (sHc.trans sd).trans se
        -- odd values
        have lm : ((st.map (·.1)).map PyData.int).length ≤ 1000 := by simpa using hlen
        refine rb_for (M := N) (ds := (((st.map (·.1)).map PyData.int) ++ ((st.map (·.1)).map fun m => PyData.int (m + 1))) ++ [.none, .bool true, .str "0", .list [.int 0], .tuple [.int 0, .int 0], .int ((10 : Int) ^ 29)])
          ((xl_cat Le ((xl_cat Le (xd_name 10 rfl km) ((xl_comp (own := [("_law_moment", 13)]) (fun d => match d with | .int m => some (.int (m + 1)) | _ => none) Le scLaw.nd (xd_name 10 rfl km)
            (blkOk_by (own := [("_law_moment", 13)]) (N := ["_law_script", "_law_index", "_law_bag_here", "_law_plan", "_law_handed", "_law_zone_here", "_law_lap", "_law_told", "_law_due", "_law_each", "_law_moments", "_law_odd", "_law_change", "_law_moment", "_law_jump", "_law_other"]) (sc := defScope sLaw) (by decide +kernel)) (by omega) (fun p d v H1 hd hp s1 Lp hv s00 H00 C00 cl fp => ?ocmp)).to (fm_map PyData.int _ (fun m => .int (m + 1)) (fun _ => rfl) _) |>.dd Le) (by simp at lm ⊢; omega)).dd Le)
            (xd_lst Le (xa_cons xd_non (xa_cons xd_bl (xa_cons xd_str (xa_cons (xd_lst Le (xa_cons xd_int xa_nil)) (xa_cons (xd_tup Le (xa_cons xd_int (xa_cons xd_int xa_nil))) (xa_cons (xd_pow xd_int xd_int ⟨by decide, by decide, by decide⟩) xa_nil))))))) (by simp at lm ⊢; omega)).dd Le)
          fun Hf sf => ⟨fun k2 σ' Hg => Same Hf Hg ∧ ∃ w11, σ' = [some (.ref a), some (.int k), some (.ref b), some vp, some (.ref p), some (.ref y), w6, w7, w8, w9, some (.ref pm), w11, u12, u13, u14, u15], ⟨Same.refl _, u11, rfl⟩, fun k2 σ' Hg w => hid_mono w.1, fun k2 d hd σ' Hg v w hv => ?_, fun σ' Hg w => ?_⟩
        case ocmp =>
          obtain ⟨m, _, rfl⟩ := List.mem_map.mp hd
          refine rg_name 13 ?_ scLaw.nd
          exact ⟨rfl, bt_nil ⟨Same.refl _, .inl ⟨rfl, _, rfl, fun s00 H00 C00 cl fp => XD.go (xd_add (xd_name 13 rfl hv) xd_int) fun v Hb sb hv2 => ⟨sb, hv2⟩⟩⟩⟩
        · obtain ⟨sg, w11, rfl⟩ := w
          refine rg_name 11 ?_ scLaw.nd
          have seg := sf.trans sg
          have Lg := Le.mono seg
          have kg := km.up (hid_mono (M := N) seg)
          have zg := ze.up (hid_mono (M := N) seg)
          have cls : (∃ n, d = .int n) ∨ d = .bool true ∨ Odd d := by
            have hm := List.mem_of_getElem? hd
            rcases List.mem_append.mp hm with e | e
            · rcases List.mem_append.mp e with e | e
              · obtain ⟨n, _, rfl⟩ := List.mem_map.mp e; exact .inl ⟨n, rfl⟩
              · obtain ⟨n, _, rfl⟩ := List.mem_map.mp e; exact .inl ⟨_, rfl⟩
            · simp only [List.mem_cons, List.not_mem_nil, or_false] at e
              rcases e with e | e | e | e | e | e
              · exact .inr (.inr (.inl e))
              · exact .inr (.inl e)
              · exact .inr (.inr (.inr (.inl e)))
              · exact .inr (.inr (.inr (.inr (.inl e))))
              · exact .inr (.inr (.inr (.inr (.inr e))))
              · exact .inl ⟨_, e⟩
          refine rb_ifF (xt_neB (M := N) (xd_inZ Lg I7 J7 G7 hr2 B7 (xd_name 11 rfl hv) (xz_v (xv_name 5 rfl) zg) hrl) ?osec) fun Hh sh => rb_nil ⟨sg.trans sh, _, rfl⟩
          case osec =>
            rcases cls with ⟨n, rfl⟩ | rfl | ho
            · exact xd_andT ((xd_not (xd_is1 (k_bool _) T.isi T.bool (by decide +kernel) (xd_name 11 rfl hv))).to rfl) (xd_one ((xd_inI (ns := List.map (fun s : Step => s.1) st) (xd_name 11 rfl hv) (xd_name 10 rfl kg)).to (by show _ = PyData.bool (((rowsP f st).map (·.1)).any fun m => m == n); rw [mom_rows])))
            · exact xd_andF ((xd_not (xd_is1 (k_bool _) T.isi T.bool (by decide +kernel) (xd_name 11 rfl hv))).to rfl)
            · exact xd_andT ((xd_not (xd_is1 (odd_kit ho) T.isi T.bool (by decide +kernel) (xd_name 11 rfl hv))).to rfl) (xd_one ((xd_inD (room65 hr) (xd_name 11 rfl hv) (xd_name 10 rfl kg) (odd_shaped ho) (shaped_ints _)).to (by rw [odd_any ho, odd_inB ho])))
        · obtain ⟨sg, w11, rfl⟩ := w
          have seg := sf.trans sg
          have Lg := Le.mono seg
          have vg := ve.up (hid_mono (M := N) seg)
          have zg := ze.up (hid_mono (M := N) seg)
          have pg := seg _ _ pe
          have s0g := s0e.trans seg
          -- equal zones
          have eqt : decide (f = f ∧ rowsP f st = rowsP f st) = true := by simp
          refine rb_ifF (XW.t (xw_orF ((xt_neZ (M := N) Lg Q8 hr2 (xz_v (xv_name 5 rfl) zg) (xz_made Lg GM hr6 FM.g FM.F.kp FM.b (xd_name 3 rfl vg) hlen hok)).to (by rw [eqt]; rfl))
            (xw_orF ((xt_neZ (M := N) (rs' := rowsP f st) Lg Q8 hr2 (xz_v (xv_name 5 rfl) zg) (xz_make Lg W hr5 (xd_ixT (fun _ _ => rfl) (xd_name 3 rfl vg) xd_int (show atI [PyData.int f, .list (st.map stepD)] 0 = some (.int f) from rfl)) (xd_tupleL T.tup Lg ((xl_call Lg GCh hr1 FCh.g FCh.F.kp FCh.b (xa_cons (xd_name 3 rfl vg) xa_nil) ⟨f, st, rfl, hlen, rfl⟩).dd Lg)) (.inr rfl) (items_ch _) (okR_of hok) (by rw [ch_len]; exact hlen))).to (by rw [eqt]; rfl))
            (xw_or1 (xt_eqZL (M := N) Lg Q8 hr1 (xz_v (xv_name 5 rfl) zg) (xv_name 4 rfl) pg))))) fun Hh sh => ?_
          have Lh := Lg.mono sh
          have vh := vg.up (hid_mono (M := N) sh)
          have zh := zg.up (hid_mono (M := N) sh)
          -- the others
          refine rb_ifF (fun H1 s1 Q q => ⟨_, pt_cmpR (op_neD hr.units) re_ re_ (by first | exact nomark _ | rfl), re_lcNone (own := [("_law_other", 15)]) (M := N) (OtherOf f st) (Lh.mono s1) scLaw.nd
            (re_call GO hr1 FO.g FO.F.kp FO.b (ra_1 (XD.go ((xd_name 3 rfl vh).up s1) fun v H2 s2 hv => ⟨N, v, f, st, rfl, (Lh.mono s1).mono s2, hv, by have := hp4.len; omega, hok, fun p xs es H3 s3 hp h3 hx ho hl => ⟨s2.trans s3, es, xl_dq ((Lh.mono s1).mono s2) hp h3 hx, ho⟩⟩)))
            (blkOk_by (own := [("_law_other", 15)]) (N := ["_law_script", "_law_index", "_law_bag_here", "_law_plan", "_law_handed", "_law_zone_here", "_law_lap", "_law_told", "_law_due", "_law_each", "_law_moments", "_law_odd", "_law_change", "_law_moment", "_law_jump", "_law_other"]) (sc := defScope sLaw) (by decide +kernel)) (fun p d v H2 ho hp s2 Lp hv s00 H00 C00 cl fp => ?oth) (fun p H2 s2 hp h2 => xd_lst ((Lh.mono s1).mono s2) xa_nil (by simp) H2 (Same.refl _) _ fun w H3 s3 hw => ?od)⟩) fun Hi si => ?_
          case oth =>
            refine rg_name 15 ?_ scLaw.nd
            obtain ⟨f', st', rfl, hok', hlen', hne⟩ := ho
            exact ⟨rfl, bt_one (k := false) (fun s00 H00 C00 cl fp => by
              refine XT.to ?_ (decide_eq_false hne)
              exact xt_eqZ (M := p :: N) Lp Q8 hr1 (xz_made Lp GM hr6 FM.g FM.F.kp FM.b (xd_name 15 rfl hv) hlen' hok') (xz_v (xv_name 5 rfl) (zh.up ((hid_mono s1).trans (hid_step hp s2))))) fun H3 s3 => ⟨s3, rfl⟩⟩
          case od =>
            have k0 : Dq K (hid N H3) (.ref p) (.list []) := xl_dq (Lh.mono s1) hp (s3 _ _ h2) .nil
            exact ⟨.list [], .list [], (k0.up hid_le).dp, (hw.up hid_le).dp, shaped_nil, shaped_nil, false, by rfl, q H3 (s2.trans s3)⟩
          have Li := Lh.mono si
          have vi := vh.up (hid_mono (M := N) si)
          have zi := zh.up (hid_mono (M := N) si)
          have s0i := (s0g.trans sh).trans si
          -- a zone with another first offset
          refine rb_if (k := condK st) ?cnd (fun hc Hj sj => ?_) (fun hc Hj sj => rb_nil ?_)
          case cnd =>
            rcases hst : st with _ | ⟨s, r⟩
            · exact (xw_andF ((xt_neD (M := N) hr.units (xd_ixT (fun _ _ => rfl) (xd_name 3 rfl vi) xd_int (show atI [PyData.int f, .list (st.map stepD)] 1 = some (.list (st.map stepD)) from rfl)) (xd_lst Li xa_nil) (shaped_steps st) shaped_nil).to (by rw [eqv_steps, hst]; rfl))).t
            · have a0 : atI (st.map stepD) 0 = some (stepD s) := by rw [hst]; exact atI_nat (j := 0) rfl
              exact (xw_andT ((xt_neD (M := N) hr.units (xd_ixT (fun _ _ => rfl) (xd_name 3 rfl vi) xd_int (show atI [PyData.int f, .list (st.map stepD)] 1 = some (.list (st.map stepD)) from rfl)) (xd_lst Li xa_nil) (shaped_steps st) shaped_nil).to (by rw [eqv_steps, hst]; rfl))
                (xw_andB (xt_notInD (M := N) (room65 hr) (xd_ixT (fun _ _ => rfl) (xd_ixL (fun _ _ => rfl) (xd_ixT (fun _ _ => rfl) (xd_name 3 rfl vi) xd_int (show atI [PyData.int f, .list (st.map stepD)] 1 = some (.list (st.map stepD)) from rfl)) xd_int a0) xd_int (show atI [PyData.int s.1, PyData.int s.2] 1 = some (.int s.2) from rfl)) (xd_lst Li (xa_cons xd_int (xa_cons xd_int xa_nil))) (shaped_int _) (by decide +kernel)) fun _ =>
                (xw_andB (xt_cmpI (M := N) op_lt (xd_abs T.abs (xd_ixT (fun _ _ => rfl) (xd_ixL (fun _ _ => rfl) (xd_ixT (fun _ _ => rfl) (xd_name 3 rfl vi) xd_int (show atI [PyData.int f, .list (st.map stepD)] 1 = some (.list (st.map stepD)) from rfl)) xd_int a0) xd_int (show atI [PyData.int s.1, PyData.int s.2] 1 = some (.int s.2) from rfl))) xd_int) fun _ =>
                (xw_and1 ((xt_eqI (M := N) (xd_len T.len (xd_ixT (fun _ _ => rfl) (xd_name 3 rfl vi) xd_int (show atI [PyData.int f, .list (st.map stepD)] 1 = some (.list (st.map stepD)) from rfl))) xd_int).to (by rw [hst])))))).t
          · obtain ⟨s, hst, c1, c2, c3⟩ := cond_one hc
            have Lj := Li.mono sj
            have vj := vi.up (hid_mono (M := N) sj)
            have zj := zi.up (hid_mono (M := N) sj)
            have s0j := s0i.trans sj
            refine rb_ifF ((xt_eqZ (M := N) Lj Q8 hr1 (xz_make (items := (chOf f st).map stepD) (cs := chOf f st) Lj W hr5 (xd_add (xd_ixT (fun _ _ => rfl) (xd_name 3 rfl vj) xd_int (show atI [PyData.int f, .list (st.map stepD)] 0 = some (.int f) from rfl)) xd_int) ((xl_call Lj GCh hr1 FCh.g FCh.F.kp FCh.b (xa_cons (xd_name 3 rfl vj) xa_nil) ⟨f, st, rfl, hlen, rfl⟩).dd Lj) (.inl rfl) (items_ch _) (by rw [hst]; exact okR_near c1 c2 c3) (by rw [ch_len]; exact hlen)) (xz_v (xv_name 5 rfl) zj)).to (decide_eq_false fun z => by have := z.1; omega)) fun Hk sk => rb_nil ?_
            have Lk := Lj.mono sk
            have vk := vj.up (hid_mono (M := N) sk)
            have s0k := s0j.trans sk
            -- no change at all
            refine rb_ifF (XW.t (xw_orF ((xt_neZ (M := N) (off := f) (off' := f) (rs := []) (rs' := []) Lk Q8 hr2 (xz_make1 Lk W hr5 (xd_ixT (fun _ _ => rfl) (xd_name 3 rfl vk) xd_int (show atI [PyData.int f, .list (st.map stepD)] 0 = some (.int f) from rfl)))
              (xz_make (items := []) (cs := []) Lk W hr5 (xd_ixT (fun _ _ => rfl) (xd_name 3 rfl vk) xd_int (show atI [PyData.int f, .list (st.map stepD)] 0 = some (.int f) from rfl)) (xd_lst Lk xa_nil) (.inl rfl) ⟨rfl, fun i it z => by simp at z⟩ okR_nil (by simp))).to (by simp))
              (xw_or1 ((xt_neI (M := N) (xd_lenX Lk I6 J6 G6 hr2 B6 T.len (xz_make1 Lk W hr5 (xd_ixT (fun _ _ => rfl) (xd_name 3 rfl vk) xd_int (show atI [PyData.int f, .list (st.map stepD)] 0 = some (.int f) from rfl))) (by simp)) xd_int).to rfl)))) fun Hz sz => rb_nil ⟨sH0.trans (s0k.trans sz), _, _, _, _, _, _, _, _, _, _, _, _, _, _, _, rfl⟩
          · have Lj := Li.mono sj
            have vj := vi.up (hid_mono (M := N) sj)
            have s0j := s0i.trans sj
            -- no change at all
            refine rb_ifF (XW.t (xw_orF ((xt_neZ (M := N) (off := f) (off' := f) (rs := []) (rs' := []) Lj Q8 hr2 (xz_make1 Lj W hr5 (xd_ixT (fun _ _ => rfl) (xd_name 3 rfl vj) xd_int (show atI [PyData.int f, .list (st.map stepD)] 0 = some (.int f) from rfl)))
              (xz_make (items := []) (cs := []) Lj W hr5 (xd_ixT (fun _ _ => rfl) (xd_name 3 rfl vj) xd_int (show atI [PyData.int f, .list (st.map stepD)] 0 = some (.int f) from rfl)) (xd_lst Lj xa_nil) (.inl rfl) ⟨rfl, fun i it z => by simp at z⟩ okR_nil (by simp))).to (by simp))
              (xw_or1 ((xt_neI (M := N) (xd_lenX Lj I6 J6 G6 hr2 B6 T.len (xz_make1 Lj W hr5 (xd_ixT (fun _ _ => rfl) (xd_name 3 rfl vj) xd_int (show atI [PyData.int f, .list (st.map stepD)] 0 = some (.int f) from rfl))) (by simp)) xd_int).to rfl)))) fun Hz sz => rb_nil ⟨sH0.trans (s0j.trans sz), _, _, _, _, _, _, _, _, _, _, _, _, _, _, _, rfl⟩
    · obtain ⟨sH0, u1, u2, u3, u4, u5, u6, u7, u8, u9, u10, u11, u12, u13, u14, u15, rfl⟩ := w
      exact rb_retR (XD.go (M := []) xd_bl fun v H1 s1 hv => by rw [dp_bl hv]; exact q H1 (sH0.trans s1))
end
end Zn

set_option Elab.async false
set_option linter.all false
set_option maxRecDepth 100000
set_option maxHeartbeats 8000000
namespace Zn
open PySem PySem.Spec PyProof.Rows L2 Dl
/-! ### the law called behind the top -/
section
variable {P : Program} {w : World} {K : PySem.W.Frag} {mg mb : Str → Option Value} {fa a : Addr} {fd : FuncData} {t : Shared} {us : List Value} {ns : List Int}
/-- from a heap H that tells of the script at most -/
theorem head_from {H : Hp} (KX : K.In t.heap) (hg : t.heap.Ns mainGlobals mg) (hb : t.heap.Ns builtinsNs mb) (hbb : ∀ x : Str, x ≠ "__name__" → mb x = bootBuiltins x) (hlim : t.heap.NoLimit) (gens : t.gens = #[])
    (hobj : t.heap.get? a = some { cls := .type "list", data := .seq us.toArray })
    (F : ∀ base : Heap, K.In base → base.Ns mainGlobals mg → FnG P w K mg base 8 fa fd ["_law_script"] (spLaw K)) (hbd : ∀ (s : Shared) (u : Value), BindsTo s fd ⟨[u], []⟩ [("_law_script", u)])
    (only : Only H) (hS : SqL K H a (ns.map V.int)) (hok : HOk P w H t.heap) (at1 : ∀ b, H b ≠ none → b = a) (nk : H a ≠ none → K.lookup a = none) :
    codeAny (model P w) callerA (.call (.ref fa) ⟨[.ref a], []⟩) (fun r s => r = .ok (.ret (.bool true)) ∧ OldK t.heap s.heap ∧ s.os = t.os ∧ AllBare s.gens) t := by
  have kept : ∀ {b : Addr} {o : Obj}, t.heap.get? b = some o → H b = none → (hidT t.heap H).get? b = some o := fun p q => hidT_get p q
  have free : ∀ {b : Addr} {o : Obj}, t.heap.get? b = some o → (b = a → False) → H b = none := fun {b o} _ nb => Classical.byContradiction fun z => nb (at1 b z)
  have spaces : ∀ {b : Addr} {m : Str → Option Value}, t.heap.Ns b m → (hidT t.heap H).Ns b m := fun {b m} z => by
    obtain ⟨o, es, ep, p, q, r⟩ := z
    refine ⟨o, es, ep, kept p (free p fun e => ?_), q, r⟩
    rw [e, hobj] at p
    injection p with p
    rw [← p] at q
    injection q
  have kin : K.In (hidT t.heap H) := fun b o e => kept (KX b o e) (Classical.byContradiction fun z => by
    have eb := at1 b z
    rw [eb] at z e
    rw [nk z] at e
    cases e)
  obtain ⟨mc, hl1, hl2⟩ := hlim
  have md : Mod K mg (hidT t.heap H) := ⟨kin, spaces hg, ⟨mb, spaces hb, hbb⟩, mc, spaces hl1, hl2⟩
  have env : Env0 P w K mg (hidT t.heap H) callerA [] t H := { frames := rfl, mod := md, bs := fun b o e => of_hidT e, bsz := Nat.le_of_eq (hidT_size _ _), funs := trivial, frf := fun b z => absurd z List.not_mem_nil, hok := hok, bare := .of_eq gens }
  have run := (F _ kin (spaces hg)).run callerA rfl ⟨rfl, by decide, by decide⟩ [] t H ⟨[.ref a], []⟩ [.ref a] [.ref a] (fun v _ => v = .bl true) (fun _ _ _ => False) env (hbd t (.ref a)) (.cons rfl .nil) ⟨a, ns, rfl, hS, fun _ _ => rfl⟩
  refine codeAny_mono run fun r s z => ?_
  match r, z with
  | .error e, z => exact z.elim
  | .ok .next, z => exact z.elim
  | .ok .brk, z => exact z.elim
  | .ok .cont, z => exact z.elim
  | .ok (.ret u), z =>
    obtain ⟨v, H2, os, bare, un, hok2, rv, ev⟩ := z
    have ev' : v = .bl true := ev
    rw [ev'] at rv
    have eu : u = Value.bool true := rv
    rw [eu]
    refine ⟨rfl, OldK.of_keep fun b o e => ?_, os, bare⟩
    rcases only b with n | ⟨ob, xs, fz⟩
    · exact un.keep b o e n (fun q => absurd (show b ∈ ([] : List Addr) from q) List.not_mem_nil) (by simp)
    · have p1 := (hok b _ fz).1
      have p2 := (hok2 b _ (un.frzs b ob _ fz)).1
      rw [e] at p1
      injection p1 with p1
      rw [p1]
      exact p2
/-- the law, called with a script -/
theorem head_g (KX : K.In t.heap) (hg : t.heap.Ns mainGlobals mg) (hb : t.heap.Ns builtinsNs mb) (hbb : ∀ x : Str, x ≠ "__name__" → mb x = bootBuiltins x) (hlim : t.heap.NoLimit) (gens : t.gens = #[])
    (hobj : t.heap.get? a = some { cls := .type "list", data := .seq us.toArray }) (hi : IntsAre us ns) (hl : ns.length ≤ sizeLine)
    (F : ∀ base : Heap, K.In base → base.Ns mainGlobals mg → FnG P w K mg base 8 fa fd ["_law_script"] (spLaw K)) (hbd : ∀ (s : Shared) (u : Value), BindsTo s fd ⟨[u], []⟩ [("_law_script", u)]) :
    codeAny (model P w) callerA (.call (.ref fa) ⟨[.ref a], []⟩) (fun r s => r = .ok (.ret (.bool true)) ∧ OldK t.heap s.heap ∧ s.os = t.os ∧ AllBare s.gens) t := by
  have vi := vals_ints hi
  have el := hi.length
  rcases lk : K.lookup a with _ | o
  · have e1 : ∀ b, b ≠ a → (if b = a then some (HO.frz { cls := .type "list", data := .seq us.toArray } (.lst (ns.map V.int))) else none) = none := fun b n => if_neg n
    refine head_from (H := fun b => if b = a then some (.frz { cls := .type "list", data := .seq us.toArray } (.lst (ns.map V.int))) else none) (ns := ns) KX hg hb hbb hlim gens hobj F hbd (fun b => ?_) (.inl (.inr ⟨_, if_pos rfl⟩)) (fun b u z => ?_) (fun b z => Classical.byContradiction fun n => z (e1 b n)) fun _ => lk
    · exact (Classical.em (b = a)).elim (fun z => .inr ⟨_, _, if_pos z⟩) fun z => .inl (e1 b z)
    · rcases Classical.em (b = a) with e | e
      · rw [e] at z ⊢
        have z' := (if_pos rfl).symm.trans z
        injection z' with z'
        rw [← z']
        exact ⟨hobj, by rw [List.length_map]; exact hl, us, _, vi, hobj⟩
      · exact absurd ((e1 b e).symm.trans z) (fun q => nomatch q)
  · have e := KX a o lk
    rw [hobj] at e
    injection e with e
    rw [← e] at lk
    exact head_from (H := fun _ => none) (ns := ns) KX hg hb hbb hlim gens hobj F hbd (fun _ => .inl rfl) (.inr ⟨_, us.toArray, _, lk, rfl, rfl, rfl, by rw [List.size_toArray, el]; exact hl, by simpa using vi⟩) (fun _ _ z => nomatch z) (fun _ z => absurd rfl z) (fun z => absurd rfl z)
end
theorem walk_g {l : PySem.W.OpenLaw} {q : Program} {loose : List Str} {XP : (Str → Option Value) → Heap → Prop} {YP : World → Heap → Prop} {d : DefRec} {K : Params → PySem.W.Frag} (hn : l.most = some 63) (hdf : d.params.defaults = [])
    (hY : ∀ (w : World) (h : Heap), YP w h → (K w.params).In h)
    (F : ∀ (w : World) (mg : Str → Option Value) (fa : Addr) (h : Heap), (K w.params).In h → h.Ns mainGlobals mg → mg d.name = some (.ref fa) →
      ∃ fd : FuncData, (∀ (s : Shared) (u : Value), BindsTo s fd ⟨[u], []⟩ [("_law_script", u)]) ∧ ∀ base : Heap, (K w.params).In base → base.Ns mainGlobals mg → FnG l.prog w (K w.params) mg base 8 fa fd ["_law_script"] (spLaw (K w.params))) :
    PySem.W.WalkO q loose XP YP l.row.toRowW d [] (fun f vs => PySem.call f vs) :=
  Att.attach_call hn hdf fun w _ s1 mg _ fa _ _ _ _ a us ns G Y _ _ _ hm hobj hi hl hg => by
    have KX := hY w _ Y
    obtain ⟨fd, hb, hF⟩ := F w mg fa _ KX G.T.g hm
    exact head_g KX G.T.g G.T.b G.T.builtins G.T.nolimit hg hobj hi (Nat.le_trans hl (by decide)) hF hb
end Zn

set_option Elab.async false
set_option linter.all false
set_option maxRecDepth 100000
set_option maxHeartbeats 8000000
namespace Zn
open PySem PySem.Spec PyProof.Rows L2 Dl
/-! ### what the start has written, put together -/
def DfE (K : PySem.W.Frag) (mg : Str → Option Value) (x : Str) (st : Stmt) (ps : List Str) : Prop := ∃ f fd, Df K mg x st ps f fd
theorem df_mk {K : PySem.W.Frag} {h : Heap} {mg : Str → Option Value} {x : Str} {st : Stmt} {ps : List Str} {f : Addr} {od an : Option Addr} {osl : Array (Option Value)} {oc kV dc pm cd ct : Value} (X : K.In h) (G : h.Ns mainGlobals mg)
    (a : PySem.W.nsIn K mainGlobals x = some (some (.ref f))) (l : K.lookup f = some ⟨oc, od, .func (PySem.W.fnOf x x (defArgs st) (defBody st) (defScope st) .none kV dc pm an cd ct), osl⟩) (c : PySem.W.codeIn K cd x = true) (k : PySem.W.keepIn K (.ref f) = true)
    (hb : ∀ (us : List Value), us.length = ps.length → bindArgs (PySem.W.fnOf x x (defArgs st) (defBody st) (defScope st) .none kV dc pm an cd ct) ⟨us, []⟩ = pure (ps.zip us)) : DfE K mg x st ps :=
  ⟨f, _, fun_mk l c k, PySem.W.mg_of X G a, .all hb⟩
def MtE (K : PySem.W.Frag) (C : Addr) (x q : Str) (st : Stmt) (ps : List Str) : Prop := ∃ f fd, Mt K C x q st ps f fd
theorem mt_mk {K : PySem.W.Frag} {C : Addr} {x q : Str} {st : Stmt} {ps : List Str} {f : Addr} {od an : Option Addr} {osl : Array (Option Value)} {oc kV dc pm cd ct : Value}
    (a : PySem.W.findIn K (.ref C) x = some (some (.ref f))) (i : PySem.W.isFn K (.ref f) = true) (l : K.lookup f = some ⟨oc, od, .func (PySem.W.fnOf x q (defArgs st) (defBody st) (defScope st) .none kV dc pm an cd ct), osl⟩) (c : PySem.W.codeIn K cd q = true) (k : PySem.W.keepIn K (.ref f) = true)
    (hb : ∀ (us : List Value), us.length = ps.length → bindArgs (PySem.W.fnOf x q (defArgs st) (defBody st) (defScope st) .none kV dc pm an cd ct) ⟨us, []⟩ = pure (ps.zip us)) : MtE K C x q st ps :=
  ⟨f, _, fun_mk l c k, .all hb, a, i, k⟩
/-- the class's own == -/
structure EqF (K : PySem.W.Frag) (C : Addr) : Prop where
  m : MtE K C "__eq__" "Zone.__eq__" sEq ["self", "other"]
  cls : ∃ nm q N bs hdct sn sub ab col dd k0 k1 k2 k3 k5 newId f, K.lookup C = some (excClassObj nm q C N bs [.type "object"] hdct sn sub ab col dd k0 k1 k2 k3 k5 newId) ∧ PySem.W.nsOkIn K N = true ∧ PySem.W.nsIn K N "__eq__" = some (some (.ref f)) ∧ PySem.W.nsIn K N "__ne__" = some none ∧
    PySem.W.findIn K (.ref C) "__eq__" = some (some (.ref f)) ∧ ∃ o, K.lookup f = some o ∧ o.cls = .type "function"
theorem nsOk_mk {K : PySem.W.Frag} {N : Addr} {o : Obj} (l : K.lookup N = some o) (h : PySem.W.nsOkIn [(N, o)] N = true) : PySem.W.nsOkIn K N = true := by
  have e : List.lookup N [(N, o)] = some o := by simp [List.lookup]
  unfold PySem.W.nsOkIn at h ⊢
  rw [e] at h
  rw [l]
  exact h
theorem eq_mk {K : PySem.W.Frag} {C N f : Addr} {nm q : Str} {bs : List Value} {hdct : Bool} {sn : List Str} {sub : List Value} {ab : Bool} {col : Option Bool} {dd : Option Addr} {k0 k1 k2 k3 k5 : Option Value} {newId : String} {o : Obj} (m : MtE K C "__eq__" "Zone.__eq__" sEq ["self", "other"])
    (l : K.lookup C = some (excClassObj nm q C N bs [.type "object"] hdct sn sub ab col dd k0 k1 k2 k3 k5 newId)) (n : PySem.W.nsOkIn K N = true) (e : PySem.W.nsIn K N "__eq__" = some (some (.ref f))) (z : PySem.W.nsIn K N "__ne__" = some none)
    (a : PySem.W.findIn K (.ref C) "__eq__" = some (some (.ref f))) (lo : K.lookup f = some o) (t : o.cls = .type "function") : EqF K C :=
  ⟨m, nm, q, N, bs, hdct, sn, sub, ab, col, dd, k0, k1, k2, k3, k5, newId, f, l, n, e, z, a, o, lo, t⟩
structure ZC (K : PySem.W.Frag) (C : Addr) : Prop where
  aC : PySem.W.nsIn K mainGlobals "Zone" = some (some (.ref C))
  pg : PySem.W.plainGet K C Str.empty = true
  hd : PySem.W.hasDictIn K C = true
  po : PySem.W.plainOver K C = true
  sa : PySem.W.findIn K (.ref C) "__setattr__" = some (some (.builtin "object.__setattr__"))
  nB : PySem.W.findIn K (.ref C) "base" = some none
  nR : PySem.W.findIn K (.ref C) "rows" = some none
  ha : PySem.W.findIn K (.ref C) "__class__" = some (some (.builtin "object.__class__"))
  hm : PySem.W.mroIn K C (.type "object") = some true
  bq : (Value.ref C == Value.ref C) = true
  no : PySem.W.kitOne K (.type "list") (.ref C) = some false
  sub : PySem.W.subIn K (.type "list") (.ref C) = some false
  mks : PySem.W.makesIn K C = true
  kc : PySem.W.keepIn K (.ref C) = true
  mC : MtE K C "changes" "Zone.changes" sChanges ["self"]
  mJ : MtE K C "jump_list" "Zone.jump_list" sJumps ["self"]
  mG : MtE K C "gaps" "Zone.gaps" sGaps ["self"]
  mF : MtE K C "folds" "Zone.folds" sFolds ["self"]
  mL : MtE K C "__len__" "Zone.__len__" sLen ["self"]
  mK : MtE K C "__contains__" "Zone.__contains__" sCont ["self", "x"]
  eq : EqF K C
/-- the property, and what all classes share -/
structure PrF (K : PySem.W.Frag) (C : Addr) : Prop where
  p : ∃ pp f fd, PropOf K C "first" pp f ∧ Fun K "first" "Zone.first" sFirst f fd ∧ Binds K fd ["self"] []
  hn : PySem.W.specialIn K (.builtin "object.__class__") "__get__" = some (some (.builtin "getset_descriptor.__get__"))
  htk : PySem.W.takesIn K (.builtin "object.__class__") = some true
theorem pr_mk {K : PySem.W.Frag} {C pp f : Addr} {od an : Option Addr} {osl : Array (Option Value)} {oc kV dc pm cd ct : Value} {rest : List Value} (a : PySem.W.findIn K (.ref C) "first" = some (some (.ref pp))) (b : PySem.W.specialIn K (.ref pp) "__get__" = some (some (.builtin "property.__get__"))) (t : PySem.W.takesIn K (.ref pp) = some true)
    (r : PySem.W.recIn K pp "property" = some (.ref f :: rest)) (l : K.lookup f = some ⟨oc, od, .func (PySem.W.fnOf "first" "Zone.first" (defArgs sFirst) (defBody sFirst) (defScope sFirst) .none kV dc pm an cd ct), osl⟩) (c : PySem.W.codeIn K cd "Zone.first" = true) (k : PySem.W.keepIn K (.ref f) = true)
    (hn : PySem.W.specialIn K (.builtin "object.__class__") "__get__" = some (some (.builtin "getset_descriptor.__get__"))) (htk : PySem.W.takesIn K (.builtin "object.__class__") = some true) : PrF K C :=
  ⟨⟨pp, f, _, ⟨a, b, t, rest, r⟩, fun_mk l c k, .all fun us h => match us, h with | [_], _ => rfl⟩, hn, htk⟩
/-- the class's maker -/
structure InF (K : PySem.W.Frag) (C : Addr) : Prop where
  ex : ∃ (f dt et : Addr) (od an : Option Addr) (osl : Array (Option Value)) (oc kV dc pm cd ct : Value) (o oe : Obj) (n ne : Nat), PySem.W.findIn K (.ref C) "__init__" = some (some (.ref f)) ∧ PySem.W.isFn K (.ref f) = true ∧
    K.lookup f = some ⟨oc, od, .func (PySem.W.fnOf "__init__" "Zone.__init__" (defArgs sInit) (defBody sInit) (defScope sInit) (.ref dt) kV dc pm an cd ct), osl⟩ ∧ PySem.W.codeIn K cd "Zone.__init__" = true ∧
    K.lookup dt = some o ∧ o.data = .seq #[.ref et] n ∧ K.lookup et = some oe ∧ oe.cls = .type "tuple" ∧ oe.data = .seq #[] ne
theorem in_mk {K : PySem.W.Frag} {C f dt et : Addr} {od an : Option Addr} {osl : Array (Option Value)} {oc kV dc pm cd ct : Value} {o oe : Obj} {n ne : Nat} (a : PySem.W.findIn K (.ref C) "__init__" = some (some (.ref f))) (i : PySem.W.isFn K (.ref f) = true)
    (l : K.lookup f = some ⟨oc, od, .func (PySem.W.fnOf "__init__" "Zone.__init__" (defArgs sInit) (defBody sInit) (defScope sInit) (.ref dt) kV dc pm an cd ct), osl⟩) (c : PySem.W.codeIn K cd "Zone.__init__" = true)
    (d : K.lookup dt = some o) (dd : o.data = .seq #[.ref et] n) (e : K.lookup et = some oe) (ec : oe.cls = .type "tuple") (ed : oe.data = .seq #[] ne) : InF K C :=
  ⟨⟨f, dt, et, od, an, osl, oc, kV, dc, pm, cd, ct, o, oe, n, ne, a, i, l, c, d, dd, e, ec, ed⟩⟩
theorem gj_mk {K : PySem.W.Frag} {t : Tok} (h : PySem.W.nsIn K mainGlobals "GREATEST_JUMP" = some (some (.int 720 t))) : ∃ t, PySem.W.nsIn K mainGlobals "GREATEST_JUMP" = some (some (.int 720 t)) := ⟨t, h⟩
theorem kit_self {K : PySem.W.Frag} {C : Addr} (h : (Value.ref C == Value.ref C) = true) : PySem.W.kitOne K (.ref C) (.ref C) = some true := by
  unfold PySem.W.kitOne
  exact if_pos h
theorem kit_list {K : PySem.W.Frag} {C : Addr} {co} (h : (Value.type "list" == Value.ref C) = false) (c : PySem.W.clsIn K C = some co) (t : PySem.W.typeIn K (.ref C) = some (.type "type")) (s : PySem.W.subIn K (.type "list") (.ref C) = some false) : PySem.W.kitOne K (.type "list") (.ref C) = some false := by
  unfold PySem.W.kitOne
  rw [if_neg (by rw [h]; decide)]
  unfold PySem.W.kitCls
  show (if ((PySem.W.clsIn K C).isSome && PySem.W.typeIn K (.ref C) == some (.type "type")) = true then PySem.W.subIn K (.type "list") (.ref C) else none) = some false
  rw [c, t, if_pos (by rfl), s]
theorem binds_init {K : PySem.W.Frag} {dt et : Addr} {an : Option Addr} {kV dc pm cd ct : Value} {o : Obj} {n : Nat} (ld : K.lookup dt = some o) (dd : o.data = .seq #[.ref et] n) :
    Binds K (PySem.W.fnOf "__init__" "Zone.__init__" (defArgs sInit) (defBody sInit) (defScope sInit) (.ref dt) kV dc pm an cd ct) ["self", "offset", "changes"] [] ∧ Binds K (PySem.W.fnOf "__init__" "Zone.__init__" (defArgs sInit) (defBody sInit) (defScope sInit) (.ref dt) kV dc pm an cd ct) ["self", "offset", "changes"] [.ref et] :=
  ⟨fun s us X hl => by
    rw [List.append_nil] at hl ⊢
    match us, hl with
    | [_, _, _], _ => exact PySem.W.binds_K X rfl ld dd rfl rfl, fun s us X hl => by
    rw [List.length_append] at hl
    have h2 : us.length = 2 := by simpa using hl
    match us, h2 with
    | [_, _], _ => exact PySem.W.binds_K X rfl ld dd rfl rfl⟩
structure NoB (K : PySem.W.Frag) : Prop where
  isi : PySem.W.nsIn K mainGlobals "isinstance" = some none
  int : PySem.W.nsIn K mainGlobals "int" = some none
  bool : PySem.W.nsIn K mainGlobals "bool" = some none
  lst : PySem.W.nsIn K mainGlobals "list" = some none
  tup : PySem.W.nsIn K mainGlobals "tuple" = some none
  len : PySem.W.nsIn K mainGlobals "len" = some none
  abs : PySem.W.nsIn K mainGlobals "abs" = some none
  min : PySem.W.nsIn K mainGlobals "min" = some none
  max : PySem.W.nsIn K mainGlobals "max" = some none
  rep : PySem.W.nsIn K mainGlobals "repr" = some none
  rng : PySem.W.nsIn K mainGlobals "range" = some none
structure DfA (K : PySem.W.Frag) (mg : Str → Option Value) : Prop where
  d0 : DfE K mg "is_whole" sWhole ["value"]
  d1 : DfE K mg "is_whole_pair" sPair ["value"]
  d2 : DfE K mg "need_integer" sNeed ["value"]
  d3 : DfE K mg "rows_of" sRows ["offset", "changes"]
  d4 : DfE K mg "can_follow" sFollow ["rows", "row"]
  d5 : DfE K mg "is_jump" sIsJump ["value"]
  d6 : DfE K mg "jump_of" sJump ["row"]
  d7 : DfE K mg "torn_readings" sTorn ["row"]
  d8 : DfE K mg "_law_cell" sCell ["_law_script", "_law_index"]
  d9 : DfE K mg "_law_bag" sBag ["_law_cell_here"]
  d10 : DfE K mg "_law_take" sTake ["_law_bag_here", "_law_many"]
  d11 : DfE K mg "_law_zone" sZone ["_law_bag_here", "_law_most"]
  d12 : DfE K mg "_law_changes" sLChanges ["_law_plan"]
  d13 : DfE K mg "_law_made" sLMade ["_law_plan"]
  d14 : DfE K mg "_law_spans" sLSpans ["_law_plan", "_law_sign"]
  d15 : DfE K mg "_law_others" sLOthers ["_law_plan"]
  d16 : DfE K mg "_law_fresh_right" sLFresh ["_law_plan"]
  d17 : DfE K mg "law" sLaw ["_law_script"]
theorem al_of {P : Program} {w : World} {K : PySem.W.Frag} {h : Heap} {mg : Str → Option Value} {base : Heap} {C : Addr} (X : K.In h) (G : h.Ns mainGlobals mg) (hGJ : ∃ t, PySem.W.nsIn K mainGlobals "GREATEST_JUMP" = some (some (.int 720 t))) (B : NoB K) (D : DfA K mg) (Q : ZC K C) (R : PrF K C) (J : InF K C) : Al P w K mg base C := by
  have T : Nm mg := ⟨PySem.W.mg_none_of X G B.isi, PySem.W.mg_none_of X G B.int, PySem.W.mg_none_of X G B.bool, PySem.W.mg_none_of X G B.lst, PySem.W.mg_none_of X G B.tup, PySem.W.mg_none_of X G B.len, PySem.W.mg_none_of X G B.abs, PySem.W.mg_none_of X G B.min, PySem.W.mg_none_of X G B.max, PySem.W.mg_none_of X G B.rep, PySem.W.mg_none_of X G B.rng⟩
  have Z : ZT K mg C := ⟨⟨Q.pg, Q.hd, Q.po, Q.sa⟩, Q.nB, Q.nR, PySem.W.mg_of X G Q.aC⟩
  have I : ZI K C := ⟨Q.ha, R.hn, R.htk, Q.hm, kit_self Q.bq, Q.no⟩
  obtain ⟨tg, hg⟩ := hGJ
  have hG : ∃ t, mg "GREATEST_JUMP" = some (.int 720 t) := ⟨tg, PySem.W.mg_of X G hg⟩
  obtain ⟨f0, fd0, F0⟩ := D.d0
  obtain ⟨f1, fd1, F1⟩ := D.d1
  obtain ⟨f2, fd2, F2⟩ := D.d2
  obtain ⟨f3, fd3, F3⟩ := D.d3
  obtain ⟨f4, fd4, F4⟩ := D.d4
  obtain ⟨f5, fd5, F5⟩ := D.d5
  obtain ⟨f6, fd6, F6⟩ := D.d6
  obtain ⟨f7, fd7, F7⟩ := D.d7
  obtain ⟨f8, fd8, F8⟩ := D.d8
  obtain ⟨f9, fd9, F9⟩ := D.d9
  obtain ⟨f10, fd10, F10⟩ := D.d10
  obtain ⟨f11, fd11, F11⟩ := D.d11
  obtain ⟨f12, fd12, F12⟩ := D.d12
  obtain ⟨f13, fd13, F13⟩ := D.d13
  obtain ⟨f14, fd14, F14⟩ := D.d14
  obtain ⟨f15, fd15, F15⟩ := D.d15
  obtain ⟨f16, fd16, F16⟩ := D.d16
  obtain ⟨c1, cd1, C1⟩ := Q.mC
  obtain ⟨c2, cd2, C2⟩ := Q.mJ
  obtain ⟨c3, cd3, C3⟩ := Q.mG
  obtain ⟨c4, cd4, C4⟩ := Q.mF
  obtain ⟨c5, cd5, C5⟩ := Q.mL
  obtain ⟨c6, cd6, C6⟩ := Q.mK
  obtain ⟨⟨c7, cd7, C7⟩, nm, q, N, bs, hdct, sn, sub, ab, col, dd, k0, k1, k2, k3, k5, newId, fq, e1, e2, e3, e4, e5, e6⟩ := Q.eq
  obtain ⟨⟨pp, p1, pd, hp, P1, PB⟩, _, _⟩ := R
  obtain ⟨fi, dt, et, od, an, osl, oc, kV, dc, pm, cd, ct, oo, oe, n, ne, i1, i2, i3, i4, i5, i6, i7, i8, i9⟩ := J
  have efq : fq = c7 := by
    have z := e5.symm.trans C7.m.at_
    injection z with z
    injection z with z
    injection z
  subst efq
  have W : ZMk P w K mg base C fi (PySem.W.fnOf "__init__" "Zone.__init__" (defArgs sInit) (defBody sInit) (defScope sInit) (.ref dt) kV dc pm an cd ct) et :=
    ⟨Z, ⟨Q.mks, i1, i2, Q.kc⟩, ok_init (fd := fd0) T Z hG F0 F1 F6 F5 F4 F3 F2 i3 i4, (binds_init i5 i6).1, (binds_init i5 i6).2, .inr ⟨oe, #[], ne, i7, i8, i9, by decide, .nil⟩⟩
  have GM : FnOk P w K mg base CX0 6 f13 fd13 ["_law_plan"] (spMade K C) := ok_lmade W F12 F13
  have GS : FnOk P w K mg base CX0 1 f14 fd14 ["_law_plan", "_law_sign"] (spL K RLSpans) := ok_lspans T F14
  have Gj : FnOk P w K mg base CX0 2 c2 cd2 ["self"] (spML K C fun _ rs => rs.map fun r => .int (jmp r)) := ok_jumps Z F6 C2.F
  have Gg : FnOk P w K mg base CX0 2 c3 cd3 ["self"] (spML K C fun _ rs => gapsOf rs) := ok_gaps T Z F6 F7 C3.F
  have Gf : FnOk P w K mg base CX0 2 c4 cd4 ["self"] (spML K C fun _ rs => foldsOf rs) := ok_folds T Z F6 F7 C4.F
  exact
  { T := T
    W := ⟨_, _, _, W⟩
    cell := ⟨_, _, F8, ok_cell T F8⟩
    bag := ⟨_, _, F9, ok_bag T F9⟩
    zone := ⟨_, _, F11, ok_zone T F10 F11⟩
    chg := ⟨_, _, F12, ok_lchanges F12⟩
    made := ⟨_, _, F13, GM⟩
    spans := ⟨_, _, F14, GS⟩
    others := ⟨_, _, F15, ok_lothers T F15⟩
    fresh := ⟨_, _, F16, ok_fresh T Z GM F13 GS F14 Gg C3 Gf C4 Gj C2 F16⟩
    mC := ⟨_, _, C1, ok_changes Z C1.F⟩
    mJ := ⟨_, _, C2, Gj⟩
    mG := ⟨_, _, C3, Gg⟩
    mF := ⟨_, _, C4, Gf⟩
    first := ⟨pp, p1, pd, hp, PB, ok_first Z P1⟩
    len := ⟨_, _, C5.m.at_, C5.m.fn, C5.b, ok_len T Z C5.F⟩
    cont := ⟨_, _, C6.m.at_, C6.m.fn, C6.b, ok_cont T Z F0 C6.F⟩
    eq := ⟨_, _, ⟨⟨nm, q, N, bs, hdct, sn, sub, ab, col, dd, k0, k1, k2, k3, k5, newId, e1, e2, e3, e4⟩, C7.m.at_, C7.m.fn, e6⟩, ok_eq T Z I C7.F, C7.b, Q.sub⟩ }
theorem all_g {l : PySem.W.OpenLaw} {w : World} {K : PySem.W.Frag} {h : Heap} {mg : Str → Option Value} {fa C : Addr} (X : K.In h) (G : h.Ns mainGlobals mg) (hfa : mg "law" = some (.ref fa)) (hGJ : ∃ t, PySem.W.nsIn K mainGlobals "GREATEST_JUMP" = some (some (.int 720 t))) (B : NoB K) (D : DfA K mg) (Q : ZC K C) (R : PrF K C) (J : InF K C) :
    ∃ fd : FuncData, (∀ (s : Shared) (v : Value), BindsTo s fd ⟨[v], []⟩ [("_law_script", v)]) ∧ ∀ base : Heap, K.In base → base.Ns mainGlobals mg → FnG l.prog w K mg base 8 fa fd ["_law_script"] (spLaw K) := by
  obtain ⟨f, fd, F⟩ := D.d17
  have e := hfa.symm.trans F.g
  injection e with e
  injection e with e
  subst e
  obtain ⟨oc, od, kV, dc, pm, an, cdv, ct, osl, rfl, _⟩ := F.F.ex
  exact ⟨_, fun s v => .of_eq rfl, fun base _ _ => ok_law (al_of X G hGJ B D Q R J) F.F⟩
end Zn

set_option Elab.async false
open PySem PySem.W PyProof.Rows in
set_option maxRecDepth 100000 in
set_option maxHeartbeats 0 in
theorem PySem.Challenge.cw_everyzone_k04_zones_made_holds : PySem.Challenge.rw_everyzone_k04_zones_made.Holds := by
  w_on; o_law; k_head; (case hw => w_witness2)
  k_fill
  refine Zn.walk_g (l := PySem.Challenge.rw_everyzone_k04_zones_made) rfl rfl (fun w h Y => PySem.W.kIn_of Y) ?F
  case F =>
    intro w mg fa h KX G hmg
    refine' Zn.all_g KX G hmg (Zn.gj_mk ?gj) ?B ?D ?Q ?R ?J
    case Q =>
      refine' ⟨?aC, ?pg, ?hd, ?po, ?sa, ?nB, ?nR, ?ha, ?hm, ?bq, ?no, ?sub, ?mks, ?kc, ?mC, ?mJ, ?mG, ?mF, ?mL, ?mK, ?eq⟩
      (case aC => k_is)
      (case pg => k_is)
      (case hd => k_is)
      (case po => k_is)
      (case sa => k_is)
      (case nB => k_is)
      (case nR => k_is)
      (case ha => k_is)
      (case hm => k_is)
      (case bq => rfl)
      case no =>
        refine' Zn.kit_list ?h ?c ?t ?s
        (case h => rfl)
        (case c => k_is)
        (case t => k_is)
        (case s => k_is)
      (case sub => k_is)
      (case mks => k_is)
      (case kc => k_is)
      case mC =>
        refine' Zn.mt_mk ?a ?i ?l ?c ?k ?b
        (case a => k_is)
        (case i => k_is)
        (case l => k_is)
        (case c => k_is)
        (case k => k_is)
        (case b => exact fun us hl => match us, hl with | [_], _ => rfl)
      case mJ =>
        refine' Zn.mt_mk ?a ?i ?l ?c ?k ?b
        (case a => k_is)
        (case i => k_is)
        (case l => k_is)
        (case c => k_is)
        (case k => k_is)
        (case b => exact fun us hl => match us, hl with | [_], _ => rfl)
      case mG =>
        refine' Zn.mt_mk ?a ?i ?l ?c ?k ?b
        (case a => k_is)
        (case i => k_is)
        (case l => k_is)
        (case c => k_is)
        (case k => k_is)
        (case b => exact fun us hl => match us, hl with | [_], _ => rfl)
      case mF =>
        refine' Zn.mt_mk ?a ?i ?l ?c ?k ?b
        (case a => k_is)
        (case i => k_is)
        (case l => k_is)
        (case c => k_is)
        (case k => k_is)
        (case b => exact fun us hl => match us, hl with | [_], _ => rfl)
      case mL =>
        refine' Zn.mt_mk ?a ?i ?l ?c ?k ?b
        (case a => k_is)
        (case i => k_is)
        (case l => k_is)
        (case c => k_is)
        (case k => k_is)
        (case b => exact fun us hl => match us, hl with | [_], _ => rfl)
      case mK =>
        refine' Zn.mt_mk ?a ?i ?l ?c ?k ?b
        (case a => k_is)
        (case i => k_is)
        (case l => k_is)
        (case c => k_is)
        (case k => k_is)
        (case b => exact fun us hl => match us, hl with | [_, _], _ => rfl)
      case eq =>
        refine' Zn.eq_mk ?m ?l ?n ?e ?z ?a ?lo ?t
        case m =>
          refine' Zn.mt_mk ?a1 ?i1 ?l1 ?c1 ?k1 ?b1
          (case a1 => k_is)
          (case i1 => k_is)
          (case l1 => k_is)
          (case c1 => k_is)
          (case k1 => k_is)
          (case b1 => exact fun us hl => match us, hl with | [_, _], _ => rfl)
        (case l => k_is)
        case n =>
          refine' Zn.nsOk_mk ?nl ?nh
          (case nl => k_is)
          (case nh => first | rfl | decide +kernel | simp [PySem.W.nsOkIn, List.lookup])
        (case e => k_is)
        (case z => k_is)
        (case a => k_is)
        (case lo => k_is)
        (case t => rfl)
    case R =>
      refine' Zn.pr_mk ?a ?b ?t ?r ?l ?c ?k ?hn ?htk
      (case a => k_is)
      (case b => k_is)
      (case t => k_is)
      (case r => k_is)
      (case l => k_is)
      (case c => k_is)
      (case k => k_is)
      (case hn => k_is)
      (case htk => k_is)
    case J =>
      refine' Zn.in_mk ?a ?i ?l ?c ?d ?dd ?e ?ec ?ed
      (case a => k_is)
      (case i => k_is)
      (case l => k_is)
      (case c => k_is)
      (case d => k_is)
      (case dd => rfl)
      (case e => k_is)
      (case ec => rfl)
      (case ed => rfl)
    (case gj => k_is)
    case B =>
      refine' ⟨?n0, ?n1, ?n2, ?n3, ?n4, ?n5, ?n6, ?n7, ?n8, ?n9, ?n10⟩
      (case n0 => k_is)
      (case n1 => k_is)
      (case n2 => k_is)
      (case n3 => k_is)
      (case n4 => k_is)
      (case n5 => k_is)
      (case n6 => k_is)
      (case n7 => k_is)
      (case n8 => k_is)
      (case n9 => k_is)
      (case n10 => k_is)
    case D =>
      refine' ⟨?d0, ?d1, ?d2, ?d3, ?d4, ?d5, ?d6, ?d7, ?d8, ?d9, ?d10, ?d11, ?d12, ?d13, ?d14, ?d15, ?d16, ?d17⟩
      case d0 =>
        refine' Zn.df_mk KX G ?a ?l ?c ?k ?b
        (case a => k_is)
        (case l => k_is)
        (case c => k_is)
        (case k => k_is)
        (case b => exact fun us hl => match us, hl with | [_], _ => rfl)
      case d1 =>
        refine' Zn.df_mk KX G ?a ?l ?c ?k ?b
        (case a => k_is)
        (case l => k_is)
        (case c => k_is)
        (case k => k_is)
        (case b => exact fun us hl => match us, hl with | [_], _ => rfl)
      case d2 =>
        refine' Zn.df_mk KX G ?a ?l ?c ?k ?b
        (case a => k_is)
        (case l => k_is)
        (case c => k_is)
        (case k => k_is)
        (case b => exact fun us hl => match us, hl with | [_], _ => rfl)
      case d3 =>
        refine' Zn.df_mk KX G ?a ?l ?c ?k ?b
        (case a => k_is)
        (case l => k_is)
        (case c => k_is)
        (case k => k_is)
        (case b => exact fun us hl => match us, hl with | [_, _], _ => rfl)
      case d4 =>
        refine' Zn.df_mk KX G ?a ?l ?c ?k ?b
        (case a => k_is)
        (case l => k_is)
        (case c => k_is)
        (case k => k_is)
        (case b => exact fun us hl => match us, hl with | [_, _], _ => rfl)
      case d5 =>
        refine' Zn.df_mk KX G ?a ?l ?c ?k ?b
        (case a => k_is)
        (case l => k_is)
        (case c => k_is)
        (case k => k_is)
        (case b => exact fun us hl => match us, hl with | [_], _ => rfl)
      case d6 =>
        refine' Zn.df_mk KX G ?a ?l ?c ?k ?b
        (case a => k_is)
        (case l => k_is)
        (case c => k_is)
        (case k => k_is)
        (case b => exact fun us hl => match us, hl with | [_], _ => rfl)
      case d7 =>
        refine' Zn.df_mk KX G ?a ?l ?c ?k ?b
        (case a => k_is)
        (case l => k_is)
        (case c => k_is)
        (case k => k_is)
        (case b => exact fun us hl => match us, hl with | [_], _ => rfl)
      case d8 =>
        refine' Zn.df_mk KX G ?a ?l ?c ?k ?b
        (case a => k_is)
        (case l => k_is)
        (case c => k_is)
        (case k => k_is)
        (case b => exact fun us hl => match us, hl with | [_, _], _ => rfl)
      case d9 =>
        refine' Zn.df_mk KX G ?a ?l ?c ?k ?b
        (case a => k_is)
        (case l => k_is)
        (case c => k_is)
        (case k => k_is)
        (case b => exact fun us hl => match us, hl with | [_], _ => rfl)
      case d10 =>
        refine' Zn.df_mk KX G ?a ?l ?c ?k ?b
        (case a => k_is)
        (case l => k_is)
        (case c => k_is)
        (case k => k_is)
        (case b => exact fun us hl => match us, hl with | [_, _], _ => rfl)
      case d11 =>
        refine' Zn.df_mk KX G ?a ?l ?c ?k ?b
        (case a => k_is)
        (case l => k_is)
        (case c => k_is)
        (case k => k_is)
        (case b => exact fun us hl => match us, hl with | [_, _], _ => rfl)
      case d12 =>
        refine' Zn.df_mk KX G ?a ?l ?c ?k ?b
        (case a => k_is)
        (case l => k_is)
        (case c => k_is)
        (case k => k_is)
        (case b => exact fun us hl => match us, hl with | [_], _ => rfl)
      case d13 =>
        refine' Zn.df_mk KX G ?a ?l ?c ?k ?b
        (case a => k_is)
        (case l => k_is)
        (case c => k_is)
        (case k => k_is)
        (case b => exact fun us hl => match us, hl with | [_], _ => rfl)
      case d14 =>
        refine' Zn.df_mk KX G ?a ?l ?c ?k ?b
        (case a => k_is)
        (case l => k_is)
        (case c => k_is)
        (case k => k_is)
        (case b => exact fun us hl => match us, hl with | [_, _], _ => rfl)
      case d15 =>
        refine' Zn.df_mk KX G ?a ?l ?c ?k ?b
        (case a => k_is)
        (case l => k_is)
        (case c => k_is)
        (case k => k_is)
        (case b => exact fun us hl => match us, hl with | [_], _ => rfl)
      case d16 =>
        refine' Zn.df_mk KX G ?a ?l ?c ?k ?b
        (case a => k_is)
        (case l => k_is)
        (case c => k_is)
        (case k => k_is)
        (case b => exact fun us hl => match us, hl with | [_], _ => rfl)
      case d17 =>
        refine' Zn.df_mk KX G ?a ?l ?c ?k ?b
        (case a => k_is)
        (case l => k_is)
        (case c => k_is)
        (case k => k_is)
        (case b => exact fun us hl => match us, hl with | [_], _ => rfl)
