import PyProof.Rows.All
import Wide.All
import OpenK.AllK
import Wide.FinOn
import PyProof.EqAt
import PyProof.EqKinds
import PyProof.TupleCall
import PyProof.ReprRoads
import HandS.ForMost
import HandS.IsInst
import HandS.Wide
import PyProof.InstNe
import HandS.Property
import HandS.SetBool
import HandS.Strs
import HandS.RaiseMore
import HandS.Dict
import PySem.Challenge.RW_everyzone_k08_zones_of_a_kind
import HandS.Iter
import HandS.Style
import HandS.Deep
set_option Elab.async false
set_option linter.all false
set_option maxRecDepth 100000
set_option maxHeartbeats 4000000
/-! Data layer: pure expressions by the data they come to. M: addresses that may change; what is known stands outside of M. -/
namespace Dl
open PySem PySem.Spec PyProof.Rows L2

/-! ### what is known -/
def hid (M : List Addr) (H : Hp) : Hp := fun a => if a ∈ M then none else H a
def Live (M : List Addr) (H : Hp) : Prop := ∀ a ∈ M, H a ≠ none
section
variable {M : List Addr} {H H' : Hp} {a p : Addr} {o : HO}
theorem hid_of (n : a ∉ M) : hid M H a = H a := if_neg n
theorem hid_le : Same (hid M H) H := fun b o e => by
  unfold hid at e
  split at e
  · cases e
  · exact e
theorem hid_mono (s : Same H H') : Same (hid M H) (hid M H') := fun b o e => by
  unfold hid at e ⊢
  split at e
  · cases e
  · rename_i n; rw [if_neg n]; exact s b o e
theorem hid_nil : hid [] H = H := by funext b; unfold hid; rw [if_neg (by simp)]
theorem hid_upd_mem (h : p ∈ M) : hid M (upd H p o) = hid M H := by
  funext b; unfold hid
  split
  · rfl
  · rename_i n; rw [upd_ne (fun z => n (by rw [z]; exact h))]
theorem Live.mono (L : Live M H) (s : Same H H') : Live M H' := fun b hb z => by
  cases e : H b with
  | none => exact L b hb e
  | some o => rw [s b o e] at z; cases z
theorem Live.fresh (L : Live M H) (hp : H p = none) : p ∉ M := fun h => L p h hp
theorem Live.nil : Live [] H := fun _ h => by simp at h
theorem hid_new (L : Live M H) (hp : H p = none) : hid M (upd H p o) = upd (hid M H) p o := by
  funext b; unfold hid upd
  by_cases hb : b = p
  · subst hb; rw [if_neg (L.fresh hp), if_pos rfl, if_pos rfl]
  · rw [if_neg hb, if_neg hb]
theorem hid_free (hp : H p = none) : hid M H p = none := by unfold hid; split <;> first | rfl | exact hp
theorem hid_cons (hp : H p = none) : hid (p :: M) (upd H p o) = hid M H := by
  funext b; unfold hid
  by_cases hb : b = p
  · subst hb
    rw [if_pos (List.mem_cons_self ..)]
    split <;> first | rfl | exact hp.symm
  · by_cases hm : b ∈ M
    · rw [if_pos (List.mem_cons_of_mem _ hm), if_pos hm]
    · rw [if_neg (by simp [hb, hm]), if_neg hm, upd_ne hb]
theorem Live.cons (L : Live M H) (hp : H p = none) : Live (p :: M) (upd H p o) := fun b hb => by
  rcases List.mem_cons.mp hb with e | hb
  · subst e; rw [upd_same]; simp
  · rw [upd_ne (fun z => L b hb (by rw [z]; exact hp))]; exact L b hb
theorem Live.upd (L : Live M H) : Live M (upd H p o) := fun b hb => by
  by_cases e : b = p
  · subst e; rw [upd_same]; simp
  · rw [upd_ne e]; exact L b hb
theorem same_new (hp : H p = none) : Same H (upd H p o) := fun b u e => by rw [upd_ne (ne_of_none e hp)]; exact e
theorem Live.to (L : Live M H) (s : Same (hid [] H) H') : Live M H' := L.mono (by rw [hid_nil] at s; exact s)
theorem hid_hid : hid M (hid M H) = hid M H := by
  funext b; unfold hid; split <;> rfl
end
theorem same_seqT {K : PySem.W.Frag} {H H' : Hp} {a : Addr} {xs : List V} (e : Same H H') (h : SqT K H a xs) : SqT K H' a xs := by
  rcases h with (h | ⟨o, h⟩) | h
  · exact .inl (.inl (e _ _ h))
  · exact .inl (.inr ⟨o, e _ _ h⟩)
  · exact .inr h
mutual
/-- a value is the data (every list is one that is tracked) -/
inductive Dq (K : PySem.W.Frag) (H : Hp) : V → PyData → Prop
  | non : Dq K H .non .none
  | bl (b : Bool) : Dq K H (.bl b) (.bool b)
  | int (i : Int) : Dq K H (.int i) (.int i)
  | str (x : Str) : Dq K H (.str x) (.str x)
  | lst {a : Addr} {xs : List V} {ds : List PyData} : H a = some (.lst xs) → DqAll K H xs ds → Dq K H (.ref a) (.list ds)
  | tup {a : Addr} {xs : List V} {ds : List PyData} : SqT K H a xs → DqAll K H xs ds → Dq K H (.ref a) (.tuple ds)
inductive DqAll (K : PySem.W.Frag) (H : Hp) : List V → List PyData → Prop
  | nil : DqAll K H [] []
  | cons {v : V} {vs : List V} {d : PyData} {ds : List PyData} : Dq K H v d → DqAll K H vs ds → DqAll K H (v :: vs) (d :: ds)
end
mutual
theorem Dq.dp {K : PySem.W.Frag} {H : Hp} : ∀ (d : PyData) (v : V), Dq K H v d → Dp K H v d
  | .none, _, h => by cases h; exact .non
  | .bool b, _, h => by cases h; exact .bl b
  | .int i, _, h => by cases h; exact .int i
  | .str x, _, h => by cases h; exact .str x
  | .list ds, _, h => by
    cases h with
    | lst hs ha => exact .lst (SqL.of hs) (DqAll.dp ds _ ha)
  | .tuple ds, _, h => by
    cases h with
    | tup hs ha => exact .tup hs (DqAll.dp ds _ ha)
  | .dict _, _, h => by cases h
theorem DqAll.dp {K : PySem.W.Frag} {H : Hp} : ∀ (ds : List PyData) (vs : List V), DqAll K H vs ds → DpAll K H vs ds
  | [], _, h => by cases h; exact .nil
  | d :: ds, _, h => by
    cases h with
    | cons h1 h2 => exact .cons (Dq.dp d _ h1) (DqAll.dp ds _ h2)
end
mutual
theorem dp_mono {K : PySem.W.Frag} {H H' : Hp} (e : Same H H') : ∀ (d : PyData) (v : V), Dq K H v d → Dq K H' v d
  | .none, _, h => by cases h; exact .non
  | .bool b, _, h => by cases h; exact .bl b
  | .int i, _, h => by cases h; exact .int i
  | .str x, _, h => by cases h; exact .str x
  | .list ds, _, h => by
    cases h with
    | lst hs ha => exact .lst (e _ _ hs) (dpa_mono e ds _ ha)
  | .tuple ds, _, h => by
    cases h with
    | tup hs ha => exact .tup (same_seqT e hs) (dpa_mono e ds _ ha)
  | .dict _, _, h => by cases h
theorem dpa_mono {K : PySem.W.Frag} {H H' : Hp} (e : Same H H') : ∀ (ds : List PyData) (vs : List V), DqAll K H vs ds → DqAll K H' vs ds
  | [], _, h => by cases h; exact .nil
  | d :: ds, _, h => by
    cases h with
    | cons h1 h2 => exact .cons (dp_mono e d _ h1) (dpa_mono e ds _ h2)
end
section
variable {K : PySem.W.Frag} {H H' : Hp} {v : V} {vs : List V} {ds es : List PyData} {d : PyData}
theorem Dq.up (h : Dq K H v d) (e : Same H H') : Dq K H' v d := dp_mono e d v h
theorem DqAll.up (h : DqAll K H vs ds) (e : Same H H') : DqAll K H' vs ds := dpa_mono e ds vs h
theorem dpa_len : ∀ {vs : List V} {ds : List PyData}, DqAll K H vs ds → vs.length = ds.length
  | _, _, .nil => rfl
  | _, _, .cons _ h => by rw [List.length_cons, List.length_cons, dpa_len h]
theorem dpa_app : ∀ {vs ws : List V} {ds es : List PyData}, DqAll K H vs ds → DqAll K H ws es → DqAll K H (vs ++ ws) (ds ++ es)
  | _, _, _, _, .nil, h => h
  | _, _, _, _, .cons a b, h => .cons a (dpa_app b h)
theorem dpa_get : ∀ {vs : List V} {ds : List PyData} {i : Nat} {d : PyData}, DqAll K H vs ds → ds[i]? = some d → ∃ v, vs[i]? = some v ∧ Dq K H v d
  | _, _, _, _, .nil, e => by simp at e
  | _, _, 0, _, .cons a _, e => by simp at e; subst e; exact ⟨_, rfl, a⟩
  | _, _, i + 1, d, .cons _ b, e => by
    obtain ⟨v, h1, h2⟩ := dpa_get (i := i) (d := d) b (by simpa using e)
    exact ⟨v, by simpa using h1, h2⟩
theorem dpa_get' : ∀ {vs : List V} {ds : List PyData} {i : Nat} {v : V}, DqAll K H vs ds → vs[i]? = some v → ∃ d, ds[i]? = some d ∧ Dq K H v d
  | _, _, _, _, .nil, e => by simp at e
  | _, _, 0, _, .cons a _, e => by simp at e; subst e; exact ⟨_, rfl, a⟩
  | _, _, i + 1, v, .cons _ b, e => by
    obtain ⟨d, h1, h2⟩ := dpa_get' (i := i) (v := v) b (by simpa using e)
    exact ⟨d, by simpa using h1, h2⟩
theorem dpa_drop : ∀ (n : Nat) {vs : List V} {ds : List PyData}, DqAll K H vs ds → DqAll K H (vs.drop n) (ds.drop n)
  | 0, _, _, h => h
  | _ + 1, _, _, .nil => .nil
  | n + 1, _, _, .cons _ b => dpa_drop n b
theorem dpa_take : ∀ (n : Nat) {vs : List V} {ds : List PyData}, DqAll K H vs ds → DqAll K H (vs.take n) (ds.take n)
  | 0, _, _, _ => .nil
  | _ + 1, _, _, .nil => .nil
  | n + 1, _, _, .cons a b => .cons a (dpa_take n b)
theorem dp_int {i : Int} (h : Dq K H v (.int i)) : v = .int i := by cases h; rfl
theorem dp_bl {b : Bool} (h : Dq K H v (.bool b)) : v = .bl b := by cases h; rfl
theorem dp_str {x : Str} (h : Dq K H v (.str x)) : v = .str x := by cases h; rfl
theorem dp_non (h : Dq K H v .none) : v = .non := by cases h; rfl
theorem dp_lst (h : Dq K H v (.list ds)) : ∃ a xs, v = .ref a ∧ H a = some (.lst xs) ∧ DqAll K H xs ds := by
  cases h with
  | lst h1 h2 => exact ⟨_, _, rfl, h1, h2⟩
theorem dp_tup (h : Dq K H v (.tuple ds)) : ∃ a xs, v = .ref a ∧ SqT K H a xs ∧ DqAll K H xs ds := by
  cases h with
  | tup h1 h2 => exact ⟨_, _, rfl, h1, h2⟩
end
/-! ### readings by themselves -/
def RE (X : Cx) (e : Expr) : TE := fun σ H Q => ∃ t, PE X e t ∧ t σ H Q
def RT (X : Cx) (e : Expr) : TT := fun σ H Q => ∃ t, PT X e t ∧ t σ H Q
def RW (X : Cx) (e : Expr) : TT := fun σ H Q => ∃ t, PW X e t ∧ t σ H Q
def RA (X : Cx) (es : List Expr) : TA := fun σ H Q => ∃ t, PA X es t ∧ t σ H Q
def RS (X : Cx) (st : Stmt) : TS := fun D σ H => ∃ t, PS X st t ∧ t D σ H
def RB (X : Cx) (st : List Stmt) : TS := fun D σ H => ∃ t, PSs X st t ∧ t D σ H
def RI (X : Cx) (tg e : Expr) : TI := fun σ H R => ∃ t, PI X tg e t ∧ t σ H R
section
variable {X : Cx} {e tg : Expr} {es : List Expr} {st : Stmt} {sts : List Stmt}
theorem re_ : PE X e (RE X e) := ⟨fun pins s σ H Q I ⟨_, h, q⟩ => h.run pins s σ H Q I q⟩
theorem rt_ : PT X e (RT X e) := ⟨fun pins s σ H Q I ⟨_, h, q⟩ => h.run pins s σ H Q I q⟩
theorem rw_ : PW X e (RW X e) := ⟨fun wh pins s σ H Q I ⟨_, h, q⟩ => h.run wh pins s σ H Q I q⟩
theorem ra_ : PA X es (RA X es) := ⟨fun pos pins s σ H Q I ⟨_, h, q⟩ => h.run pos pins s σ H Q I q⟩
theorem rs_ : PS X st (RS X st) := ⟨fun pins s σ H D I ⟨_, h, q⟩ => h.run pins s σ H D I q⟩
theorem rb_ : PSs X sts (RB X sts) := ⟨fun pins s σ H D I ⟨_, h, q⟩ => h.run pins s σ H D I q⟩
theorem ri_ : PI X tg e (RI X tg e) := ⟨fun pins s σ H R I ⟨_, h, q⟩ => h.run pins s σ H R I q⟩
end
/-! ### what an expression comes to -/
/-- the data d; an exact value v; a new list of the data ds; arguments; a test -/
def XD (X : Cx) (M : List Addr) (σ : L2.St) (H : Hp) (e : Expr) (d : PyData) : Prop := ∀ H1, Same H H1 → ∀ Q : VK, (∀ v H2, Same H1 H2 → Dq X.K (hid M H2) v d → Q v H2) → RE X e σ H1 Q
def XV (X : Cx) (σ : L2.St) (H : Hp) (e : Expr) (v : V) : Prop := ∀ H1, Same H H1 → ∀ Q : VK, (∀ H2, Same H1 H2 → Q v H2) → RE X e σ H1 Q
def XL (X : Cx) (M : List Addr) (σ : L2.St) (H : Hp) (e : Expr) (ds : List PyData) : Prop :=
  ∀ H1, Same H H1 → ∀ Q : VK, (∀ p xs H2, Same H1 H2 → H1 p = none → H2 p = some (.lst xs) → DqAll X.K (hid M H2) xs ds → Q (.ref p) H2) → RE X e σ H1 Q
def XA (X : Cx) (M : List Addr) (σ : L2.St) (H : Hp) (es : List Expr) (ds : List PyData) : Prop := ∀ H1, Same H H1 → ∀ Q : List V → Hp → Prop, (∀ vs H2, Same H1 H2 → DqAll X.K (hid M H2) vs ds → Q vs H2) → RA X es σ H1 Q
def XT (X : Cx) (σ : L2.St) (H : Hp) (e : Expr) (b : Bool) : Prop := ∀ H1, Same H H1 → ∀ Q : Bool → Hp → Prop, (∀ H2, Same H1 H2 → Q b H2) → RT X e σ H1 Q
def XW (X : Cx) (σ : L2.St) (H : Hp) (e : Expr) (b : Bool) : Prop := ∀ H1, Same H H1 → ∀ Q : Bool → Hp → Prop, (∀ H2, Same H1 H2 → Q b H2) → RW X e σ H1 Q
section
variable {X : Cx} {M : List Addr} {σ : L2.St} {H H' : Hp} {e a b c : Expr} {es : List Expr} {d d1 d2 : PyData} {ds es' : List PyData} {i : Nat} {x : Str} {v : V} {pos : Pos}
theorem XD.up (h : XD X M σ H e d) (s : Same H H') : XD X M σ H' e d := fun H1 q => h H1 (s.trans q)
theorem XV.up (h : XV X σ H e v) (s : Same H H') : XV X σ H' e v := fun H1 q => h H1 (s.trans q)
theorem XL.up (h : XL X M σ H e ds) (s : Same H H') : XL X M σ H' e ds := fun H1 q => h H1 (s.trans q)
theorem XA.up (h : XA X M σ H es ds) (s : Same H H') : XA X M σ H' es ds := fun H1 q => h H1 (s.trans q)
theorem XT.up {b : Bool} (h : XT X σ H e b) (s : Same H H') : XT X σ H' e b := fun H1 q => h H1 (s.trans q)
theorem XD.to {d' : PyData} (h : XD X M σ H e d) (q : d = d') : XD X M σ H e d' := q ▸ h
theorem XL.to {ds' : List PyData} (h : XL X M σ H e ds) (q : ds = ds') : XL X M σ H e ds' := q ▸ h
theorem XT.to {k k' : Bool} (h : XT X σ H e k) (q : k = k') : XT X σ H e k' := q ▸ h
theorem XV.dd (h : XV X σ H e v) (hd : Dq X.K (hid M H) v d) : XD X M σ H e d := fun H1 s Q q => h H1 s Q fun H2 s2 => q v H2 s2 (dp_mono (hid_mono (s.trans s2)) d v hd)
theorem XV.int {n : Int} (h : XV X σ H e (.int n)) : XD X M σ H e (.int n) := h.dd (.int n)
theorem XD.vint {n : Int} (h : XD X M σ H e (.int n)) : XV X σ H e (.int n) := fun H1 s Q q => h H1 s Q fun v H2 s2 hv => by rw [dp_int hv]; exact q H2 s2
theorem XD.vbl {k : Bool} (h : XD X M σ H e (.bool k)) : XV X σ H e (.bl k) := fun H1 s Q q => h H1 s Q fun v H2 s2 hv => by rw [dp_bl hv]; exact q H2 s2
theorem XD.vstr {z : Str} (h : XD X M σ H e (.str z)) : XV X σ H e (.str z) := fun H1 s Q q => h H1 s Q fun v H2 s2 hv => by rw [dp_str hv]; exact q H2 s2
theorem XL.dd (h : XL X M σ H e ds) (L : Live M H) : XD X M σ H e (.list ds) := fun H1 s Q q => h H1 s Q fun p xs H2 s2 hp h2 hd =>
  q _ H2 s2 (.lst (by rw [hid_of (fun z => (L.mono s) p z hp)]; exact h2) hd)
/-! names, constants -/
theorem xv_name (i : Nat) {x : Str} {v : V} {pos : Pos} (hv : σ[i]? = some (some v)) (hN : X.N[i]? = some x := by rfl) (hs : Vis X.env.scope x := by first | exact Or.inl rfl | exact Or.inr (Or.inl rfl) | exact Or.inr (Or.inr rfl))
    (hb : (x == ("__debug__" : Str)) = false := by decide) (hc : (x == ("__classdict__" : Str)) = false := by decide) : XV X σ H (.Name x pos) v := fun H1 _ Q q => ⟨_, pe_var hN hs hb hc, v, hv, q H1 (Same.refl _)⟩
theorem xd_name (i : Nat) {x : Str} {v : V} {pos : Pos} (hv : σ[i]? = some (some v)) (hd : Dq X.K (hid M H) v d) (hN : X.N[i]? = some x := by rfl) (hs : Vis X.env.scope x := by first | exact Or.inl rfl | exact Or.inr (Or.inl rfl) | exact Or.inr (Or.inr rfl))
    (hb : (x == ("__debug__" : Str)) = false := by decide) (hc : (x == ("__classdict__" : Str)) = false := by decide) : XD X M σ H (.Name x pos) d := (xv_name i hv hN hs hb hc).dd hd
theorem xv_int {n : Int} {j} : XV X σ H (.Constant (.int n) j pos) (.int n) := fun H1 _ Q q => ⟨_, pe_int, q H1 (Same.refl _)⟩
theorem xd_int {n : Int} {j} : XD X M σ H (.Constant (.int n) j pos) (.int n) := xv_int.int
theorem xv_str {z : Str} {j} : XV X σ H (.Constant (.str z) j pos) (.str z) := fun H1 _ Q q => ⟨_, pe_str, q H1 (Same.refl _)⟩
theorem xd_str {z : Str} {j} : XD X M σ H (.Constant (.str z) j pos) (.str z) := xv_str.dd (.str z)
theorem xd_bl {k : Bool} {j} : XD X M σ H (.Constant (.bool k) j pos) (.bool k) := fun H1 _ Q q => ⟨_, pe_bl, q _ H1 (Same.refl _) (.bl k)⟩
theorem xd_non {j} : XD X M σ H (.Constant .none j pos) .none := fun H1 _ Q q => ⟨_, pe_non, q _ H1 (Same.refl _) .non⟩
theorem xv_glob {u : Value} (hm : X.mg x = some u) (r : RelV v u) (hg : Gl X x := by rfl) (hd : (x == ("__debug__" : Str)) = false := by decide) : XV X σ H (.Name x pos) v := fun H1 _ Q q => ⟨_, pe_glob hg hm r hd, q H1 (Same.refl _)⟩
theorem xv_bltn {u : Value} (hm : X.mg x = none) (hv : bootBuiltins x = some u) (r : RelV v u) (hg : Gl X x := by rfl) (hn : x ≠ "__name__" := by decide) (hd : (x == ("__debug__" : Str)) = false := by decide) : XV X σ H (.Name x pos) v :=
  fun H1 _ Q q => ⟨_, pe_bltn hg hm hv r hn hd, q H1 (Same.refl _)⟩
/-! displays -/
theorem xa_nil : XA X M σ H [] [] := fun H1 _ Q q => ⟨_, pa_nil, q [] H1 (Same.refl _) .nil⟩
theorem xa_cons (ha : XD X M σ H e d) (hr : XA X M σ H es ds) (hs : starEach (e :: es) X.env = (false, eval e X.env) :: starEach es X.env := by rfl) : XA X M σ H (e :: es) (d :: ds) := fun H1 s Q q =>
  ⟨_, pa_cons re_ ra_ hs, ha H1 s _ fun v H2 s2 hv => hr H2 (s.trans s2) _ fun vs H3 s3 hvs => q _ H3 (s2.trans s3) (.cons (hv.up (hid_mono s3)) hvs)⟩
theorem small_sz {n : Nat} (h : n ≤ 100000) : n ≤ sizeLine := Nat.le_trans h (by decide)
theorem xd_tup {x1} (L : Live M H) (h : XA X M σ H es ds) (hl : ds.length ≤ 100000 := by simp) : XD X M σ H (.Tuple es x1 pos) (.tuple ds) := fun H1 s Q q =>
  ⟨_, pe_tup ra_, h H1 s _ fun vs H2 s2 hvs => ⟨by rw [dpa_len hvs]; exact small_sz hl, fun p hp => q _ _ (s2.trans (same_new hp)) (by
    rw [hid_new (L.mono (s.trans s2)) hp]
    exact .tup (SqT.of upd_same) (hvs.up (same_new (hid_free hp))))⟩⟩
theorem xl_lst (L : Live M H) (h : XA X M σ H es ds) (hl : ds.length ≤ 100000 := by simp) : XL X M σ H (.List es pos) ds := fun H1 s Q q =>
  ⟨_, pe_lst ra_, h H1 s _ fun vs H2 s2 hvs => ⟨by rw [dpa_len hvs]; exact small_sz hl, fun p hp => q p vs _ (s2.trans (same_new hp)) (s2.free hp) upd_same (by
    rw [hid_new (L.mono (s.trans s2)) hp]
    exact hvs.up (same_new (hid_free hp)))⟩⟩
theorem xd_lst (L : Live M H) (h : XA X M σ H es ds) (hl : ds.length ≤ 100000 := by simp) : XD X M σ H (.List es pos) (.list ds) := (xl_lst L h hl).dd L
/-! operators -/
theorem xd_bin {op : Operator} {r : R2} (ho : OpR X (binaryOp op) r) (ha : XD X M σ H a d1) (hb : XD X M σ H b d2)
    (hr : ∀ H1 v w, Same H H1 → Dq X.K (hid M H1) v d1 → Dq X.K (hid M H1) w d2 → ∀ Q : VK, (∀ u H2, Same H1 H2 → Dq X.K (hid M H2) u d → Q u H2) → r v w H1 Q) : XD X M σ H (.BinOp a op b pos) d := fun H1 s Q q =>
  ⟨_, pe_op ho re_ re_, ha H1 s _ fun v H2 s2 hv => hb H2 (s.trans s2) _ fun w H3 s3 hw => hr H3 v w ((s.trans s2).trans s3) (hv.up (hid_mono s3)) hw Q fun u H4 s4 hu => q u H4 ((s2.trans s3).trans s4) hu⟩
theorem xd_binI {op : Operator} {C : Int → Int → Prop} {g : Int → Int → Int} {m n : Int} (ho : OpR X (binaryOp op) (rI C fun i j => .int (g i j))) (ha : XD X M σ H a (.int m)) (hb : XD X M σ H b (.int n)) (hc : C m n) : XD X M σ H (.BinOp a op b pos) (.int (g m n)) :=
  xd_bin ho ha hb fun H1 v w s hv hw Q q => ⟨m, n, dp_int hv, dp_int hw, hc, q _ H1 (Same.refl _) (.int _)⟩
theorem xd_binI0 {op : Operator} {g : Int → Int → Int} {m n : Int} (ho : OpR X (binaryOp op) (rI0 fun i j => .int (g i j))) (ha : XD X M σ H a (.int m)) (hb : XD X M σ H b (.int n)) : XD X M σ H (.BinOp a op b pos) (.int (g m n)) :=
  xd_bin ho ha hb fun H1 v w s hv hw Q q => ⟨m, n, dp_int hv, dp_int hw, q _ H1 (Same.refl _) (.int _)⟩
theorem xd_add {m n : Int} (ha : XD X M σ H a (.int m)) (hb : XD X M σ H b (.int n)) : XD X M σ H (.BinOp a .Add b pos) (.int (m + n)) := xd_binI0 op_add ha hb
theorem xd_sub {m n : Int} (ha : XD X M σ H a (.int m)) (hb : XD X M σ H b (.int n)) : XD X M σ H (.BinOp a .Sub b pos) (.int (m - n)) := xd_binI0 op_sub ha hb
theorem xd_mul {m n : Int} (ha : XD X M σ H a (.int m)) (hb : XD X M σ H b (.int n)) (hc : (-(2 ^ 64) < m ∧ m < 2 ^ 64) ∨ (-(2 ^ 64) < n ∧ n < 2 ^ 64)) : XD X M σ H (.BinOp a .Mult b pos) (.int (m * n)) := xd_binI op_mul ha hb hc
theorem xd_neg {m : Int} (ha : XD X M σ H a (.int m)) : XD X M σ H (.UnaryOp .USub a pos) (.int (-m)) := fun H1 s Q q =>
  ⟨_, pe_un un_neg re_, ha H1 s _ fun v H2 s2 hv => ⟨m, dp_int hv, q _ H2 s2 (.int _)⟩⟩
/-! comparisons -/
theorem xd_cmp {op : CmpOp} {r : R2} (ho : OpR X (compareOp op) r) (ha : XD X M σ H a d1) (hb : XD X M σ H b d2)
    (hr : ∀ H1 v w, Same H H1 → Dq X.K (hid M H1) v d1 → Dq X.K (hid M H1) w d2 → ∀ Q : VK, (∀ u H2, Same H1 H2 → Dq X.K (hid M H2) u d → Q u H2) → r v w H1 Q)
    (hm : behindInMarks op b = false := by first | exact nomark _ | rfl) : XD X M σ H (.Compare a [op] [b] pos) d := fun H1 s Q q =>
  ⟨_, pe_cmpR ho re_ re_ hm, ha H1 s _ fun v H2 s2 hv => hb H2 (s.trans s2) _ fun w H3 s3 hw => hr H3 v w ((s.trans s2).trans s3) (hv.up (hid_mono s3)) hw Q fun u H4 s4 hu => q u H4 ((s2.trans s3).trans s4) hu⟩
theorem xt_cmp {k : Bool} {op : CmpOp} {r : R2} (ho : OpR X (compareOp op) r) (ha : XD X M σ H a d1) (hb : XD X M σ H b d2)
    (hr : ∀ H1 v w, Same H H1 → Dq X.K (hid M H1) v d1 → Dq X.K (hid M H1) w d2 → ∀ Q : VK, (∀ H2, Same H1 H2 → Q (.bl k) H2) → r v w H1 Q)
    (hm : behindInMarks op b = false := by first | exact nomark _ | rfl) : XT X σ H (.Compare a [op] [b] pos) k := fun H1 s Q q =>
  ⟨_, pt_cmpR ho re_ re_ hm, ha H1 s _ fun v H2 s2 hv => hb H2 (s.trans s2) _ fun w H3 s3 hw => hr H3 v w ((s.trans s2).trans s3) (hv.up (hid_mono s3)) hw _ fun H4 s4 => ⟨k, rfl, q H4 ((s2.trans s3).trans s4)⟩⟩
theorem xt_cmpI {op : CmpOp} {g : Int → Int → Bool} {m n : Int} (ho : OpR X (compareOp op) (rI0 fun i j => .bl (g i j))) (ha : XD X M σ H a (.int m)) (hb : XD X M σ H b (.int n)) (hm : behindInMarks op b = false := by exact nomark _) : XT X σ H (.Compare a [op] [b] pos) (g m n) :=
  xt_cmp ho ha hb (fun H1 v w s hv hw Q q => ⟨m, n, dp_int hv, dp_int hw, q H1 (Same.refl _)⟩) hm
theorem xd_cmpI {op : CmpOp} {g : Int → Int → Bool} {m n : Int} (ho : OpR X (compareOp op) (rI0 fun i j => .bl (g i j))) (ha : XD X M σ H a (.int m)) (hb : XD X M σ H b (.int n)) (hm : behindInMarks op b = false := by exact nomark _) : XD X M σ H (.Compare a [op] [b] pos) (.bool (g m n)) :=
  xd_cmp ho ha hb (fun H1 v w s hv hw Q q => ⟨m, n, dp_int hv, dp_int hw, q _ H1 (Same.refl _) (.bl _)⟩) hm
theorem dec_int {m n : Int} : decide (V.int m = V.int n) = decide (m = n) := by
  by_cases h : m = n
  · subst h; simp
  · rw [decide_eq_false h, decide_eq_false fun z => h (V.int.inj z)]
theorem xd_eqI {m n : Int} (ha : XD X M σ H a (.int m)) (hb : XD X M σ H b (.int n)) : XD X M σ H (.Compare a [.Eq] [b] pos) (.bool (decide (m = n))) :=
  xd_cmp op_eq ha hb fun H1 v w s hv hw Q q => by
    rw [dp_int hv, dp_int hw]
    exact ⟨rfl, by rw [dec_int]; exact q _ H1 (Same.refl _) (.bl _)⟩
theorem xd_neI {m n : Int} (ha : XD X M σ H a (.int m)) (hb : XD X M σ H b (.int n)) : XD X M σ H (.Compare a [.NotEq] [b] pos) (.bool (!decide (m = n))) :=
  xd_cmp op_ne ha hb fun H1 v w s hv hw Q q => by
    rw [dp_int hv, dp_int hw]
    exact ⟨rfl, by rw [dec_int]; exact q _ H1 (Same.refl _) (.bl _)⟩
theorem xt_eqI {m n : Int} (ha : XD X M σ H a (.int m)) (hb : XD X M σ H b (.int n)) : XT X σ H (.Compare a [.Eq] [b] pos) (decide (m = n)) :=
  xt_cmp op_eq ha hb fun H1 v w s hv hw Q q => by
    rw [dp_int hv, dp_int hw]
    exact ⟨rfl, by rw [dec_int]; exact q H1 (Same.refl _)⟩
theorem xt_neI {m n : Int} (ha : XD X M σ H a (.int m)) (hb : XD X M σ H b (.int n)) : XT X σ H (.Compare a [.NotEq] [b] pos) (!decide (m = n)) :=
  xt_cmp op_ne ha hb fun H1 v w s hv hw Q q => by
    rw [dp_int hv, dp_int hw]
    exact ⟨rfl, by rw [dec_int]; exact q H1 (Same.refl _)⟩
theorem xd_eqD (hu : X.A.units + 64 < cLine) (ha : XD X M σ H a d1) (hb : XD X M σ H b d2) (s1 : SeqAt.shaped d1 = true) (s2 : SeqAt.shaped d2 = true) : XD X M σ H (.Compare a [.Eq] [b] pos) (.bool (PyData.eqv d1 d2)) :=
  xd_cmp (op_eqD hu) ha hb fun H1 v w s hv hw Q q => ⟨d1, d2, (hv.up hid_le).dp, (hw.up hid_le).dp, s1, s2, q _ H1 (Same.refl _) (.bl _)⟩
theorem xd_neD (hu : X.A.units + 64 < cLine) (ha : XD X M σ H a d1) (hb : XD X M σ H b d2) (s1 : SeqAt.shaped d1 = true) (s2 : SeqAt.shaped d2 = true) : XD X M σ H (.Compare a [.NotEq] [b] pos) (.bool (!PyData.eqv d1 d2)) :=
  xd_cmp (op_neD hu) ha hb fun H1 v w s hv hw Q q => ⟨d1, d2, (hv.up hid_le).dp, (hw.up hid_le).dp, s1, s2, q _ H1 (Same.refl _) (.bl _)⟩
theorem xt_eqD (hu : X.A.units + 64 < cLine) (ha : XD X M σ H a d1) (hb : XD X M σ H b d2) (s1 : SeqAt.shaped d1 = true) (s2 : SeqAt.shaped d2 = true) : XT X σ H (.Compare a [.Eq] [b] pos) (PyData.eqv d1 d2) :=
  xt_cmp (op_eqD hu) ha hb fun H1 v w s hv hw Q q => ⟨d1, d2, (hv.up hid_le).dp, (hw.up hid_le).dp, s1, s2, q H1 (Same.refl _)⟩
theorem xt_neD (hu : X.A.units + 64 < cLine) (ha : XD X M σ H a d1) (hb : XD X M σ H b d2) (s1 : SeqAt.shaped d1 = true) (s2 : SeqAt.shaped d2 = true) : XT X σ H (.Compare a [.NotEq] [b] pos) (!PyData.eqv d1 d2) :=
  xt_cmp (op_neD hu) ha hb fun H1 v w s hv hw Q q => ⟨d1, d2, (hv.up hid_le).dp, (hw.up hid_le).dp, s1, s2, q H1 (Same.refl _)⟩
/-! not, and, or -/
theorem xd_not {k : Bool} (ha : XD X M σ H a (.bool k)) : XD X M σ H (.UnaryOp .Not a pos) (.bool (!k)) := fun H1 s Q q =>
  ⟨_, pe_not re_, ha H1 s _ fun v H2 s2 hv => ⟨k, dp_bl hv, q _ H2 s2 (.bl _)⟩⟩
theorem xd_one {op} (ha : XD X M σ H a d) : XD X M σ H (.BoolOp op [a] pos) d := fun H1 s Q q => ⟨_, pe_one re_, ha H1 s Q q⟩
theorem xd_andT {rest : List Expr} (ha : XD X M σ H a (.bool true)) (hb : XD X M σ H (.BoolOp .And (b :: rest) pos) d) : XD X M σ H (.BoolOp .And (a :: b :: rest) pos) d := fun H1 s Q q =>
  ⟨_, pe_and re_ re_, ha H1 s _ fun v H2 s2 hv => ⟨true, dp_bl hv, iteT (hb H2 (s.trans s2) Q fun u H3 s3 hu => q u H3 (s2.trans s3) hu)⟩⟩
theorem xd_andF {rest : List Expr} (ha : XD X M σ H a (.bool false)) : XD X M σ H (.BoolOp .And (a :: b :: rest) pos) (.bool false) := fun H1 s Q q =>
  ⟨_, pe_and re_ re_, ha H1 s _ fun v H2 s2 hv => ⟨false, dp_bl hv, iteF (q _ H2 s2 (.bl _))⟩⟩
theorem xd_and2 {k1 k2 : Bool} (ha : XD X M σ H a (.bool k1)) (hb : k1 = true → XD X M σ H b (.bool k2)) : XD X M σ H (.BoolOp .And [a, b] pos) (.bool (k1 && k2)) := by
  cases k1 with
  | true => exact xd_andT ha (xd_one (hb rfl))
  | false => exact xd_andF ha
theorem xd_orF {rest : List Expr} (ha : XD X M σ H a (.bool false)) (hb : XD X M σ H (.BoolOp .Or (b :: rest) pos) d) : XD X M σ H (.BoolOp .Or (a :: b :: rest) pos) d := fun H1 s Q q =>
  ⟨_, pe_or re_ re_, ha H1 s _ fun v H2 s2 hv => ⟨false, dp_bl hv, iteF (hb H2 (s.trans s2) Q fun u H3 s3 hu => q u H3 (s2.trans s3) hu)⟩⟩
theorem xd_orT {rest : List Expr} (ha : XD X M σ H a (.bool true)) : XD X M σ H (.BoolOp .Or (a :: b :: rest) pos) (.bool true) := fun H1 s Q q =>
  ⟨_, pe_or re_ re_, ha H1 s _ fun v H2 s2 hv => ⟨true, dp_bl hv, iteT (q _ H2 s2 (.bl _))⟩⟩
theorem xt_val {k : Bool} (h : XD X M σ H e (.bool k)) (he : ∀ whole, isTrue e X.env whole = (do let v ← whole; standAt e.pos; holding [v] (truthy v)) := by intro _; rfl) : XT X σ H e k := fun H1 s Q q =>
  ⟨_, pt_val re_ he, h H1 s _ fun v H2 s2 hv => ⟨k, dp_bl hv, q H2 s2⟩⟩
theorem xt_not {k : Bool} (ha : XT X σ H a k) : XT X σ H (.UnaryOp .Not a pos) (!k) := fun H1 s Q q => ⟨_, pt_not rt_, ha H1 s _ q⟩
theorem xw_and1 {k : Bool} (ha : XT X σ H a k) : XW X σ H (.BoolOp .And [a] pos) k := fun H1 s Q q => ⟨_, pw_and1 rt_, ha H1 s _ q⟩
theorem xw_or1 {k : Bool} (ha : XT X σ H a k) : XW X σ H (.BoolOp .Or [a] pos) k := fun H1 s Q q => ⟨_, pw_or1 rt_, ha H1 s _ q⟩
theorem xw_andT {k : Bool} {rest : List Expr} (ha : XT X σ H a true) (hb : XW X σ H (.BoolOp .And (b :: rest) pos) k) : XW X σ H (.BoolOp .And (a :: b :: rest) pos) k := fun H1 s Q q =>
  ⟨_, pw_and rt_ rw_, ha H1 s _ fun H2 s2 => iteT (hb H2 (s.trans s2) Q fun H3 s3 => q H3 (s2.trans s3))⟩
theorem xw_andF {rest : List Expr} (ha : XT X σ H a false) : XW X σ H (.BoolOp .And (a :: b :: rest) pos) false := fun H1 s Q q =>
  ⟨_, pw_and rt_ rw_, ha H1 s _ fun H2 s2 => iteF (q H2 s2)⟩
theorem xw_orF {k : Bool} {rest : List Expr} (ha : XT X σ H a false) (hb : XW X σ H (.BoolOp .Or (b :: rest) pos) k) : XW X σ H (.BoolOp .Or (a :: b :: rest) pos) k := fun H1 s Q q =>
  ⟨_, pw_or rt_ rw_, ha H1 s _ fun H2 s2 => iteF (hb H2 (s.trans s2) Q fun H3 s3 => q H3 (s2.trans s3))⟩
theorem xw_orT {rest : List Expr} (ha : XT X σ H a true) : XW X σ H (.BoolOp .Or (a :: b :: rest) pos) true := fun H1 s Q q =>
  ⟨_, pw_or rt_ rw_, ha H1 s _ fun H2 s2 => iteT (q H2 s2)⟩
theorem XW.t {k : Bool} (h : XW X σ H e k) : XT X σ H e k := fun H1 s Q q => ⟨_, PW.pt rw_, h H1 s Q q⟩
theorem xt_and2 {k1 k2 : Bool} (ha : XT X σ H a k1) (hb : k1 = true → XT X σ H b k2) : XT X σ H (.BoolOp .And [a, b] pos) (k1 && k2) := by
  cases k1 with
  | true => exact (xw_andT ha (xw_and1 (hb rfl))).t
  | false => exact (xw_andF ha).t
theorem xt_or2 {k1 k2 : Bool} (ha : XT X σ H a k1) (hb : k1 = false → XT X σ H b k2) : XT X σ H (.BoolOp .Or [a, b] pos) (k1 || k2) := by
  cases k1 with
  | false => exact (xw_orF ha (xw_or1 (hb rfl))).t
  | true => exact (xw_orT ha).t
theorem xd_ifT {k : Expr} (hc : XT X σ H k true) (ha : XD X M σ H a d) : XD X M σ H (.IfExp k a b pos) d := fun H1 s Q q =>
  ⟨_, pe_ifExp rt_ re_ re_, hc H1 s _ fun H2 s2 => iteT (ha H2 (s.trans s2) Q fun u H3 s3 hu => q u H3 (s2.trans s3) hu)⟩
theorem xd_ifF {k : Expr} (hc : XT X σ H k false) (hb : XD X M σ H b d) : XD X M σ H (.IfExp k a b pos) d := fun H1 s Q q =>
  ⟨_, pe_ifExp rt_ re_ re_, hc H1 s _ fun H2 s2 => iteF (hb H2 (s.trans s2) Q fun u H3 s3 hu => q u H3 (s2.trans s3) hu)⟩
end
end Dl

set_option Elab.async false
set_option linter.all false
set_option maxRecDepth 100000
set_option maxHeartbeats 4000000
/-! Data layer, part 2: statements, subscripts, built-ins, lists, comprehensions, loops. -/
namespace Dl
open PySem PySem.Spec PyProof.Rows L2
section
variable {X : Cx} {M : List Addr} {σ : L2.St} {H H' : Hp} {e a b c o : Expr} {es : List Expr} {d d1 d2 : PyData} {ds es' : List PyData} {i : Nat} {x : Str} {v : V} {pos p1 p2 p3 : Pos} {D : Ends} {rest sts : List Stmt} {st : Stmt}
theorem XD.go {Q : VK} (h : XD X M σ H e d) (k : ∀ v H2, Same H H2 → Dq X.K (hid M H2) v d → Q v H2) : RE X e σ H Q := h H (Same.refl H) Q k
theorem XL.go {Q : VK} (h : XL X M σ H e ds) (k : ∀ p xs H2, Same H H2 → H p = none → H2 p = some (.lst xs) → DqAll X.K (hid M H2) xs ds → Q (.ref p) H2) : RE X e σ H Q := h H (Same.refl H) Q k
theorem XV.go {Q : VK} (h : XV X σ H e v) (k : ∀ H2, Same H H2 → Q v H2) : RE X e σ H Q := h H (Same.refl H) Q k
theorem XA.go {Q : List V → Hp → Prop} (h : XA X M σ H es ds) (k : ∀ vs H2, Same H H2 → DqAll X.K (hid M H2) vs ds → Q vs H2) : RA X es σ H Q := h H (Same.refl H) Q k
/-! ### statements -/
theorem rb_nil (h : D.nx σ H) : RB X [] D σ H := ⟨_, pss_nil, h⟩
theorem rb_cons (h : RS X st { D with nx := RB X rest D } σ H) : RB X (st :: rest) D σ H := ⟨_, pss_cons rs_ rb_, h⟩
/-- x = e, by the raw reading -/
theorem rb_setR (i : Nat) {x : Str} {pos' : Pos} (h : RE X e σ H fun v H1 => RB X rest D (σ.set i (some v)) H1) (hN : X.N.Nodup) (hi : X.N[i]? = some x := by rfl) (hx : Loc X.env.scope x := by first | exact Or.inl rfl | exact Or.inr rfl)
    (hs : swapsWith e (some (.Name x pos')) pos.line X.env = pure false := by rfl) (hf : X.fn x = true ∨ X.env.scope.names.lookup x = some .local := by first | exact .inl rfl | exact .inr rfl) : RB X (.Assign [.Name x pos'] e pos :: rest) D σ H :=
  ⟨_, pss_cons (ps_set hN hi hx re_ hs hf) rb_, h⟩
theorem rb_set (i : Nat) {x : Str} {pos' : Pos} (h : XD X M σ H e d) (k : ∀ v H1, Same H H1 → Dq X.K (hid M H1) v d → RB X rest D (σ.set i (some v)) H1) (hN : X.N.Nodup) (hi : X.N[i]? = some x := by rfl) (hx : Loc X.env.scope x := by first | exact Or.inl rfl | exact Or.inr rfl)
    (hs : swapsWith e (some (.Name x pos')) pos.line X.env = pure false := by rfl) (hf : X.fn x = true ∨ X.env.scope.names.lookup x = some .local := by first | exact .inl rfl | exact .inr rfl) : RB X (.Assign [.Name x pos'] e pos :: rest) D σ H :=
  rb_setR i (h H (Same.refl H) _ fun v H1 s hv => k v H1 s hv) hN hi hx hs hf
theorem rb_setL (i : Nat) {x : Str} {pos' : Pos} (h : XL X M σ H e ds) (k : ∀ p xs H1, Same H H1 → H p = none → H1 p = some (.lst xs) → DqAll X.K (hid M H1) xs ds → RB X rest D (σ.set i (some (.ref p))) H1) (hN : X.N.Nodup) (hi : X.N[i]? = some x := by rfl) (hx : Loc X.env.scope x := by first | exact Or.inl rfl | exact Or.inr rfl)
    (hs : swapsWith e (some (.Name x pos')) pos.line X.env = pure false := by rfl) (hf : X.fn x = true ∨ X.env.scope.names.lookup x = some .local := by first | exact .inl rfl | exact .inr rfl) : RB X (.Assign [.Name x pos'] e pos :: rest) D σ H :=
  rb_setR i (h H (Same.refl H) _ fun p xs H1 s hp h1 hd => k p xs H1 s hp h1 hd) hN hi hx hs hf
theorem rb_setV (i : Nat) {x : Str} {pos' : Pos} (h : XV X σ H e v) (k : ∀ H1, Same H H1 → RB X rest D (σ.set i (some v)) H1) (hN : X.N.Nodup) (hi : X.N[i]? = some x := by rfl) (hx : Loc X.env.scope x := by first | exact Or.inl rfl | exact Or.inr rfl)
    (hs : swapsWith e (some (.Name x pos')) pos.line X.env = pure false := by rfl) (hf : X.fn x = true ∨ X.env.scope.names.lookup x = some .local := by first | exact .inl rfl | exact .inr rfl) : RB X (.Assign [.Name x pos'] e pos :: rest) D σ H :=
  rb_setR i (h H (Same.refl H) _ fun H1 s => k H1 s) hN hi hx hs hf
theorem rb_retR (h : RE X e σ H D.rt) : RB X (.Return (some e) pos :: rest) D σ H := ⟨_, pss_cons (ps_ret re_) rb_, h⟩
theorem rb_ret (h : XD X M σ H e d) (k : ∀ v H1, Same H H1 → Dq X.K (hid M H1) v d → D.rt v H1) : RB X (.Return (some e) pos :: rest) D σ H := rb_retR (h H (Same.refl H) _ fun v H1 s hv => k v H1 s hv)
theorem rb_exprR (h : RE X e σ H fun _ H1 => RB X rest D σ H1) (hs : swapsWith e none pos.line X.env = pure false := by rfl) : RB X (.Expr e pos :: rest) D σ H := ⟨_, pss_cons (ps_expr re_ hs) rb_, h⟩
theorem rb_expr (h : XD X M σ H e d) (k : ∀ H1, Same H H1 → RB X rest D σ H1) (hs : swapsWith e none pos.line X.env = pure false := by rfl) : RB X (.Expr e pos :: rest) D σ H := rb_exprR (h H (Same.refl H) _ fun _ H1 s _ => k H1 s) hs
theorem rb_ifR {t f : List Stmt} (h : RT X c σ H fun k H1 => if k = true then RB X t { D with nx := RB X rest D } σ H1 else RB X f { D with nx := RB X rest D } σ H1) : RB X (.If c t f pos :: rest) D σ H := ⟨_, pss_cons (ps_if rt_ rb_ rb_) rb_, h⟩
theorem rb_if {k : Bool} {t f : List Stmt} (h : XT X σ H c k) (hT : k = true → ∀ H1, Same H H1 → RB X t { D with nx := RB X rest D } σ H1) (hF : k = false → ∀ H1, Same H H1 → RB X f { D with nx := RB X rest D } σ H1) : RB X (.If c t f pos :: rest) D σ H :=
  rb_ifR (h H (Same.refl H) _ fun H1 s => by
    cases k with
    | true => exact iteT (hT rfl H1 s)
    | false => exact iteF (hF rfl H1 s))
/-- if c: .. (no else) with c false -/
theorem rb_ifF {t : List Stmt} (h : XT X σ H c false) (k : ∀ H1, Same H H1 → RB X rest D σ H1) : RB X (.If c t [] pos :: rest) D σ H := rb_if h (fun z => Bool.noConfusion z) fun _ H1 s => rb_nil (k H1 s)
theorem rb_ifT {t f : List Stmt} (h : XT X σ H c true) (k : ∀ H1, Same H H1 → RB X t { D with nx := RB X rest D } σ H1) : RB X (.If c t f pos :: rest) D σ H := rb_if h (fun _ => k) fun z => Bool.noConfusion z
theorem rb_par (i j : Nat) {x y : Str} {px py pt : Pos} {kt k2 pt2} (ha : XA X M σ H [a, b] [d1, d2]) (k : ∀ v w H1, Same H H1 → Dq X.K (hid M H1) v d1 → Dq X.K (hid M H1) w d2 → RB X rest D ((σ.set i (some v)).set j (some w)) H1) (hN : X.N.Nodup)
    (hw : swappedStores [.Tuple [.Name x px, .Name y py] kt pt] (.Tuple [a, b] k2 pt2) X.env = pure (some [x, y]) := by rfl) (hc : X.calm = true := by rfl) (hi : X.N[i]? = some x := by rfl) (hj : X.N[j]? = some y := by rfl) (hij : i ≠ j := by decide)
    (hx : X.env.scope.names.lookup x = some .local := by rfl) (hy : X.env.scope.names.lookup y = some .local := by rfl)
    (hs : swapsWithSole [.Tuple [.Name x px, .Name y py] kt pt] (.Tuple [a, b] k2 pt2) pos.line X.env = pure false := by rfl) : RB X (.Assign [.Tuple [.Name x px, .Name y py] kt pt] (.Tuple [a, b] k2 pt2) pos :: rest) D σ H :=
  ⟨_, pss_cons (ps_par hc hN hi hj hij hx hy ra_ hw hs) rb_, ha H (Same.refl H) _ fun vs H1 s hv => by
    cases hv with
    | cons h1 h2 => cases h2 with
      | cons h2 h3 => cases h3; exact ⟨_, _, rfl, k _ _ H1 s h1 h2⟩⟩
/-- targets: a name; names of a tuple -/
def RG (X : Cx) (tg : Expr) : TG := fun v σ H Q => ∃ g, PG X tg g ∧ g v σ H Q
theorem rg_ {tg : Expr} : PG X tg (RG X tg) := ⟨fun pins s σ H v u Q I r ⟨_, h, q⟩ => h.run pins s σ H v u Q I r q⟩
def RGs (X : Cx) (tg : List Expr) : TGs := fun v σ H Q => ∃ g, PGs X tg g ∧ g v σ H Q
theorem rgs_ {tg : List Expr} : PGs X tg (RGs X tg) := ⟨fun pins s σ H v u Q I r ⟨_, h, q⟩ => h.run pins s σ H v u Q I r q⟩
theorem rg_name (i : Nat) {x : Str} {Q : L2.St → Hp → Prop} (q : Q (σ.set i (some v)) H) (hN : X.N.Nodup) (hi : X.N[i]? = some x := by rfl) (hx : Loc X.env.scope x := by first | exact Or.inl rfl | exact Or.inr rfl) (hf : X.fn x = true ∨ X.env.scope.names.lookup x = some .local := by first | exact .inl rfl | exact .inr rfl) :
    RG X (.Name x pos) v σ H Q := ⟨_, pg_name hN hi hx hf, q⟩
theorem rgs_nil {Q : L2.St → Hp → Prop} (q : Q σ H) : RGs X [] [] σ H Q := ⟨_, pgs_nil, rfl, q⟩
theorem rgs_cons {tg : Expr} {tgs : List Expr} {vs : List V} {Q : L2.St → Hp → Prop} (h : RG X tg v σ H fun σ1 H1 => RGs X tgs vs σ1 H1 Q) (hs : (assignEach (tg :: tgs) X.env).map (·.2) = assign tg X.env :: (assignEach tgs X.env).map (·.2) := by rfl) : RGs X (tg :: tgs) (v :: vs) σ H Q :=
  ⟨_, pgs_cons rg_ rgs_ hs, v, vs, rfl, h⟩
theorem rg_tup {tgs : List Expr} {k : Nat} {xs : List V} {p : Addr} {Q : L2.St → Hp → Prop} (hT : SqT X.K H p xs) (h : RGs X tgs xs σ H Q) (hc : X.calm = true := by rfl)
    (hn : (assignEach tgs X.env).length = xs.length := by rfl) (hst : (assignEach tgs X.env).findIdx? (·.1) = none := by rfl) : RG X (.Tuple tgs k pos) (.ref p) σ H Q := ⟨_, pg_tup (n := xs.length) hc rgs_ hn hst, p, xs, rfl, hT, rfl, h⟩
theorem rb_asgR {tg : Expr} (h : RE X e σ H fun v H1 => RG X tg v σ H1 (RB X rest D)) (hs : swapsWithSole [tg] e pos.line X.env = pure false := by rfl) (hw : swappedStores [tg] e X.env = pure none := by rfl)
    (h1 : (assignEach [tg] X.env).map (·.2) = [assign tg X.env] := by rfl) : RB X (.Assign [tg] e pos :: rest) D σ H := ⟨_, pss_cons (ps_asg re_ rg_ hs hw h1) rb_, h⟩
/-! ### calls of built-ins -/
theorem re_B {id : String} {r : List V → Hp → VK → Prop} {Q : VK} (hc : CallR X (.builtin id) r) (h : RA X (e :: es) σ H fun vs H1 => r vs H1 Q) (hm : X.mg x = none) (hv : bootBuiltins x = some (.builtin id)) (hg : Gl X x := by rfl) (hn : x ≠ "__name__" := by decide) (hdb : (x == ("__debug__" : Str)) = false := by decide)
    (he : starEach (e :: es) X.env = (false, eval e X.env) :: starEach es X.env := by rfl) (hpl : (backTo pos (starEach es X.env)).any (·.1) = false := by rfl) : RE X (.Call (.Name x p1) (e :: es) [] pos) σ H Q := ⟨_, pe_callB hc hg hm hv ra_ hn hdb he hpl, h⟩
theorem re_Ty {T : String} {r : List V → Hp → VK → Prop} {Q : VK} (hc : CallR X (.type T) r) (h : RA X (e :: es) σ H fun vs H1 => r vs H1 Q) (hm : X.mg x = none) (hv : bootBuiltins x = some (.type T)) (hg : Gl X x := by rfl) (hn : x ≠ "__name__" := by decide) (hdb : (x == ("__debug__" : Str)) = false := by decide)
    (he : starEach (e :: es) X.env = (false, eval e X.env) :: starEach es X.env := by rfl) (hpl : (backTo pos (starEach es X.env)).any (·.1) = false := by rfl) : RE X (.Call (.Name x p1) (e :: es) [] pos) σ H Q := ⟨_, pe_callTy hc hg hm hv ra_ hn hdb he hpl, h⟩
theorem ra_nil {Q : List V → Hp → Prop} (q : Q [] H) : RA X [] σ H Q := ⟨_, pa_nil, q⟩
theorem ra_cons {Q : List V → Hp → Prop} (h : RE X e σ H fun v H1 => RA X es σ H1 fun vs H2 => Q (v :: vs) H2) (hs : starEach (e :: es) X.env = (false, eval e X.env) :: starEach es X.env := by rfl) : RA X (e :: es) σ H Q := ⟨_, pa_cons re_ ra_ hs, h⟩
end
end Dl

set_option Elab.async false
set_option linter.all false
set_option maxRecDepth 100000
set_option maxHeartbeats 4000000
/-! Data layer, part 3: built-ins, subscripts, lists, loops, comprehensions. -/
namespace Dl
open PySem PySem.Spec PyProof.Rows L2
section
variable {X : Cx} {M : List Addr} {σ : L2.St} {H H' : Hp} {e a b c o : Expr} {es : List Expr} {d d1 d2 : PyData} {ds ds2 es' : List PyData} {x : Str} {v : V} {pos p1 p2 p3 : Pos} {D : Ends} {rest sts : List Stmt} {st : Stmt}
theorem re_mono {Q Q' : VK} (h : RE X e σ H Q) (k : ∀ v H1, Q v H1 → Q' v H1) : RE X e σ H Q' := by
  obtain ⟨t, ht, q⟩ := h
  exact ⟨fun σ H Q' => ∃ Q, t σ H Q ∧ ∀ v H1, Q v H1 → Q' v H1, ⟨fun pins s σ H Q' I ⟨Q, q, k⟩ => thn (ht.run pins s σ H Q I q) fun u s' ⟨v, H1, I1, r1, q1⟩ => ⟨v, H1, I1, r1, k v H1 q1⟩⟩, Q, q, k⟩
theorem ra_mono {Q Q' : List V → Hp → Prop} (h : RA X es σ H Q) (k : ∀ v H1, Q v H1 → Q' v H1) : RA X es σ H Q' := by
  obtain ⟨t, ht, q⟩ := h
  exact ⟨fun σ H Q' => ∃ Q, t σ H Q ∧ ∀ v H1, Q v H1 → Q' v H1, ⟨fun pos pins s σ H Q' I ⟨Q, q, k⟩ => thn (ht.run pos pins s σ H Q I q) fun u s' ⟨v, H1, I1, r1, q1⟩ => ⟨v, H1, I1, r1, k v H1 q1⟩⟩, Q, q, k⟩
theorem rb_mono {D D' : Ends} (h : RB X sts D σ H) (h1 : ∀ σ H, D.nx σ H → D'.nx σ H) (h2 : ∀ v H, D.rt v H → D'.rt v H) (h3 : ∀ σ H, D.bk σ H → D'.bk σ H) (h4 : ∀ σ H, D.ct σ H → D'.ct σ H) : RB X sts D' σ H := by
  obtain ⟨t, ht, q⟩ := h
  refine ⟨fun D' σ H => ∃ D, t D σ H ∧ (∀ σ H, D.nx σ H → D'.nx σ H) ∧ (∀ v H, D.rt v H → D'.rt v H) ∧ (∀ σ H, D.bk σ H → D'.bk σ H) ∧ (∀ σ H, D.ct σ H → D'.ct σ H), ⟨fun pins s σ H D' I ⟨D, q, h1, h2, h3, h4⟩ => thn (ht.run pins s σ H D I q) fun f s' hs => ?_⟩, D, q, h1, h2, h3, h4⟩
  cases f with
  | next => obtain ⟨σ', H', I', q⟩ := hs; exact ⟨σ', H', I', h1 _ _ q⟩
  | brk => obtain ⟨σ', H', I', q⟩ := hs; exact ⟨σ', H', I', h3 _ _ q⟩
  | cont => obtain ⟨σ', H', I', q⟩ := hs; exact ⟨σ', H', I', h4 _ _ q⟩
  | ret u => obtain ⟨v, σ', H', I', r, q⟩ := hs; exact ⟨v, σ', H', I', r, h2 _ _ q⟩
theorem ra_1 {Q : List V → Hp → Prop} (h : RE X e σ H fun v H1 => Q [v] H1) (hs : starEach [e] X.env = (false, eval e X.env) :: starEach [] X.env := by rfl) : RA X [e] σ H Q := ra_cons (re_mono h fun v H1 q => ra_nil q) hs
/-- a call of a built-in whose reading asks nothing but data -/
theorem xd_B {id : String} {r : List V → Hp → VK → Prop} (hc : CallR X (.builtin id) r) (ha : XA X M σ H (e :: es) ds)
    (hr : ∀ H1 vs, Same H H1 → DqAll X.K (hid M H1) vs ds → ∀ Q : VK, (∀ u H2, Same H1 H2 → Dq X.K (hid M H2) u d → Q u H2) → r vs H1 Q) (hm : X.mg x = none) (hv : bootBuiltins x = some (.builtin id)) (hg : Gl X x := by rfl) (hn : x ≠ "__name__" := by decide) (hdb : (x == ("__debug__" : Str)) = false := by decide)
    (he : starEach (e :: es) X.env = (false, eval e X.env) :: starEach es X.env := by rfl) (hpl : (backTo pos (starEach es X.env)).any (·.1) = false := by rfl) : XD X M σ H (.Call (.Name x p1) (e :: es) [] pos) d := fun H1 s Q q =>
  re_B hc (ha H1 s _ fun vs H2 s2 hvs => hr H2 vs (s.trans s2) hvs Q fun u H3 s3 hu => q u H3 (s2.trans s3) hu) hm hv hg hn hdb he hpl
theorem xd_len (hm : X.mg "len" = none) (ha : XD X M σ H e (.list ds)) (hg : Gl X "len" := by rfl) (he : starEach [e] X.env = (false, eval e X.env) :: starEach [] X.env := by rfl) (hpl : (backTo pos (starEach [] X.env)).any (·.1) = false := by rfl) :
    XD X M σ H (.Call (.Name "len" p1) [e] [] pos) (.int ds.length) :=
  xd_B call_len_seq (xa_cons ha xa_nil he) (fun H1 vs s h Q q => by
    cases h with
    | cons h1 h2 =>
      cases h2
      obtain ⟨p, xs, rfl, hp, hx⟩ := dp_lst h1
      exact ⟨p, xs, rfl, .inl (SqL.of (hid_le _ _ hp)), by rw [dpa_len hx]; exact q _ _ (Same.refl _) (.int _)⟩) hm PySem.boot_len hg (by decide) (by decide) he hpl
theorem xd_lenT (hm : X.mg "len" = none) (ha : XD X M σ H e (.tuple ds)) (hg : Gl X "len" := by rfl) (he : starEach [e] X.env = (false, eval e X.env) :: starEach [] X.env := by rfl) (hpl : (backTo pos (starEach [] X.env)).any (·.1) = false := by rfl) :
    XD X M σ H (.Call (.Name "len" p1) [e] [] pos) (.int ds.length) :=
  xd_B call_len_seq (xa_cons ha xa_nil he) (fun H1 vs s h Q q => by
    cases h with
    | cons h1 h2 =>
      cases h2
      obtain ⟨p, xs, rfl, hp, hx⟩ := dp_tup h1
      exact ⟨p, xs, rfl, .inr (same_seqT hid_le hp), by rw [dpa_len hx]; exact q _ _ (Same.refl _) (.int _)⟩) hm PySem.boot_len hg (by decide) (by decide) he hpl
theorem xd_abs {n : Int} (hm : X.mg "abs" = none) (ha : XD X M σ H e (.int n)) (hg : Gl X "abs" := by rfl) (he : starEach [e] X.env = (false, eval e X.env) :: starEach [] X.env := by rfl) (hpl : (backTo pos (starEach [] X.env)).any (·.1) = false := by rfl) :
    XD X M σ H (.Call (.Name "abs" p1) [e] [] pos) (.int (if n < 0 then -n else n)) :=
  xd_B call_abs (xa_cons ha xa_nil he) (fun H1 vs s h Q q => by
    cases h with
    | cons h1 h2 => cases h2; exact ⟨n, by rw [dp_int h1], q _ _ (Same.refl _) (.int _)⟩) hm (by decide +kernel) hg (by decide) (by decide) he hpl
theorem xd_max {m n : Int} (hm : X.mg "max" = none) (ha : XA X M σ H [a, b] [.int m, .int n]) (hc : X.calm = true := by rfl) (hg : Gl X "max" := by rfl) (he : starEach [a, b] X.env = (false, eval a X.env) :: starEach [b] X.env := by rfl) (hpl : (backTo pos (starEach [b] X.env)).any (·.1) = false := by rfl) :
    XD X M σ H (.Call (.Name "max" p1) [a, b] [] pos) (.int (if n > m then n else m)) :=
  xd_B (call_max2 hc) ha (fun H1 vs s h Q q => by
    cases h with
    | cons h1 h2 => cases h2 with
      | cons h2 h3 => cases h3; exact ⟨m, n, by rw [dp_int h1, dp_int h2], q _ _ (Same.refl _) (.int _)⟩) hm (by decide +kernel) hg (by decide) (by decide) he hpl
theorem xd_min {m n : Int} (hm : X.mg "min" = none) (ha : XA X M σ H [a, b] [.int m, .int n]) (hc : X.calm = true := by rfl) (hg : Gl X "min" := by rfl) (he : starEach [a, b] X.env = (false, eval a X.env) :: starEach [b] X.env := by rfl) (hpl : (backTo pos (starEach [b] X.env)).any (·.1) = false := by rfl) :
    XD X M σ H (.Call (.Name "min" p1) [a, b] [] pos) (.int (if n < m then n else m)) :=
  xd_B (call_min2 hc) ha (fun H1 vs s h Q q => by
    cases h with
    | cons h1 h2 => cases h2 with
      | cons h2 h3 => cases h3; exact ⟨m, n, by rw [dp_int h1, dp_int h2], q _ _ (Same.refl _) (.int _)⟩) hm (by decide +kernel) hg (by decide) (by decide) he hpl
/-- list(x) of a list, of a tuple -/
theorem xl_listT (hm : X.mg "list" = none) (L : Live M H) (ha : XD X M σ H e (.tuple ds)) (hg : Gl X "list" := by rfl) (he : starEach [e] X.env = (false, eval e X.env) :: starEach [] X.env := by rfl) (hpl : (backTo pos (starEach [] X.env)).any (·.1) = false := by rfl) :
    XL X M σ H (.Call (.Name "list" p1) [e] [] pos) ds := fun H1 s Q q =>
  re_Ty call_list_of (ra_1 (ha H1 s _ fun v H2 s2 hv => by
    obtain ⟨p, xs, rfl, hp, hx⟩ := dp_tup hv
    refine ⟨p, xs, rfl, .inr (same_seqT hid_le hp), fun l hl => q l xs _ (s2.trans (same_new hl)) (s2.free hl) upd_same ?_⟩
    rw [hid_new (L.mono (s.trans s2)) hl]
    exact hx.up (same_new (hid_free hl))) he) hm (by decide +kernel) hg (by decide) (by decide) he hpl
theorem xl_listL (hm : X.mg "list" = none) (L : Live M H) (ha : XD X M σ H e (.list ds)) (hg : Gl X "list" := by rfl) (he : starEach [e] X.env = (false, eval e X.env) :: starEach [] X.env := by rfl) (hpl : (backTo pos (starEach [] X.env)).any (·.1) = false := by rfl) :
    XL X M σ H (.Call (.Name "list" p1) [e] [] pos) ds := fun H1 s Q q =>
  re_Ty call_list_of (ra_1 (ha H1 s _ fun v H2 s2 hv => by
    obtain ⟨p, xs, rfl, hp, hx⟩ := dp_lst hv
    refine ⟨p, xs, rfl, .inl (SqL.of (hid_le _ _ hp)), fun l hl => q l xs _ (s2.trans (same_new hl)) (s2.free hl) upd_same ?_⟩
    rw [hid_new (L.mono (s.trans s2)) hl]
    exact hx.up (same_new (hid_free hl))) he) hm (by decide +kernel) hg (by decide) (by decide) he hpl
/-- tuple(x) of a list -/
theorem xd_tupleL (hm : X.mg "tuple" = none) (L : Live M H) (ha : XD X M σ H e (.list ds)) (hg : Gl X "tuple" := by rfl) (he : starEach [e] X.env = (false, eval e X.env) :: starEach [] X.env := by rfl) (hpl : (backTo pos (starEach [] X.env)).any (·.1) = false := by rfl) :
    XD X M σ H (.Call (.Name "tuple" p1) [e] [] pos) (.tuple ds) := fun H1 s Q q =>
  re_Ty call_tuple_of (ra_1 (ha H1 s _ fun v H2 s2 hv => by
    obtain ⟨p, xs, rfl, hp, hx⟩ := dp_lst hv
    refine ⟨p, xs, rfl, .inl ⟨SqL.of (hid_le _ _ hp), fun l hl => q _ _ (s2.trans (same_new hl)) ?_⟩⟩
    rw [hid_new (L.mono (s.trans s2)) hl]
    exact .tup (SqT.of upd_same) (hx.up (same_new (hid_free hl)))) he) hm (by decide +kernel) hg (by decide) (by decide) he hpl
theorem xd_intB {k : Bool} (hm : X.mg "int" = none) (ha : XD X M σ H e (.bool k)) (hg : Gl X "int" := by rfl) (he : starEach [e] X.env = (false, eval e X.env) :: starEach [] X.env := by rfl) (hpl : (backTo pos (starEach [] X.env)).any (·.1) = false := by rfl) :
    XD X M σ H (.Call (.Name "int" p1) [e] [] pos) (.int (if k then 1 else 0)) := fun H1 s Q q =>
  re_Ty call_int1 (ra_1 (ha H1 s _ fun v H2 s2 hv => .inr ⟨k, by rw [dp_bl hv], q _ _ s2 (.int _)⟩) he) hm (by decide +kernel) hg (by decide) (by decide) he hpl
/-! ### subscripts -/
theorem atI_map {α β : Type} {xs : List α} {ys : List β} {P : α → β → Prop} (hl : xs.length = ys.length) (hg : ∀ (i : Nat) (y : β), ys[i]? = some y → ∃ x, xs[i]? = some x ∧ P x y) {n : Int} {y : β} (h : atI ys n = some y) : ∃ x, atI xs n = some x ∧ P x y := by
  unfold atI at h ⊢
  rw [hl]
  cases e : ixN ys.length n with
  | none => rw [e] at h; cases h
  | some j =>
    rw [e] at h
    exact hg j y h
theorem xd_ixL {n : Int} (hs : PlainIx b) (ha : XD X M σ H a (.list ds)) (hb : XD X M σ H b (.int n)) (h : atI ds n = some d) : XD X M σ H (.Subscript a b pos) d := fun H1 s Q q =>
  ⟨_, pe_ix ix_list re_ re_ hs, ha H1 s _ fun v H2 s2 hv => hb H2 (s.trans s2) _ fun w H3 s3 hw => by
    obtain ⟨p, xs, rfl, hp, hx⟩ := dp_lst (hv.up (hid_mono s3))
    obtain ⟨u, hu, hd⟩ := atI_map (dpa_len hx) (fun i y h => dpa_get hx h) h
    exact ⟨p, xs, n, u, rfl, dp_int hw, SqL.of (hid_le _ _ hp), hu, q u H3 (s2.trans s3) hd⟩⟩
theorem xd_ixT {n : Int} (hs : PlainIx b) (ha : XD X M σ H a (.tuple ds)) (hb : XD X M σ H b (.int n)) (h : atI ds n = some d) : XD X M σ H (.Subscript a b pos) d := fun H1 s Q q =>
  ⟨_, pe_ix ix_tup re_ re_ hs, ha H1 s _ fun v H2 s2 hv => hb H2 (s.trans s2) _ fun w H3 s3 hw => by
    obtain ⟨p, xs, rfl, hp, hx⟩ := dp_tup (hv.up (hid_mono s3))
    obtain ⟨u, hu, hd⟩ := atI_map (dpa_len hx) (fun i y h => dpa_get hx h) h
    exact ⟨p, xs, n, u, rfl, dp_int hw, same_seqT hid_le hp, hu, q u H3 (s2.trans s3) hd⟩⟩
/-- xs[lo:hi] of a list -/
def XO (X : Cx) (σ : L2.St) (H : Hp) (e : Option Expr) (n : Option Int) : Prop := ∀ H1, Same H H1 → ∀ Q : Option Int → Hp → Prop, (∀ H2, Same H1 H2 → Q n H2) → ∃ t, PO X e t ∧ t σ H1 Q
theorem xo_none : XO X σ H none none := fun H1 s Q q => ⟨_, po_none, q H1 (Same.refl _)⟩
theorem xo_some {n : Int} (h : XD X M σ H e (.int n)) : XO X σ H (some e) (some n) := fun H1 s Q q => ⟨_, po_some re_, h H1 s _ fun v H2 s2 hv => ⟨n, dp_int hv, q H2 s2⟩⟩
def cutD (xs : List PyData) (lo hi : Option Int) : List PyData := (xs.drop (HT.sIx xs.length 0 lo)).take (HT.sIx xs.length xs.length hi - HT.sIx xs.length 0 lo)
def RO (X : Cx) (e : Option Expr) : L2.St → Hp → (Option Int → Hp → Prop) → Prop := fun σ H Q => ∃ t, PO X e t ∧ t σ H Q
theorem ro_ {e : Option Expr} : PO X e (RO X e) := ⟨fun pins s σ H Q I ⟨_, h, q⟩ => h.run pins s σ H Q I q⟩
theorem xl_cut {lo hi : Option Expr} {m n : Option Int} (L : Live M H) (ha : XD X M σ H a (.list ds)) (hl : XO X σ H lo m) (hu : XO X σ H hi n) : XL X M σ H (.Subscript a (.Slice lo hi none p2) pos) (cutD ds m n) := fun H1 s Q q =>
  ⟨_, pe_slice sl_list re_ ro_ ro_, ha H1 s _ fun v H2 s2 hv => hl H2 (s.trans s2) _ fun H3 s3 => hu H3 ((s.trans s2).trans s3) _ fun H4 s4 => by
    obtain ⟨p, xs, rfl, hp, hx⟩ := dp_lst (hv.up (hid_mono (s3.trans s4)))
    refine ⟨p, xs, rfl, SqL.of (hid_le _ _ hp), fun l hl => q l _ _ ((s2.trans (s3.trans s4)).trans (same_new hl)) ((s2.trans (s3.trans s4)).free hl) upd_same ?_⟩
    rw [hid_new (L.mono (s.trans (s2.trans (s3.trans s4)))) hl]
    have hz := dpa_len hx
    unfold cutV cutD
    rw [hz]
    exact (dpa_take _ (dpa_drop _ hx)).up (same_new (hid_free hl))⟩
/-! ### lists -/
theorem xl_cat (L : Live M H) (ha : XD X M σ H a (.list ds)) (hb : XD X M σ H b (.list ds2)) (hz : ds.length + ds2.length ≤ 100000) : XL X M σ H (.BinOp a .Add b pos) (ds ++ ds2) := fun H1 s Q q =>
  ⟨_, pe_op op_cat re_ re_, ha H1 s _ fun v H2 s2 hv => hb H2 (s.trans s2) _ fun w H3 s3 hw => by
    obtain ⟨p, xs, rfl, hp, hx⟩ := dp_lst (hv.up (hid_mono s3))
    obtain ⟨p', ys, rfl, hp', hy⟩ := dp_lst hw
    refine ⟨p, p', xs, ys, rfl, rfl, hid_le _ _ hp, hid_le _ _ hp', by rw [dpa_len hx, dpa_len hy]; exact small_sz hz, fun l hl => q l _ _ ((s2.trans s3).trans (same_new hl)) ((s2.trans s3).free hl) upd_same ?_⟩
    rw [hid_new (L.mono ((s.trans s2).trans s3)) hl]
    exact (dpa_app hx hy).up (same_new (hid_free hl))⟩
/-- l.append(e), l one of M's lists -/
theorem rb_append {l : Addr} {xs : List V} (hl : l ∈ M) (ho : XV X σ H o (.ref l)) (h1 : H l = some (.lst xs)) (he : XD X M σ H e d) (hz : xs.length < 100000) (k : ∀ v H1, Same H H1 → Dq X.K (hid M H1) v d → RB X rest D σ (upd H1 l (.lst (xs ++ [v]))))
    (hbase : attributeBase o "append" X.env (eval o X.env) = eval o X.env := by rfl)
    (hfew : ((backTo p2 (starEach [e] X.env)).all (fun x => !x.1) && (backToKw p2 (keywordEach [] X.env)).all (fun x => x.1.isSome) && decide ([e].length + ([] : List Keyword).length + (if ([] : List Keyword).isEmpty then 0 else 1) < 30)) = true := by rfl)
    (hline : (p1.endLine == p2.line) = true := by rfl) (hs : starEach [e] X.env = (false, eval e X.env) :: starEach [] X.env := by rfl) (hplain : (backTo p2 (starEach [] X.env)).any (·.1) = false := by rfl)
    (hsw : swapsWith (.Call (.Attribute o "append" p1) [e] [] p2) none pos.line X.env = pure false := by rfl) : RB X (.Expr (.Call (.Attribute o "append" p1) [e] [] p2) pos :: rest) D σ H :=
  rb_exprR ⟨_, pe_bm PySem.F.plainAttrs_list PySem.F.slot_list_append PySem.F.type_list_append mt_append re_ ra_ hbase hfew hline hs hplain,
    ho H (Same.refl H) _ fun H1 s1 => ⟨.inl ⟨rfl, xs, SqL.of (s1 _ _ h1)⟩, ra_1 (he H1 s1 _ fun v H2 s2 hv => ⟨l, xs, v, rfl, rfl, (s1.trans s2) _ _ h1, Nat.lt_of_lt_of_le hz (by decide), k v H2 (s1.trans s2) hv⟩) hs⟩⟩ hsw
/-- l.extend(e) -/
theorem rb_extend {l : Addr} {xs : List V} (hl : l ∈ M) (ho : XV X σ H o (.ref l)) (h1 : H l = some (.lst xs)) (he : XD X M σ H e (.list ds)) (hz : xs.length + ds.length ≤ 100000) (k : ∀ vs H1, Same H H1 → DqAll X.K (hid M H1) vs ds → RB X rest D σ (upd H1 l (.lst (xs ++ vs))))
    (hbase : attributeBase o "extend" X.env (eval o X.env) = eval o X.env := by rfl)
    (hfew : ((backTo p2 (starEach [e] X.env)).all (fun x => !x.1) && (backToKw p2 (keywordEach [] X.env)).all (fun x => x.1.isSome) && decide ([e].length + ([] : List Keyword).length + (if ([] : List Keyword).isEmpty then 0 else 1) < 30)) = true := by rfl)
    (hline : (p1.endLine == p2.line) = true := by rfl) (hs : starEach [e] X.env = (false, eval e X.env) :: starEach [] X.env := by rfl) (hplain : (backTo p2 (starEach [] X.env)).any (·.1) = false := by rfl)
    (hsw : swapsWith (.Call (.Attribute o "extend" p1) [e] [] p2) none pos.line X.env = pure false := by rfl) : RB X (.Expr (.Call (.Attribute o "extend" p1) [e] [] p2) pos :: rest) D σ H :=
  rb_exprR ⟨_, pe_bm PySem.F.plainAttrs_list PySem.F.slot_list_extend PySem.F.type_list_extend mt_extend re_ ra_ hbase hfew hline hs hplain,
    ho H (Same.refl H) _ fun H1 s1 => ⟨.inl ⟨rfl, xs, SqL.of (s1 _ _ h1)⟩, ra_1 (he H1 s1 _ fun v H2 s2 hv => by
      obtain ⟨b, ys, rfl, hb, hy⟩ := dp_lst hv
      exact ⟨l, b, xs, ys, rfl, rfl, (s1.trans s2) _ _ h1, hid_le _ _ hb, by rw [dpa_len hy]; exact small_sz hz, k ys H2 (s1.trans s2) hy⟩) hs⟩⟩ hsw
/-! ### loops -/
/-- for tg in e: .., e a list; Pv: by the turn; the known part must stand -/
theorem rb_for {tg : Expr} {body : List Stmt} (hit : XD X M σ H e (.list ds))
    (h : ∀ H1, Same H H1 → ∃ Pv : Nat → L2.St → Hp → Prop, Pv 0 σ H1 ∧ (∀ k σ' H', Pv k σ' H' → Same (hid M H1) (hid M H')) ∧
      (∀ k d, ds[k]? = some d → ∀ σ' H' v, Pv k σ' H' → Dq X.K (hid M H') v d → RG X tg v σ' H' fun σ2 H2 => RB X body { D with nx := Pv (k + 1), ct := Pv (k + 1), bk := RB X rest D } σ2 H2) ∧ ∀ σ' H', Pv ds.length σ' H' → RB X rest D σ' H')
    (hp : PassesOwn (model X.prog X.w) X.A X.env X.xe := by exact PassesOwn.never) (hc : X.calm = true := by rfl) (hs : ∀ x, foldedSetIterable e X.env x = pure x := by intro _; rfl) : RB X (.For tg e body [] pos :: rest) D σ H :=
  ⟨_, pss_cons (ps_for hp hc (pi_list re_) rg_ rb_ hs) rb_, hit H (Same.refl H) _ fun v H1 s1 hv => by
    obtain ⟨a, xs, rfl, ha, hx⟩ := dp_lst hv
    obtain ⟨Pv, h0, hk, hst, hd⟩ := h H1 s1
    refine ⟨a, rfl, ⟨xs, SqL.of (hid_le _ _ ha)⟩, for_list (xs := xs) Pv h0 (fun i σ' H' _ p => SqL.of (hid_le _ _ (hk i σ' H' p _ _ ha))) (fun i x σ' H' hi p => ?_) (by rw [dpa_len hx]; exact hd)⟩
    obtain ⟨d, h1, h2⟩ := dpa_get' hx hi
    exact hst i d h1 σ' H' x p (h2.up (hk i σ' H' p))⟩
theorem rb_forT {tg : Expr} {body : List Stmt} (hit : XD X M σ H e (.tuple ds))
    (h : ∀ H1, Same H H1 → ∃ Pv : Nat → L2.St → Hp → Prop, Pv 0 σ H1 ∧ (∀ k σ' H', Pv k σ' H' → Same (hid M H1) (hid M H')) ∧
      (∀ k d, ds[k]? = some d → ∀ σ' H' v, Pv k σ' H' → Dq X.K (hid M H') v d → RG X tg v σ' H' fun σ2 H2 => RB X body { D with nx := Pv (k + 1), ct := Pv (k + 1), bk := RB X rest D } σ2 H2) ∧ ∀ σ' H', Pv ds.length σ' H' → RB X rest D σ' H')
    (hp : PassesOwn (model X.prog X.w) X.A X.env X.xe := by exact PassesOwn.never) (hc : X.calm = true := by rfl) (hs : ∀ x, foldedSetIterable e X.env x = pure x := by intro _; rfl) : RB X (.For tg e body [] pos :: rest) D σ H :=
  ⟨_, pss_cons (ps_for hp hc (pi_tup re_) rg_ rb_ hs) rb_, hit H (Same.refl H) _ fun v H1 s1 hv => by
    obtain ⟨a, xs, rfl, ha, hx⟩ := dp_tup hv
    obtain ⟨Pv, h0, hk, hst, hd⟩ := h H1 s1
    refine ⟨a, rfl, ⟨xs, same_seqT hid_le ha⟩, for_tup (xs := xs) Pv h0 (fun i σ' H' _ p => same_seqT hid_le (same_seqT (hk i σ' H' p) ha)) (fun i x σ' H' hi p => ?_) (by rw [dpa_len hx]; exact hd)⟩
    obtain ⟨d, h1, h2⟩ := dpa_get' hx hi
    exact hst i d h1 σ' H' x p (h2.up (hk i σ' H' p))⟩
/-- for tg in range(e): .. -/
theorem rb_range {tg : Expr} {body : List Stmt} (hm : X.mg "range" = none) (hit : RE X e σ H fun v H1 => ∃ n : Nat, v = .int (n : Int) ∧ n < 2 ^ 61 ∧ ∃ Pv : Nat → L2.St → Hp → Prop, Pv 0 σ H1 ∧
      (∀ k σ' H', k < n → Pv k σ' H' → RG X tg (.int (k : Int)) σ' H' fun σ2 H2 => RB X body { D with nx := Pv (k + 1), ct := Pv (k + 1), bk := RB X rest D } σ2 H2) ∧ ∀ σ' H', Pv n σ' H' → RB X rest D σ' H')
    (hg : Gl X "range" := by rfl) (he : starEach [e] X.env = [(false, eval e X.env)] := by rfl) (hp : PassesOwn (model X.prog X.w) X.A X.env X.xe := by exact PassesOwn.never) (hc : X.calm = true := by rfl)
    (hs : ∀ x, foldedSetIterable (.Call (.Name "range" p1) [e] [] p2) X.env x = pure x := by intro _; rfl) : RB X (.For tg (.Call (.Name "range" p1) [e] [] p2) body [] pos :: rest) D σ H :=
  ⟨_, pss_cons (ps_for hp hc (pi_range1 hg hm ra_ he) rg_ rb_ hs) rb_, ra_1 (re_mono hit fun v H1 ⟨n, ev, hn, Pv, h0, hst, hd⟩ => by
    refine ⟨(n : Int), by rw [ev], by omega, by omega, ?_⟩
    rw [Int.toNat_natCast]
    refine for_range Pv h0 (fun i σ' H' hi p => ?_) hd
    rw [Int.zero_add]
    exact hst i σ' H' hi p) he⟩
end
/-! ### comprehensions -/
/-- what is read within a comprehension -/
def BE (X : Cx) (scope : Scope) (e : Expr) : TE := fun σ H Q => ∀ (s : Shared) (H0 : Hp) (C : Addr) (cl : List (Str × Addr)) (fp : List Addr), RE (X.blk s H0 scope (compEnvC scope cl C X.env) fp) e σ H Q
def BG (X : Cx) (scope : Scope) (e : Expr) : TG := fun v σ H Q => ∀ (s : Shared) (H0 : Hp) (C : Addr) (cl : List (Str × Addr)) (fp : List Addr), RG (X.blk s H0 scope (compEnvC scope cl C X.env) fp) e v σ H Q
def BT (X : Cx) (scope : Scope) (es : List Expr) : TT := fun σ H Q => ∀ (s : Shared) (H0 : Hp) (C : Addr) (cl : List (Str × Addr)) (fp : List Addr), ∃ t, PTs (X.blk s H0 scope (compEnvC scope cl C X.env) fp) es t ∧ t σ H Q
section
variable {X : Cx} {M : List Addr} {σ : L2.St} {H H' : Hp} {e a b c o elt tg iter : Expr} {ifs : List Expr} {scope : Scope} {own : List (Str × Nat)} {es : List Expr} {d d1 d2 : PyData} {ds ds2 es' : List PyData} {x : Str} {v : V} {pos p1 p2 p3 : Pos}
theorem be_ {s : Shared} {H0 : Hp} {C : Addr} {cl : List (Str × Addr)} {fp : List Addr} : PE (X.blk s H0 scope (compEnvC scope cl C X.env) fp) e (BE X scope e) := ⟨fun pins s' σ H Q I h => by
  obtain ⟨_, ht, q⟩ := h s H0 C cl fp
  exact ht.run pins s' σ H Q I q⟩
theorem bg_ {s : Shared} {H0 : Hp} {C : Addr} {cl : List (Str × Addr)} {fp : List Addr} : PG (X.blk s H0 scope (compEnvC scope cl C X.env) fp) e (BG X scope e) := ⟨fun pins s' σ H v u Q I r h => by
  obtain ⟨_, ht, q⟩ := h s H0 C cl fp
  exact ht.run pins s' σ H v u Q I r q⟩
theorem bt_ {s : Shared} {H0 : Hp} {C : Addr} {cl : List (Str × Addr)} {fp : List Addr} : PTs (X.blk s H0 scope (compEnvC scope cl C X.env) fp) es (BT X scope es) := ⟨fun pins s' σ H Q I h => by
  obtain ⟨_, ht, q⟩ := h s H0 C cl fp
  exact ht.run pins s' σ H Q I q⟩
theorem bt_nil {Q : Bool → Hp → Prop} (q : Q true H) : BT X scope [] σ H Q := fun _ _ _ _ _ => ⟨_, pts_nil, q⟩
theorem bt_one {k : Bool} {Q : Bool → Hp → Prop} (h : ∀ (s : Shared) (H0 : Hp) (C : Addr) (cl : List (Str × Addr)) (fp : List Addr), XT (X.blk s H0 scope (compEnvC scope cl C X.env) fp) σ H c k) (q : ∀ H2, Same H H2 → Q k H2) : BT X scope [c] σ H Q := fun s H0 C cl fp =>
  ⟨_, pts_one rt_, h s H0 C cl fp H (Same.refl H) _ q⟩
theorem rg_mono {Q Q' : L2.St → Hp → Prop} (h : RG X tg v σ H Q) (k : ∀ σ1 H1, Q σ1 H1 → Q' σ1 H1) : RG X tg v σ H Q' := by
  obtain ⟨g, hg, q⟩ := h
  exact ⟨fun v σ H Q' => ∃ Q, g v σ H Q ∧ ∀ σ1 H1, Q σ1 H1 → Q' σ1 H1, ⟨fun pins s σ H v u Q' I r ⟨Q, q, k⟩ => thn (hg.run pins s σ H v u Q I r q) fun _ s' ⟨σ', H', I', q'⟩ => ⟨σ', H', I', k _ _ q'⟩⟩, Q, q, k⟩
theorem bg_mono {Q Q' : L2.St → Hp → Prop} (h : BG X scope tg v σ H Q) (k : ∀ σ1 H1, Q σ1 H1 → Q' σ1 H1) : BG X scope tg v σ H Q' := fun s H0 C cl fp => rg_mono (h s H0 C cl fp) k
theorem be_mono {Q Q' : VK} (h : BE X scope e σ H Q) (k : ∀ v H1, Q v H1 → Q' v H1) : BE X scope e σ H Q' := fun s H0 C cl fp => re_mono (h s H0 C cl fp) k
theorem bt_mono {Q Q' : Bool → Hp → Prop} (h : BT X scope es σ H Q) (k : ∀ v H1, Q v H1 → Q' v H1) : BT X scope es σ H Q' := fun s H0 C cl fp => by
  obtain ⟨t, ht, q⟩ := h s H0 C cl fp
  exact ⟨fun σ H Q' => ∃ Q, t σ H Q ∧ ∀ v H1, Q v H1 → Q' v H1, ⟨fun pins s σ H Q' I ⟨Q, q, k⟩ => thn (ht.run pins s σ H Q I q) fun u s' ⟨H1, I1, q1⟩ => ⟨H1, I1, k u H1 q1⟩⟩, Q, q, k⟩
theorem hid_step {p : Addr} {H1 : Hp} (hp : H p = none) (s : Same H H1) : Same (hid M H) (hid (p :: M) H1) := fun b o e => by
  have nM : b ∉ M := fun z => by unfold hid at e; rw [if_pos z] at e; cases e
  have e' := hid_le _ _ e
  have np : b ≠ p := ne_of_none e' hp
  rw [hid_of (by simp [np, nM])]
  exact s _ _ e'
theorem hid_upd_ne {p : Addr} {o : HO} {H1 : Hp} : hid (p :: M) (upd H1 p o) = hid (p :: M) H1 := hid_upd_mem (List.mem_cons_self ..)
/-- [elt for tg in iter if ..]: f gives what an item comes to, none where it is left out -/
theorem xl_comp (f : PyData → Option PyData) (L : Live M H) (hN : X.N.Nodup) (hit : XD X M σ H iter (.list ds)) (ok : BlkOk X.N X.env.scope scope own) (hz : ds.length ≤ 100000)
    (hst : ∀ p d v H1, d ∈ ds → H p = none → Same H H1 → Live (p :: M) H1 → Dq X.K (hid (p :: M) H1) v d → BG X scope tg v (wipe σ (own.map (·.2))) H1 fun σ2 H2 => wipe σ2 (own.map (·.2)) = wipe σ (own.map (·.2)) ∧ BT X scope ifs σ2 H2 fun k H3 =>
      Same H1 H3 ∧ ((k = true ∧ ∃ d', f d = some d' ∧ BE X scope elt σ2 H3 fun y H4 => Same H3 H4 ∧ Dq X.K (hid (p :: M) H4) y d') ∨ (k = false ∧ f d = none)))
    (hc : X.calm = true := by rfl) (hs : ∀ x, foldedSetIterable iter X.env x = pure x := by intro _; rfl) : XL X M σ H (.ListComp elt [⟨tg, iter, ifs, 0⟩] scope pos) (ds.filterMap f) := fun H1 s1 Q q =>
  ⟨_, pe_lc (own := own) hc hN (pi_list re_) ok (fun _ _ _ _ _ => bg_) (fun _ _ _ _ _ => bt_) (fun _ _ _ _ _ => be_) hs, hit H1 s1 _ fun v H2 s2 hv => by
    obtain ⟨a, xs, rfl, ha, hx⟩ := dp_lst hv
    have L2' : Live M H2 := L.mono (s1.trans s2)
    refine ⟨a, rfl, ⟨xs, SqL.of (hid_le _ _ ha)⟩, fun p hp => ?_⟩
    have hpM : p ∉ M := L2'.fresh hp
    have hp0 : H p = none := (s1.trans s2).free hp
    refine lc_list (xs := xs) (a := a) (fun i H' => Same H2 H' ∧ ∃ acc, H' p = some (.lst acc) ∧ DqAll X.K (hid (p :: M) H') acc ((ds.take i).filterMap f)) ⟨same_new hp, [], upd_same, by simpa using DqAll.nil⟩ (fun i H' _ w => SqL.of (w.1 _ _ (hid_le _ _ ha))) (fun i x H' hi w => ?_) (fun H' w => ?_)
    · obtain ⟨sH, acc, hacc, hda⟩ := w
      obtain ⟨d, hd1, hd2⟩ := dpa_get' hx hi
      have hdm : d ∈ ds := List.mem_of_getElem? hd1
      have etake : ds.take (i + 1) = ds.take i ++ [d] := by
        rw [List.take_add_one, hd1]; rfl
      have hlen : acc.length < sizeLine := by
        rw [dpa_len hda]
        have h1 : ((ds.take i).filterMap f).length ≤ (ds.take i).length := List.length_filterMap_le ..
        have h2 : (ds.take i).length ≤ i := by rw [List.length_take]; omega
        have h3 : i < ds.length := (List.getElem?_eq_some_iff.mp hd1).1
        have h4 : 100000 < sizeLine := by decide
        omega
      have Lp : Live (p :: M) H' := fun b hb => by
        rcases List.mem_cons.mp hb with z | hb
        · subst z; rw [hacc]; simp
        · exact L2'.mono sH b hb
      have kx : Dq X.K (hid (p :: M) H') x d := hd2.up (hid_step hp sH)
      refine bg_mono (hst p d x H' hdm hp0 ((s1.trans s2).trans sH) Lp kx) fun σ2 Ha ⟨hw, hbt⟩ => ⟨hw, bt_mono hbt fun k Hb ⟨sb, hk⟩ => ?_⟩
      have sH' : Same H' Hb := sb
      rcases hk with ⟨hk, d', hf, hbe⟩ | ⟨hk, hf⟩
      · subst hk
        refine iteT (be_mono hbe fun y Hc ⟨sc, hy⟩ => ?_)
        have sd := sH'.trans sc
        refine ⟨acc, sd _ _ hacc, hlen, fun b o e => ?_, acc ++ [y], upd_same, ?_⟩
        · have nb : b ≠ p := ne_of_none e hp
          rw [upd_ne nb]
          exact sd _ _ (sH _ _ e)
        · rw [hid_upd_ne, etake, List.filterMap_append]
          have e2 : [d].filterMap f = [d'] := by simp [hf]
          rw [e2]
          exact dpa_app (hda.up (hid_mono sd)) (.cons hy .nil)
      · subst hk
        refine iteF ⟨sH.trans sH', acc, sH' _ _ hacc, ?_⟩
        rw [etake, List.filterMap_append]
        have e2 : [d].filterMap f = [] := by simp [hf]
        rw [e2, List.append_nil]
        exact hda.up (hid_mono sH')
    · obtain ⟨sH, acc, hacc, hda⟩ := w
      have e1 : ds.take xs.length = ds := by rw [dpa_len hx]; exact List.take_length
      rw [e1] at hda
      refine q p acc H' (s2.trans sH) (s2.free hp) hacc (hda.up fun b o e => ?_)
      have n1 : b ∉ p :: M := fun z => by unfold hid at e; rw [if_pos z] at e; cases e
      rw [hid_of (fun z => n1 (List.mem_cons_of_mem _ z))]
      exact hid_le _ _ e⟩
end
end Dl

set_option Elab.async false
set_option linter.all false
set_option maxRecDepth 100000
set_option maxHeartbeats 4000000
/-! Data layer, part 4: own defs by data, calls where no repr is under way, repr, isinstance, instances. -/
namespace Dl
open PySem PySem.Spec PyProof.Rows L2
/-! ### a def by data -/
/-- arguments ds with R ds d: the data d comes back, all stands -/
def spR (K : PySem.W.Frag) (R : List PyData → PyData → Prop) : Sp := fun vs H Q _ => ∃ (M : List Addr) (ds : List PyData) (d : PyData), Live M H ∧ DqAll K (hid M H) vs ds ∧ R ds d ∧ ∀ v H1, Same H H1 → Dq K (hid M H1) v d → Q v H1
/-- .. a new list of the data es -/
def spL (K : PySem.W.Frag) (R : List PyData → List PyData → Prop) : Sp := fun vs H Q _ => ∃ (M : List Addr) (ds es : List PyData), Live M H ∧ DqAll K (hid M H) vs ds ∧ R ds es ∧ ∀ p xs H1, Same H H1 → H p = none → H1 p = some (.lst xs) → DqAll K (hid M H1) xs es → Q (.ref p) H1
section
variable {X : Cx} {M : List Addr} {σ : L2.St} {H H' : Hp} {e a b c o : Expr} {es : List Expr} {d d1 d2 : PyData} {ds ds2 es' : List PyData} {x : Str} {v : V} {pos p1 p2 p3 : Pos} {D : Ends} {rest sts : List Stmt} {st : Stmt} {k : Nat} {f C : Addr} {fd : FuncData} {ps : List Str}
theorem re_call {sp : Sp} {Q : VK} (F : FnOk X.prog X.w X.K X.mg X.base CX0 k f fd ps sp) (hr : Room k X.A) (hm : X.mg x = some (.ref f)) (hk : PySem.W.keepIn X.K (.ref f) = true) (hb : Binds X.K fd ps []) (ha : RA X (e :: es) σ H fun vs H1 => sp vs H1 Q E0) (hg : Gl X x := by rfl)
    (hdb : (x == ("__debug__" : Str)) = false := by decide) (he : starEach (e :: es) X.env = (false, eval e X.env) :: starEach es X.env := by rfl) (hpl : (backTo pos (starEach es X.env)).any (·.1) = false := by rfl) : RE X (.Call (.Name x p1) (e :: es) [] pos) σ H Q :=
  ⟨_, pe_call F hr hg hm hk hb .nil pass0 ra_ hdb he hpl, ra_mono ha fun vs H1 q => by rw [List.append_nil]; exact q⟩
theorem re_callD {sp : Sp} {Q : VK} {dvs : List V} {dl : List Value} (F : FnOk X.prog X.w X.K X.mg X.base CX0 k f fd ps sp) (hr : Room k X.A) (hm : X.mg x = some (.ref f)) (hk : PySem.W.keepIn X.K (.ref f) = true) (hb : Binds X.K fd ps dl) (hd : Vals dvs dl) (ha : RA X (e :: es) σ H fun vs H1 => sp (vs ++ dvs) H1 Q E0) (hg : Gl X x := by rfl)
    (hdb : (x == ("__debug__" : Str)) = false := by decide) (he : starEach (e :: es) X.env = (false, eval e X.env) :: starEach es X.env := by rfl) (hpl : (backTo pos (starEach es X.env)).any (·.1) = false := by rfl) : RE X (.Call (.Name x p1) (e :: es) [] pos) σ H Q :=
  ⟨_, pe_call F hr hg hm hk hb hd pass0 ra_ hdb he hpl, ha⟩
theorem xd_call {R : List PyData → PyData → Prop} (L : Live M H) (F : FnOk X.prog X.w X.K X.mg X.base CX0 k f fd ps (spR X.K R)) (hr : Room k X.A) (hm : X.mg x = some (.ref f)) (hk : PySem.W.keepIn X.K (.ref f) = true) (hb : Binds X.K fd ps []) (ha : XA X M σ H (e :: es) ds) (hR : R ds d) (hg : Gl X x := by rfl)
    (hdb : (x == ("__debug__" : Str)) = false := by decide) (he : starEach (e :: es) X.env = (false, eval e X.env) :: starEach es X.env := by rfl) (hpl : (backTo pos (starEach es X.env)).any (·.1) = false := by rfl) : XD X M σ H (.Call (.Name x p1) (e :: es) [] pos) d := fun H1 s Q q =>
  re_call F hr hm hk hb (ha H1 s _ fun vs H2 s2 hv => ⟨M, ds, d, L.mono (s.trans s2), hv, hR, fun v H3 s3 hd => q v H3 (s2.trans s3) hd⟩) hg hdb he hpl
theorem xl_call {R : List PyData → List PyData → Prop} (L : Live M H) (F : FnOk X.prog X.w X.K X.mg X.base CX0 k f fd ps (spL X.K R)) (hr : Room k X.A) (hm : X.mg x = some (.ref f)) (hk : PySem.W.keepIn X.K (.ref f) = true) (hb : Binds X.K fd ps []) (ha : XA X M σ H (e :: es) ds) (hR : R ds ds2) (hg : Gl X x := by rfl)
    (hdb : (x == ("__debug__" : Str)) = false := by decide) (he : starEach (e :: es) X.env = (false, eval e X.env) :: starEach es X.env := by rfl) (hpl : (backTo pos (starEach es X.env)).any (·.1) = false := by rfl) : XL X M σ H (.Call (.Name x p1) (e :: es) [] pos) ds2 := fun H1 s Q q =>
  re_call F hr hm hk hb (ha H1 s _ fun vs H2 s2 hv => ⟨M, ds, ds2, L.mono (s.trans s2), hv, hR, fun p xs H3 s3 hp h3 hd => q p xs H3 (s2.trans s3) (s2.free hp) h3 hd⟩) hg hdb he hpl
/-! ### a def, called where no repr is under way -/
structure FnG (P : Program) (w : World) (K : PySem.W.Frag) (mg : Str → Option Value) (base : Heap) (k : Nat) (f : Addr) (fd : FuncData) (ps : List Str) (sp : Sp) : Prop where
  len : ∀ vs H Q E, sp vs H Q E → vs.length = ps.length
  run : ∀ (A : Around), A.guards = some [] → Room k A → ∀ (outer : List Env) (s : Shared) (H : Hp) (args : Args) (us : List Value) (vs : List V) (Q : VK) (E : XK), Env0 P w K mg base A outer s H → BindsTo s fd args (ps.zip us) → Vals vs us → sp vs H Q E →
    codeAny (model P w) A (.call (.ref f) args) (CR CX0 outer P w H s Q E) s
theorem fn_g {P : Program} {w : World} {K : PySem.W.Frag} {mg : Str → Option Value} {base : Heap} {sp : Sp} {qual x : Str} {st : Stmt} {N : List Str} (F : Fun K x qual st f fd) (S : FnScope N ps (defScope st)) (len : ∀ vs H Q E, sp vs H Q E → vs.length = ps.length)
    (hbody : ∀ (cdv : Value) (A : Around) (outer : List Env) (s : Shared) (H : Hp) (vs : List V) (Q : VK) (E : XK), A.guards = some [] → Room k (A.deeper (envOfC qual (defScope st) s.heap.objs.size f cdv)) → sp vs H Q E →
      RB (cxOf CX0 P w K mg base N qual (defScope st) f cdv A outer s H E).nox (defBody st) { nx := fun _ H1 => Q .non H1, rt := Q } (start N vs) H) : FnG P w K mg base (k + 1) f fd ps sp where
  len := len
  run := fun A hA hr outer s H args us vs Q E e0 hb r hsp => by
    obtain ⟨oc, od, kV, doc, pm, an, cdv, ct, osl, hfd, lk, hcd⟩ := F.ex
    subst hfd
    have hz := len _ _ _ _ hsp
    have KX : K.In s.heap := e0.mod.kin.keeps (fun b o e => (e0.bs b o e).1)
    have nl : s.heap.NoLimit := e0.mod.nolimit.keeps (fun b o e => (e0.bs b o e).1)
    have kinds : ∀ y ∈ ps.zip us, (defScope st).names.lookup y.1 = some .local ∨ ((defScope st).names.lookup y.1 = some .cell ∧ ((cellsFrom (s.heap.objs.size + 1) (defScope st).names []).lookup y.1).isSome = true) := by
      intro y hy
      rcases S.par y.1 (List.of_mem_zip (show (y.1, y.2) ∈ ps.zip us from hy)).1 with z | z
      · exact .inl z
      · exact .inr ⟨z, PySem.W.cellsFrom_some _ _ _ (.inl z)⟩
    refine codeAny_call_function (Room.depth hr) (KX _ _ lk) rfl S.co S.gen rfl (PySem.W.codeRec_of KX hcd) (hb _ _ _ _ ?_)
    refine wpAny_newFunctionEnv_cells S.kind kinds (fun env henv s1 inc => ?_)
    subst henv
    refine ⟨nl.keeps inc.toInCall.keep, codeAny_func ?_⟩
    obtain ⟨t, ht, q⟩ := hbody cdv A outer s H vs Q E hA (hr.deeper _) hsp
    have I0 := inv_start (CX := CX0) (E := E) S hr.hd e0 hz r inc
    refine wpAny_mono (ht.nox.run [] s1 (start N vs) H _ I0 q) (fun fl s2 hs => ?_) (fun _ _ z => z)
    cases fl with
    | ret u =>
      obtain ⟨v, _, H2, J, rv, q2⟩ := hs
      exact ⟨v, H2, J.os, J.bare, J.base, J.hok, rv, q2⟩
    | next =>
      obtain ⟨_, H2, J, q2⟩ := hs
      exact ⟨.non, H2, J.os, J.bare, J.base, J.hok, rfl, q2⟩
    | brk => obtain ⟨_, _, _, q2⟩ := hs; exact q2.elim
    | cont => obtain ⟨_, _, _, q2⟩ := hs; exact q2.elim
/-- f(..), f such a def -/
theorem re_callG {sp : Sp} {Q : VK} (F : FnG X.prog X.w X.K X.mg X.base k f fd ps sp) (hA : X.A.guards = some []) (hr : Room k X.A) (hm : X.mg x = some (.ref f)) (hk : PySem.W.keepIn X.K (.ref f) = true) (hb : Binds X.K fd ps []) (ha : RA X (e :: es) σ H fun vs H1 => sp vs H1 Q E0) (hg : Gl X x := by rfl)
    (hdb : (x == ("__debug__" : Str)) = false := by decide) (he : starEach (e :: es) X.env = (false, eval e X.env) :: starEach es X.env := by rfl) (hpl : (backTo pos (starEach es X.env)).any (·.1) = false := by rfl) : RE X (.Call (.Name x p1) (e :: es) [] pos) σ H Q := by
  refine ⟨fun σ H Q => RA X (e :: es) σ H fun vs H1 => sp vs H1 Q E0, ⟨fun pins s σ H Q I h => ?_⟩, ha⟩
  refine wpAny_Call_Name_kw (ld_glob I hg hm ?_ hdb)
  refine PySem.W.callWith_K (h₀ := X.base) I.ok.mod.kin hk (thn (ra_.run pos pins s σ H _ I h) fun us s1 ⟨vs, H1, I1, r, q⟩ => ⟨I1.kIn, ?_⟩) he hpl
  have hz : us.length = ps.length := by rw [← r.length]; exact F.len _ _ _ _ q
  have hb' := hb s1 us I1.kIn (by rw [List.append_nil]; exact hz)
  rw [List.append_nil] at hb'
  refine wpAny_call (codeAny_mono (F.run X.A hA hr X.stack s1 H1 ⟨us, []⟩ us vs Q E0 I1.env0 hb' r q) fun r' s' hq => ?_)
  cases r' with
  | error e => exact hq.elim
  | ok fl =>
    cases fl with
    | ret u => exact I1.after hq
    | next => exact hq.elim
    | brk => exact hq.elim
    | cont => exact hq.elim
/-! ### repr of data -/
theorem call_reprD (hA : X.A.guards = some []) (hu : X.A.units + 64 < cLine) : CallR X (.builtin "repr") (fun xs H Q => ∃ (p : Addr) (d : PyData), xs = [.ref p] ∧ Dp X.K H (.ref p) d ∧ d.showable = true ∧ d.hasDict = false ∧ d.depth ≤ 60 ∧ d.shown.length ≤ sizeLine ∧ Q (.str d.shown) H) := by
  intro pins s σ H xs us Q I r h
  obtain ⟨p, d, rfl, hd, h1, h2, h3, h4, q⟩ := h
  obtain ⟨u, rfl, rx⟩ := vals1 r
  obtain ⟨as, rd⟩ := Dp.reads I d _ u hd rx
  cases rx
  exact repr_of_reads' rd h1 (fun z => by rw [h2] at z; cases z) hA (by omega) (fun _ _ z => z) (fun h' u tk hk => ⟨.str d.shown, H, I.kept (t' := tk) hk, ⟨u, rfl⟩, q⟩) h4
/-- repr(a) != repr(b) of the same data: False -/
theorem xt_reprNe {pa pb : Pos} (hA : X.A.guards = some []) (hu : X.A.units + 64 < cLine) (hm : X.mg "repr" = none) (ha : XD X M σ H a (.list ds)) (hb : XD X M σ H b (.list ds)) (h1 : (PyData.list ds).showable = true) (h2 : (PyData.list ds).hasDict = false) (h3 : (PyData.list ds).depth ≤ 60) (h4 : (PyData.list ds).shown.length ≤ sizeLine) (hg : Gl X "repr" := by rfl)
    (he : starEach [a] X.env = (false, eval a X.env) :: starEach [] X.env := by rfl) (hpl : (backTo pa (starEach [] X.env)).any (·.1) = false := by rfl) (he2 : starEach [b] X.env = (false, eval b X.env) :: starEach [] X.env := by rfl) (hpl2 : (backTo pb (starEach [] X.env)).any (·.1) = false := by rfl) :
    XT X σ H (.Compare (.Call (.Name "repr" p1) [a] [] pa) [.NotEq] [.Call (.Name "repr" p2) [b] [] pb] pos) false := by
  have key : ∀ {e : Expr} {pp qq : Pos}, XD X M σ H e (.list ds) → starEach [e] X.env = (false, eval e X.env) :: starEach [] X.env → (backTo qq (starEach [] X.env)).any (·.1) = false → XD X M σ H (.Call (.Name "repr" pp) [e] [] qq) (.str (PyData.list ds).shown) := fun {e pp qq} h z1 z2 H1 s Q q =>
    re_B (call_reprD hA hu) (ra_1 (h H1 s _ fun v H2 s2 hv => by
      obtain ⟨p, xs, rfl, hp, hx⟩ := dp_lst hv
      exact ⟨p, _, rfl, (hv.up hid_le).dp, h1, h2, h3, h4, q _ H2 s2 (.str _)⟩) z1) hm (by decide +kernel) hg (by decide) (by decide) z1 z2
  refine xt_cmp op_ne (key ha he hpl) (key hb he2 hpl2) fun H1 v w s hv hw Q q => ?_
  rw [dp_str hv, dp_str hw]
  exact ⟨rfl, by rw [decide_eq_true rfl]; exact q H1 (Same.refl _)⟩
theorem xd_reprEq {pa pb : Pos} (hA : X.A.guards = some []) (hu : X.A.units + 64 < cLine) (hm : X.mg "repr" = none) (ha : XD X M σ H a (.list ds)) (hb : XD X M σ H b (.list ds)) (h1 : (PyData.list ds).showable = true) (h2 : (PyData.list ds).hasDict = false) (h3 : (PyData.list ds).depth ≤ 60) (h4 : (PyData.list ds).shown.length ≤ sizeLine) (hg : Gl X "repr" := by rfl)
    (he : starEach [a] X.env = (false, eval a X.env) :: starEach [] X.env := by rfl) (hpl : (backTo pa (starEach [] X.env)).any (·.1) = false := by rfl) (he2 : starEach [b] X.env = (false, eval b X.env) :: starEach [] X.env := by rfl) (hpl2 : (backTo pb (starEach [] X.env)).any (·.1) = false := by rfl) :
    XD X M σ H (.Compare (.Call (.Name "repr" p1) [a] [] pa) [.Eq] [.Call (.Name "repr" p2) [b] [] pb] pos) (.bool true) := by
  have key : ∀ {e : Expr} {pp qq : Pos}, XD X M σ H e (.list ds) → starEach [e] X.env = (false, eval e X.env) :: starEach [] X.env → (backTo qq (starEach [] X.env)).any (·.1) = false → XD X M σ H (.Call (.Name "repr" pp) [e] [] qq) (.str (PyData.list ds).shown) := fun {e pp qq} h z1 z2 H1 s Q q =>
    re_B (call_reprD hA hu) (ra_1 (h H1 s _ fun v H2 s2 hv => by
      obtain ⟨p, xs, rfl, hp, hx⟩ := dp_lst hv
      exact ⟨p, _, rfl, (hv.up hid_le).dp, h1, h2, h3, h4, q _ H2 s2 (.str _)⟩) z1) hm (by decide +kernel) hg (by decide) (by decide) z1 z2
  refine xd_cmp op_eq (key ha he hpl) (key hb he2 hpl2) fun H1 v w s hv hw Q q => ?_
  rw [dp_str hv, dp_str hw]
  exact ⟨rfl, by rw [decide_eq_true rfl]; exact q _ H1 (Same.refl _) (.bl _)⟩
/-! ### isinstance -/
def tyN : PyData → String
  | .none => "NoneType"
  | .bool _ => "bool"
  | .int _ => "int"
  | .str _ => "str"
  | .list _ => "list"
  | .tuple _ => "tuple"
  | .dict _ => "dict"
theorem ty_dq {K : PySem.W.Frag} (h : Dq K H v d) : TyX K H v (.type (tyN d)) := by
  cases h with
  | non => exact .base .non
  | bl b => exact .base (.bl b)
  | int i => exact .base (.int i)
  | str z => exact .base (.str z)
  | lst h1 _ => exact .base (.lst h1)
  | tup h1 _ =>
    rcases h1 with (h1 | ⟨o, h1⟩) | ⟨o, its, n, h1, h2, _⟩
    · exact .base (.tup h1)
    · exact .fTuple h1
    · exact .kTuple h1 h2
/-- isinstance(a, T), T a built-in type by its name -/
theorem xd_is1 {T : String} {r : Bool} {nm : Str} (hk : kitB (tyN d) T = some r) (hm : X.mg "isinstance" = none) (hmT : X.mg nm = none) (hvT : bootBuiltins nm = some (.type T)) (ha : XD X M σ H a d) (hg : Gl X "isinstance" := by rfl) (hgT : Gl X nm := by rfl) (hnT : nm ≠ "__name__" := by decide) (hdT : (nm == ("__debug__" : Str)) = false := by decide)
    (he : starEach [a, .Name nm p2] X.env = (false, eval a X.env) :: starEach [.Name nm p2] X.env := by rfl) (he2 : starEach [.Name nm p2] X.env = (false, eval (.Name nm p2) X.env) :: starEach [] X.env := by rfl) (hpl : (backTo pos (starEach [.Name nm p2] X.env)).any (·.1) = false := by rfl) :
    XD X M σ H (.Call (.Name "isinstance" p1) [a, .Name nm p2] [] pos) (.bool r) := fun H1 s Q q =>
  re_B call_isi (ra_cons (ha H1 s _ fun v H2 s2 hv => ra_1 (xv_bltn (v := .ty T) hmT hvT rfl hgT hnT hdT H2 (Same.refl _) _ fun H3 s3 =>
    ⟨v, .ty T, _, _, r, rfl, .ty T, ty_dq ((hv.up hid_le).up s3), kit_ty hk, q _ H3 (s2.trans s3) (.bl _)⟩) he2) he) hm (by decide +kernel) hg (by decide) (by decide) he hpl
/-- isinstance(a, (T1, T2)) -/
theorem xd_is2 {T1 T2 : String} {r1 r2 : Bool} {n1 n2 : Str} {k3} (h1 : kitB (tyN d) T1 = some r1) (h2 : kitB (tyN d) T2 = some r2) (hm : X.mg "isinstance" = none) (hm1 : X.mg n1 = none) (hv1 : bootBuiltins n1 = some (.type T1)) (hm2 : X.mg n2 = none) (hv2 : bootBuiltins n2 = some (.type T2)) (ha : XD X M σ H a d)
    (hg : Gl X "isinstance" := by rfl) (hg1 : Gl X n1 := by rfl) (hg2 : Gl X n2 := by rfl) (hn1 : n1 ≠ "__name__" := by decide) (hn2 : n2 ≠ "__name__" := by decide) (hd1 : (n1 == ("__debug__" : Str)) = false := by decide) (hd2 : (n2 == ("__debug__" : Str)) = false := by decide) {q1 q2 q3 : Pos}
    (he : starEach [a, .Tuple [.Name n1 q1, .Name n2 q2] k3 q3] X.env = (false, eval a X.env) :: starEach [.Tuple [.Name n1 q1, .Name n2 q2] k3 q3] X.env := by rfl) (he2 : starEach [.Tuple [.Name n1 q1, .Name n2 q2] k3 q3] X.env = (false, eval (.Tuple [.Name n1 q1, .Name n2 q2] k3 q3) X.env) :: starEach [] X.env := by rfl)
    (hs1 : starEach [.Name n1 q1, .Name n2 q2] X.env = (false, eval (.Name n1 q1) X.env) :: starEach [.Name n2 q2] X.env := by rfl) (hs2 : starEach [.Name n2 q2] X.env = (false, eval (.Name n2 q2) X.env) :: starEach [] X.env := by rfl)
    (hpl : (backTo pos (starEach [.Tuple [.Name n1 q1, .Name n2 q2] k3 q3] X.env)).any (·.1) = false := by rfl) :
    XD X M σ H (.Call (.Name "isinstance" p1) [a, .Tuple [.Name n1 q1, .Name n2 q2] k3 q3] [] pos) (.bool (r1 || r2)) := fun H1 s Q q =>
  re_B call_isiT (ra_cons (ha H1 s _ fun v H2 s2 hv => ra_1 ⟨_, pe_tup ra_, ra_cons (xv_bltn (v := .ty T1) hm1 hv1 rfl hg1 hn1 hd1 H2 (Same.refl _) _ fun H3 s3 => ra_1 (xv_bltn (v := .ty T2) hm2 hv2 rfl hg2 hn2 hd2 H3 (Same.refl _) _ fun H4 s4 => by
    refine ⟨by show 2 ≤ sizeLine; decide, fun p hp => ?_⟩
    have s5 : Same H2 (upd H4 p (.tup [V.ty T1, V.ty T2])) := (s3.trans s4).trans (same_new hp)
    refine ⟨v, p, [.ty T1, .ty T2], _, _, r1 || r2, rfl, upd_same, .cons (.ty T1) (.cons (.ty T2) .nil), ty_dq ((hv.up hid_le).up s5), ?_, q _ _ (s2.trans s5) (.bl _)⟩
    refine kitAny_cons (kit_ty h1) (fun z => ?_) (fun z => by rw [z]; rfl)
    rw [z, Bool.false_or]
    exact kitAny_cons (kit_ty h2) (fun z2 => by rw [z2]; exact kitAny_nil) (fun z2 => z2)) hs2) hs1⟩ he2) he) hm (by decide +kernel) hg (by decide) (by decide) he hpl
/-! ### instances -/
theorem xv_fld {dx pa : Addr} {fs : List (Str × V)} {f : Str} (ho : XV X σ H o (.ref pa)) (h1 : H pa = some (.ins C dx fs)) (hc : Cls X.K C) (hn : NoAttr X.K C f) (hl : fs.lookup f = some v) (hb : attributeBase o f X.env (eval o X.env) = eval o X.env := by rfl) : XV X σ H (.Attribute o f pos) v := fun H1 s Q q =>
  ⟨_, pe_fld re_ hb, ho H1 s _ fun H2 s2 => ⟨pa, C, dx, fs, v, rfl, (s.trans s2) _ _ h1, hc, hn, hl, q H2 s2⟩⟩
theorem re_meth {dx pa : Addr} {fs : List (Str × V)} {m : Str} {sp : Sp} {Q : VK} {pl : Sem Bool} {apos : Pos} (ho : XV X σ H o (.ref pa)) (h1 : H pa = some (.ins C dx fs)) (hc : Cls X.K C) (hM : Meth X.K C m f) (hl : fs.lookup m = none) (F : FnOk X.prog X.w X.K X.mg X.base CX0 k f fd ps sp) (hr : Room k X.A) (hb : Binds X.K fd ps [])
    (ha : ∀ H1, Same H H1 → RA X (e :: es) σ H1 fun vs H2 => sp (.ref pa :: vs) H2 Q E0) (hst : starEach (e :: es) X.env = (false, eval e X.env) :: starEach es X.env := by rfl) (hpl : (backTo pos (starEach es X.env)).any (·.1) = false := by rfl)
    (ht : eval (.Call (.Attribute o m apos) (e :: es) [] pos) X.env = (do
      let ov ← eval o X.env
      standAt apos.atName
      let (f, first) ← holding [ov] (getMethod ov m pl)
      callWith pos f first (backTo pos (starEach (e :: es) X.env)) (backToKw pos (keywordEach [] X.env))) := by rfl) : RE X (.Call (.Attribute o m apos) (e :: es) [] pos) σ H Q :=
  ⟨_, pe_meth re_ hc hM F hr hb .nil pass0 ra_ hst hpl ht, ho H (Same.refl H) _ fun H1 s1 => ⟨pa, dx, fs, rfl, s1 _ _ h1, hl, ra_mono (ha H1 s1) fun vs H2 q => by rw [List.append_nil]; exact q⟩⟩
theorem re_meth0 {dx pa : Addr} {fs : List (Str × V)} {m : Str} {sp : Sp} {Q : VK} {pl : Sem Bool} {apos : Pos} (ho : XV X σ H o (.ref pa)) (h1 : H pa = some (.ins C dx fs)) (hc : Cls X.K C) (hM : Meth X.K C m f) (hl : fs.lookup m = none) (F : FnOk X.prog X.w X.K X.mg X.base CX0 k f fd ps sp) (hr : Room k X.A) (hb : Binds X.K fd ps [])
    (ha : ∀ H1, Same H H1 → sp [.ref pa] H1 Q E0)
    (ht : eval (.Call (.Attribute o m apos) [] [] pos) X.env = (do
      let ov ← eval o X.env
      standAt apos.atName
      let (f, first) ← holding [ov] (getMethod ov m pl)
      callWith pos f first (backTo pos (starEach [] X.env)) (backToKw pos (keywordEach [] X.env))) := by rfl) : RE X (.Call (.Attribute o m apos) [] [] pos) σ H Q :=
  ⟨_, pe_meth0 re_ hc hM F hr hb .nil pass0 ht, ho H (Same.refl H) _ fun H1 s1 => ⟨pa, dx, fs, rfl, s1 _ _ h1, hl, ha H1 s1⟩⟩
end
end Dl

set_option Elab.async false
set_option linter.all false
set_option maxRecDepth 100000
set_option maxHeartbeats 4000000
/-! Data layer, part 5: operators of an own class; the end. -/
namespace Dl
open PySem PySem.Spec PyProof.Rows L2
/-- a namespace of the written part -/
theorem ns_at {K : PySem.W.Frag} {h : Heap} {N : Addr} {mN : Str → Option Value} {n : Str} {v : Value} (X : K.In h) (G : h.Ns N mN) (e : PySem.W.nsIn K N n = some (some v)) : mN n = some v := by
  obtain ⟨o, es, ep, ho, hd, _, hf⟩ := G
  unfold PySem.W.nsIn at e
  split at e
  · rename_i cc dd es2 nn sl q
    have z := X _ _ q
    rw [ho] at z
    cases z
    cases hd
    split at e
    · rename_i en he
      cases e
      rw [← hf]
      unfold nsFind findBy
      rw [← Array.find?_toList, he]
      rfl
    · split at e <;> cases e
  · cases e
/-- what the written part says of a class with an own == and no != -/
structure ClsEq (K : PySem.W.Frag) (C f : Addr) : Prop where
  cls : ∃ nm q N bs hdct sn sub ab col dd k0 k1 k2 k3 k5 newId, K.lookup C = some (excClassObj nm q C N bs [.type "object"] hdct sn sub ab col dd k0 k1 k2 k3 k5 newId) ∧ PySem.W.nsOkIn K N = true ∧ PySem.W.nsIn K N "__eq__" = some (some (.ref f)) ∧ PySem.W.nsIn K N "__ne__" = some none
  at_ : PySem.W.findIn K (.ref C) "__eq__" = some (some (.ref f))
  fn : PySem.W.isFn K (.ref f) = true
  obj : ∃ o, K.lookup f = some o ∧ o.cls = .type "function"
section
variable {X : Cx} {M : List Addr} {σ : L2.St} {H H' : Hp} {e a b c o : Expr} {es : List Expr} {d d1 d2 : PyData} {ds ds2 es' : List PyData} {x : Str} {v : V} {pos p1 p2 p3 : Pos} {D : Ends} {rest sts : List Stmt} {st : Stmt} {k : Nat} {f C : Addr} {fd : FuncData} {ps : List Str} {sp : Sp}
/-- a bool comes back -/
def bk (Q : Bool → Hp → Prop) : VK := fun v H => ∃ b, v = .bl b ∧ Q b H
theorem run_bool {A : Around} {E : Value → Shared → Prop} {pins : List (Addr × Obj)} {s : Shared} {us : List Value} {vs : List V} {Q : Bool → Hp → Prop} {R : Value → Shared → Prop} (I : Inv X pins σ H s) (fr : A.frames = X.A.frames) (F : FnOk X.prog X.w X.K X.mg X.base CX0 k f fd ps sp) (hr : Room k A) (hb : Binds X.K fd ps []) (r : Vals vs us) (h : sp vs H (bk Q) E0)
    (q : ∀ b s' H', Inv X pins σ H' s' → Q b H' → R (.bool b) s') : wpAny (model X.prog X.w) A (call (.ref f) us) R E s := by
  have hz : us.length = ps.length := by rw [← r.length]; exact F.len _ _ _ _ h
  have hb' := hb s us I.kIn (by rw [List.append_nil]; exact hz)
  rw [List.append_nil] at hb'
  have e := I.env0
  have e0 : Env0 X.prog X.w X.K X.mg X.base A X.stack s H := ⟨by rw [fr]; exact e.frames, e.mod, e.bs, e.bsz, e.funs, e.frf, e.hok, e.bare⟩
  refine wpAny_call (codeAny_mono (F.run A X.stack s H ⟨us, []⟩ us vs (bk Q) E0 hr e0 hb' r h) fun r' s' hq => ?_)
  cases r' with
  | error e => exact hq.elim
  | ok fl =>
    cases fl with
    | ret u =>
      obtain ⟨z, H1, I1, rz, b, ez, q1⟩ := I.after hq
      subst ez
      cases rz
      exact q b s' H1 I1 q1
    | next => exact hq.elim
    | brk => exact hq.elim
    | cont => exact hq.elim
/-- a == b, a of an own class; the other one of that class, or of a type that is not below it -/
theorem op_eqO {tb : Value → Prop} (E : ClsEq X.K C f) (F : FnOk X.prog X.w X.K X.mg X.base CX0 k f fd ps sp) (hr : Room k X.A) (hb : Binds X.K fd ps []) :
    OpR X (compareOp .Eq) (fun x y H Q => ∃ pa dx fs, x = .ref pa ∧ H pa = some (.ins C dx fs) ∧ ((∃ pb dy gs, y = .ref pb ∧ H pb = some (.ins C dy gs)) ∨ (PySem.W.subIn X.K (.type "list") (.ref C) = some false ∧ ∃ pb xs, y = .ref pb ∧ H pb = some (.lst xs))) ∧ sp [x, y] H (bk fun b H1 => Q (.bl b) H1) E0) := by
  intro pins s σ H x y u v Q I rx ry h
  obtain ⟨pa, dx, fs, rfl, ha, hy, hsp⟩ := h
  cases rx
  obtain ⟨mA, J, _⟩ := ins_get I.hok ha
  obtain ⟨od, J, _⟩ := J.look
  obtain ⟨m, hF⟩ := I.fr
  show wpAny (model X.prog X.w) X.A (richCompare .Eq (.ref pa) v) (EP X pins σ Q) X.xe s
  have fin : wpAny (model X.prog X.w) X.A (call (.ref f) [.ref pa, v]) (PySem.W.CmpBack (EP X pins σ Q)) X.xe s :=
    run_bool (Q := fun b H1 => Q (.bl b) H1) I rfl F hr hb (.cons (show RelV (.ref pa) (.ref pa) from rfl) (.cons ry .nil)) hsp fun b s' H' I' q => ⟨.bl b, H', I', rfl, q⟩
  rcases hy with ⟨pb, dy, gs, rfl, hb2⟩ | ⟨hsub, pb, xs, rfl, hb2⟩
  · cases ry
    obtain ⟨mB, J2, _⟩ := ins_get I.hok hb2
    obtain ⟨od2, J2, _⟩ := J2.look
    exact PySem.W.cmp_K (op := .Eq) (tb := .ref C) hr.units0 hF I.ok.mod.kin J J2.type (by simp [PySem.W.notFirst]) E.at_ E.fn fin
  · cases ry
    obtain ⟨_, its, n, r, e⟩ := (show ObjOk X.prog X.w H s.heap pb (.lst xs) from I.hok pb _ hb2)
    have z : PySem.W.Looks (model X.prog X.w) s.heap (typeOf (.ref pb)) (.type "list") := (PySem.W.Looks.ld e).andThen .now
    exact PySem.W.cmp_K (op := .Eq) (tb := .type "list") hr.units0 hF I.ok.mod.kin J z (by unfold PySem.W.notFirst; rw [hsub]; simp) E.at_ E.fn fin
/-- a != b of one own class -/
theorem op_neO (E : ClsEq X.K C f) (F : FnOk X.prog X.w X.K X.mg X.base CX0 k f fd ps sp) (hr : Room (k + 1) X.A) (hb : Binds X.K fd ps []) :
    OpR X (compareOp .NotEq) (fun x y H Q => ∃ pa dx fs pb dy gs, x = .ref pa ∧ H pa = some (.ins C dx fs) ∧ y = .ref pb ∧ H pb = some (.ins C dy gs) ∧ sp [x, y] H (bk fun b H1 => Q (.bl (!b)) H1) E0) := by
  intro pins s σ H x y u v Q I rx ry h
  obtain ⟨pa, dx, fs, pb, dy, gs, rfl, ha, rfl, hb2, hsp⟩ := h
  cases rx
  cases ry
  obtain ⟨mA, J, _⟩ := ins_get I.hok ha
  obtain ⟨od, J, _⟩ := J.look
  obtain ⟨mB, J2, _⟩ := ins_get I.hok hb2
  obtain ⟨od2, J2, _⟩ := J2.look
  obtain ⟨hox, hoc, _⟩ := J
  obtain ⟨hoy, hoyc, _⟩ := J2
  obtain ⟨nm, q, N, bs, hdct, sn, sub, ab, col, dd, k0, k1, k2, k3, k5, newId, hC, hN, he, hne⟩ := E.cls
  obtain ⟨of, hfo, hfc⟩ := E.obj
  have KX := I.kIn
  have hns := Heap.Ns.of_isNs (PySem.W.isNs_of_in KX hN)
  have Y : s.heap.OwnEqNoNe pa C f "object" [.type "object"] :=
    ⟨_, of, nm, q, N, bs, hdct, sn, sub, ab, col, dd, k0, k1, k2, k3, k5, newId, _, _, hox, hoc, KX _ _ hC, hns, ns_at KX hns he, KX _ _ hfo, hfc, PySem.F.mro_object, PySem.F.cmp_object.eq.lookup, PySem.W.ns_none_of KX hns hne⟩
  have hu := hr.units0
  obtain ⟨hh, g, dr, tk, os⟩ := s
  refine compareOp_ne_ownEq PySem.F.cmp_object Y hoy hoyc (by have := hr.un; omega) ?_
  exact run_bool (A := X.A.in1) (Q := fun b H1 => Q (.bl (!b)) H1) I rfl F hr.in1 hb (.cons (show RelV (.ref pa) (.ref pa) from rfl) (.cons (show RelV (.ref pb) (.ref pb) from rfl) .nil)) hsp fun b s' H' I' q => ⟨b, rfl, ⟨.bl (!b), H', I', rfl, q⟩⟩
/-- x in o, o of an own class -/
theorem op_inO (hs : PySem.W.findIn X.K (.ref C) "__contains__" = some (some (.ref f))) (hf : PySem.W.isFn X.K (.ref f) = true) (F : FnOk X.prog X.w X.K X.mg X.base CX0 k f fd ps sp) (hr : Room k X.A) (hb : Binds X.K fd ps []) :
    OpR X (compareOp .In) (fun x y H Q => ∃ pa dx fs, y = .ref pa ∧ H pa = some (.ins C dx fs) ∧ sp [y, x] H (bk fun b H1 => Q (.bl b) H1) E0) := by
  intro pins s σ H x y u v Q I rx ry h
  obtain ⟨pa, dx, fs, rfl, ha, hsp⟩ := h
  cases ry
  obtain ⟨mA, J, _⟩ := ins_get I.hok ha
  obtain ⟨od, J, _⟩ := J.look
  obtain ⟨m, hF⟩ := I.fr
  exact PySem.W.in_K hF I.ok.mod.kin J hs hf (run_bool (Q := fun b H1 => Q (.bl b) H1) I rfl F hr hb (.cons (show RelV (.ref pa) (.ref pa) from rfl) (.cons rx .nil)) hsp fun b s' H' I' q => wpAny_truthy_bool ⟨.bl b, H', I', rfl, q⟩)
/-- len(o) -/
theorem call_lenO (hs : PySem.W.findIn X.K (.ref C) "__len__" = some (some (.ref f))) (hf : PySem.W.isFn X.K (.ref f) = true) (F : FnOk X.prog X.w X.K X.mg X.base CX0 k f fd ps sp) (hr : Room (k + 1) X.A) (hb : Binds X.K fd ps []) :
    CallR X (.builtin "len") (fun xs H Q => ∃ pa dx fs, xs = [.ref pa] ∧ H pa = some (.ins C dx fs) ∧ sp xs H (fun v H1 => ∃ n : Nat, v = .int n ∧ n < 2 ^ 62 ∧ Q (.int n) H1) E0) := by
  intro pins s σ H xs us Q I r h
  obtain ⟨pa, dx, fs, rfl, ha, hsp⟩ := h
  obtain ⟨u, rfl, rx⟩ := vals1 r
  cases rx
  obtain ⟨mA, J, _⟩ := ins_get I.hok ha
  obtain ⟨od, J, _⟩ := J.look
  obtain ⟨m, hF⟩ := I.fr
  refine PySem.W.len_K hF I.ok.mod.kin J hs hf ?_
  have hz : [Value.ref pa].length = ps.length := F.len _ _ _ _ hsp
  have hb' := hb s [.ref pa] I.kIn (by rw [List.append_nil]; exact hz)
  rw [List.append_nil] at hb'
  have e := I.env0.in1
  refine wpAny_call (codeAny_mono (F.run X.A.in1 X.stack s H ⟨[.ref pa], []⟩ [.ref pa] [.ref pa] _ E0 hr.in1 e hb' (.cons rfl .nil) hsp) fun r' s' hq => ?_)
  cases r' with
  | error e => exact hq.elim
  | ok fl =>
    cases fl with
    | ret u =>
      obtain ⟨z, H1, I1, rz, n, ez, hn, q1⟩ := I.after hq
      subst ez
      obtain ⟨t, rfl⟩ := rz
      exact ⟨⟨by omega, by omega⟩, ⟨.int n, H1, I1.tok _, ⟨_, rfl⟩, q1⟩⟩
    | next => exact hq.elim
    | brk => exact hq.elim
    | cont => exact hq.elim
/-- o.p, a property -/
theorem re_prop {dx pa pp : Addr} {fs : List (Str × V)} {m : Str} {Q : VK} (ho : XV X σ H o (.ref pa)) (h1 : H pa = some (.ins C dx fs)) (hc : Cls X.K C) (hp : PropOf X.K C m pp f) (F : FnOk X.prog X.w X.K X.mg X.base CX0 k f fd ps sp) (hr : Room (k + 1) X.A) (hb : Binds X.K fd ps []) (ha : ∀ H1, Same H H1 → sp [.ref pa] H1 Q E0)
    (hab : attributeBase o m X.env (eval o X.env) = eval o X.env := by rfl) : RE X (.Attribute o m pos) σ H Q :=
  ⟨_, pe_prop re_ hc hp F hr hb .nil pass0 hab, ho H (Same.refl H) _ fun H1 s1 => ⟨pa, dx, fs, rfl, s1 _ _ h1, ha H1 s1⟩⟩
/-- C(e, ..) -/
theorem re_make {Q : VK} {dvs : List V} {dl : List Value} (Mm : Mk X.K C f) (F : FnOk X.prog X.w X.K X.mg X.base CX0 k f fd ps sp) (hr : Room (k + 1) X.A) (hm : X.mg x = some (.ref C)) (hb : Binds X.K fd ps dl) (hd : Vals dvs dl)
    (ha : RA X (e :: es) σ H fun vs H1 => ∀ y dx, H1 y = none → H1 dx = none → dx ≠ y → sp (.ref y :: (vs ++ dvs)) (upd (upd H1 dx (.own y)) y (.ins C dx [])) (fun v H2 => v = .non ∧ Q (.ref y) H2) E0) (hg : Gl X x := by rfl)
    (hdb : (x == ("__debug__" : Str)) = false := by decide) (he : starEach (e :: es) X.env = (false, eval e X.env) :: starEach es X.env := by rfl) (hpl : (backTo pos (starEach es X.env)).any (·.1) = false := by rfl) : RE X (.Call (.Name x p1) (e :: es) [] pos) σ H Q :=
  ⟨_, pe_make Mm F hr hg hm hb hd pass0 ra_ hdb he hpl, ha⟩
/-- o.f = e -/
theorem rb_fld {m : Str} {dx pa : Addr} {fs : List (Str × V)} {ap : Pos} (he : RE X e σ H fun v H1 => H1 pa = some (.ins C dx fs) ∧ fs.length < 1000 ∧ XV X σ H1 o (.ref pa) ∧ ∀ H2, Same H1 H2 → RB X rest D σ (upd H2 pa (.ins C dx (putF m v fs)))) (hc : Cls X.K C) (hn : NoAttr X.K C m) (hs : swapsWith e (some (.Attribute o m ap)) pos.line X.env = pure false := by rfl) :
    RB X (.Assign [.Attribute o m ap] e pos :: rest) D σ H :=
  ⟨_, pss_cons (ps_fld re_ re_ hs) rb_, re_mono he fun v H1 ⟨h1, hl, ho, q⟩ => ho H1 (Same.refl _) _ fun H2 s2 => ⟨pa, C, dx, fs, rfl, s2 _ _ h1, hc, hn, hl, q H2 s2⟩⟩
end
end Dl

set_option Elab.async false
set_option linter.all false
set_option maxRecDepth 100000
set_option maxHeartbeats 4000000
/-! Data layer, part 6: sets of whole numbers by a comprehension, sorted; repr of one value; sums; dicts by texts. -/
namespace Dl
open PySem PySem.Spec PyProof.Rows L2
section
variable {X : Cx}
/-- {e for t in it if ..}, e a whole number; p: the set -/
def tSetI (w : World) (wi : TI) (g : TG) (tt : TT) (te : TE) (vs : List Nat) : TE := fun σ H Q => wi σ H fun J Ha => ∀ p, Ha p = none → ∃ Z : Nat → Nat → Hp → Prop,
  (∃ k, Z 0 k (upd Ha p (SetO w p (fun _ => false) 0))) ∧ ∀ i k Hb, Z i k Hb → (J.stop i Hb ∧ Q (.ref p) Hb) ∨ (J.go i Hb ∧ ∃ Nx : Hp → Prop, (∀ Hc, Nx Hc → ∃ j, j < k ∧ Z (i + 1) j Hc) ∧
    ∀ x Hc, J.yld i Hb x Hc → g x (wipe σ vs) Hc fun τ Hd => wipe τ vs = wipe σ vs ∧ tt τ Hd fun b He =>
      if b = true then te τ He fun y Hf => ∃ (n : Int) (S : Int → Bool) (c : Nat), y = .int n ∧ Hf p = some (SetO w p S c) ∧ c + 1 < scanBound ∧ Nx (upd Hf p (SetO w p (fun j => S j || decide (j = n)) (if S n = true then c else c + 1))) else Nx He)
theorem setI_run {ps : List (Addr × Obj)} {z : Shared} {σ : L2.St} {H : Hp} {Q : VK} {elt tg iter : Expr} {ifs : List Expr} {scope : Scope} {own : List (PySem.Str × Nat)} {pos pf : Pos} {wi : TI} {g : TG} {tt : TT} {te : TE} {Qf : Value → Shared → Prop}
    (hc : X.calm = true) (hN : X.N.Nodup) (inv : Inv X ps σ H z) (hi : PI X tg iter wi) (ok : BlkOk X.N X.env.scope scope own)
    (Pg : ∀ (y : Shared) (Hy : Hp) (c : Addr) (l : List (PySem.Str × Addr)) (q : List Addr), PG (X.blk y Hy scope (compEnvC scope l c X.env) q) tg g)
    (Pt : ∀ (y : Shared) (Hy : Hp) (c : Addr) (l : List (PySem.Str × Addr)) (q : List Addr), PTs (X.blk y Hy scope (compEnvC scope l c X.env) q) ifs tt)
    (Pe : ∀ (y : Shared) (Hy : Hp) (c : Addr) (l : List (PySem.Str × Addr)) (q : List Addr), PE (X.blk y Hy scope (compEnvC scope l c X.env) q) elt te)
    (hs : ∀ x, foldedSetIterable iter X.env x = pure x) (owed : tSetI X.w wi g tt te (own.map (·.2)) σ H Q)
    (back : ∀ p c y m Hy, Inv X ps σ Hy y → Q (.ref p) Hy → y.heap.Ns c m → FpOk X ps Hy c → compPost (model X.prog X.w) X.A X.xe none Qf (.ref p) c (.ok .next) y) :
    wpAny (model X.prog X.w) X.A (comprehension (.SetComp elt [⟨tg, iter, ifs, 0⟩] scope pos) scope X.env pf (newSet (.type "set")) false (eval iter X.env) none) Qf X.xe z := by
  have cells : ∀ y ∈ scope.names, y.2 = .free → ∃ c, X.env.cells.lookup y.1 = some c := fun y hy e => (ok.free y hy e).elim (fun k => inv.ok.has _ (.inl k)) (fun k => inv.ok.has _ (.inr k))
  have names : ∀ y ∈ scope.names, y.2 = .local → scope.names.lookup y.1 = some .local := fun y hy e => by
    have u := ok.uniq y hy
    rw [e] at u
    exact u
  refine wpAny_comprehension_free (use := none) rfl hs (closure_ok cells) ok.kind names (thn (hi.run ps z σ H _ inv owed) fun _ za ha => thn ha fun _ zb hb => ?_)
  obtain ⟨it, fp, tn, J, Hb, rfl, invB, T, t0, fB, body⟩ := hb
  refine PpSet.newSet_ok (newEnv_comp ?_)
  generalize hp : zb.heap.objs.size = p
  have free : Hb p = none := invB.hok.fresh (Nat.le_of_eq hp)
  obtain ⟨Z, ⟨k0, start⟩, turn⟩ := body p free
  generalize hcz : ({ zb with heap := zb.heap.push { cls := .type "set", dict := none, data := .set #[] 0 (.fresh 0 0 (!X.w.params.followText "set-order")) } } : Shared) = zc
  have eqz : zc.heap = zb.heap.push { cls := .type "set", dict := none, data := .set #[] 0 (.fresh 0 0 (!X.w.params.followText "set-order")) } := by rw [← hcz]
  generalize hHc : upd Hb p (SetO X.w p (fun _ => false) 0) = Hc at start
  have invC : Inv X ps σ Hc zc := by
    subst hHc
    subst hcz
    refine invB.laid (t' := zb.toks) (fun _ _ e => Heap.get?_push_of_some _ e) (Nat.le_of_eq hp) ?_
    subst hp
    exact setO_new (setR_fresh X.w)
  have inB : ∀ b ∈ fp, b < zb.heap.objs.size := fun b hb => let ⟨_, e, _⟩ := T.obj _ _ t0 b hb; Heap.lt_size e
  have fC : ∀ b ∈ fp, FpOk X ps Hc b ∧ b < zc.heap.objs.size := fun b hb => by
    have lt := inB b hb
    have ne : b ≠ p := by rw [← hp]; exact Nat.ne_of_lt lt
    have e : Hc b = none := by rw [← hHc, upd_ne ne]; exact (fB b hb).1
    exact ⟨⟨e, (fB b hb).2⟩, by rw [eqz, Heap.size_push]; exact Nat.lt_succ_of_lt lt⟩
  have t1 : tn 0 zc.heap := T.keep _ _ _ t0 fun _ _ _ e => by rw [eqz]; exact Heap.get?_push_of_some _ e
  have invD := block_start invC ok hN fC
  have rg := Pg zc Hc zc.heap.objs.size (cellsFrom (zc.heap.objs.size + 1) scope.names (cloFrom X.env.cells scope.names [])) fp
  have rt := Pt zc Hc zc.heap.objs.size (cellsFrom (zc.heap.objs.size + 1) scope.names (cloFrom X.env.cells scope.names [])) fp
  have re := Pe zc Hc zc.heap.objs.size (cellsFrom (zc.heap.objs.size + 1) scope.names (cloFrom X.env.cells scope.names [])) fp
  show codeAny _ _ (.compStart (.SetComp elt [⟨tg, iter, ifs, 0⟩] scope pos) 0 (.ref it) (.ref p) (compEnvC scope (cellsFrom (zc.heap.objs.size + 1) scope.names (cloFrom X.env.cells scope.names [])) zc.heap.objs.size X.env))
    (compPost (model X.prog X.w) X.A X.xe none Qf (.ref p) zc.heap.objs.size) { zc with heap := pushCells (zc.heap.push { cls := .type "dict", data := .dict #[] }) scope.names }
  have none0 : ∀ b ∈ fp, Hc b = none := fun b hb => (fC b hb).1.1
  generalize hen : compEnvC scope (cellsFrom (zc.heap.objs.size + 1) scope.names (cloFrom X.env.cells scope.names [])) zc.heap.objs.size X.env = en at invD rg rt re ⊢
  have enl : en.locals = zc.heap.objs.size := by subst hen; rfl
  generalize hzd : ({ zc with heap := pushCells (zc.heap.push { cls := .type "dict", data := .dict #[] }) scope.names } : Shared) = zd at invD ⊢
  have t2 : tn 0 zd.heap := T.keep _ _ _ t1 fun _ _ _ e => by rw [← hzd]; exact pushCells_keeps _ _ _ _ (Heap.get?_push_of_some _ e)
  have still : ∀ {τ : L2.St} {Hx : Hp} {zx : Shared}, Inv (X.blk zc Hc scope en fp) [] τ Hx zx → (∀ b ∈ fp, Hx b = none) → ∀ b ∈ fp, FpOk (X.blk zc Hc scope en fp) [] Hx b := fun i n b hb =>
    ⟨n b hb, (i.ok.exf b hb).1, i.ok.exfs b hb, .inl hb, fun x c e => (i.ok.exf b hb).2 x c e, fun q hq => by
      have hq : q ∈ ([] : List (Addr × Obj)) ++ [] := hq
      simp at hq⟩
  have laps : codeAny (model X.prog X.w) X.A (.compLoop (.SetComp elt [⟨tg, iter, ifs, 0⟩] scope pos) 0 (.ref it) (.ref p) en) (compPost (model X.prog X.w) X.A X.xe none Qf (.ref p) zc.heap.objs.size) zd := by
    refine PpSet.compLoopS_any (fun k zx => ∃ i Hx, Inv (X.blk zc Hc scope en fp) [] (wipe σ (own.map (·.2))) Hx zx ∧ tn i zx.heap ∧ (∀ b ∈ fp, Hx b = none) ∧ Z i k Hx) (fun k zx hx => ?_) k0 ⟨0, Hc, invD, t2, none0, start⟩
    obtain ⟨i, Hx, ix, tx, nx, zk⟩ := hx
    rcases turn i k Hx zk with ⟨st, done⟩ | ⟨go, Nx, toN, step⟩
    · refine thnF (T.done (X.blk zc Hc scope en fp) rfl rfl rfl hc i [] zx _ Hx (fun _ _ => False) ix (still ix nx) tx st) fun r zy hy => ?_
      obtain ⟨rfl, iy⟩ := hy
      have iz : Inv X ps σ Hx zy := invC.call' (ch := fp) iy.os iy.base iy.hok iy.bare fun b hb => ⟨(fC b hb).1.2.2.2.1, (fC b hb).1.2.1, (fC b hb).1.2.2.2.2.1, (fC b hb).1.2.2.2.2.2⟩
      have nC : Hx zc.heap.objs.size = none := by
        have q : Hx en.locals = none := iy.free
        rwa [enl] at q
      obtain ⟨m, hm, _⟩ := iy.loc
      have hm : zy.heap.Ns en.locals m := hm
      rw [enl] at hm
      exact back p _ zy m Hx iz done hm (invC.fpOk (Nat.le_refl _) nC)
    · refine thnF (T.item (X.blk zc Hc scope en fp) rfl rfl rfl hc i [] zx _ Hx (fun _ _ => False) ix (still ix nx) tx go) fun r zy hy => ?_
      obtain ⟨u, rfl, hy⟩ := hy
      refine thnF hy fun _ zz hz => ?_
      obtain ⟨x, Hz, iz, rz, yz, tz, nz⟩ := hz
      refine thnF (rg.run _ zz _ Hz x u _ (iz.pinned (still iz nz) (T.obj _ _ tz)) rz (step x Hz yz)) fun _ z1 h1 => ?_
      obtain ⟨τ, H1, i1, w1, q1⟩ := h1
      refine thnF (rt.run _ z1 τ H1 _ i1 q1) fun b z2 h2 => ?_
      obtain ⟨H2, i2, q2⟩ := h2
      have fin : ∀ {zf : Shared} {Hf : Hp}, Inv (X.blk zc Hc scope en fp) ([] ++ pinsAt fp zz.heap) τ Hf zf → Nx Hf → ∃ j, j < k ∧ ∃ i Hx, Inv (X.blk zc Hc scope en fp) [] (wipe σ (own.map (·.2))) Hx zf ∧ tn i zf.heap ∧ (∀ b ∈ fp, Hx b = none) ∧ Z i j Hx := fun {zf Hf} i' n' => by
        obtain ⟨j, hj, zj⟩ := toN Hf n'
        have kept : ∀ b ∈ fp, ∀ o, zz.heap.get? b = some o → zf.heap.get? b = some o ∧ Hf b = none := fun b hb o e => by
          have q := i'.pin (b, o) (List.mem_append_right _ (List.mem_append_right _ (mem_pinsAt hb e)))
          exact ⟨q.1, q.2.1⟩
        have len : (wipe σ (own.map (·.2))).length = τ.length := by rw [← w1, wipe_length]
        refine ⟨j, hj, i + 1, Hf, (i'.unpinned (pins := [])).weak len (fun a v e => by rw [← w1] at e; exact (wipe_some e).1), T.keep _ _ _ tz fun b hb o e => (kept b hb o e).1, fun b hb => ?_, zj⟩
        obtain ⟨o, e, _⟩ := T.obj _ _ tz b hb
        exact (kept b hb o e).2
      cases b with
      | false =>
        rw [if_neg Bool.false_ne_true] at q2 ⊢
        exact fin i2 q2
      | true =>
        rw [if_pos rfl] at q2 ⊢
        refine thnF (re.run _ z2 τ H2 _ i2 q2) fun v z3 h3 => ?_
        obtain ⟨yv, H3, i3, r3, n, S, c, rfl, hD, room, nx3⟩ := h3
        have hv : ∃ t, v = Value.int n t := r3
        obtain ⟨t, rfl⟩ := hv
        exact setR_add (setO_get (X := X.blk zc Hc scope en fp) i3 hD) room fun h' sb new => by
          have ex : ∃ o, h'.get? p = some o := let ⟨o, _, _, _, ho, _⟩ := new; ⟨o, ho⟩
          exact fin (i3.write (e := p) (t' := z3.toks + 1) (by rw [hD]; trivial) (.inl rfl) (fun b o hb ho => (sb.2 b hb).trans ho) ex (setO_new new)) nx3
  exact PpSet.codeAny_compStart_set laps (T.self X.A 0 _ _ _ t2 laps)
theorem pe_setI {elt tg iter : Expr} {ifs : List Expr} {scope : Scope} {own : List (PySem.Str × Nat)} {pos : Pos} {wi : TI} {g : TG} {tt : TT} {te : TE} (hc : X.calm = true) (hN : X.N.Nodup) (hi : PI X tg iter wi) (ok : BlkOk X.N X.env.scope scope own)
    (Pg : ∀ (y : Shared) (Hy : Hp) (c : Addr) (l : List (PySem.Str × Addr)) (q : List Addr), PG (X.blk y Hy scope (compEnvC scope l c X.env) q) tg g)
    (Pt : ∀ (y : Shared) (Hy : Hp) (c : Addr) (l : List (PySem.Str × Addr)) (q : List Addr), PTs (X.blk y Hy scope (compEnvC scope l c X.env) q) ifs tt)
    (Pe : ∀ (y : Shared) (Hy : Hp) (c : Addr) (l : List (PySem.Str × Addr)) (q : List Addr), PE (X.blk y Hy scope (compEnvC scope l c X.env) q) elt te)
    (hs : ∀ x, foldedSetIterable iter X.env x = pure x) : PE X (.SetComp elt [⟨tg, iter, ifs, 0⟩] scope pos) (tSetI X.w wi g tt te (own.map (·.2))) := by
  refine ⟨fun ps z σ H Q inv h => ?_⟩
  rw [PpSet.eval_SetComp]
  refine setI_run hc hN inv hi ok Pg Pt Pe hs h fun p c y m Hy iy q hm fp => ?_
  obtain ⟨a0, a1, a2, a3, a4, a5⟩ := fp
  exact ⟨m, hm, fun _ sb => ⟨.ref p, Hy, iy.turned (t' := y.toks) (fun b o hb e => (sb.2 b hb).trans e) a0 a1 a3 a4 a5, rfl, q⟩⟩
end
end Dl

set_option Elab.async false
set_option linter.all false
set_option maxRecDepth 100000
set_option maxHeartbeats 4000000
/-! Data layer, part 7: sorted({..}), sorted, sum, repr of one value, a chain of comparisons, {..}.get(..), comprehensions over range. -/
namespace Dl
open PySem PySem.Spec PyProof.Rows L2
/-- two strictly ascending lists with the same members -/
theorem asc_eq : ∀ {xs ys : List Int}, xs.Pairwise (· < ·) → ys.Pairwise (· < ·) → (∀ k, k ∈ xs ↔ k ∈ ys) → xs = ys
  | [], [], _, _, _ => rfl
  | [], y :: ys, _, _, h => by have := (h y).mpr (List.mem_cons_self ..); simp at this
  | x :: xs, [], _, _, h => by have := (h x).mp (List.mem_cons_self ..); simp at this
  | x :: xs, y :: ys, hx, hy, h => by
    obtain ⟨hx1, hx2⟩ := List.pairwise_cons.mp hx
    obtain ⟨hy1, hy2⟩ := List.pairwise_cons.mp hy
    have e : x = y := by
      have a := (h x).mp (List.mem_cons_self ..)
      have b := (h y).mpr (List.mem_cons_self ..)
      rcases List.mem_cons.mp a with a | a
      · exact a
      · rcases List.mem_cons.mp b with b | b
        · exact b.symm
        · have := hx1 y b; have := hy1 x a; omega
    subst e
    rw [asc_eq hx2 hy2 fun k => ?_]
    constructor
    · intro q
      rcases List.mem_cons.mp ((h k).mp (List.mem_cons_of_mem _ q)) with z | z
      · have := hx1 k q; omega
      · exact z
    · intro q
      rcases List.mem_cons.mp ((h k).mpr (List.mem_cons_of_mem _ q)) with z | z
      · have := hy1 k q; omega
      · exact z
theorem asc_of_le : ∀ {xs : List Int}, xs.Pairwise (· ≤ ·) → xs.Nodup → xs.Pairwise (· < ·)
  | [], _, _ => .nil
  | x :: xs, h, n => by
    obtain ⟨h1, h2⟩ := List.pairwise_cons.mp h
    obtain ⟨n1, n2⟩ := List.nodup_cons.mp n
    refine List.pairwise_cons.mpr ⟨fun y hy => ?_, asc_of_le h2 n2⟩
    have := h1 y hy
    have : x ≠ y := fun z => n1 (z ▸ hy)
    omega
theorem ints_dq {K : PySem.W.Frag} {H : Hp} : ∀ ns : List Int, DqAll K H (ns.map V.int) (ns.map PyData.int)
  | [] => .nil
  | n :: ns => .cons (.int n) (ints_dq ns)
theorem ints_v {K : PySem.W.Frag} {H : Hp} : ∀ {ns : List Int} {xs : List V}, DqAll K H xs (ns.map PyData.int) → xs = ns.map V.int
  | [], _, h => by cases h; rfl
  | n :: ns, _, h => by
    cases h with
    | cons a b => rw [dp_int a, ints_v b]; rfl
section
variable {X : Cx} {M : List Addr} {σ : L2.St} {H H' : Hp} {e a b c o elt tg iter : Expr} {ifs : List Expr} {scope : Scope} {own : List (Str × Nat)} {es : List Expr} {d d1 d2 : PyData} {ds ds2 : List PyData} {x : Str} {v : V} {pos p1 p2 p3 : Pos}
theorem set_list {w : World} {K : PySem.W.Frag} {a : Addr} {xs : List V} {g : TG} {tt : TT} {te : TE} {vs : List Nat} {Ha : Hp} {p : Addr} {Qd : Hp → Prop} (Pv : Nat → Hp → Prop) (h0 : Pv 0 (upd Ha p (SetO w p (fun _ => false) 0)))
    (hl : ∀ i Hb, i ≤ xs.length → Pv i Hb → SqL K Hb a xs)
    (hs : ∀ i x Hc, xs[i]? = some x → Pv i Hc → g x (wipe σ vs) Hc fun τ Hd => wipe τ vs = wipe σ vs ∧ tt τ Hd fun b He =>
      if b = true then te τ He fun y Hf => ∃ (n : Int) (S : Int → Bool) (c : Nat), y = .int n ∧ Hf p = some (SetO w p S c) ∧ c + 1 < scanBound ∧ Pv (i + 1) (upd Hf p (SetO w p (fun j => S j || decide (j = n)) (if S n = true then c else c + 1))) else Pv (i + 1) He)
    (hd : ∀ Hb, Pv xs.length Hb → Qd Hb) :
    ∃ Z : Nat → Nat → Hp → Prop, (∃ k, Z 0 k (upd Ha p (SetO w p (fun _ => false) 0))) ∧ ∀ i k Hb, Z i k Hb → ((Itl K a).stop i Hb ∧ Qd Hb) ∨ ((Itl K a).go i Hb ∧ ∃ Nx : Hp → Prop, (∀ Hc, Nx Hc → ∃ j, j < k ∧ Z (i + 1) j Hc) ∧
      ∀ x Hc, (Itl K a).yld i Hb x Hc → g x (wipe σ vs) Hc fun τ Hd => wipe τ vs = wipe σ vs ∧ tt τ Hd fun b He =>
        if b = true then te τ He fun y Hf => ∃ (n : Int) (S : Int → Bool) (c : Nat), y = .int n ∧ Hf p = some (SetO w p S c) ∧ c + 1 < scanBound ∧ Nx (upd Hf p (SetO w p (fun j => S j || decide (j = n)) (if S n = true then c else c + 1))) else Nx He) := by
  refine ⟨fun i k Hb => k + i = xs.length ∧ Pv i Hb, ⟨xs.length, rfl, h0⟩, fun i k Hb hz => ?_⟩
  obtain ⟨hk, hp⟩ := hz
  have here := hl i Hb (by omega) hp
  cases e : xs[i]? with
  | none =>
    have hge : xs.length ≤ i := List.getElem?_eq_none_iff.mp e
    have ei : i = xs.length := by omega
    subst ei
    exact .inl ⟨⟨xs, here, hge⟩, hd Hb hp⟩
  | some x0 =>
    have hlt := (List.getElem?_eq_some_iff.mp e).1
    refine .inr ⟨⟨xs, x0, here, e⟩, Pv (i + 1), fun Hc hc => ⟨k - 1, by omega, by omega, hc⟩, fun x Hc hy => ?_⟩
    obtain ⟨rfl, hy⟩ := hy
    exact hs i x _ (hy xs here) hp
/-- sorted({elt for tg in iter if ..}) -/
theorem xl_sortedSet (f : PyData → Option Int) (ns : List Int) (hm : X.mg "sorted" = none) (L : Live M H) (hN : X.N.Nodup) (hit : XD X M σ H iter (.list ds)) (ok : BlkOk X.N X.env.scope scope own) (hz : ds.length ≤ 60)
    (hst : ∀ p d v H1, d ∈ ds → H p = none → Same H H1 → Live (p :: M) H1 → Dq X.K (hid (p :: M) H1) v d → BG X scope tg v (wipe σ (own.map (·.2))) H1 fun τ H2 => wipe τ (own.map (·.2)) = wipe σ (own.map (·.2)) ∧ BT X scope ifs τ H2 fun k H3 =>
      Same H1 H3 ∧ ((k = true ∧ ∃ n, f d = some n ∧ BE X scope elt τ H3 fun y H4 => Same H3 H4 ∧ y = .int n) ∨ (k = false ∧ f d = none)))
    (hasc : ns.Pairwise (· < ·)) (hmem : ∀ k, k ∈ ns ↔ ∃ d ∈ ds, f d = some k) (hc : X.calm = true := by rfl) (hs : ∀ x, foldedSetIterable iter X.env x = pure x := by intro _; rfl) (hg : Gl X "sorted" := by rfl)
    (he : starEach [.SetComp elt [⟨tg, iter, ifs, 0⟩] scope pos] X.env = (false, eval (.SetComp elt [⟨tg, iter, ifs, 0⟩] scope pos) X.env) :: starEach [] X.env := by rfl) (hpl : (backTo p2 (starEach [] X.env)).any (·.1) = false := by rfl) :
    XL X M σ H (.Call (.Name "sorted" p1) [.SetComp elt [⟨tg, iter, ifs, 0⟩] scope pos] [] p2) (ns.map PyData.int) := fun H1 s1 Q q => by
  refine re_B (cr_sortedSet hc) (ra_1 ⟨_, pe_setI (own := own) hc hN (pi_list re_) ok (fun _ _ _ _ _ => bg_) (fun _ _ _ _ _ => bt_) (fun _ _ _ _ _ => be_) hs, hit H1 s1 _ fun v H2 s2 hv => ?_⟩ he) hm (by decide +kernel) hg (by decide) (by decide) he hpl
  obtain ⟨a, xs, rfl, ha, hx⟩ := dp_lst hv
  have L2' : Live M H2 := L.mono (s1.trans s2)
  refine ⟨a, rfl, ⟨xs, SqL.of (hid_le _ _ ha)⟩, fun p hp => ?_⟩
  have hp0 : H p = none := (s1.trans s2).free hp
  refine set_list (xs := xs) (a := a) (fun i H' => Same H2 H' ∧ ∃ S c, H' p = some (SetO X.w p S c) ∧ c ≤ i ∧ ∀ k, S k = true ↔ ∃ d ∈ ds.take i, f d = some k)
    ⟨same_new hp, fun _ => false, 0, upd_same, Nat.le_refl _, fun k => by simp⟩ (fun i H' _ z => SqL.of (z.1 _ _ (hid_le _ _ ha))) (fun i x H' hi z => ?_) (fun H' z => ?_)
  · obtain ⟨sH, S, n, hS, hn, hk⟩ := z
    obtain ⟨d, hd1, hd2⟩ := dpa_get' hx hi
    have hdm : d ∈ ds := List.mem_of_getElem? hd1
    have hi60 : i < 60 := by have := (List.getElem?_eq_some_iff.mp hd1).1; omega
    have etake : ds.take (i + 1) = ds.take i ++ [d] := by rw [List.take_add_one, hd1]; rfl
    have Lp : Live (p :: M) H' := fun b hb => by
      rcases List.mem_cons.mp hb with z | hb
      · subst z; rw [hS]; simp
      · exact L2'.mono sH b hb
    refine bg_mono (hst p d x H' hdm hp0 ((s1.trans s2).trans sH) Lp (hd2.up (hid_step hp sH))) fun τ Ha ⟨hw, hbt⟩ => ⟨hw, bt_mono hbt fun k Hb ⟨sb, hk'⟩ => ?_⟩
    rcases hk' with ⟨hk1, m, hf, hbe⟩ | ⟨hk1, hf⟩
    · subst hk1
      refine iteT (be_mono hbe fun y Hc ⟨sc, hy⟩ => ?_)
      have sd := sb.trans sc
      refine ⟨m, S, n, hy, sd _ _ hS, Nat.lt_of_lt_of_le (by omega : n + 1 < 4096) (Nat.le_refl _), fun b o e => ?_, fun j => S j || decide (j = m), (if S m = true then n else n + 1), upd_same, by split <;> omega, fun j => ?_⟩
      · rw [upd_ne (ne_of_none e hp)]
        exact sd _ _ (sH _ _ e)
      · rw [Bool.or_eq_true, decide_eq_true_eq, hk j, etake]
        constructor
        · rintro (⟨d', h1, h2⟩ | h)
          · exact ⟨d', List.mem_append_left _ h1, h2⟩
          · exact ⟨d, List.mem_append_right _ (List.mem_singleton.mpr rfl), by rw [hf, h]⟩
        · rintro ⟨d', h1, h2⟩
          rcases List.mem_append.mp h1 with h1 | h1
          · exact .inl ⟨d', h1, h2⟩
          · rw [List.mem_singleton.mp h1, hf] at h2
            exact .inr (Option.some.inj h2).symm
    · subst hk1
      refine iteF ⟨sH.trans sb, S, n, sb _ _ hS, by omega, fun j => ?_⟩
      rw [hk j, etake]
      constructor
      · rintro ⟨d', h1, h2⟩
        exact ⟨d', List.mem_append_left _ h1, h2⟩
      · rintro ⟨d', h1, h2⟩
        rcases List.mem_append.mp h1 with h1 | h1
        · exact ⟨d', h1, h2⟩
        · rw [List.mem_singleton.mp h1, hf] at h2
          cases h2
  · obtain ⟨sH, S, n, hS, hn, hk⟩ := z
    have hlen := dpa_len hx
    rw [hlen, List.take_length] at hk
    refine ⟨p, S, n, rfl, hS, by omega, fun ks l h1 h2 _ hl => ?_⟩
    have e : ks = ns := asc_eq h1 hasc fun k => (h2 k).trans ((hk k).trans (hmem k).symm)
    subst e
    refine q l _ _ ((s2.trans sH).trans (same_new hl)) ((s2.trans sH).free hl) upd_same ?_
    rw [hid_new (L2'.mono sH) hl]
    exact ints_dq ks
/-- sorted(l), l a list of different whole numbers -/
theorem xl_sortedI {ms : List Int} (ns : List Int) (hm : X.mg "sorted" = none) (L : Live M H) (ha : XD X M σ H e (.list (ms.map PyData.int))) (hz : ms.length < 64) (hnd : ms.Nodup) (hasc : ns.Pairwise (· < ·)) (hmem : ∀ k, k ∈ ns ↔ k ∈ ms) (hg : Gl X "sorted" := by rfl)
    (he : starEach [e] X.env = (false, eval e X.env) :: starEach [] X.env := by rfl) (hpl : (backTo p2 (starEach [] X.env)).any (·.1) = false := by rfl) : XL X M σ H (.Call (.Name "sorted" p1) [e] [] p2) (ns.map PyData.int) := fun H1 s1 Q q =>
  re_B cr_sorted (ra_1 (ha H1 s1 _ fun v H2 s2 hv => by
    obtain ⟨a, xs, rfl, ha, hx⟩ := dp_lst hv
    have ex := ints_v hx
    subst ex
    refine ⟨a, ms, rfl, SqL.of (hid_le _ _ ha), hz, fun ks l h1 h2 hl => ?_⟩
    have e : ks = ns := asc_eq (asc_of_le h2 (h1.nodup_iff.mpr hnd)) hasc fun k => h1.mem_iff.trans (hmem k).symm
    subst e
    refine q l _ _ (s2.trans (same_new hl)) (s2.free hl) upd_same ?_
    rw [hid_new (L.mono (s1.trans s2)) hl]
    exact ints_dq ks) he) hm (by decide +kernel) hg (by decide) (by decide) he hpl
/-- sum(l) -/
theorem xd_sum {ns : List Int} (hm : X.mg "sum" = none) (ha : XD X M σ H e (.list (ns.map PyData.int))) (hc : X.calm = true := by rfl) (hg : Gl X "sum" := by rfl)
    (he : starEach [e] X.env = (false, eval e X.env) :: starEach [] X.env := by rfl) (hpl : (backTo p2 (starEach [] X.env)).any (·.1) = false := by rfl) : XD X M σ H (.Call (.Name "sum" p1) [e] [] p2) (.int ns.sum) := fun H1 s1 Q q =>
  re_B (cr_sum hc) (ra_1 (ha H1 s1 _ fun v H2 s2 hv => by
    obtain ⟨a, xs, rfl, ha, hx⟩ := dp_lst hv
    have ex := ints_v hx
    subst ex
    exact ⟨a, ns, rfl, SqL.of (hid_le _ _ ha), q _ H2 s2 (.int _)⟩) he) hm (by decide +kernel) hg (by decide) (by decide) he hpl
/-! ### repr of one value -/
/-- a whole number of few digits, or None -/
def Plain (d : PyData) : Prop := d = .none ∨ ∃ i : Int, d = .int i ∧ i.natAbs.log2 < 1920
def txt : PyData → Str
  | .int i => Str.ofString (toString i)
  | _ => "None"
theorem call_reprN : CallR X (.builtin "repr") (fun xs H Q => xs = [.non] ∧ Q (.str "None") H) := by
  intro pins s σ H xs us Q I r h
  obtain ⟨rfl, q⟩ := h
  obtain ⟨u, rfl, rx⟩ := vals1 r
  cases rx
  exact PySem.P.repr_of_none ⟨.str _, H, I.tok _, ⟨_, rfl⟩, q⟩
theorem xd_reprP (hm : X.mg "repr" = none) (h : Plain d) (ha : XD X M σ H e d) (hg : Gl X "repr" := by rfl)
    (he : starEach [e] X.env = (false, eval e X.env) :: starEach [] X.env := by rfl) (hpl : (backTo p2 (starEach [] X.env)).any (·.1) = false := by rfl) : XD X M σ H (.Call (.Name "repr" p1) [e] [] p2) (.str (txt d)) := fun H1 s1 Q q => by
  rcases h with rfl | ⟨i, rfl, hi⟩
  · exact re_B call_reprN (ra_1 (ha H1 s1 _ fun v H2 s2 hv => ⟨by rw [dp_non hv], q _ H2 s2 (.str _)⟩) he) hm (by decide +kernel) hg (by decide) (by decide) he hpl
  · exact re_B SkE.call_repr_int (ra_1 (ha H1 s1 _ fun v H2 s2 hv => ⟨i, by rw [dp_int hv], hi, q _ H2 s2 (.str _)⟩) he) hm (by decide +kernel) hg (by decide) (by decide) he hpl
theorem xt_reprNeP {pa pb : Pos} (hm : X.mg "repr" = none) (h : Plain d) (ha : XD X M σ H a d) (hb : XD X M σ H b d) (hg : Gl X "repr" := by rfl)
    (he : starEach [a] X.env = (false, eval a X.env) :: starEach [] X.env := by rfl) (hpl : (backTo pa (starEach [] X.env)).any (·.1) = false := by rfl) (he2 : starEach [b] X.env = (false, eval b X.env) :: starEach [] X.env := by rfl) (hpl2 : (backTo pb (starEach [] X.env)).any (·.1) = false := by rfl) :
    XT X σ H (.Compare (.Call (.Name "repr" p1) [a] [] pa) [.NotEq] [.Call (.Name "repr" p2) [b] [] pb] pos) false :=
  xt_cmp op_ne (xd_reprP hm h ha hg he hpl) (xd_reprP hm h hb hg he2 hpl2) fun H1 v w s hv hw Q q => by
    rw [dp_str hv, dp_str hw]
    exact ⟨rfl, by rw [decide_eq_true rfl]; exact q H1 (Same.refl _)⟩
/-! ### l <= x < h -/
theorem xt_chainI {op op' : CmpOp} {g g' : Int → Int → Bool} {l m n : Int} (ho : OpR X (compareOp op) (rI0 fun i j => .bl (g i j))) (ho' : OpR X (compareOp op') (rI0 fun i j => .bl (g' i j))) (ha : XD X M σ H a (.int l)) (hb : XD X M σ H b (.int m)) (hc : XD X M σ H c (.int n))
    (hm : lastMarks [op, op'] [b, c] = false := by with_unfolding_all rfl) : XT X σ H (.Compare a [op, op'] [b, c] pos) (g l m && g' m n) := fun H1 s Q q =>
  ⟨_, pt_chain ho ho' re_ re_ re_ hm, ha H1 s _ fun v H2 s2 hv => hb H2 (s.trans s2) _ fun u H3 s3 hu => ⟨l, m, dp_int hv, dp_int hu, g l m, rfl, by
    cases e : g l m with
    | false =>
      rw [e] at q
      exact iteF ⟨false, rfl, q H3 (s2.trans s3)⟩
    | true =>
      rw [e] at q
      exact iteT (hc H3 ((s.trans s2).trans s3) _ fun y H4 s4 hy => ⟨m, n, dp_int hu, dp_int hy, g' m n, rfl, q H4 ((s2.trans s3).trans s4)⟩)⟩⟩
/-! ### {k1: a, k2: b}.get(c) -/
theorem xd_get2 {k1 k2 k : Str} {i1 i2 : Int} {j1 j2 : _} {q1 q2 : Pos} (hu : X.A.units + 1 < cLine) (ha : XD X M σ H a (.int i1)) (hb : XD X M σ H b (.int i2)) (hk : XD X M σ H c (.str k)) (hne : k1 ≠ k2)
    (mm : M1 X (.Dict [some (.Constant (.str k1) j1 q1), some (.Constant (.str k2) j2 q2)] [a, b] pos) "get" p1 c p2) :
    XD X M σ H (.Call (.Attribute (.Dict [some (.Constant (.str k1) j1 q1), some (.Constant (.str k2) j2 q2)] [a, b] pos) "get" p1) [c] [] p2) (if k = k1 then .int i1 else if k = k2 then .int i2 else .none) := fun H1 s1 Q q =>
  ⟨_, pe_dget1 hu (pe_disp (pps_cons pe_str re_ (pps_cons pe_str re_ pps_nil)) rfl rfl (by simp) (by simp)) re_ mm, fun p hp => ha _ (s1.trans (same_new hp)) _ fun v H2 s2 hv => hb H2 ((s1.trans (same_new hp)).trans s2) _ fun u H3 s3 hu => by
    have s13 : Same H1 H3 := ((same_new hp).trans s2).trans s3
    have h3p : H3 p = some (.dK []) := s3 _ _ (s2 _ _ upd_same)
    refine ⟨h3p, [(.inr k1, .int i1), (.inr k2, .int i2)], by rw [dp_int hv, dp_int hu]; rfl, by simp, p, rfl, .inl ⟨_, .inl upd_same⟩, ?_⟩
    have sx : Same H1 (upd H3 p (.dK (mergeK [] [(.inr k1, .int i1), (.inr k2, .int i2)]))) := fun b o e => by
      rw [upd_ne (ne_of_none e hp)]
      exact s13 b o e
    refine hk _ (s1.trans sx) _ fun y H4 s4 hy => ?_
    rw [dp_str hy]
    have e : mergeK [] [((Sum.inr k1 : L2.Key), V.int i1), (.inr k2, .int i2)] = [(.inr k1, .int i1), (.inr k2, .int i2)] := by
      have n : (Sum.inr k1 : L2.Key) ≠ .inr k2 := fun z => hne (Sum.inr.inj z)
      show putK (putK [] (Sum.inr k1 : L2.Key) (V.int i1)) (.inr k2) (.int i2) = _
      have e1 : putK [] (Sum.inr k1 : L2.Key) (V.int i1) = [(.inr k1, .int i1)] := rfl
      rw [e1]
      unfold putK
      rw [if_neg (by simp [hne])]
      rfl
    rw [e] at s4
    refine ⟨_, DGet.k (k := .inr k) (s4 _ _ upd_same), q _ H4 ?_ ?_⟩
    · rw [e] at sx; exact sx.trans s4
    · by_cases h1 : k = k1
      · subst h1
        rw [valV_pos rfl, if_pos rfl]
        exact .int _
      · rw [valV_neg (fun z => h1 (Sum.inr.inj z).symm), if_neg h1]
        by_cases h2 : k = k2
        · subst h2
          rw [valV_pos rfl, if_pos rfl]
          exact .int _
        · rw [valV_neg (fun z => h2 (Sum.inr.inj z).symm), if_neg h2, valV_nil]
          exact .non⟩
/-! ### [.. for x in range(a, b)], whole numbers -/
theorem xl_range2 {lo hi : Int} (g : Int → Int) (hm : X.mg "range" = none) (L : Live M H) (hN : X.N.Nodup) (ha : XD X M σ H a (.int lo)) (hb : XD X M σ H b (.int hi)) (ok : BlkOk X.N X.env.scope scope own) (hz : (-(1000 : Int) ≤ lo ∧ lo ≤ 1000) ∧ (-(1000 : Int) ≤ hi ∧ hi ≤ 1000))
    (hst : ∀ i H1, Same H H1 → BG X scope tg (.int i) (wipe σ (own.map (·.2))) H1 fun τ H2 => wipe τ (own.map (·.2)) = wipe σ (own.map (·.2)) ∧ Same H1 H2 ∧ BE X scope elt τ H2 fun y H3 => Same H2 H3 ∧ y = .int (g i))
    (hc : X.calm = true := by rfl) (hs : ∀ x, foldedSetIterable (.Call (.Name "range" p1) [a, b] [] p2) X.env x = pure x := by intro _; rfl) (hg : Gl X "range" := by rfl)
    (he : starEach [a, b] X.env = (false, eval a X.env) :: starEach [b] X.env := by rfl) (he2 : starEach [b] X.env = (false, eval b X.env) :: starEach [] X.env := by rfl)
    (he3 : starEach [b] X.env = [(false, eval b X.env)] := by rfl) : XL X M σ H (.ListComp elt [⟨tg, .Call (.Name "range" p1) [a, b] [] p2, [], 0⟩] scope pos) ((List.range (hi - lo).toNat).map fun i : Nat => PyData.int (g (lo + i))) := fun H1 s1 Q q =>
  ⟨_, pe_lc (own := own) hc hN (pi_range2 hg hm ra_ (by rw [he, he3]) he3) ok (fun _ _ _ _ _ => bg_) (fun _ _ _ _ _ => bt_) (fun _ _ _ _ _ => be_) hs, ra_cons (ha H1 s1 _ fun v H2 s2 hv => ra_1 (hb H2 (s1.trans s2) _ fun u H3 s3 hu => by
    have b1 : (1000 : Int) < 2 ^ 62 := by decide
    refine ⟨lo, hi, by rw [dp_int hv, dp_int hu], ⟨by omega, by omega, by omega, by omega⟩, fun p hp => ?_⟩
    have s13 := s2.trans s3
    have L3 := L.mono (s1.trans s13)
    refine lc_range (fun i H' => Same H3 H' ∧ ∃ acc, H' p = some (.lst acc) ∧ acc = ((List.range i).map fun i : Nat => V.int (g (lo + i)))) ⟨same_new hp, [], upd_same, rfl⟩ (fun i H' hi' z => ?_) (fun H' z => ?_)
    · obtain ⟨sH, acc, hacc, ea⟩ := z
      refine bg_mono (hst (lo + i) H' ((s1.trans s13).trans sH)) fun τ Ha ⟨hw, sa, hbe⟩ => ⟨hw, bt_nil (iteT (be_mono hbe fun y Hb ⟨sb, ey⟩ => ?_))⟩
      have sd := sa.trans sb
      refine ⟨acc, sd _ _ hacc, ?_, fun b o e => ?_, _, upd_same, ?_⟩
      · have h4 : 100000 < sizeLine := by decide
        rw [ea, List.length_map, List.length_range]
        omega
      · rw [upd_ne (ne_of_none e hp)]
        exact sd _ _ (sH _ _ e)
      · rw [ea, ey, List.range_succ, List.map_append]
        rfl
    · obtain ⟨sH, acc, hacc, ea⟩ := z
      refine q p acc H' (s13.trans sH) (s13.free hp) hacc ?_
      rw [ea]
      have e := ints_dq (K := X.K) (H := hid M H') ((List.range (hi - lo).toNat).map fun i : Nat => g (lo + i))
      rw [List.map_map, List.map_map] at e
      exact e) he2) he⟩
end
end Dl

set_option Elab.async false
set_option linter.all false
set_option maxRecDepth 100000
set_option maxHeartbeats 4000000
/-! Data layer, part 8: x = [..] on one line. -/
namespace Dl
open PySem PySem.Spec PyProof.Rows L2
section
variable {X : Cx} {M : List Addr} {σ : L2.St} {H H' : Hp} {e a b c o elt tg iter : Expr} {ifs : List Expr} {scope : Scope} {own : List (Str × Nat)} {es : List Expr} {d : PyData} {ds : List PyData} {x : Str} {v : V} {pos p0 p1 p2 p3 p4 : Pos} {D : Ends} {rest : List Stmt}
/-- a comprehension; Pv: what more is known of each item -/
theorem lc_P (f : PyData → Option PyData) (Pv : Addr → V → Hp → Prop) (mono : ∀ p v H1 H2, (∀ b o, b ≠ p → H1 b = some o → H2 b = some o) → Pv p v H1 → Pv p v H2) (L : Live M H) (hN : X.N.Nodup) (hit : XD X M σ H iter (.list ds)) (ok : BlkOk X.N X.env.scope scope own) (hz : ds.length ≤ 100000)
    (hst : ∀ p d v H1, d ∈ ds → H p = none → Same H H1 → Live (p :: M) H1 → Dq X.K (hid (p :: M) H1) v d → BG X scope tg v (wipe σ (own.map (·.2))) H1 fun σ2 H2 => wipe σ2 (own.map (·.2)) = wipe σ (own.map (·.2)) ∧ BT X scope ifs σ2 H2 fun k H3 =>
      Same H1 H3 ∧ ((k = true ∧ ∃ d', f d = some d' ∧ BE X scope elt σ2 H3 fun y H4 => Same H3 H4 ∧ Dq X.K (hid (p :: M) H4) y d' ∧ Pv p y H4) ∨ (k = false ∧ f d = none)))
    {Q : VK} (q : ∀ p xs H2, Same H H2 → H p = none → H2 p = some (.lst xs) → DqAll X.K (hid (p :: M) H2) xs (ds.filterMap f) → (∀ v ∈ xs, Pv p v H2) → Q (.ref p) H2)
    : ∃ wi, PI X tg iter wi ∧ tLc wi (BG X scope tg) (BT X scope ifs) (BE X scope elt) (own.map (·.2)) σ H Q :=
  ⟨_, pi_list re_, hit H (Same.refl H) _ fun v H2 s2 hv => by
    obtain ⟨a, xs, rfl, ha, hx⟩ := dp_lst hv
    have L2' : Live M H2 := L.mono s2
    refine ⟨a, rfl, ⟨xs, SqL.of (hid_le _ _ ha)⟩, fun p hp => ?_⟩
    have hpM : p ∉ M := L2'.fresh hp
    have hp0 : H p = none := s2.free hp
    refine lc_list (xs := xs) (a := a) (fun i H' => Same H2 H' ∧ ∃ acc, H' p = some (.lst acc) ∧ DqAll X.K (hid (p :: M) H') acc ((ds.take i).filterMap f) ∧ ∀ v ∈ acc, Pv p v H') ⟨same_new hp, [], upd_same, by simpa using DqAll.nil, fun v hv => by simp at hv⟩ (fun i H' _ w => SqL.of (w.1 _ _ (hid_le _ _ ha))) (fun i x H' hi w => ?_) (fun H' w => ?_)
    · obtain ⟨sH, acc, hacc, hda, hpv⟩ := w
      obtain ⟨d, hd1, hd2⟩ := dpa_get' hx hi
      have hdm : d ∈ ds := List.mem_of_getElem? hd1
      have etake : ds.take (i + 1) = ds.take i ++ [d] := by
        rw [List.take_add_one, hd1]; rfl
      have hlen : acc.length < sizeLine := by
        rw [dpa_len hda]
        have h1 : ((ds.take i).filterMap f).length ≤ (ds.take i).length := List.length_filterMap_le ..
        have h2 : (ds.take i).length ≤ i := by rw [List.length_take]; omega
        have h3 : i < ds.length := (List.getElem?_eq_some_iff.mp hd1).1
        have h4 : 100000 < sizeLine := by decide
        omega
      have Lp : Live (p :: M) H' := fun b hb => by
        rcases List.mem_cons.mp hb with z | hb
        · subst z; rw [hacc]; simp
        · exact L2'.mono sH b hb
      have kx : Dq X.K (hid (p :: M) H') x d := hd2.up (hid_step hp sH)
      refine bg_mono (hst p d x H' hdm hp0 (s2.trans sH) Lp kx) fun σ2 Ha ⟨hw, hbt⟩ => ⟨hw, bt_mono hbt fun k Hb ⟨sb, hk⟩ => ?_⟩
      have sH' : Same H' Hb := sb
      rcases hk with ⟨hk, d', hf, hbe⟩ | ⟨hk, hf⟩
      · subst hk
        refine iteT (be_mono hbe fun y Hc ⟨sc, hy, hpy⟩ => ?_)
        have sd := sH'.trans sc
        refine ⟨acc, sd _ _ hacc, hlen, fun b o e => ?_, acc ++ [y], upd_same, ?_, fun v hv => ?_⟩
        · have nb : b ≠ p := ne_of_none e hp
          rw [upd_ne nb]
          exact sd _ _ (sH _ _ e)
        · rw [hid_upd_ne, etake, List.filterMap_append]
          have e2 : [d].filterMap f = [d'] := by simp [hf]
          rw [e2]
          exact dpa_app (hda.up (hid_mono sd)) (.cons hy .nil)
        · rcases List.mem_append.mp hv with z | z
          · exact mono p v H' _ (fun b o nb e => by rw [upd_ne nb]; exact sd _ _ e) (hpv v z)
          · rw [List.mem_singleton.mp z]
            exact mono p y Hc _ (fun b o nb e => by rw [upd_ne nb]; exact e) hpy
      · subst hk
        refine iteF ⟨sH.trans sH', acc, sH' _ _ hacc, ?_, fun v hv => mono p v H' _ (fun b o _ e => sH' _ _ e) (hpv v hv)⟩
        rw [etake, List.filterMap_append]
        have e2 : [d].filterMap f = [] := by simp [hf]
        rw [e2, List.append_nil]
        exact hda.up (hid_mono sH')
    · obtain ⟨sH, acc, hacc, hda, hpv⟩ := w
      have e1 : ds.take xs.length = ds := by rw [dpa_len hx]; exact List.take_length
      rw [e1] at hda
      exact q p acc H' (s2.trans sH) hp0 hacc hda hpv⟩
theorem re_compP (f : PyData → Option PyData) (Pv : Addr → V → Hp → Prop) (mono : ∀ p v H1 H2, (∀ b o, b ≠ p → H1 b = some o → H2 b = some o) → Pv p v H1 → Pv p v H2) (L : Live M H) (hN : X.N.Nodup) (hit : XD X M σ H iter (.list ds)) (ok : BlkOk X.N X.env.scope scope own) (hz : ds.length ≤ 100000)
    (hst : ∀ p d v H1, d ∈ ds → H p = none → Same H H1 → Live (p :: M) H1 → Dq X.K (hid (p :: M) H1) v d → BG X scope tg v (wipe σ (own.map (·.2))) H1 fun σ2 H2 => wipe σ2 (own.map (·.2)) = wipe σ (own.map (·.2)) ∧ BT X scope ifs σ2 H2 fun k H3 =>
      Same H1 H3 ∧ ((k = true ∧ ∃ d', f d = some d' ∧ BE X scope elt σ2 H3 fun y H4 => Same H3 H4 ∧ Dq X.K (hid (p :: M) H4) y d' ∧ Pv p y H4) ∨ (k = false ∧ f d = none)))
    {Q : VK} (q : ∀ p xs H2, Same H H2 → H p = none → H2 p = some (.lst xs) → DqAll X.K (hid (p :: M) H2) xs (ds.filterMap f) → (∀ v ∈ xs, Pv p v H2) → Q (.ref p) H2)
    (hc : X.calm = true := by rfl) (hs : ∀ x, foldedSetIterable iter X.env x = pure x := by intro _; rfl) : RE X (.ListComp elt [⟨tg, iter, ifs, 0⟩] scope pos) σ H Q := by
  obtain ⟨wi, h1, h2⟩ := lc_P f Pv mono L hN hit ok hz hst q
  exact ⟨_, pe_lc (own := own) hc hN h1 ok (fun _ _ _ _ _ => bg_) (fun _ _ _ _ _ => bt_) (fun _ _ _ _ _ => be_) hs, h2⟩
/-- x = [..], on one line -/
theorem rb_setC (i : Nat) {py : Pos} {spos : Pos} (f : PyData → Option PyData) (Pv : Addr → V → Hp → Prop) (mono : ∀ p v H1 H2, (∀ b o, b ≠ p → H1 b = some o → H2 b = some o) → Pv p v H1 → Pv p v H2) (L : Live M H) (hN : X.N.Nodup) (hit : XD X M σ H iter (.list ds)) (ok : BlkOk X.N X.env.scope scope own) (hz : ds.length ≤ 100000)
    (hst : ∀ p d v H1, d ∈ ds → H p = none → Same H H1 → Live (p :: M) H1 → Dq X.K (hid (p :: M) H1) v d → BG X scope tg v (wipe σ (own.map (·.2))) H1 fun σ2 H2 => wipe σ2 (own.map (·.2)) = wipe σ (own.map (·.2)) ∧ BT X scope ifs σ2 H2 fun k H3 =>
      Same H1 H3 ∧ ((k = true ∧ ∃ d', f d = some d' ∧ BE X scope elt σ2 H3 fun y H4 => Same H3 H4 ∧ Dq X.K (hid (p :: M) H4) y d' ∧ Pv p y H4) ∨ (k = false ∧ f d = none)))
    (q : ∀ p xs H2, Same H H2 → H p = none → H2 p = some (.lst xs) → DqAll X.K (hid (p :: M) H2) xs (ds.filterMap f) → (∀ v ∈ xs, Pv p v H2) → RB X rest D (σ.set i (some (.ref p))) H2)
    (hi : X.N[i]? = some x := by rfl) (hx : X.env.scope.names.lookup x = some .local := by rfl) (hsw : swapsWith (.ListComp elt [⟨tg, iter, ifs, 0⟩] scope pos) (some (.Name x py)) spos.line X.env = pure true := by exact sw_true rfl rfl rfl rfl)
    (hc : X.calm = true := by rfl) (hs : ∀ x, foldedSetIterable iter X.env x = pure x := by intro _; rfl) : RB X (.Assign [.Name x py] (.ListComp elt [⟨tg, iter, ifs, 0⟩] scope pos) spos :: rest) D σ H := by
  obtain ⟨wi, h1, h2⟩ := lc_P (Q := fun v H1 => RB X rest D (σ.set i (some v)) H1) f Pv mono L hN hit ok hz hst q
  exact ⟨_, pss_cons (ps_setLc (own := own) hc hN hi hx hsw h1 ok (fun _ _ _ _ _ => bg_) (fun _ _ _ _ _ => bt_) (fun _ _ _ _ _ => be_) hs) rb_, h2⟩
/-- x = [..], on one line; nothing more of the items -/
theorem rb_setC0 (i : Nat) {py : Pos} {spos : Pos} (f : PyData → Option PyData) (L : Live M H) (hN : X.N.Nodup) (hit : XD X M σ H iter (.list ds)) (ok : BlkOk X.N X.env.scope scope own) (hz : ds.length ≤ 100000)
    (hst : ∀ p d v H1, d ∈ ds → H p = none → Same H H1 → Live (p :: M) H1 → Dq X.K (hid (p :: M) H1) v d → BG X scope tg v (wipe σ (own.map (·.2))) H1 fun σ2 H2 => wipe σ2 (own.map (·.2)) = wipe σ (own.map (·.2)) ∧ BT X scope ifs σ2 H2 fun k H3 =>
      Same H1 H3 ∧ ((k = true ∧ ∃ d', f d = some d' ∧ BE X scope elt σ2 H3 fun y H4 => Same H3 H4 ∧ Dq X.K (hid (p :: M) H4) y d') ∨ (k = false ∧ f d = none)))
    (q : ∀ p xs H2, Same H H2 → H p = none → H2 p = some (.lst xs) → DqAll X.K (hid M H2) xs (ds.filterMap f) → RB X rest D (σ.set i (some (.ref p))) H2)
    (hi : X.N[i]? = some x := by rfl) (hx : X.env.scope.names.lookup x = some .local := by rfl) (hsw : swapsWith (.ListComp elt [⟨tg, iter, ifs, 0⟩] scope pos) (some (.Name x py)) spos.line X.env = pure true := by exact sw_true rfl rfl rfl rfl)
    (hc : X.calm = true := by rfl) (hs : ∀ x, foldedSetIterable iter X.env x = pure x := by intro _; rfl) : RB X (.Assign [.Name x py] (.ListComp elt [⟨tg, iter, ifs, 0⟩] scope pos) spos :: rest) D σ H :=
  rb_setC i f (fun _ _ _ => True) (fun _ _ _ _ _ _ => trivial) L hN hit ok hz (fun p d v H1 hd hp s Lp hv => bg_mono (hst p d v H1 hd hp s Lp hv) fun σ2 H2 ⟨hw, hbt⟩ => ⟨hw, bt_mono hbt fun k H3 ⟨sk, hk⟩ => ⟨sk, hk.elim (fun ⟨a, d', b, c⟩ => .inl ⟨a, d', b, be_mono c fun y H4 ⟨s4, h4⟩ => ⟨s4, h4, trivial⟩⟩) .inr⟩⟩)
    (fun p xs H2 s hp h2 hx _ => q p xs H2 s hp h2 (hx.up fun b o e => by
      have n1 : b ∉ p :: M := fun z => by unfold hid at e; rw [if_pos z] at e; cases e
      rw [hid_of (fun z => n1 (List.mem_cons_of_mem _ z))]
      exact hid_le _ _ e)) hi hx hsw hc hs
end
end Dl

set_option Elab.async false
set_option linter.all false
set_option maxRecDepth 100000
set_option maxHeartbeats 4000000
namespace Zn
open PySem PySem.Spec PyProof.Rows L2 Dl
def top (i : Nat) : Stmt := PySem.Challenge.pw_everyzone_k08_zones_of_a_kind.main.body.getD i (.Pass ⟨0, 0, 0, 0⟩)
abbrev sWhole : Stmt := top 11
abbrev sPair : Stmt := top 12
abbrev sNeed : Stmt := top 14
abbrev sRows : Stmt := top 19
abbrev sFollow : Stmt := top 20
abbrev sIsJump : Stmt := top 21
abbrev sJump : Stmt := top 22
abbrev sTorn : Stmt := top 23
/-- built-in names that the module leaves alone -/
structure Nm (mg : Str → Option Value) : Prop where
  isi : mg "isinstance" = none
  int : mg "int" = none
  bool : mg "bool" = none
  lst : mg "list" = none
  tup : mg "tuple" = none
  len : mg "len" = none
  abs : mg "abs" = none
  min : mg "min" = none
  max : mg "max" = none
  rep : mg "repr" = none
  rng : mg "range" = none
/-- a def of the module -/
structure Df (K : PySem.W.Frag) (mg : Str → Option Value) (x : Str) (st : Stmt) (ps : List Str) (f : Addr) (fd : FuncData) : Prop where
  F : Fun K x x st f fd
  g : mg x = some (.ref f)
  b : Binds K fd ps []
section
variable {P : Program} {w : World} {K : PySem.W.Frag} {mg : Str → Option Value} {base : Heap}
/-! ### is_whole -/
def isI : PyData → Bool
  | .int _ => true
  | .bool _ => true
  | _ => false
def isBl : PyData → Bool
  | .bool _ => true
  | _ => false
def whole : PyData → Bool
  | .int _ => true
  | _ => false
theorem k_int (d : PyData) : kitB (tyN d) "int" = some (isI d) := by
  cases d with
  | none => exact (by decide +kernel : kitB "NoneType" "int" = some false)
  | bool b => exact (by decide +kernel : kitB "bool" "int" = some true)
  | int i => exact (by decide +kernel : kitB "int" "int" = some true)
  | str z => exact (by decide +kernel : kitB "str" "int" = some false)
  | list l => exact (by decide +kernel : kitB "list" "int" = some false)
  | tuple l => exact (by decide +kernel : kitB "tuple" "int" = some false)
  | dict l => exact (by decide +kernel : kitB "dict" "int" = some false)
theorem k_bool (d : PyData) : kitB (tyN d) "bool" = some (isBl d) := by
  cases d with
  | none => exact (by decide +kernel : kitB "NoneType" "bool" = some false)
  | bool b => exact (by decide +kernel : kitB "bool" "bool" = some true)
  | int i => exact (by decide +kernel : kitB "int" "bool" = some false)
  | str z => exact (by decide +kernel : kitB "str" "bool" = some false)
  | list l => exact (by decide +kernel : kitB "list" "bool" = some false)
  | tuple l => exact (by decide +kernel : kitB "tuple" "bool" = some false)
  | dict l => exact (by decide +kernel : kitB "dict" "bool" = some false)
theorem whole_eq (d : PyData) : (isI d && !isBl d) = whole d := by cases d <;> rfl
def RWhole (ds : List PyData) (d : PyData) : Prop := ∃ x, ds = [x] ∧ d = .bool (whole x)
theorem scWhole : FnScope ["value"] ["value"] (defScope sWhole) := ⟨rfl, rfl, rfl, by decide +kernel, rfl, by decide +kernel, by decide +kernel⟩
theorem ok_whole {f : Addr} {fd : FuncData} (T : Nm mg) (F : Df K mg "is_whole" sWhole ["value"] f fd) : FnOk P w K mg base CX0 1 f fd ["value"] (spR K RWhole) := by
  refine F.F.ok scWhole (fun vs H Q E h => ?_) (fun cdv A outer s H vs Q E hr h => ?_)
  · obtain ⟨M, ds, d, L, hd, ⟨x, rfl, rfl⟩, q⟩ := h
    exact dpa_len hd
  · obtain ⟨M, ds, d, L, hd, ⟨x, rfl, rfl⟩, q⟩ := h
    cases hd with
    | cons h1 h2 =>
      cases h2
      refine rb_ret (M := M) (xd_and2 (xd_is1 (k_int x) T.isi T.int (by decide +kernel) (xd_name 0 rfl h1)) fun _ => xd_not (xd_is1 (k_bool x) T.isi T.bool (by decide +kernel) (xd_name 0 rfl h1))) fun v H1 s hv => q v H1 s ?_
      rw [whole_eq] at hv
      exact hv

/-! ### need_integer -/
def RNeed (ds : List PyData) (d : PyData) : Prop := ∃ i : Int, ds = [.int i] ∧ d = .none
theorem scNeed : FnScope ["value"] ["value"] (defScope sNeed) := ⟨rfl, rfl, rfl, by decide +kernel, rfl, by decide +kernel, by decide +kernel⟩
theorem ok_need {f fW : Addr} {fd fdW : FuncData} (T : Nm mg) (FW : Df K mg "is_whole" sWhole ["value"] fW fdW) (F : Df K mg "need_integer" sNeed ["value"] f fd) : FnOk P w K mg base CX0 2 f fd ["value"] (spR K RNeed) := by
  have GW : FnOk P w K mg base CX0 1 fW fdW ["value"] (spR K RWhole) := ok_whole T FW
  refine F.F.ok scNeed (fun vs H Q E h => ?_) (fun cdv A outer s H vs Q E hr h => ?_)
  · obtain ⟨M, ds, d, L, hd, ⟨x, rfl, rfl⟩, q⟩ := h
    exact dpa_len hd
  · obtain ⟨M, ds, d, L, hd, ⟨x, rfl, rfl⟩, q⟩ := h
    cases hd with
    | cons h1 h2 =>
      cases h2
      refine rb_ifF ((xt_not (xt_val (M := M) (xd_call L GW hr FW.g FW.F.kp FW.b (xa_cons (xd_name 0 rfl h1) xa_nil) ⟨_, rfl, rfl⟩))).to rfl) fun H1 s => rb_nil (q _ H1 s .non)
/-! ### rows -/
abbrev Row := Int × Int × Int
def rowD (r : Row) : PyData := .tuple [.int r.1, .int r.2.1, .int r.2.2]
def jmp (r : Row) : Int := r.2.2 - r.2.1
def ab (n : Int) : Int := if n < 0 then -n else n
theorem pix {X : Cx} {n : Int} {j pos} : PlainIx (.Constant (.int n) j pos) := fun _ _ => rfl
def RJump (ds : List PyData) (d : PyData) : Prop := ∃ r : Row, ds = [rowD r] ∧ d = .int (jmp r)
theorem scJump : FnScope ["row"] ["row"] (defScope sJump) := ⟨rfl, rfl, rfl, by decide +kernel, rfl, by decide +kernel, by decide +kernel⟩
theorem ok_jump {f : Addr} {fd : FuncData} (F : Df K mg "jump_of" sJump ["row"] f fd) : FnOk P w K mg base CX0 1 f fd ["row"] (spR K RJump) := by
  refine F.F.ok scJump (fun vs H Q E h => ?_) (fun cdv A outer s H vs Q E hr h => ?_)
  · obtain ⟨M, ds, d, L, hd, ⟨x, rfl, rfl⟩, q⟩ := h
    exact dpa_len hd
  · obtain ⟨M, ds, d, L, hd, ⟨r, rfl, rfl⟩, q⟩ := h
    cases hd with
    | cons h1 h2 =>
      cases h2
      exact rb_ret (M := M) (xd_sub (xd_ixT (fun _ _ => rfl) (xd_name 0 rfl h1) xd_int rfl) (xd_ixT (fun _ _ => rfl) (xd_name 0 rfl h1) xd_int rfl)) q
def isJumpB (j : Int) : Bool := !decide (j = 0) && decide (ab j ≤ 720)
def RIsJump (ds : List PyData) (d : PyData) : Prop := ∃ j : Int, ds = [.int j] ∧ d = .bool (isJumpB j)
theorem scIsJump : FnScope ["value"] ["value"] (defScope sIsJump) := ⟨rfl, rfl, rfl, by decide +kernel, rfl, by decide +kernel, by decide +kernel⟩
theorem ok_isJump {f : Addr} {fd : FuncData} (T : Nm mg) (hG : ∃ t, mg "GREATEST_JUMP" = some (.int 720 t)) (F : Df K mg "is_jump" sIsJump ["value"] f fd) : FnOk P w K mg base CX0 1 f fd ["value"] (spR K RIsJump) := by
  obtain ⟨t, hG⟩ := hG
  refine F.F.ok scIsJump (fun vs H Q E h => ?_) (fun cdv A outer s H vs Q E hr h => ?_)
  · obtain ⟨M, ds, d, L, hd, ⟨x, rfl, rfl⟩, q⟩ := h
    exact dpa_len hd
  · obtain ⟨M, ds, d, L, hd, ⟨j, rfl, rfl⟩, q⟩ := h
    cases hd with
    | cons h1 h2 =>
      cases h2
      exact rb_ret (M := M) (xd_and2 (xd_neI (xd_name 0 rfl h1) xd_int) fun _ => xd_cmpI op_le (xd_abs T.abs (xd_name 0 rfl h1)) (xv_glob (v := .int 720) hG ⟨t, rfl⟩).int) q
def followB (rs : List Row) (r : Row) : Bool := match rs.getLast? with
  | none => true
  | some l => decide (ab (jmp l) + ab (jmp r) < r.1 - l.1)
def RFollow (ds : List PyData) (d : PyData) : Prop := ∃ (rs : List Row) (r : Row), ds = [.list (rs.map rowD), rowD r] ∧ d = .bool (isJumpB (jmp r) && followB rs r)
theorem scFollow : FnScope ["rows", "row", "last"] ["rows", "row"] (defScope sFollow) := ⟨rfl, rfl, rfl, by decide +kernel, rfl, by decide +kernel, by decide +kernel⟩
theorem at_last {rs : List Row} {l : Row} (h : rs.getLast? = some l) : atI (rs.map rowD) (-1) = some (rowD l) := by
  obtain ⟨ys, rfl⟩ := List.getLast?_eq_some_iff.mp h
  rw [List.map_append]
  exact atI_last _ _
theorem ok_follow {f fJ fI : Addr} {fd fdJ fdI : FuncData} (T : Nm mg) (hG : ∃ t, mg "GREATEST_JUMP" = some (.int 720 t)) (FJ : Df K mg "jump_of" sJump ["row"] fJ fdJ) (FI : Df K mg "is_jump" sIsJump ["value"] fI fdI) (F : Df K mg "can_follow" sFollow ["rows", "row"] f fd) : FnOk P w K mg base CX0 2 f fd ["rows", "row"] (spR K RFollow) := by
  have GJ : FnOk P w K mg base CX0 1 fJ fdJ ["row"] (spR K RJump) := ok_jump FJ
  have GI : FnOk P w K mg base CX0 1 fI fdI ["value"] (spR K RIsJump) := ok_isJump T hG FI
  refine F.F.ok scFollow (fun vs H Q E h => ?_) (fun cdv A outer s H vs Q E hr h => ?_)
  · obtain ⟨M, ds, d, L, hd, ⟨x, y, rfl, rfl⟩, q⟩ := h
    exact dpa_len hd
  · obtain ⟨M, ds, d, L, hd, ⟨rs, r, rfl, rfl⟩, q⟩ := h
    cases hd with
    | cons h1 h2 =>
      cases h2 with
      | cons h2 h3 =>
        cases h3
        refine rb_if (xt_not (xt_val (M := M) (xd_call L GI hr FI.g FI.F.kp FI.b (xa_cons (xd_call L GJ hr FJ.g FJ.F.kp FJ.b (xa_cons (xd_name 1 rfl h2) xa_nil) ⟨r, rfl, rfl⟩) xa_nil) ⟨_, rfl, rfl⟩))) (fun e H1 s => ?_) (fun e0 H0 s0 => rb_nil ?_)
        · refine rb_ret (M := M) xd_bl fun v H2 s2 hv => q v H2 (s.trans s2) ?_
          have ej : isJumpB (jmp r) = false := by
            cases z : isJumpB (jmp r)
            · rfl
            · rw [z] at e; exact absurd e Bool.false_ne_true
          rw [ej]
          exact hv
        have ej : isJumpB (jmp r) = true := by
          cases z : isJumpB (jmp r)
          · rw [z] at e0; exact absurd e0.symm Bool.false_ne_true
          · rfl
        have L := L.mono s0
        have h1 := h1.up (hid_mono (M := M) s0)
        have h2 := h2.up (hid_mono (M := M) s0)
        rw [ej] at q
        refine rb_if (xt_eqI (M := M) (xd_len T.len (xd_name 0 rfl h1)) xd_int) (fun e H1 s => ?_) (fun e H1 s => rb_nil ?_)
        · have e0 : rs = [] := by
            have z := of_decide_eq_true e
            rw [List.length_map] at z
            exact List.length_eq_zero_iff.mp (by omega)
          subst e0
          exact rb_ret (M := M) xd_bl fun v H2 s2 hv => q v H2 ((s0.trans s).trans s2) hv
        · have e0 : rs ≠ [] := fun z => by
            subst z
            simp at e
          obtain ⟨l, hl⟩ : ∃ l, rs.getLast? = some l := ⟨_, List.getLast?_eq_some_getLast e0⟩
          have g1 := h1.up (hid_mono (M := M) s)
          have g2 := h2.up (hid_mono (M := M) s)
          refine rb_set 2 (M := M) (xd_ixL (fun _ _ => rfl) (xd_name 0 rfl g1) (xd_neg xd_int) (at_last hl)) (fun v H2 s2 hv => ?_) scFollow.nd
          have g3 := g2.up (hid_mono (M := M) s2)
          have L2' := (L.mono s).mono s2
          refine rb_ret (M := M) (xd_cmpI op_gt (xd_sub (xd_ixT (fun _ _ => rfl) (xd_name 1 rfl g3) xd_int rfl) (xd_ixT (fun _ _ => rfl) (xd_name 2 rfl hv) xd_int rfl))
            (xd_add (xd_abs T.abs (xd_call L2' GJ hr FJ.g FJ.F.kp FJ.b (xa_cons (xd_name 2 rfl hv) xa_nil) ⟨l, rfl, rfl⟩)) (xd_abs T.abs (xd_call L2' GJ hr FJ.g FJ.F.kp FJ.b (xa_cons (xd_name 1 rfl g3) xa_nil) ⟨r, rfl, rfl⟩)))) fun v' H3 s3 hv' => q v' H3 (((s0.trans s).trans s2).trans s3) ?_
          unfold followB
          rw [hl, Bool.true_and]
          exact hv'
def tornD (r : Row) : PyData := .tuple [.int (r.1 + (if r.2.2 < r.2.1 then r.2.2 else r.2.1)), .int (r.1 + (if r.2.2 > r.2.1 then r.2.2 else r.2.1))]
def RTorn (ds : List PyData) (d : PyData) : Prop := ∃ r : Row, ds = [rowD r] ∧ d = tornD r
theorem scTorn : FnScope ["row", "moment", "before", "after"] ["row"] (defScope sTorn) := ⟨rfl, rfl, rfl, by decide +kernel, rfl, by decide +kernel, by decide +kernel⟩
theorem ok_torn {f : Addr} {fd : FuncData} (T : Nm mg) (F : Df K mg "torn_readings" sTorn ["row"] f fd) : FnOk P w K mg base CX0 1 f fd ["row"] (spR K RTorn) := by
  refine F.F.ok scTorn (fun vs H Q E h => ?_) (fun cdv A outer s H vs Q E hr h => ?_)
  · obtain ⟨M, ds, d, L, hd, ⟨x, rfl, rfl⟩, q⟩ := h
    exact dpa_len hd
  · obtain ⟨M, ds, d, L, hd, ⟨r, rfl, rfl⟩, q⟩ := h
    cases hd with
    | cons h1 h2 =>
      cases h2
      refine rb_asgR (XD.go (M := M) (xd_name 0 rfl h1) fun v H1 s1 hv => ?_)
      obtain ⟨p, xs, rfl, hp, hx⟩ := dp_tup hv
      cases hx with
      | cons a1 hx => cases hx with
        | cons a2 hx => cases hx with
          | cons a3 hx =>
            cases hx
            rw [dp_int a1, dp_int a2, dp_int a3] at hp
            refine rg_tup (same_seqT hid_le hp) (rgs_cons (rg_name 1 (rgs_cons (rg_name 2 (rgs_cons (rg_name 3 (rgs_nil ?_) scTorn.nd)) scTorn.nd)) scTorn.nd))
            exact rb_ret (M := M) (xd_tup (L.mono s1) (xa_cons (xd_add (xd_name 1 rfl (.int r.1)) (xd_min T.min (xa_cons (xd_name 2 rfl (.int r.2.1)) (xa_cons (xd_name 3 rfl (.int r.2.2)) xa_nil))))
              (xa_cons (xd_add (xd_name 1 rfl (.int r.1)) (xd_max T.max (xa_cons (xd_name 2 rfl (.int r.2.1)) (xa_cons (xd_name 3 rfl (.int r.2.2)) xa_nil)))) xa_nil))) fun v' H2 s2 hv' => q v' H2 (s1.trans s2) hv'
end
end Zn

set_option Elab.async false
set_option linter.all false
set_option maxRecDepth 100000
set_option maxHeartbeats 4000000
namespace Zn
open PySem PySem.Spec PyProof.Rows L2 Dl
/-! ### rows of changes: the mathematics -/
def rowsOf : Int → List (Int × Int) → List Row
  | _, [] => []
  | b, c :: cs => (c.1, b, c.2) :: rowsOf c.2 cs
def lastOff : Int → List (Int × Int) → Int
  | b, [] => b
  | _, c :: cs => lastOff c.2 cs
theorem rows_len : ∀ (b : Int) (cs : List (Int × Int)), (rowsOf b cs).length = cs.length
  | _, [] => rfl
  | _, c :: cs => by unfold rowsOf; rw [List.length_cons, List.length_cons, rows_len c.2 cs]
theorem rows_take : ∀ (b : Int) (cs : List (Int × Int)) (k : Nat), (rowsOf b cs).take k = rowsOf b (cs.take k)
  | _, [], k => by unfold rowsOf; cases k <;> rfl
  | _, c :: cs, 0 => rfl
  | _, c :: cs, k + 1 => by unfold rowsOf; rw [List.take_succ_cons, List.take_succ_cons, rows_take c.2 cs k]
theorem rows_get : ∀ (b : Int) (cs : List (Int × Int)) (k : Nat) (c : Int × Int), cs[k]? = some c → (rowsOf b cs)[k]? = some (c.1, lastOff b (cs.take k), c.2)
  | _, [], k, c, h => by simp at h
  | _, c' :: cs, 0, c, h => by simp at h; subst h; rfl
  | _, c' :: cs, k + 1, c, h => by
    have q := rows_get c'.2 cs k c (by simpa using h)
    unfold rowsOf lastOff
    rw [List.take_succ_cons]
    simpa using q
theorem last_snoc : ∀ (b : Int) (cs : List (Int × Int)) (c : Int × Int), lastOff b (cs ++ [c]) = c.2
  | _, [], c => rfl
  | _, c' :: cs, c => last_snoc c'.2 cs c
theorem rows_snoc : ∀ (b : Int) (cs : List (Int × Int)) (c : Int × Int), rowsOf b (cs ++ [c]) = rowsOf b cs ++ [(c.1, lastOff b cs, c.2)]
  | _, [], c => rfl
  | _, c' :: cs, c => by
    show (c'.1, _, c'.2) :: rowsOf c'.2 (cs ++ [c]) = _
    rw [rows_snoc c'.2 cs c]
    rfl
/-- each row passes the checks behind the ones ahead of it -/
def okR (rs : List Row) : Prop := ∀ (k : Nat) (r : Row), rs[k]? = some r → isJumpB (jmp r) = true ∧ followB (rs.take k) r = true
def IsPr (it : PyData) (c : Int × Int) : Prop := it = .tuple [.int c.1, .int c.2] ∨ it = .list [.int c.1, .int c.2]
def Items (items : List PyData) (cs : List (Int × Int)) : Prop := items.length = cs.length ∧ ∀ (i : Nat) (it : PyData), items[i]? = some it → ∃ c, cs[i]? = some c ∧ IsPr it c
def RPair (ds : List PyData) (d : PyData) : Prop := ∃ it c, ds = [it] ∧ IsPr it c ∧ d = .bool true
def RRows (ds es : List PyData) : Prop := ∃ (off : Int) (sq : PyData) (items : List PyData) (cs : List (Int × Int)), ds = [.int off, sq] ∧ (sq = .list items ∨ sq = .tuple items) ∧ Items items cs ∧ okR (rowsOf off cs) ∧ cs.length ≤ 1000 ∧ es = (rowsOf off cs).map rowD
theorem hid_weak {p : Addr} {M : List Addr} {H : Hp} : Same (hid (p :: M) H) (hid M H) := fun b o e => by
  have n : b ∉ p :: M := fun z => by unfold hid at e; rw [if_pos z] at e; cases e
  rw [hid_of (fun z => n (List.mem_cons_of_mem _ z))]
  exact hid_le _ _ e
theorem hid_cons_upd {p : Addr} {M : List Addr} {H : Hp} {o : HO} : hid (p :: M) (upd H p o) = hid (p :: M) H := hid_upd_mem (List.mem_cons_self ..)
theorem Live.tail {p : Addr} {M : List Addr} {H : Hp} (L : Live (p :: M) H) : Live M H := fun b hb => L b (List.mem_cons_of_mem _ hb)
theorem same_upd {H H' : Hp} {p : Addr} {o : HO} (s : Same H H') (hp : H p = none) : Same H (upd H' p o) := fun b u e => by rw [upd_ne (ne_of_none e hp)]; exact s b u e
theorem take_snoc {α : Type} {l : List α} {k : Nat} {x : α} (h : l[k]? = some x) : l.take (k + 1) = l.take k ++ [x] := by rw [List.take_add_one, h]; rfl
theorem k_tl : kitB "tuple" "list" = some false := by decide +kernel
theorem k_tt : kitB "tuple" "tuple" = some true := by decide +kernel
theorem k_ll : kitB "list" "list" = some true := by decide +kernel
theorem k_lt : kitB "list" "tuple" = some false := by decide +kernel
section
variable {P : Program} {w : World} {K : PySem.W.Frag} {mg : Str → Option Value} {base : Heap}
theorem scPair : FnScope ["value"] ["value"] (defScope sPair) := ⟨rfl, rfl, rfl, by decide +kernel, rfl, by decide +kernel, by decide +kernel⟩
theorem ok_pair {f fW : Addr} {fd fdW : FuncData} (T : Nm mg) (FW : Df K mg "is_whole" sWhole ["value"] fW fdW) (F : Df K mg "is_whole_pair" sPair ["value"] f fd) : FnOk P w K mg base CX0 2 f fd ["value"] (spR K RPair) := by
  have GW : FnOk P w K mg base CX0 1 fW fdW ["value"] (spR K RWhole) := ok_whole T FW
  refine F.F.ok scPair (fun vs H Q E h => ?_) (fun cdv A outer s H vs Q E hr h => ?_)
  · obtain ⟨M, ds, d, L, hd, ⟨x, c, rfl, _, rfl⟩, q⟩ := h
    exact dpa_len hd
  · obtain ⟨M, ds, d, L, hd, ⟨x, c, rfl, hx, rfl⟩, q⟩ := h
    cases hd with
    | cons h1 h2 =>
      cases h2
      rcases hx with rfl | rfl
      · refine rb_ret (M := M) (xd_andT ((xd_is2 (d := .tuple [.int c.1, .int c.2]) (r1 := false) (r2 := true) (T1 := "list") (T2 := "tuple") k_tl k_tt T.isi T.lst (by decide +kernel) T.tup (by decide +kernel) (xd_name 0 rfl h1)).to rfl)
          (xd_andT ((xd_eqI (xd_lenT T.len (xd_name 0 rfl h1)) xd_int).to rfl) (xd_andT (xd_call L GW hr FW.g FW.F.kp FW.b (xa_cons (xd_ixT (fun _ _ => rfl) (xd_name 0 rfl h1) xd_int rfl) xa_nil) ⟨.int c.1, rfl, rfl⟩)
            (xd_one (xd_call L GW hr FW.g FW.F.kp FW.b (xa_cons (xd_ixT (fun _ _ => rfl) (xd_name 0 rfl h1) xd_int rfl) xa_nil) ⟨.int c.2, rfl, rfl⟩))))) q
      · refine rb_ret (M := M) (xd_andT ((xd_is2 (d := .list [.int c.1, .int c.2]) (r1 := true) (r2 := false) (T1 := "list") (T2 := "tuple") k_ll k_lt T.isi T.lst (by decide +kernel) T.tup (by decide +kernel) (xd_name 0 rfl h1)).to rfl)
          (xd_andT ((xd_eqI (xd_len T.len (xd_name 0 rfl h1)) xd_int).to rfl) (xd_andT (xd_call L GW hr FW.g FW.F.kp FW.b (xa_cons (xd_ixL (fun _ _ => rfl) (xd_name 0 rfl h1) xd_int rfl) xa_nil) ⟨.int c.1, rfl, rfl⟩)
            (xd_one (xd_call L GW hr FW.g FW.F.kp FW.b (xa_cons (xd_ixL (fun _ _ => rfl) (xd_name 0 rfl h1) xd_int rfl) xa_nil) ⟨.int c.2, rfl, rfl⟩))))) q
/-- item[0], item[1] -/
theorem pr_ix {X : Cx} {M : List Addr} {σ : L2.St} {H : Hp} {a : Expr} {it : PyData} {c : Int × Int} {j : Nat} {p1 pos : Pos} (h : IsPr it c) (ha : XD X M σ H a it) {n : Int} {y : Int} (hn : atI [PyData.int c.1, PyData.int c.2] n = some (.int y)) : XD X M σ H (.Subscript a (.Constant (.int n) j p1) pos) (.int y) := by
  rcases h with rfl | rfl
  · exact xd_ixT (fun _ _ => rfl) ha xd_int hn
  · exact xd_ixL (fun _ _ => rfl) ha xd_int hn
theorem scRows : FnScope ["offset", "changes", "rows", "before", "item", "row"] ["offset", "changes"] (defScope sRows) := ⟨rfl, rfl, rfl, by decide +kernel, rfl, by decide +kernel, by decide +kernel⟩
theorem ok_rows {f fW fP fJ fI fF : Addr} {fd fdW fdP fdJ fdI fdF : FuncData} (T : Nm mg) (hG : ∃ t, mg "GREATEST_JUMP" = some (.int 720 t)) (FW : Df K mg "is_whole" sWhole ["value"] fW fdW) (FP : Df K mg "is_whole_pair" sPair ["value"] fP fdP)
    (FJ : Df K mg "jump_of" sJump ["row"] fJ fdJ) (FI : Df K mg "is_jump" sIsJump ["value"] fI fdI) (FF : Df K mg "can_follow" sFollow ["rows", "row"] fF fdF) (F : Df K mg "rows_of" sRows ["offset", "changes"] f fd) : FnOk P w K mg base CX0 3 f fd ["offset", "changes"] (spL K RRows) := by
  have GP : FnOk P w K mg base CX0 2 fP fdP ["value"] (spR K RPair) := ok_pair T FW FP
  have GF : FnOk P w K mg base CX0 2 fF fdF ["rows", "row"] (spR K RFollow) := ok_follow T hG FJ FI FF
  refine F.F.ok scRows (fun vs H Q E h => ?_) (fun cdv A outer s H vs Q E hr h => ?_)
  · obtain ⟨M, ds, es, L, hd, ⟨off, sq, items, cs, rfl, _⟩, q⟩ := h
    exact dpa_len hd
  · obtain ⟨M, ds, es, L, hd, ⟨off, sq, items, cs, rfl, hsq, hit, hok, hlen, rfl⟩, q⟩ := h
    cases hd with
    | cons h1 h2 =>
      cases h2 with
      | cons h2 h3 =>
        cases h3
        rename_i v0 v1
        have e0 := dp_int h1
        subst e0
        refine rb_setL 2 (xl_lst L xa_nil) (fun p xs H1 s1 hp h1p hxs => ?_) scRows.nd
        cases hxs
        have g0 : Same (hid M H) (hid (p :: M) H1) := hid_step hp s1
        have Lp : Live (p :: M) H1 := fun b hb => by
          rcases List.mem_cons.mp hb with z | hb
          · subst z; rw [h1p]; simp
          · exact L.mono s1 b hb
        have k2 := h2.up g0
        refine rb_set 3 (M := p :: M) (xd_name 0 rfl (.int off)) (fun v H2 s2 hv => ?_) scRows.nd
        have e3 := dp_int hv
        subst e3
        have k3 := k2.up (hid_mono (M := p :: M) s2)
        have Lp2 := Lp.mono s2
        rcases hsq with rfl | rfl
        · refine rb_for (M := p :: M) (xd_name 1 rfl k3) fun H3 s3 => ⟨fun k σ' H' => Same (hid (p :: M) H3) (hid (p :: M) H') ∧ Live (p :: M) H' ∧ Same H H' ∧ ∃ (xs : List V) (a4 a5 : Option V), σ' = [some (.int off), some v1, some (.ref p), some (.int (lastOff off (cs.take k))), a4, a5] ∧ H' p = some (.lst xs) ∧ DqAll K (hid (p :: M) H') xs ((rowsOf off (cs.take k)).map rowD),
            ⟨Same.refl _, Lp2.mono s3, (s1.trans s2).trans s3, [], none, none, rfl, s3 _ _ (s2 _ _ h1p), .nil⟩, fun k σ' H' w => w.1, fun k it hk σ' H' v hw hv => ?_, fun σ' H' hw => ?_⟩
          · obtain ⟨z1, L4, z2, xs, a4, a5, rfl, hp4, hx4⟩ := hw
            obtain ⟨c, hc, hpr⟩ := hit.2 k it hk
            have hklt : k < cs.length := (List.getElem?_eq_some_iff.mp hc).1
            have hrow := rows_get off cs k c hc
            obtain ⟨c1, c2⟩ := hok k _ hrow
            rw [rows_take] at c2
            have hxl : xs.length < 100000 := by
              rw [dpa_len hx4, List.length_map, rows_len, List.length_take]
              omega
            refine rg_name 4 ?_ scRows.nd
            refine rb_ifF ((xt_not (xt_val (M := p :: M) (xd_call L4 GP hr FP.g FP.F.kp FP.b (xa_cons (xd_name 4 rfl hv) xa_nil) ⟨it, c, rfl, hpr, rfl⟩))).to rfl) fun H5 s5 => ?_
            have hv5 := hv.up (hid_mono (M := p :: M) s5)
            have L5 := L4.mono s5
            refine rb_set 5 (M := p :: M) (xd_tup L5 (xa_cons (pr_ix hpr (xd_name 4 rfl hv5) rfl) (xa_cons (xd_name 3 rfl (.int _)) (xa_cons (pr_ix hpr (xd_name 4 rfl hv5) rfl) xa_nil)))) (fun v6 H6 s6 hv6 => ?_) scRows.nd
            have L6 := L5.mono s6
            have s46 := s5.trans s6
            have hx6 := hx4.up (hid_mono (M := p :: M) s46)
            have LM := Live.tail L6
            have hp6 : H6 p = some (.lst xs) := s46 _ _ hp4
            have kp : Dq K (hid M H6) (.ref p) (.list ((rowsOf off (cs.take k)).map rowD)) := .lst (by rw [hid_of (fun z => (L.fresh hp) z)]; exact hp6) (hx6.up hid_weak)
            refine rb_ifF ((xt_not (xt_val (M := M) (xd_call LM GF hr FF.g FF.F.kp FF.b (xa_cons (xd_name 2 rfl kp) (xa_cons (xd_name 5 rfl (hv6.up hid_weak)) xa_nil)) ⟨_, (c.1, lastOff off (cs.take k), c.2), rfl, rfl⟩))).to (by rw [c1, c2]; rfl)) fun H7 s7 => ?_
            refine rb_append (M := p :: M) (xs := xs) (List.mem_cons_self ..) (xv_name 2 rfl) (s7 _ _ (s46 _ _ hp4)) (xd_name 5 rfl (hv6.up (hid_mono s7))) hxl fun v8 H8 s8 hv8 => ?_
            have s68 := s7.trans s8
            have s48 := s46.trans s68
            have hv9 : Dq K (hid (p :: M) (upd H8 p (.lst (xs ++ [v8])))) v it := by rw [hid_cons_upd]; exact hv5.up (hid_mono (s6.trans s68))
            refine rb_set 3 (M := p :: M) (pr_ix hpr (xd_name 4 rfl hv9) rfl) (fun v10 H10 s10 hv10 => rb_nil ?_) scRows.nd
            have e10 := dp_int hv10
            subst e10
            have s4x : Same (hid (p :: M) H') (hid (p :: M) H10) := by
              refine (hid_mono (M := p :: M) s48).trans ?_
              have z := hid_mono (M := p :: M) s10
              rw [hid_cons_upd] at z
              exact z
            refine ⟨z1.trans s4x, (Live.upd (L6.mono s68)).mono s10, (same_upd (z2.trans s48) hp).trans s10, xs ++ [v8], some v, some v6, ?_, s10 _ _ upd_same, ?_⟩
            · rw [take_snoc hc, last_snoc]
              rfl
            · rw [take_snoc hc, rows_snoc, List.map_append]
              refine dpa_app (hx4.up s4x) (.cons (hv8.up ?_) .nil)
              have z := hid_mono (M := p :: M) s10
              rw [hid_cons_upd] at z
              exact z
          · obtain ⟨z1, L4, z2, xs, a4, a5, rfl, hp4, hx4⟩ := hw
            refine rb_retR (XV.go (xv_name 2 rfl) fun H5 s5 => q p xs H5 (z2.trans s5) hp (s5 _ _ hp4) ?_)
            rw [hit.1, List.take_length] at hx4
            exact (hx4.up (hid_mono (M := p :: M) s5)).up hid_weak
        · refine rb_forT (M := p :: M) (xd_name 1 rfl k3) fun H3 s3 => ⟨fun k σ' H' => Same (hid (p :: M) H3) (hid (p :: M) H') ∧ Live (p :: M) H' ∧ Same H H' ∧ ∃ (xs : List V) (a4 a5 : Option V), σ' = [some (.int off), some v1, some (.ref p), some (.int (lastOff off (cs.take k))), a4, a5] ∧ H' p = some (.lst xs) ∧ DqAll K (hid (p :: M) H') xs ((rowsOf off (cs.take k)).map rowD),
            ⟨Same.refl _, Lp2.mono s3, (s1.trans s2).trans s3, [], none, none, rfl, s3 _ _ (s2 _ _ h1p), .nil⟩, fun k σ' H' w => w.1, fun k it hk σ' H' v hw hv => ?_, fun σ' H' hw => ?_⟩
          · obtain ⟨z1, L4, z2, xs, a4, a5, rfl, hp4, hx4⟩ := hw
            obtain ⟨c, hc, hpr⟩ := hit.2 k it hk
            have hklt : k < cs.length := (List.getElem?_eq_some_iff.mp hc).1
            have hrow := rows_get off cs k c hc
            obtain ⟨c1, c2⟩ := hok k _ hrow
            rw [rows_take] at c2
            have hxl : xs.length < 100000 := by
              rw [dpa_len hx4, List.length_map, rows_len, List.length_take]
              omega
            refine rg_name 4 ?_ scRows.nd
            refine rb_ifF ((xt_not (xt_val (M := p :: M) (xd_call L4 GP hr FP.g FP.F.kp FP.b (xa_cons (xd_name 4 rfl hv) xa_nil) ⟨it, c, rfl, hpr, rfl⟩))).to rfl) fun H5 s5 => ?_
            have hv5 := hv.up (hid_mono (M := p :: M) s5)
            have L5 := L4.mono s5
            refine rb_set 5 (M := p :: M) (xd_tup L5 (xa_cons (pr_ix hpr (xd_name 4 rfl hv5) rfl) (xa_cons (xd_name 3 rfl (.int _)) (xa_cons (pr_ix hpr (xd_name 4 rfl hv5) rfl) xa_nil)))) (fun v6 H6 s6 hv6 => ?_) scRows.nd
            have L6 := L5.mono s6
            have s46 := s5.trans s6
            have hx6 := hx4.up (hid_mono (M := p :: M) s46)
            have LM := Live.tail L6
            have hp6 : H6 p = some (.lst xs) := s46 _ _ hp4
            have kp : Dq K (hid M H6) (.ref p) (.list ((rowsOf off (cs.take k)).map rowD)) := .lst (by rw [hid_of (fun z => (L.fresh hp) z)]; exact hp6) (hx6.up hid_weak)
            refine rb_ifF ((xt_not (xt_val (M := M) (xd_call LM GF hr FF.g FF.F.kp FF.b (xa_cons (xd_name 2 rfl kp) (xa_cons (xd_name 5 rfl (hv6.up hid_weak)) xa_nil)) ⟨_, (c.1, lastOff off (cs.take k), c.2), rfl, rfl⟩))).to (by rw [c1, c2]; rfl)) fun H7 s7 => ?_
            refine rb_append (M := p :: M) (xs := xs) (List.mem_cons_self ..) (xv_name 2 rfl) (s7 _ _ (s46 _ _ hp4)) (xd_name 5 rfl (hv6.up (hid_mono s7))) hxl fun v8 H8 s8 hv8 => ?_
            have s68 := s7.trans s8
            have s48 := s46.trans s68
            have hv9 : Dq K (hid (p :: M) (upd H8 p (.lst (xs ++ [v8])))) v it := by rw [hid_cons_upd]; exact hv5.up (hid_mono (s6.trans s68))
            refine rb_set 3 (M := p :: M) (pr_ix hpr (xd_name 4 rfl hv9) rfl) (fun v10 H10 s10 hv10 => rb_nil ?_) scRows.nd
            have e10 := dp_int hv10
            subst e10
            have s4x : Same (hid (p :: M) H') (hid (p :: M) H10) := by
              refine (hid_mono (M := p :: M) s48).trans ?_
              have z := hid_mono (M := p :: M) s10
              rw [hid_cons_upd] at z
              exact z
            refine ⟨z1.trans s4x, (Live.upd (L6.mono s68)).mono s10, (same_upd (z2.trans s48) hp).trans s10, xs ++ [v8], some v, some v6, ?_, s10 _ _ upd_same, ?_⟩
            · rw [take_snoc hc, last_snoc]
              rfl
            · rw [take_snoc hc, rows_snoc, List.map_append]
              refine dpa_app (hx4.up s4x) (.cons (hv8.up ?_) .nil)
              have z := hid_mono (M := p :: M) s10
              rw [hid_cons_upd] at z
              exact z
          · obtain ⟨z1, L4, z2, xs, a4, a5, rfl, hp4, hx4⟩ := hw
            refine rb_retR (XV.go (xv_name 2 rfl) fun H5 s5 => q p xs H5 (z2.trans s5) hp (s5 _ _ hp4) ?_)
            rw [hit.1, List.take_length] at hx4
            exact (hx4.up (hid_mono (M := p :: M) s5)).up hid_weak
end
end Zn

set_option Elab.async false
set_option linter.all false
set_option maxRecDepth 100000
set_option maxHeartbeats 4000000
namespace Zn
open PySem PySem.Spec PyProof.Rows L2 Dl
abbrev sInit : Stmt := inClass (top 18) 0
abbrev sFirst : Stmt := inClass (top 18) 1
abbrev sChanges : Stmt := inClass (top 18) 2
abbrev sJumps : Stmt := inClass (top 18) 3
abbrev sLen : Stmt := inClass (top 18) 4
abbrev sCont : Stmt := inClass (top 18) 5
abbrev sEq : Stmt := inClass (top 18) 6
abbrev sGaps : Stmt := inClass (top 18) 10
abbrev sFolds : Stmt := inClass (top 18) 11
/-! ### a zone -/
def zf (off : Int) (r : Addr) : List (Str × V) := [("base", .int off), ("rows", .ref r)]
theorem zf_base (off : Int) (r : Addr) : (zf off r).lookup ("base" : Str) = some (.int off) := by
  unfold zf
  simp [List.lookup]
theorem zf_rows (off : Int) (r : Addr) : (zf off r).lookup ("rows" : Str) = some (.ref r) := by
  unfold zf
  simp [List.lookup, show (("rows" : Str) == ("base" : Str)) = false by decide +kernel]
theorem zf_put (off : Int) (r : Addr) : putF "rows" (.ref r) [(("base" : Str), V.int off)] = zf off r := by
  show (if ("base" : Str) = "rows" then _ else (("base" : Str), V.int off) :: [(("rows" : Str), V.ref r)]) = _
  rw [if_neg (by decide +kernel)]
  rfl
theorem zf_none {m : Str} (off : Int) (r : Addr) (h1 : (m == ("base" : Str)) = false) (h2 : (m == ("rows" : Str)) = false) : (zf off r).lookup m = none := by
  unfold zf
  simp [List.lookup, h1, h2]
/-- at a a zone of the class at C: first offset off, rows rs -/
def ZAt (K : PySem.W.Frag) (C : Addr) (H : Hp) (a : Addr) (off : Int) (rs : List Row) : Prop := ∃ dx r, H a = some (.ins C dx (zf off r)) ∧ Dq K H (.ref r) (.list (rs.map rowD))
theorem ZAt.up {K : PySem.W.Frag} {C : Addr} {H H' : Hp} {a : Addr} {off : Int} {rs : List Row} (h : ZAt K C H a off rs) (s : Same H H') : ZAt K C H' a off rs := by
  obtain ⟨dx, r, h1, h2⟩ := h
  exact ⟨dx, r, s _ _ h1, h2.up s⟩
/-- what the written part says of the class -/
structure ZT (K : PySem.W.Frag) (mg : Str → Option Value) (C : Addr) : Prop where
  cl : Cls K C
  nB : NoAttr K C "base"
  nR : NoAttr K C "rows"
  mgC : mg "Zone" = some (.ref C)
/-- a method of the class -/
structure Mt (K : PySem.W.Frag) (C : Addr) (x q : Str) (st : Stmt) (ps : List Str) (f : Addr) (fd : FuncData) : Prop where
  F : Fun K x q st f fd
  b : Binds K fd ps []
  m : Meth K C x f
section
variable {X : Cx} {M : List Addr} {σ : L2.St} {H H' : Hp} {o : Expr} {pos : Pos} {K : PySem.W.Frag} {C pa : Addr} {off : Int} {rs : List Row}
/-- self.base, self.rows -/
theorem xv_base (hZ : ∃ mg, ZT X.K mg C) (h : ZAt X.K C (hid M H) pa off rs) (ho : XV X σ H o (.ref pa)) (hb : attributeBase o "base" X.env (eval o X.env) = eval o X.env := by rfl) : XV X σ H (.Attribute o "base" pos) (.int off) := by
  obtain ⟨dx, r, h1, h2⟩ := h
  obtain ⟨_, Z⟩ := hZ
  exact xv_fld ho (hid_le _ _ h1) Z.cl Z.nB (zf_base off r) hb
theorem xd_rows (hZ : ∃ mg, ZT X.K mg C) (h : ZAt X.K C (hid M H) pa off rs) (ho : XV X σ H o (.ref pa)) (hb : attributeBase o "rows" X.env (eval o X.env) = eval o X.env := by rfl) : XD X M σ H (.Attribute o "rows" pos) (.list (rs.map rowD)) := by
  obtain ⟨dx, r, h1, h2⟩ := h
  obtain ⟨_, Z⟩ := hZ
  exact (xv_fld ho (hid_le _ _ h1) Z.cl Z.nR (zf_rows off r) hb).dd h2
end
/-- a method without further arguments on a zone: a new list of the data f off rs; any data -/
def spML (K : PySem.W.Frag) (C : Addr) (f : Int → List Row → List PyData) : Sp := fun vs H Q _ => ∃ (M : List Addr) (a : Addr) (off : Int) (rs : List Row), vs = [.ref a] ∧ Live M H ∧ ZAt K C (hid M H) a off rs ∧ rs.length ≤ 1000 ∧
  ∀ p xs H1, Same H H1 → H p = none → H1 p = some (.lst xs) → DqAll K (hid M H1) xs (f off rs) → Q (.ref p) H1
def spMD (K : PySem.W.Frag) (C : Addr) (f : Int → List Row → PyData) : Sp := fun vs H Q _ => ∃ (M : List Addr) (a : Addr) (off : Int) (rs : List Row), vs = [.ref a] ∧ Live M H ∧ ZAt K C (hid M H) a off rs ∧ rs.length ≤ 1000 ∧
  ∀ v H1, Same H H1 → Dq K (hid M H1) v (f off rs) → Q v H1
section
variable {P : Program} {w : World} {K : PySem.W.Frag} {mg : Str → Option Value} {base : Heap} {C : Addr}
theorem fm_map {α : Type} (g : α → PyData) (f : PyData → Option PyData) (h : α → PyData) (e : ∀ r, f (g r) = some (h r)) : ∀ rs : List α, (rs.map g).filterMap f = rs.map h
  | [] => rfl
  | r :: rs => by rw [List.map_cons, List.filterMap_cons, e r, List.map_cons, fm_map g f h e rs]
theorem row_at {K : PySem.W.Frag} {H : Hp} {v : V} {r : Row} (h : Dq K H v (rowD r)) : ∃ p, v = .ref p ∧ SqT K H p [.int r.1, .int r.2.1, .int r.2.2] := by
  obtain ⟨p, xs, rfl, hp, hx⟩ := dp_tup h
  cases hx with
  | cons a1 hx => cases hx with
    | cons a2 hx => cases hx with
      | cons a3 hx => cases hx; rw [dp_int a1, dp_int a2, dp_int a3] at hp; exact ⟨p, rfl, hp⟩
/-- the row of an item -/
theorem mem_row {rs : List Row} {d : PyData} (h : d ∈ rs.map rowD) : ∃ r ∈ rs, d = rowD r := by
  obtain ⟨r, h1, h2⟩ := List.mem_map.mp h
  exact ⟨r, h1, h2.symm⟩
/-! first, len -/
theorem scFirst : FnScope ["self"] ["self"] (defScope sFirst) := ⟨rfl, rfl, rfl, by decide +kernel, rfl, by decide +kernel, by decide +kernel⟩
theorem ok_first {f : Addr} {fd : FuncData} (Z : ZT K mg C) (F : Fun K "first" "Zone.first" sFirst f fd) : FnOk P w K mg base CX0 1 f fd ["self"] (spMD K C fun off _ => .int off) := by
  refine F.ok scFirst (fun vs H Q E h => ?_) (fun cdv A outer s H vs Q E hr h => ?_)
  · obtain ⟨M, a, off, rs, rfl, _⟩ := h; rfl
  · obtain ⟨M, a, off, rs, rfl, L, hz, _, q⟩ := h
    exact rb_retR (XV.go (xv_base ⟨_, Z⟩ hz (xv_name 0 rfl)) fun H1 s => q _ H1 s (.int off))
theorem scLen : FnScope ["self"] ["self"] (defScope sLen) := ⟨rfl, rfl, rfl, by decide +kernel, rfl, by decide +kernel, by decide +kernel⟩
theorem ok_len {f : Addr} {fd : FuncData} (T : Nm mg) (Z : ZT K mg C) (F : Fun K "__len__" "Zone.__len__" sLen f fd) : FnOk P w K mg base CX0 1 f fd ["self"] (spMD K C fun _ rs => .int rs.length) := by
  refine F.ok scLen (fun vs H Q E h => ?_) (fun cdv A outer s H vs Q E hr h => ?_)
  · obtain ⟨M, a, off, rs, rfl, _⟩ := h; rfl
  · obtain ⟨M, a, off, rs, rfl, L, hz, _, q⟩ := h
    exact rb_ret (M := M) ((xd_len T.len (xd_rows ⟨_, Z⟩ hz (xv_name 0 rfl))).to (by rw [List.length_map])) q
/-! changes -/
def chD (r : Row) : PyData := .tuple [.int r.1, .int r.2.2]
theorem scChanges : FnScope ["self", "moment", "before", "after"] ["self"] (defScope sChanges) := ⟨rfl, rfl, rfl, by decide +kernel, rfl, by decide +kernel, by decide +kernel⟩
theorem ok_changes {f : Addr} {fd : FuncData} (Z : ZT K mg C) (F : Fun K "changes" "Zone.changes" sChanges f fd) : FnOk P w K mg base CX0 1 f fd ["self"] (spML K C fun _ rs => rs.map chD) := by
  refine F.ok scChanges (fun vs H Q E h => ?_) (fun cdv A outer s H vs Q E hr h => ?_)
  · obtain ⟨M, a, off, rs, rfl, _⟩ := h; rfl
  · obtain ⟨M, a, off, rs, rfl, L, hz, hlen, q⟩ := h
    refine rb_retR (XL.go (M := M) ((xl_comp (own := [("moment", 1), ("before", 2), ("after", 3)]) (fun d => match d with | .tuple [x, _, z] => some (.tuple [x, z]) | _ => none) L scChanges.nd (xd_rows ⟨_, Z⟩ hz (xv_name 0 rfl))
      (blkOk_by (own := [("moment", 1), ("before", 2), ("after", 3)]) (N := ["self", "moment", "before", "after"]) (sc := defScope sChanges) (by decide +kernel)) (by rw [List.length_map]; omega) (fun p d v H1 hd hp s1 Lp hv => ?_)).to (fm_map rowD _ chD (fun _ => rfl) rs)) q)
    obtain ⟨r, _, rfl⟩ := mem_row hd
    obtain ⟨t, rfl, ht⟩ := row_at hv
    intro s0 H0 C0 cl fp
    refine rg_tup (same_seqT hid_le ht) (rgs_cons (rg_name 1 (rgs_cons (rg_name 2 (rgs_cons (rg_name 3 (rgs_nil ?_) scChanges.nd)) scChanges.nd)) scChanges.nd))
    refine ⟨rfl, bt_nil ⟨Same.refl _, .inl ⟨rfl, _, rfl, fun s0 H0 C0 cl fp => ?_⟩⟩⟩
    exact XD.go (xd_tup Lp (xa_cons (xd_name 1 rfl (.int r.1)) (xa_cons (xd_name 3 rfl (.int r.2.2)) xa_nil))) fun v H2 s2 hv2 => ⟨s2, hv2⟩
/-! jump_list, gaps, folds -/
theorem scJumps : FnScope ["self", "row"] ["self"] (defScope sJumps) := ⟨rfl, rfl, rfl, by decide +kernel, rfl, by decide +kernel, by decide +kernel⟩
theorem ok_jumps {f fJ : Addr} {fd fdJ : FuncData} (Z : ZT K mg C) (FJ : Df K mg "jump_of" sJump ["row"] fJ fdJ) (F : Fun K "jump_list" "Zone.jump_list" sJumps f fd) : FnOk P w K mg base CX0 2 f fd ["self"] (spML K C fun _ rs => rs.map fun r => .int (jmp r)) := by
  have GJ : FnOk P w K mg base CX0 1 fJ fdJ ["row"] (spR K RJump) := ok_jump FJ
  refine F.ok scJumps (fun vs H Q E h => ?_) (fun cdv A outer s H vs Q E hr h => ?_)
  · obtain ⟨M, a, off, rs, rfl, _⟩ := h; rfl
  · obtain ⟨M, a, off, rs, rfl, L, hz, hlen, q⟩ := h
    refine rb_retR (XL.go (M := M) ((xl_comp (own := [("row", 1)]) (fun d => match d with | .tuple [_, .int y, .int z] => some (.int (z - y)) | _ => none) L scJumps.nd (xd_rows ⟨_, Z⟩ hz (xv_name 0 rfl))
      (blkOk_by (own := [("row", 1)]) (N := ["self", "row"]) (sc := defScope sJumps) (by decide +kernel)) (by rw [List.length_map]; omega) (fun p d v H1 hd hp s1 Lp hv => ?_)).to (fm_map rowD _ (fun r => .int (jmp r)) (fun _ => rfl) rs)) q)
    obtain ⟨r, _, rfl⟩ := mem_row hd
    intro s0 H0 C0 cl fp
    refine rg_name 1 ?_ scJumps.nd
    refine ⟨rfl, bt_nil ⟨Same.refl _, .inl ⟨rfl, _, rfl, fun s0 H0 C0 cl fp => ?_⟩⟩⟩
    exact XD.go (xd_call Lp GJ hr FJ.g FJ.F.kp FJ.b (xa_cons (xd_name 1 rfl hv) xa_nil) ⟨r, rfl, rfl⟩) fun v H2 s2 hv2 => ⟨s2, hv2⟩
end
end Zn

set_option Elab.async false
set_option linter.all false
set_option maxRecDepth 100000
set_option maxHeartbeats 4000000
namespace Zn
open PySem PySem.Spec PyProof.Rows L2 Dl
/-! ### data of rows compared -/
theorem eqv_row (r r' : Row) : PyData.eqv (rowD r) (rowD r') = decide (r = r') := by
  obtain ⟨a, b, c⟩ := r
  obtain ⟨a', b', c'⟩ := r'
  by_cases h : ((a, b, c) : Row) = (a', b', c')
  · cases h
    simp [rowD, PyData.eqv, PyData.eqvAll]
  · rw [decide_eq_false h]
    simp only [rowD, PyData.eqv, PyData.eqvAll, Bool.and_true]
    by_cases h1 : a = a'
    · by_cases h2 : b = b'
      · by_cases h3 : c = c'
        · subst h1; subst h2; subst h3; exact absurd rfl h
        · simp [h3]
      · simp [h2]
    · simp [h1]
theorem eqv_rows : ∀ (rs rs' : List Row), PyData.eqvAll (rs.map rowD) (rs'.map rowD) = decide (rs = rs')
  | [], [] => by simp [PyData.eqvAll]
  | [], r' :: rs' => by simp [PyData.eqvAll]
  | r :: rs, [] => by simp [PyData.eqvAll]
  | r :: rs, r' :: rs' => by
    rw [List.map_cons, List.map_cons]
    show (PyData.eqv (rowD r) (rowD r') && PyData.eqvAll (rs.map rowD) (rs'.map rowD)) = _
    rw [eqv_row, eqv_rows rs rs']
    by_cases h1 : r = r'
    · by_cases h2 : rs = rs'
      · simp [h1, h2]
      · simp [h1, h2]
    · simp [h1]
theorem lay_rows : ∀ rs : List Row, PyData.canLayAll0 (rs.map rowD) = true
  | [] => by simp [PyData.canLayAll0]
  | r :: rs => by
    rw [List.map_cons]
    show (PyData.canLay0 (rowD r) && PyData.canLayAll0 (rs.map rowD)) = true
    rw [lay_rows rs]
    simp [rowD, PyData.canLay0, PyData.canLayAll0]
theorem depth_rows : ∀ rs : List Row, PyData.depthAll (rs.map rowD) ≤ 1
  | [] => by simp [PyData.depthAll]
  | r :: rs => by
    rw [List.map_cons]
    show max (PyData.depth (rowD r)) (PyData.depthAll (rs.map rowD)) ≤ 1
    have := depth_rows rs
    have e : PyData.depth (rowD r) = 1 := by simp [rowD, PyData.depth, PyData.depthAll]
    omega
theorem shaped_rows (rs : List Row) : SeqAt.shaped (.list (rs.map rowD)) = true := by
  unfold SeqAt.shaped
  have h := depth_rows rs
  have e : PyData.depth (.list (rs.map rowD)) = PyData.depthAll (rs.map rowD) + 1 := by simp [PyData.depth]
  rw [show PyData.canLay0 (.list (rs.map rowD)) = PyData.canLayAll0 (rs.map rowD) by simp [PyData.canLay0], lay_rows, e]
  simp
  omega
/-! ### gaps, folds -/
def gapsOf (rs : List Row) : List PyData := rs.filterMap fun r => if 0 < jmp r then some (tornD r) else none
def foldsOf (rs : List Row) : List PyData := rs.filterMap fun r => if jmp r < 0 then some (tornD r) else none
theorem fm_fm {α : Type} (g : α → PyData) (f : PyData → Option PyData) (h : α → Option PyData) (e : ∀ r, f (g r) = h r) : ∀ rs : List α, (rs.map g).filterMap f = rs.filterMap h
  | [] => rfl
  | r :: rs => by rw [List.map_cons, List.filterMap_cons, List.filterMap_cons, e r, fm_fm g f h e rs]
theorem int_all {K : PySem.W.Frag} {H : Hp} : ∀ {ns : List Int} {xs : List V}, DqAll K H xs (ns.map PyData.int) → xs = ns.map V.int
  | [], _, h => by cases h; rfl
  | n :: ns, _, h => by
    cases h with
    | cons a b => rw [dp_int a, int_all b]; rfl
theorem inV_int (n : Int) : ∀ ns : List Int, inV (.int n) (ns.map V.int) = ns.any (fun m => m == n)
  | [] => rfl
  | m :: ns => by
    show (eqV (.int m) (.int n) || inV (.int n) (ns.map V.int)) = _
    rw [inV_int n ns]
    rfl
theorem flat_int : ∀ ns : List Int, (ns.map V.int).all flatV = true
  | [] => rfl
  | n :: ns => flat_int ns
section
variable {X : Cx} {M : List Addr} {σ : L2.St} {H H' : Hp} {a b : Expr} {pos : Pos}
theorem xd_inI {n : Int} {ns : List Int} (ha : XD X M σ H a (.int n)) (hb : XD X M σ H b (.list (ns.map PyData.int))) (hm : behindInMarks .In b = false := by rfl) : XD X M σ H (.Compare a [.In] [b] pos) (.bool (ns.any fun m => m == n)) :=
  xd_cmp op_in_seq ha hb (fun H1 v w s hv hw Q q => by
    obtain ⟨p, xs, rfl, hp, hx⟩ := dp_lst hw
    have e := int_all hx
    subst e
    rw [dp_int hv]
    exact ⟨p, _, rfl, .inl (SqL.of (hid_le _ _ hp)), rfl, flat_int ns, by rw [inV_int]; exact q _ H1 (Same.refl _) (.bl _)⟩) hm
end
section
variable {P : Program} {w : World} {K : PySem.W.Frag} {mg : Str → Option Value} {base : Heap} {C : Addr}
/-! ### in -/
def inB (rs : List Row) : PyData → Bool
  | .int n => (rs.map (·.1)).any fun m => m == n
  | _ => false
def spCont (K : PySem.W.Frag) (C : Addr) : Sp := fun vs H Q _ => ∃ (M : List Addr) (a : Addr) (off : Int) (rs : List Row) (v : V) (d : PyData), vs = [.ref a, v] ∧ Live M H ∧ ZAt K C (hid M H) a off rs ∧ rs.length ≤ 1000 ∧ Dq K (hid M H) v d ∧
  ∀ H1, Same H H1 → Q (.bl (inB rs d)) H1
theorem scCont : FnScope ["self", "x", "row"] ["self", "x"] (defScope sCont) := ⟨rfl, rfl, rfl, by decide +kernel, rfl, by decide +kernel, by decide +kernel⟩
theorem ok_cont {f fW : Addr} {fd fdW : FuncData} (T : Nm mg) (Z : ZT K mg C) (FW : Df K mg "is_whole" sWhole ["value"] fW fdW) (F : Fun K "__contains__" "Zone.__contains__" sCont f fd) : FnOk P w K mg base CX0 2 f fd ["self", "x"] (spCont K C) := by
  have GW : FnOk P w K mg base CX0 1 fW fdW ["value"] (spR K RWhole) := ok_whole T FW
  refine F.ok scCont (fun vs H Q E h => ?_) (fun cdv A outer s H vs Q E hr h => ?_)
  · obtain ⟨M, a, off, rs, v, d, rfl, _⟩ := h; rfl
  · obtain ⟨M, a, off, rs, v, d, rfl, L, hz, hlen, hd, q⟩ := h
    by_cases hwh : whole d = true
    · obtain ⟨n, rfl⟩ : ∃ n, d = .int n := by
        cases d <;> first | exact ⟨_, rfl⟩ | exact absurd hwh Bool.false_ne_true
      refine rb_ret (M := M) (xd_andT (xd_call L GW hr FW.g FW.F.kp FW.b (xa_cons (xd_name 1 rfl hd) xa_nil) ⟨.int n, rfl, rfl⟩) (xd_one (xd_inI (ns := rs.map (·.1)) (xd_name 1 rfl hd) (((xl_comp (own := [("row", 2)]) (fun d => match d with | .tuple [x, _, _] => some x | _ => none) L scCont.nd (xd_rows ⟨_, Z⟩ hz (xv_name 0 rfl))
        (blkOk_by (own := [("row", 2)]) (N := ["self", "x", "row"]) (sc := defScope sCont) (by decide +kernel)) (by rw [List.length_map]; omega) (fun p d v H1 hd hp s1 Lp hv => ?_)).to ((fm_map rowD _ (fun r => .int r.1) (fun _ => rfl) rs).trans (by rw [List.map_map]; rfl))).dd L)))) fun v H1 s1 hv => by
        rw [dp_bl hv]
        exact q H1 s1
      obtain ⟨r, _, rfl⟩ := mem_row hd
      intro s0 H0 C0 cl fp
      refine rg_name 2 ?_ scCont.nd
      refine ⟨rfl, bt_nil ⟨Same.refl _, .inl ⟨rfl, _, rfl, fun s0 H0 C0 cl fp => ?_⟩⟩⟩
      exact XD.go (xd_ixT (fun _ _ => rfl) (xd_name 2 rfl hv) xd_int rfl) fun v H2 s2 hv2 => ⟨s2, hv2⟩
    · have e : whole d = false := by cases h : whole d <;> simp_all
      refine rb_ret (M := M) (xd_andF ((xd_call L GW hr FW.g FW.F.kp FW.b (xa_cons (xd_name 1 rfl hd) xa_nil) ⟨d, rfl, rfl⟩).to (by rw [e]))) fun v H1 s1 hv => ?_
      rw [dp_bl hv]
      have e2 : inB rs d = false := by cases d <;> first | rfl | exact absurd rfl hwh
      rw [← e2]
      exact q H1 s1
end
end Zn

set_option Elab.async false
set_option linter.all false
set_option maxRecDepth 100000
set_option maxHeartbeats 4000000
namespace Zn
open PySem PySem.Spec PyProof.Rows L2 Dl
/-! ### == -/
/-- what the written part says of isinstance(.., Zone) -/
structure ZI (K : PySem.W.Frag) (C : Addr) : Prop where
  ha : PySem.W.findIn K (.ref C) "__class__" = some (some (.builtin "object.__class__"))
  hn : PySem.W.specialIn K (.builtin "object.__class__") "__get__" = some (some (.builtin "getset_descriptor.__get__"))
  htk : PySem.W.takesIn K (.builtin "object.__class__") = some true
  hm : PySem.W.mroIn K C (.type "object") = some true
  yes : PySem.W.kitOne K (.ref C) (.ref C) = some true
  no : PySem.W.kitOne K (.type "list") (.ref C) = some false
def spEqZ (K : PySem.W.Frag) (C : Addr) : Sp := fun vs H Q _ => ∃ (M : List Addr) (a b : Addr) (off : Int) (rs : List Row), vs = [.ref a, .ref b] ∧ Live M H ∧ ZAt K C (hid M H) a off rs ∧
  ((∃ off' rs', ZAt K C (hid M H) b off' rs' ∧ ∀ H1, Same H H1 → Q (.bl (decide (off = off' ∧ rs = rs'))) H1) ∨ (∃ xs, H b = some (.lst xs) ∧ ∀ H1, Same H H1 → Q (.bl false) H1))
section
variable {P : Program} {w : World} {K : PySem.W.Frag} {mg : Str → Option Value} {base : Heap} {C : Addr}
/-- isinstance(o, Zone) -/
theorem xd_isZ {X : Cx} {M : List Addr} {σ : L2.St} {H : Hp} {o : Expr} {pos p1 p2 : Pos} {t : Value} {r : Bool} {v : V} (hm : X.mg "isinstance" = none) (hC : X.mg "Zone" = some (.ref C)) (ho : XV X σ H o v) (hty : TyX X.K H v t) (hup : ∀ H1, Same H H1 → TyX X.K H1 v t) (hk : PySem.W.kitOne X.K t (.ref C) = some r) (hg : Gl X "isinstance" := by rfl) (hgZ : Gl X "Zone" := by rfl)
    (he : starEach [o, .Name "Zone" p2] X.env = (false, eval o X.env) :: starEach [.Name "Zone" p2] X.env := by rfl) (he2 : starEach [.Name "Zone" p2] X.env = (false, eval (.Name "Zone" p2) X.env) :: starEach [] X.env := by rfl) (hpl : (backTo pos (starEach [.Name "Zone" p2] X.env)).any (·.1) = false := by rfl) :
    XD X M σ H (.Call (.Name "isinstance" p1) [o, .Name "Zone" p2] [] pos) (.bool r) := fun H1 s Q q =>
  re_B call_isi (ra_cons (ho H1 s _ fun H2 s2 => ra_1 (xv_glob (v := .ref C) hC rfl hgZ (by decide) H2 (Same.refl _) _ fun H3 s3 => ⟨v, .ref C, t, .ref C, r, rfl, .own C, hup H3 ((s.trans s2).trans s3), hk, q _ H3 (s2.trans s3) (.bl _)⟩) he2) he) hm (by decide +kernel) hg (by decide) (by decide) he hpl
theorem scEq : FnScope ["self", "other"] ["self", "other"] (defScope sEq) := ⟨rfl, rfl, rfl, by decide +kernel, rfl, by decide +kernel, by decide +kernel⟩
theorem ok_eq {f : Addr} {fd : FuncData} (T : Nm mg) (Z : ZT K mg C) (I : ZI K C) (F : Fun K "__eq__" "Zone.__eq__" sEq f fd) : FnOk P w K mg base CX0 1 f fd ["self", "other"] (spEqZ K C) := by
  refine F.ok scEq (fun vs H Q E h => ?_) (fun cdv A outer s H vs Q E hr h => ?_)
  · obtain ⟨M, a, b, off, rs, rfl, _⟩ := h; rfl
  · obtain ⟨M, a, b, off, rs, rfl, L, hz, h⟩ := h
    rcases h with ⟨off', rs', hz', q⟩ | ⟨xs, hb, q⟩
    · have hty : ∀ H1, Same H H1 → TyX K H1 (.ref b) (.ref C) := fun H1 s1 => by
        obtain ⟨dx, r, e1, _⟩ := hz'
        exact .base (.ins (s1 _ _ (hid_le _ _ e1)) Z.cl I.ha I.hn I.htk I.hm)
      have e : (decide (off = off') && decide (rs = rs')) = decide (off = off' ∧ rs = rs') := by rw [Bool.decide_and]
      refine rb_ret (M := M) (xd_andT (xd_isZ T.isi Z.mgC (xv_name 1 rfl) (hty H (Same.refl H)) hty I.yes) (xd_and2 (xd_eqI (xv_base ⟨_, Z⟩ hz (xv_name 0 rfl)).int (xv_base ⟨_, Z⟩ hz' (xv_name 1 rfl)).int) fun _ =>
        ((xd_eqD hr.units (xd_rows ⟨_, Z⟩ hz (xv_name 0 rfl)) (xd_rows ⟨_, Z⟩ hz' (xv_name 1 rfl)) (shaped_rows rs) (shaped_rows rs')).to (by rw [show PyData.eqv (.list (rs.map rowD)) (.list (rs'.map rowD)) = PyData.eqvAll (rs.map rowD) (rs'.map rowD) by simp [PyData.eqv], eqv_rows])))) fun v H1 s1 hv => ?_
      rw [dp_bl hv, e]
      exact q H1 s1
    · have hty : ∀ H1, Same H H1 → TyX K H1 (.ref b) (.type "list") := fun H1 s1 => .base (.lst (s1 _ _ hb))
      refine rb_ret (M := M) (xd_andF (xd_isZ T.isi Z.mgC (xv_name 1 rfl) (hty H (Same.refl H)) hty I.no)) fun v H1 s1 hv => ?_
      rw [dp_bl hv]
      exact q H1 s1
/-! ### Zone(..) -/
/-- a zone just made: neither it nor its list of rows was there before -/
def ZNew (K : PySem.W.Frag) (C : Addr) (H0 : Hp) (M : List Addr) (H1 : Hp) (y : Addr) (off : Int) (rs : List Row) : Prop := H0 y = none ∧ ∃ dx r, H0 r = none ∧ hid M H1 y = some (.ins C dx (zf off r)) ∧ Dq K (hid M H1) (.ref r) (.list (rs.map rowD))
theorem ZNew.at {K : PySem.W.Frag} {C : Addr} {H0 : Hp} {M : List Addr} {H1 : Hp} {y : Addr} {off : Int} {rs : List Row} (h : ZNew K C H0 M H1 y off rs) : ZAt K C (hid M H1) y off rs := by
  obtain ⟨_, dx, r, _, h1, h2⟩ := h
  exact ⟨dx, r, h1, h2⟩
def spInit (K : PySem.W.Frag) (C : Addr) : Sp := fun vs H Q _ => ∃ (M : List Addr) (H0 : Hp) (y dx : Addr) (off : Int) (vq : V) (sq : PyData) (items : List PyData) (cs : List (Int × Int)), vs = [.ref y, .int off, vq] ∧ H = upd (upd H0 dx (.own y)) y (.ins C dx []) ∧ H0 y = none ∧ H0 dx = none ∧ dx ≠ y ∧ Live M H0 ∧
  Dq K (hid M H0) vq sq ∧ (sq = .list items ∨ sq = .tuple items) ∧ Items items cs ∧ okR (rowsOf off cs) ∧ cs.length ≤ 1000 ∧ ∀ H1, Same H0 H1 → ZNew K C H0 M H1 y off (rowsOf off cs) → Q .non H1
theorem scInit : FnScope ["self", "offset", "changes"] ["self", "offset", "changes"] (defScope sInit) := ⟨rfl, rfl, rfl, by decide +kernel, rfl, by decide +kernel, by decide +kernel⟩
theorem ok_init {f fN fR fW fP fJ fI fF : Addr} {fd fdN fdR fdW fdP fdJ fdI fdF : FuncData} (T : Nm mg) (Z : ZT K mg C) (hG : ∃ t, mg "GREATEST_JUMP" = some (.int 720 t)) (FW : Df K mg "is_whole" sWhole ["value"] fW fdW) (FP : Df K mg "is_whole_pair" sPair ["value"] fP fdP)
    (FJ : Df K mg "jump_of" sJump ["row"] fJ fdJ) (FI : Df K mg "is_jump" sIsJump ["value"] fI fdI) (FF : Df K mg "can_follow" sFollow ["rows", "row"] fF fdF) (FR : Df K mg "rows_of" sRows ["offset", "changes"] fR fdR) (FN : Df K mg "need_integer" sNeed ["value"] fN fdN)
    {kV dc pm cd ct oc dV : Value} {od an : Option Addr} {osl : Array (Option Value)} (lk : K.lookup f = some ⟨oc, od, .func (PySem.W.fnOf "__init__" "Zone.__init__" (defArgs sInit) (defBody sInit) (defScope sInit) dV kV dc pm an cd ct), osl⟩) (hcd : PySem.W.codeIn K cd "Zone.__init__" = true) :
    FnOk P w K mg base CX0 4 f (PySem.W.fnOf "__init__" "Zone.__init__" (defArgs sInit) (defBody sInit) (defScope sInit) dV kV dc pm an cd ct) ["self", "offset", "changes"] (spInit K C) := by
  have GN : FnOk P w K mg base CX0 3 fN fdN ["value"] (spR K RNeed) := (ok_need T FW FN).mono (by decide)
  have GR : FnOk P w K mg base CX0 3 fR fdR ["offset", "changes"] (spL K RRows) := ok_rows T hG FW FP FJ FI FF FR
  refine fn_of lk hcd scInit (fun vs H Q E h => ?_) (fun A outer s H vs Q E hr h => ?_)
  · obtain ⟨M, H0, y, dx, off, vq, sq, items, cs, rfl, _⟩ := h; rfl
  · obtain ⟨M, H0, y, dx, off, vq, sq, items, cs, rfl, rfl, hy, hdx, hne, L, hq, hsq, hit, hok, hlen, q⟩ := h
    suffices h : RB (cxOf CX0 P w K mg base ["self", "offset", "changes"] "Zone.__init__" (defScope sInit) f cd A outer s (upd (upd H0 dx (.own y)) y (.ins C dx [])) E).nox (defBody sInit) { nx := fun _ H' => Q .non H', rt := Q } (start ["self", "offset", "changes"] [V.ref y, V.int off, vq]) (upd (upd H0 dx (.own y)) y (.ins C dx [])) by
      obtain ⟨t, h1, h2⟩ := h
      exact ⟨t, h1.nox, h2⟩
    have hy1 : upd H0 dx (.own y) y = none := by rw [upd_ne (Ne.symm hne)]; exact hy
    have s0 : Same H0 (upd (upd H0 dx (.own y)) y (.ins C dx [])) := (same_new hdx).trans (same_new hy1)
    have eh : hid (y :: M) (upd (upd H0 dx (.own y)) y (.ins C dx [])) = hid M (upd H0 dx (.own y)) := hid_cons hy1
    have Ly : Live (y :: M) (upd (upd H0 dx (.own y)) y (.ins C dx [])) := (L.mono (same_new hdx)).cons hy1
    have hq1 : Dq K (hid (y :: M) (upd (upd H0 dx (.own y)) y (.ins C dx []))) vq sq := by rw [eh]; exact hq.up (hid_mono (same_new hdx))
    generalize hH : upd (upd H0 dx (.own y)) y (.ins C dx []) = H at s0 Ly hq1
    have hyH : H y = some (.ins C dx []) := by rw [← hH]; exact upd_same
    -- need_integer(offset)
    refine rb_expr (M := y :: M) (d := .none) (xd_call Ly GN hr FN.g FN.F.kp FN.b (xa_cons (xd_name 1 rfl (.int off)) xa_nil) ⟨off, rfl, rfl⟩) fun H1 s1 => ?_
    have hq2 := hq1.up (hid_mono (M := y :: M) s1)
    have Ly1 := Ly.mono s1
    -- isinstance(changes, (list, tuple))
    have ist : ∀ {p1 p2 p3 p4 p5 p6 : Pos} {k3}, XD (cxOf CX0 P w K mg base ["self", "offset", "changes"] "Zone.__init__" (defScope sInit) f cd A outer s H E).nox (y :: M) (start ["self", "offset", "changes"] [V.ref y, V.int off, vq]) H1 (.Call (.Name "isinstance" p1) [.Name "changes" p2, .Tuple [.Name "list" p3, .Name "tuple" p4] k3 p5] [] p6) (.bool true) := fun {p1 p2 p3 p4 p5 p6 k3} => by
      rcases hsq with rfl | rfl
      · exact (xd_is2 (d := .list items) (r1 := true) (r2 := false) (T1 := "list") (T2 := "tuple") k_ll k_lt T.isi T.lst (by decide +kernel) T.tup (by decide +kernel) (xd_name 2 rfl hq2)).to rfl
      · exact (xd_is2 (d := .tuple items) (r1 := false) (r2 := true) (T1 := "list") (T2 := "tuple") k_tl k_tt T.isi T.lst (by decide +kernel) T.tup (by decide +kernel) (xd_name 2 rfl hq2)).to rfl
    refine rb_ifF ((xt_not (xt_val (M := y :: M) ist)).to rfl) fun H2 s2 => ?_
    -- self.base = offset
    refine rb_fld (pa := y) (dx := dx) (fs := []) (XV.go (xv_name 1 rfl) fun H3 s3 => ⟨s3 _ _ (s2 _ _ (s1 _ _ hyH)), (by decide), xv_name 0 rfl, fun H4 s4 => ?_⟩) Z.cl Z.nB
    have s24 := (s2.trans s3).trans s4
    have hq5 : Dq K (hid (y :: M) (upd H4 y (.ins C dx (putF "base" (.int off) [])))) vq sq := by rw [hid_cons_upd]; exact hq2.up (hid_mono s24)
    have L5 : Live (y :: M) (upd H4 y (.ins C dx (putF "base" (.int off) []))) := (Ly1.mono s24).upd
    have s05 : Same H0 (upd H4 y (.ins C dx (putF "base" (.int off) []))) := same_upd ((s0.trans s1).trans s24) hy
    have h5y : upd H4 y (.ins C dx (putF "base" (.int off) [])) y = some (.ins C dx [("base", .int off)]) := upd_same
    generalize upd H4 y (.ins C dx (putF "base" (.int off) [])) = H5 at hq5 L5 s05 h5y
    -- self.rows = rows_of(offset, changes)
    refine rb_fld (pa := y) (dx := dx) (fs := [("base", .int off)]) (XL.go (M := y :: M) (xl_call L5 GR hr FR.g FR.F.kp FR.b (xa_cons (xd_name 1 rfl (.int off)) (xa_cons (xd_name 2 rfl hq5) xa_nil)) ⟨off, sq, items, cs, rfl, hsq, hit, hok, hlen, rfl⟩) fun p xs H6 s6 hp6 h6 hx6 =>
      ⟨s6 _ _ h5y, (by show 1 < 1000; decide), xv_name 0 rfl, fun H7 s7 => rb_nil (q _ (same_upd ((s05.trans s6).trans s7) hy) ?_)⟩) Z.cl Z.nR
    rw [zf_put]
    have npy : p ≠ y := fun z => by rw [z, h5y] at hp6; cases hp6
    have npM : p ∉ M := fun z => (Live.tail L5) p z hp6
    refine ⟨hy, dx, p, s05.free hp6, by rw [hid_of (L.fresh hy)]; exact upd_same, .lst (xs := xs) ?_ (hx6.up ?_)⟩
    · rw [hid_of npM, upd_ne npy]
      exact s7 _ _ h6
    · have z := (hid_mono (M := y :: M) s7)
      have z2 : Same (hid (y :: M) (upd H7 y (.ins C dx (zf off p)))) (hid M (upd H7 y (.ins C dx (zf off p)))) := hid_weak
      rw [hid_cons_upd] at z2
      exact z.trans z2
/-! ### a zone is made -/
/-- the expression makes a new zone -/
def XZ (C : Addr) (X : Cx) (M : List Addr) (σ : L2.St) (H : Hp) (e : Expr) (off : Int) (rs : List Row) : Prop := ∀ H1, Same H H1 → ∀ Q : VK, (∀ y H2, Same H1 H2 → ZAt X.K C (hid M H2) y off rs → Q (.ref y) H2) → RE X e σ H1 Q
theorem XZ.go {X : Cx} {M : List Addr} {σ : L2.St} {H : Hp} {e : Expr} {off : Int} {rs : List Row} {Q : VK} (h : XZ C X M σ H e off rs) (k : ∀ y H2, Same H H2 → ZAt X.K C (hid M H2) y off rs → Q (.ref y) H2) : RE X e σ H Q := h H (Same.refl H) Q k
/-- all that making a zone wants -/
structure ZMk (P : Program) (w : World) (K : PySem.W.Frag) (mg : Str → Option Value) (base : Heap) (C f : Addr) (fd : FuncData) (et : Addr) : Prop where
  Z : ZT K mg C
  mkk : Mk K C f
  G : FnOk P w K mg base CX0 4 f fd ["self", "offset", "changes"] (spInit K C)
  b2 : Binds K fd ["self", "offset", "changes"] []
  b1 : Binds K fd ["self", "offset", "changes"] [.ref et]
  et : SqT K (fun _ => none) et []
theorem xzn_make {X : Cx} {M : List Addr} {σ : L2.St} {H : Hp} {a b : Expr} {pos p1 : Pos} {off : Int} {sq : PyData} {items : List PyData} {cs : List (Int × Int)} {f et : Addr} {fd : FuncData} (L : Live M H) (W : ZMk X.prog X.w X.K X.mg X.base C f fd et) (hr : Room 5 X.A)
    (ha : XD X M σ H a (.int off)) (hb : XD X M σ H b sq) (hsq : sq = .list items ∨ sq = .tuple items) (hit : Items items cs) (hok : okR (rowsOf off cs)) (hlen : cs.length ≤ 1000) (hg : Gl X "Zone" := by rfl)
    (he : starEach [a, b] X.env = (false, eval a X.env) :: starEach [b] X.env := by rfl) (he2 : starEach [b] X.env = (false, eval b X.env) :: starEach [] X.env := by rfl) (hpl : (backTo pos (starEach [b] X.env)).any (·.1) = false := by rfl) : ∀ H1, Same H H1 → ∀ Q : VK, (∀ y H0 H2, Same H1 H0 → Same H0 H2 → ZNew X.K C H0 M H2 y off (rowsOf off cs) → Q (.ref y) H2) → RE X (.Call (.Name "Zone" p1) [a, b] [] pos) σ H1 Q := fun H1 s Q q =>
  re_make W.mkk W.G hr W.Z.mgC W.b2 .nil (ra_cons (ha H1 s _ fun v H2 s2 hv => ra_1 (hb H2 (s.trans s2) _ fun u H3 s3 hu y dx hy hdx hne => by
    rw [dp_int hv]
    refine ⟨M, H3, y, dx, off, u, sq, items, cs, rfl, rfl, hy, hdx, hne, L.mono ((s.trans s2).trans s3), hu, hsq, hit, hok, hlen, fun H4 s4 hz => ⟨rfl, q y H3 H4 (s2.trans s3) s4 hz⟩⟩) he2) he) hg (by decide) he hpl
theorem xz_make {X : Cx} {M : List Addr} {σ : L2.St} {H : Hp} {a b : Expr} {pos p1 : Pos} {off : Int} {sq : PyData} {items : List PyData} {cs : List (Int × Int)} {f et : Addr} {fd : FuncData} (L : Live M H) (W : ZMk X.prog X.w X.K X.mg X.base C f fd et) (hr : Room 5 X.A)
    (ha : XD X M σ H a (.int off)) (hb : XD X M σ H b sq) (hsq : sq = .list items ∨ sq = .tuple items) (hit : Items items cs) (hok : okR (rowsOf off cs)) (hlen : cs.length ≤ 1000) (hg : Gl X "Zone" := by rfl)
    (he : starEach [a, b] X.env = (false, eval a X.env) :: starEach [b] X.env := by rfl) (he2 : starEach [b] X.env = (false, eval b X.env) :: starEach [] X.env := by rfl) (hpl : (backTo pos (starEach [b] X.env)).any (·.1) = false := by rfl) : XZ C X M σ H (.Call (.Name "Zone" p1) [a, b] [] pos) off (rowsOf off cs) := fun H1 s Q q =>
  xzn_make L W hr ha hb hsq hit hok hlen hg he he2 hpl H1 s Q fun y H0 H2 s1 s2 hz => q y H2 (s1.trans s2) hz.at
theorem xz_make1 {X : Cx} {M : List Addr} {σ : L2.St} {H : Hp} {a : Expr} {pos p1 : Pos} {off : Int} {f et : Addr} {fd : FuncData} (L : Live M H) (W : ZMk X.prog X.w X.K X.mg X.base C f fd et) (hr : Room 5 X.A)
    (ha : XD X M σ H a (.int off)) (hg : Gl X "Zone" := by rfl) (he : starEach [a] X.env = (false, eval a X.env) :: starEach [] X.env := by rfl) (hpl : (backTo pos (starEach [] X.env)).any (·.1) = false := by rfl) : XZ C X M σ H (.Call (.Name "Zone" p1) [a] [] pos) off [] := fun H1 s Q q =>
  re_make (dvs := [.ref et]) W.mkk W.G hr W.Z.mgC W.b1 (.cons rfl .nil) (ra_1 (ha H1 s _ fun v H2 s2 hv y dx hy hdx hne => by
    rw [dp_int hv]
    refine ⟨M, H2, y, dx, off, .ref et, .tuple [], [], [], rfl, rfl, hy, hdx, hne, L.mono (s.trans s2), .tup (same_seqT (fun _ _ z => by cases z) W.et) .nil, .inr rfl, ⟨rfl, fun i it z => by simp at z⟩, fun k r z => by simp [rowsOf] at z, Nat.zero_le _, fun H4 s4 hz => ⟨rfl, q y H4 (s2.trans s4) hz.at⟩⟩) he) hg (by decide) he hpl
end
end Zn

set_option Elab.async false
set_option linter.all false
set_option maxRecDepth 100000
set_option maxHeartbeats 4000000
namespace Zn
open PySem PySem.Spec PyProof.Rows L2 Dl
section
variable {X : Cx} {M : List Addr} {σ : L2.St} {H H' : Hp} {e a b o ie : Expr} {d : PyData} {ds : List PyData} {pos p1 p2 p3 : Pos} {D : Ends} {rest : List Stmt} {v : V} {xs : List V}
/-! ### lists by the values themselves -/
theorem xv_lenS {p : Addr} (hm : X.mg "len" = none) (ha : XV X σ H e (.ref p)) (hS : SqL X.K H p xs) (hg : Gl X "len" := by rfl) (he : starEach [e] X.env = (false, eval e X.env) :: starEach [] X.env := by rfl) (hpl : (backTo pos (starEach [] X.env)).any (·.1) = false := by rfl) :
    XV X σ H (.Call (.Name "len" p1) [e] [] pos) (.int xs.length) := fun H1 s Q q =>
  re_B call_len_seq (ra_1 (ha H1 s _ fun H2 s2 => ⟨p, xs, rfl, .inl ((s.trans s2).seq hS), q H2 s2⟩) he) hm PySem.boot_len hg (by decide) (by decide) he hpl
theorem xv_ixS {p : Addr} {n : Int} (hs : PlainIx b) (ha : XV X σ H a (.ref p)) (hS : SqL X.K H p xs) (hb : XV X σ H b (.int n)) (h : atI xs n = some v) : XV X σ H (.Subscript a b pos) v := fun H1 s Q q =>
  ⟨_, pe_ix ix_list re_ re_ hs, ha H1 s _ fun H2 s2 => hb H2 (s.trans s2) _ fun H3 s3 => ⟨p, xs, n, v, rfl, rfl, ((s.trans s2).trans s3).seq hS, h, q H3 (s2.trans s3)⟩⟩
/-- o[i] = e -/
theorem rb_setIx {l : Addr} {n : Int} {j : Nat} (hl : H l = some (.lst xs)) (he : XD X M σ H e d) (ho : XV X σ H o (.ref l)) (hi : XV X σ H ie (.int n)) (hj : ixN xs.length n = some j) (k : ∀ v H1, Same H H1 → Dq X.K (hid M H1) v d → RB X rest D σ (upd H1 l (.lst (xs.set j v))))
    (hs : swapsWithSole [.Subscript o ie p1] e pos.line X.env = pure false := by rfl) (hw : swappedStores [.Subscript o ie p1] e X.env = pure none := by rfl) (h1 : (assignEach [.Subscript o ie p1] X.env).map (·.2) = [assign (.Subscript o ie p1) X.env] := by rfl)
    (hg : PG X (.Subscript o ie p1) (gSub (RE X o) (RE X ie) rSetL) := by exact pg_sub re_ re_ set_list) : RB X (.Assign [.Subscript o ie p1] e pos :: rest) D σ H :=
  rb_asgR (he.go fun v H1 s1 hv => ⟨_, hg, ho H1 s1 _ fun H2 s2 => hi H2 (s1.trans s2) _ fun H3 s3 => ⟨l, xs, n, j, rfl, rfl, ((s1.trans s2).trans s3) _ _ hl, hj, k v H3 ((s1.trans s2).trans s3) (hv.up (hid_mono (s2.trans s3)))⟩⟩) hs hw h1
theorem xd_pow {m n : Int} (ha : XD X M σ H a (.int m)) (hb : XD X M σ H b (.int n)) (hc : CPow m n) : XD X M σ H (.BinOp a .Pow b pos) (.int (m ^ n.toNat)) := xd_binI op_pow ha hb hc
theorem xd_mod {m n : Int} (ha : XD X M σ H a (.int m)) (hb : XD X M σ H b (.int n)) (hc : 0 < n) : XD X M σ H (.BinOp a .Mod b pos) (.int (m % n)) := xd_binI op_mod ha hb hc
theorem xd_div {m n : Int} (ha : XD X M σ H a (.int m)) (hb : XD X M σ H b (.int n)) (hc : CDivW m n) : XD X M σ H (.BinOp a .FloorDiv b pos) (.int (m / n)) := xd_binI op_fdivW ha hb hc
end
abbrev sCell : Stmt := top 34
abbrev sBag : Stmt := top 35
abbrev sTake : Stmt := top 36
/-- the bag: a great rest, a seed, a count up to n -/
def BagAt (H : Hp) (b : Addr) (n : Nat) : Prop := ∃ (g m c : Int), H b = some (.lst [.int g, .int m, .int c]) ∧ 0 ≤ m ∧ m < 2147483648 ∧ 0 ≤ c ∧ c ≤ n
theorem BagAt.up {H H' : Hp} {b : Addr} {n n' : Nat} (h : BagAt H b n) (s : Same H H') (hn : n ≤ n') : BagAt H' b n' := by
  obtain ⟨g, m, c, h1, h2, h3, h4, h5⟩ := h
  exact ⟨g, m, c, s _ _ h1, h2, h3, h4, by omega⟩
/-- all but b stands -/
def SameB (b : Addr) (H H' : Hp) : Prop := ∀ a o, a ≠ b → H a = some o → H' a = some o
theorem SameB.of {b : Addr} {H H' : Hp} (s : Same H H') : SameB b H H' := fun a o _ e => s a o e
theorem SameB.trans {b : Addr} {H H1 H2 : Hp} (s : SameB b H H1) (t : SameB b H1 H2) : SameB b H H2 := fun a o n e => t a o n (s a o n e)
theorem SameB.upd {b : Addr} {H H' : Hp} {o : HO} (s : SameB b H H') : SameB b H (upd H' b o) := fun a u n e => by rw [upd_ne n]; exact s a u n e
theorem SameB.hid {b : Addr} {M : List Addr} {H H' : Hp} (s : SameB b H H') (h : b ∈ M) : Same (hid M H) (hid M H') := fun a o e => by
  have n : a ∉ M := fun z => by unfold Dl.hid at e; rw [if_pos z] at e; cases e
  have nb : a ≠ b := fun z => n (z ▸ h)
  rw [hid_of n]
  exact s a o nb (hid_le _ _ e)
theorem SameB.live {b : Addr} {M : List Addr} {H H' : Hp} (s : SameB b H H') (L : Live M H) (hb : H' b ≠ none) : Live M H' := fun a ha z => by
  by_cases e : a = b
  · subst e; exact hb z
  · cases q : H a with
    | none => exact L a ha q
    | some o => rw [s a o e q] at z; cases z
theorem BagAt.some {H : Hp} {b : Addr} {n : Nat} (h : BagAt H b n) : H b ≠ none := by
  obtain ⟨g, m, c, h1, _⟩ := h
  rw [h1]; simp
def spCell (K : PySem.W.Frag) : Sp := fun vs H Q _ => ∃ (a : Addr) (ns : List Int) (j : Nat), vs = [.ref a, .int j] ∧ SqL K H a (ns.map V.int) ∧ ∀ (n : Int) H1, Same H H1 → Q (.int n) H1
def spBag : Sp := fun vs H Q _ => ∃ (n : Int), vs = [.int n] ∧ ∀ b H1, Same H H1 → H b = none → BagAt H1 b 0 → Q (.ref b) H1
def spTake : Sp := fun vs H Q _ => ∃ (b : Addr) (many : Int) (n : Nat), vs = [.ref b, .int many] ∧ 0 < many ∧ many.natAbs < 2 ^ 200 ∧ n ≤ 1000000 ∧ BagAt H b n ∧
  ∀ (r : Int) H1, 0 ≤ r → r < many → SameB b H H1 → BagAt H1 b (n + 1) → Q (.int r) H1
section
variable {P : Program} {w : World} {K : PySem.W.Frag} {mg : Str → Option Value} {base : Heap}
theorem scCell : FnScope ["_law_script", "_law_index"] ["_law_script", "_law_index"] (defScope sCell) := ⟨rfl, rfl, rfl, by decide +kernel, rfl, by decide +kernel, by decide +kernel⟩
theorem ok_cell {f : Addr} {fd : FuncData} (T : Nm mg) (F : Df K mg "_law_cell" sCell ["_law_script", "_law_index"] f fd) : FnOk P w K mg base CX0 1 f fd ["_law_script", "_law_index"] (spCell K) := by
  refine F.F.ok scCell (fun vs H Q E h => ?_) (fun cdv A outer s H vs Q E hr h => ?_)
  · obtain ⟨a, ns, j, rfl, _⟩ := h; rfl
  · obtain ⟨a, ns, j, rfl, hS, q⟩ := h
    refine rb_if (xt_cmpI (M := []) op_lt (xv_name 1 rfl).int (xv_lenS T.len (xv_name 0 rfl) hS).int) (fun e H1 s1 => ?_) (fun e H1 s1 => rb_nil ?_)
    · have hj : j < ns.length := by
        have z := of_decide_eq_true e
        rw [List.length_map] at z
        omega
      have ha : atI (ns.map V.int) ((j : Nat) : Int) = some (V.int ns[j]) := atI_nat (by rw [List.getElem?_map, List.getElem?_eq_getElem hj]; rfl)
      exact rb_retR (XV.go (xv_ixS (fun _ _ => rfl) (xv_name 0 rfl) (s1.seq hS) (xv_name 1 rfl) ha) fun H2 s2 => q _ H2 (s1.trans s2))
    · exact rb_ret (M := []) (xd_add (xd_mul xd_int (xv_name 1 rfl).int (.inl ⟨by decide, by decide⟩)) xd_int) fun v H2 s2 hv => by
        rw [dp_int hv]
        exact q _ H2 (s1.trans s2)
theorem scBag : FnScope ["_law_cell_here"] ["_law_cell_here"] (defScope sBag) := ⟨rfl, rfl, rfl, by decide +kernel, rfl, by decide +kernel, by decide +kernel⟩
theorem ok_bag {f : Addr} {fd : FuncData} (T : Nm mg) (F : Df K mg "_law_bag" sBag ["_law_cell_here"] f fd) : FnOk P w K mg base CX0 1 f fd ["_law_cell_here"] spBag := by
  refine F.F.ok scBag (fun vs H Q E h => ?_) (fun cdv A outer s H vs Q E hr h => ?_)
  · obtain ⟨n, rfl, _⟩ := h; rfl
  · obtain ⟨n, rfl, q⟩ := h
    refine rb_retR (XL.go (M := []) (xl_lst Live.nil (xa_cons (xd_max T.max (xa_cons xd_int (xa_cons (xd_sub (xv_name 0 rfl).int (xd_pow xd_int xd_int ⟨by decide, by decide, by decide⟩)) xa_nil))) (xa_cons (xd_mod (xv_name 0 rfl).int xd_int (by decide)) (xa_cons xd_int xa_nil)))) fun p xs H1 s1 hp h1 hx => ?_)
    cases hx with
    | cons a1 hx => cases hx with
      | cons a2 hx => cases hx with
        | cons a3 hx =>
          cases hx
          rw [dp_int a1, dp_int a2, dp_int a3] at h1
          exact q p H1 s1 hp ⟨_, _, _, h1, by omega, by omega, by decide, by decide⟩
theorem scTake : FnScope ["_law_bag_here", "_law_many", "_law_digit", "_law_mixed"] ["_law_bag_here", "_law_many"] (defScope sTake) := ⟨rfl, rfl, rfl, by decide +kernel, rfl, by decide +kernel, by decide +kernel⟩
theorem cdiv {m n : Int} (h : 0 < n) (h2 : n.natAbs < 2 ^ 200) : CDivW m n := wide_div h h2 (by decide) (by decide)
theorem ok_take {f : Addr} {fd : FuncData} (F : Df K mg "_law_take" sTake ["_law_bag_here", "_law_many"] f fd) : FnOk P w K mg base CX0 1 f fd ["_law_bag_here", "_law_many"] spTake := by
  refine F.F.ok scTake (fun vs H Q E h => ?_) (fun cdv A outer s H vs Q E hr h => ?_)
  · obtain ⟨b, many, n, rfl, _⟩ := h; rfl
  · obtain ⟨b, many, n, rfl, hm, hm2, hn, ⟨g, m, c, hb, m0, m1, c0, c1⟩, q⟩ := h
    have at0 : ∀ {x y z : V}, atI [x, y, z] 0 = some x := fun {x y z} => rfl
    have at1 : ∀ {x y z : V}, atI [x, y, z] 1 = some y := fun {x y z} => rfl
    have at2 : ∀ {x y z : V}, atI [x, y, z] 2 = some z := fun {x y z} => rfl
    refine rb_if (xt_cmpI (M := []) op_gt (xv_ixS (fun _ _ => rfl) (xv_name 0 rfl) (SqL.of hb) xv_int at0).int xd_int) (fun e H1 s1 => ?_) (fun e H1 s1 => rb_nil ?_)
    · have hb1 := s1 _ _ hb
      refine rb_set 2 (M := []) (xd_mod (xv_ixS (fun _ _ => rfl) (xv_name 0 rfl) (SqL.of hb1) xv_int at0).int (xv_name 1 rfl).int hm) (fun v H2 s2 hv => ?_) scTake.nd
      have ev := dp_int hv
      subst ev
      have hb2 := s2 _ _ hb1
      refine rb_setIx (M := []) (n := 0) (j := 0) hb2 (xd_div (xv_ixS (fun _ _ => rfl) (xv_name 0 rfl) (SqL.of hb2) xv_int at0).int (xv_name 1 rfl).int (cdiv hm hm2)) (xv_name 0 rfl) xv_int rfl fun v H3 s3 hv => ?_
      have ev := dp_int hv
      subst ev
      refine rb_retR (XV.go (xv_name 2 rfl) fun H4 s4 => q _ H4 (Int.emod_nonneg _ (by omega)) (Int.emod_lt_of_pos _ hm) ((((SameB.of s1).trans (.of s2)).trans (.of s3)).upd.trans (.of s4)) ⟨g / many, m, c, s4 _ _ upd_same, m0, m1, c0, by omega⟩)
    · have hb1 := s1 _ _ hb
      refine rb_setIx (M := []) (n := 2) (j := 2) hb1 (xd_add (xv_ixS (fun _ _ => rfl) (xv_name 0 rfl) (SqL.of hb1) xv_int at2).int xd_int) (xv_name 0 rfl) xv_int rfl fun v H2 s2 hv => ?_
      have ev := dp_int hv
      subst ev
      have hb3 : upd H2 b (.lst [V.int g, V.int m, V.int (c + 1)]) b = some (.lst [V.int g, V.int m, V.int (c + 1)]) := upd_same
      have sB : SameB b H (upd H2 b (.lst [V.int g, V.int m, V.int (c + 1)])) := ((SameB.of s1).trans (.of s2)).upd
      show RB _ _ _ _ (upd H2 b (.lst [V.int g, V.int m, V.int (c + 1)]))
      generalize upd H2 b (.lst [V.int g, V.int m, V.int (c + 1)]) = H3 at hb3 sB
      refine rb_set 3 (M := []) (xd_mod (xd_pow (xd_add (xd_add (xv_ixS (fun _ _ => rfl) (xv_name 0 rfl) (SqL.of hb3) xv_int at1).int (xd_mul xd_int (xv_ixS (fun _ _ => rfl) (xv_name 0 rfl) (SqL.of hb3) xv_int at2).int (.inl ⟨by decide, by decide⟩))) xd_int) xd_int ⟨by decide, by decide, by omega⟩) xd_int (by decide)) (fun v H4 s4 hv => ?_) scTake.nd
      have ev := dp_int hv
      subst ev
      generalize hx : ((m + 179424691 * (c + 1) + 563) ^ (5 : Int).toNat % 2147483647 : Int) = x1
      have x0 : 0 ≤ x1 := by rw [← hx]; exact Int.emod_nonneg _ (by decide)
      have x2 : x1 < 2147483647 := by rw [← hx]; exact Int.emod_lt_of_pos _ (by decide)
      have hb4 := s4 _ _ hb3
      refine rb_set 3 (M := []) (xd_mod (xd_pow (xd_add (xv_name 3 rfl).int (xd_mul xd_int (xv_ixS (fun _ _ => rfl) (xv_name 0 rfl) (SqL.of hb4) xv_int at2).int (.inl ⟨by decide, by decide⟩))) xd_int ⟨by decide, by decide, by omega⟩) xd_int (by decide)) (fun v H5 s5 hv => ?_) scTake.nd
      have ev := dp_int hv
      subst ev
      refine rb_ret (M := []) (xd_mod (xd_div (xv_name 3 rfl).int xd_int (cdiv (by decide) (by decide))) (xv_name 1 rfl).int hm) fun v H6 s6 hv => ?_
      rw [dp_int hv]
      exact q _ H6 (Int.emod_nonneg _ (by omega)) (Int.emod_lt_of_pos _ hm) (((sB.trans (.of s4)).trans (.of s5)).trans (.of s6)) ⟨g, m, c + 1, s6 _ _ (s5 _ _ hb4), m0, m1, by omega, by omega⟩
end
end Zn

set_option Elab.async false
set_option linter.all false
set_option maxRecDepth 100000
set_option maxHeartbeats 8000000
namespace Zn
open PySem PySem.Spec PyProof.Rows L2 Dl
/-! ### plans -/
abbrev Step := Int × Int
def stepD (s : Step) : PyData := .tuple [.int s.1, .int s.2]
def planD (f : Int) (st : List Step) : PyData := .tuple [.int f, .list (st.map stepD)]
def okJ (j : Int) : Prop := j ≠ 0 ∧ -720 ≤ j ∧ j ≤ 720
def gapJ (s t : Step) : Prop := ab s.2 + ab t.2 < t.1 - s.1
def okS (st : List Step) : Prop := (∀ s ∈ st, okJ s.2) ∧ ∀ (k : Nat) (s t : Step), st[k]? = some s → st[k + 1]? = some t → gapJ s t
def bigS (n : Int) (st : List Step) : Prop := ∀ s ∈ st, -n ≤ s.1 ∧ s.1 ≤ n
structure PlanOk (f : Int) (st : List Step) : Prop where
  len : st.length ≤ 19
  ok : okS st
  f0 : -850 ≤ f
  f1 : f ≤ 850
  big : bigS 2000000000000 st
theorem okS_nil : okS [] := ⟨fun _ h => by simp at h, fun k s t h => by simp at h⟩
theorem okS_one {t : Step} (h : okJ t.2) : okS [t] := ⟨fun s hs => by rw [List.mem_singleton.mp hs]; exact h, fun k s u h1 h2 => by simp at h2⟩
theorem okS_snoc {st : List Step} {l t : Step} (h : okS st) (hl : st.getLast? = some l) (hj : okJ t.2) (hg : gapJ l t) : okS (st ++ [t]) := by
  refine ⟨fun s hs => ?_, fun k s u h1 h2 => ?_⟩
  · rcases List.mem_append.mp hs with z | z
    · exact h.1 s z
    · rw [List.mem_singleton.mp z]; exact hj
  · have hk : k + 1 < (st ++ [t]).length := (List.getElem?_eq_some_iff.mp h2).1
    rw [List.length_append, List.length_singleton] at hk
    by_cases e : k + 1 < st.length
    · rw [List.getElem?_append_left (by omega)] at h1
      rw [List.getElem?_append_left e] at h2
      exact h.2 k s u h1 h2
    · have ek : k + 1 = st.length := by omega
      rw [List.getElem?_append_left (by omega)] at h1
      rw [List.getElem?_append_right (by omega), ek, Nat.sub_self] at h2
      cases h2
      have e2 : st.getLast? = st[k]? := by rw [List.getLast?_eq_getElem?, ← ek]; rfl
      rw [e2, h1] at hl
      cases hl
      exact hg
theorem bigS_snoc {n n' : Int} {st : List Step} {t : Step} (h : bigS n st) (hn : n ≤ n') (h0 : -n' ≤ t.1) (h1 : t.1 ≤ n') : bigS n' (st ++ [t]) := fun s hs => by
  rcases List.mem_append.mp hs with z | z
  · have := h s z; omega
  · rw [List.mem_singleton.mp z]; omega
section
variable {X : Cx} {M : List Addr} {σ : L2.St} {H H' : Hp} {e a b o ie : Expr} {es : List Expr} {d : PyData} {ds : List PyData} {pos p1 p2 p3 : Pos} {D : Ends} {rest : List Stmt} {v : V} {xs : List V} {Q : VK}
theorem re_bin {op : Operator} {r : R2} (ho : OpR X (binaryOp op) r) (h : RE X a σ H fun x H1 => RE X b σ H1 fun y H2 => r x y H2 Q) : RE X (.BinOp a op b pos) σ H Q := ⟨_, pe_op ho re_ re_, h⟩
theorem re_addI (h : RE X a σ H fun x H1 => ∃ i, x = .int i ∧ RE X b σ H1 fun y H2 => ∃ j, y = .int j ∧ Q (.int (i + j)) H2) : RE X (.BinOp a .Add b pos) σ H Q :=
  re_bin op_add (re_mono h fun x H1 ⟨i, ei, h1⟩ => re_mono h1 fun y H2 ⟨j, ej, q⟩ => ⟨i, j, ei, ej, q⟩)
theorem re_subI (h : RE X a σ H fun x H1 => ∃ i, x = .int i ∧ RE X b σ H1 fun y H2 => ∃ j, y = .int j ∧ Q (.int (i - j)) H2) : RE X (.BinOp a .Sub b pos) σ H Q :=
  re_bin op_sub (re_mono h fun x H1 ⟨i, ei, h1⟩ => re_mono h1 fun y H2 ⟨j, ej, q⟩ => ⟨i, j, ei, ej, q⟩)
theorem re_mulI (h : RE X a σ H fun x H1 => ∃ i, x = .int i ∧ (-(2 ^ 64) < i ∧ i < 2 ^ 64) ∧ RE X b σ H1 fun y H2 => ∃ j, y = .int j ∧ Q (.int (i * j)) H2) : RE X (.BinOp a .Mult b pos) σ H Q :=
  re_bin op_mul (re_mono h fun x H1 ⟨i, ei, hi, h1⟩ => re_mono h1 fun y H2 ⟨j, ej, q⟩ => ⟨i, j, ei, ej, .inl hi, q⟩)
theorem at_menu {ms : List Int} {r : Int} (h0 : 0 ≤ r) (h1 : r.toNat < ms.length) : atI (ms.map V.int) r = some (V.int (ms[r.toNat])) := by
  have h : atI (ms.map V.int) ((r.toNat : Nat) : Int) = some (V.int (ms[r.toNat])) := atI_nat (by rw [List.getElem?_map, List.getElem?_eq_getElem h1]; rfl)
  rw [Int.toNat_of_nonneg h0] at h
  exact h
/-- [ints][e] -/
theorem re_menu {esl : List Expr} {n : Nat} (hs : PlainIx b) (hn : n ≤ 1000) (h : RA X esl σ H fun vs H1 => ∃ ms : List Int, vs = ms.map V.int ∧ ms.length = n ∧ ∀ l, H1 l = none → RE X b σ (upd H1 l (.lst vs)) fun y H3 => ∃ r : Int, y = .int r ∧ 0 ≤ r ∧ r < n ∧ H3 l = some (.lst vs) ∧ ∀ z, z ∈ ms → Q (.int z) H3) :
    RE X (.Subscript (.List esl p1) b pos) σ H Q :=
  ⟨_, pe_ix ix_list (pe_lst ra_) re_ hs, ra_mono h fun vs H1 ⟨ms, e1, e2, k⟩ => ⟨by rw [e1, List.length_map, e2]; exact Nat.le_trans hn (by decide), fun l hl => re_mono (k l hl) fun y H3 ⟨r, ey, r0, r1, h3, q⟩ => by
    subst ey
    have hlt : r.toNat < ms.length := by omega
    exact ⟨l, vs, r, .int (ms[r.toNat]), rfl, rfl, SqL.of h3, by rw [e1]; exact at_menu r0 hlt, q _ (List.getElem_mem hlt)⟩⟩⟩
theorem ra_int {n : Int} {Q : List V → Hp → Prop} (h : XV X σ H e (.int n)) (k : ∀ H1, Same H H1 → RA X es σ H1 fun vs H2 => Q (.int n :: vs) H2) (hs : starEach (e :: es) X.env = (false, eval e X.env) :: starEach es X.env := by rfl) : RA X (e :: es) σ H Q := ra_cons (h.go fun H1 s => k H1 s) hs
theorem re_int {n : Int} (h : XV X σ H e (.int n)) (k : ∀ H1, Same H H1 → Q (.int n) H1) : RE X e σ H Q := h.go k
end
/-- a draw -/
theorem re_take {X : Cx} {σ : L2.St} {H : Hp} {o e : Expr} {pos p1 : Pos} {Q : VK} {k n : Nat} {f b : Addr} {fd : FuncData} {many : Int} (G : FnOk X.prog X.w X.K X.mg X.base CX0 k f fd ["_law_bag_here", "_law_many"] spTake) (F : Df X.K X.mg "_law_take" sTake ["_law_bag_here", "_law_many"] f fd) (hr : Room k X.A)
    (ho : XV X σ H o (.ref b)) (he : XV X σ H e (.int many)) (hB : BagAt H b n) (q : ∀ (r : Int) H1, 0 ≤ r → r < many → SameB b H H1 → BagAt H1 b (n + 1) → Q (.int r) H1) (h0 : 0 < many := by decide) (h1 : many.natAbs < 2 ^ 200 := by decide) (hn : n ≤ 1000000 := by omega) (hg : Gl X "_law_take" := by rfl)
    (hs : starEach [o, e] X.env = (false, eval o X.env) :: starEach [e] X.env := by rfl) (hs2 : starEach [e] X.env = (false, eval e X.env) :: starEach [] X.env := by rfl) (hpl : (backTo pos (starEach [e] X.env)).any (·.1) = false := by rfl) : RE X (.Call (.Name "_law_take" p1) [o, e] [] pos) σ H Q :=
  re_call G hr F.g F.F.kp F.b (ra_cons (ho.go fun H1 s1 => ra_1 ((he.up s1).go fun H2 s2 => ⟨b, many, n, rfl, h0, h1, hn, hB.up (s1.trans s2) (Nat.le_refl _), fun r H3 r0 r1 sB hB3 => q r H3 r0 r1 ((SameB.of (s1.trans s2)).trans sB) hB3⟩) hs2) hs) hg (by decide) hs hpl
theorem sameB_new {b l : Addr} {H : Hp} {o : HO} (h : H l = none) : SameB b H (upd H l o) := SameB.of (same_new h)
theorem bag_new {H : Hp} {b l : Addr} {n : Nat} {o : HO} (h : BagAt H b n) (hl : H l = none) : BagAt (upd H l o) b n := h.up (same_new hl) (Nat.le_refl _)
theorem bag_sameB {H H' : Hp} {b : Addr} {n : Nat} (h : BagAt H b n) (s : Same H H') : BagAt H' b n := h.up s (Nat.le_refl _)
end Zn

set_option Elab.async false
set_option linter.all false
set_option maxRecDepth 100000
set_option maxHeartbeats 8000000
namespace Zn
open PySem PySem.Spec PyProof.Rows L2 Dl
theorem mem4 {z a b c d : Int} (h : z ∈ [a, b, c, d]) : z = a ∨ z = b ∨ z = c ∨ z = d := by simpa using h
section
variable {P : Program} {w : World} {K : PySem.W.Frag} {mg : Str → Option Value} {base : Heap}
theorem eqv_steps (st : List Step) : PyData.eqv (.list (st.map stepD)) (.list []) = decide (st = []) := by
  cases st with
  | nil => simp [PyData.eqv, PyData.eqvAll]
  | cons s st => simp [PyData.eqv, PyData.eqvAll]
theorem lay_steps : ∀ st : List Step, PyData.canLayAll0 (st.map stepD) = true
  | [] => by simp [PyData.canLayAll0]
  | r :: rs => by
    rw [List.map_cons]
    show (PyData.canLay0 (stepD r) && PyData.canLayAll0 (rs.map stepD)) = true
    rw [lay_steps rs]
    simp [stepD, PyData.canLay0, PyData.canLayAll0]
theorem depth_steps : ∀ st : List Step, PyData.depthAll (st.map stepD) ≤ 1
  | [] => by simp [PyData.depthAll]
  | r :: rs => by
    rw [List.map_cons]
    show max (PyData.depth (stepD r)) (PyData.depthAll (rs.map stepD)) ≤ 1
    have := depth_steps rs
    have e : PyData.depth (stepD r) = 1 := by simp [stepD, PyData.depth, PyData.depthAll]
    omega
theorem shaped_steps (st : List Step) : SeqAt.shaped (.list (st.map stepD)) = true := by
  unfold SeqAt.shaped
  have h := depth_steps st
  have e : PyData.depth (.list (st.map stepD)) = PyData.depthAll (st.map stepD) + 1 := by simp [PyData.depth]
  rw [show PyData.canLay0 (.list (st.map stepD)) = PyData.canLayAll0 (st.map stepD) by simp [PyData.canLay0], lay_steps, e]
  simp
  omega
theorem shaped_nil : SeqAt.shaped (.list []) = true := by decide +kernel
theorem mem5 {z a b c d e : Int} (h : z ∈ [a, b, c, d, e]) : z = a ∨ z = b ∨ z = c ∨ z = d ∨ z = e := by simpa using h
theorem mem10 {z a b c d e f g h i j : Int} (q : z ∈ [a, b, c, d, e, f, g, h, i, j]) : z = a ∨ z = b ∨ z = c ∨ z = d ∨ z = e ∨ z = f ∨ z = g ∨ z = h ∨ z = i ∨ z = j := by simpa using q
theorem last_step {st : List Step} {l : Step} (h : st.getLast? = some l) : atI (st.map stepD) (-1) = some (stepD l) := by
  obtain ⟨ys, rfl⟩ := List.getLast?_eq_some_iff.mp h
  rw [List.map_append]
  exact atI_last _ _
theorem ab_eq (n : Int) : ab n = (if n < 0 then -n else n) := rfl
end
end Zn

set_option Elab.async false
set_option linter.all false
set_option maxRecDepth 100000
set_option maxHeartbeats 8000000
namespace Zn
open PySem PySem.Spec PyProof.Rows L2 Dl
abbrev sLChanges : Stmt := top 40
abbrev sLMade : Stmt := top 41
abbrev sLSpans : Stmt := top 0 /- not in this text -/
/-! ### the mathematics of plans -/
def chOf : Int → List Step → List (Int × Int)
  | _, [] => []
  | o, s :: st => (s.1, o + s.2) :: chOf (o + s.2) st
def offS : Int → List Step → Int
  | o, [] => o
  | o, s :: st => offS (o + s.2) st
/-- the rows of a plan -/
def rowsP (f : Int) (st : List Step) : List Row := rowsOf f (chOf f st)
theorem ch_len : ∀ (o : Int) (st : List Step), (chOf o st).length = st.length
  | _, [] => rfl
  | o, s :: st => by unfold chOf; rw [List.length_cons, List.length_cons, ch_len]
theorem ch_snoc : ∀ (o : Int) (st : List Step) (s : Step), chOf o (st ++ [s]) = chOf o st ++ [(s.1, offS o st + s.2)]
  | _, [], s => rfl
  | o, t :: st, s => by
    show (t.1, o + t.2) :: chOf (o + t.2) (st ++ [s]) = _
    rw [ch_snoc (o + t.2) st s]
    rfl
theorem off_snoc : ∀ (o : Int) (st : List Step) (s : Step), offS o (st ++ [s]) = offS o st + s.2
  | _, [], s => rfl
  | o, t :: st, s => off_snoc (o + t.2) st s
theorem last_ch : ∀ (o : Int) (st : List Step), lastOff o (chOf o st) = offS o st
  | _, [] => rfl
  | o, s :: st => last_ch (o + s.2) st
theorem rowsP_snoc (f : Int) (st : List Step) (s : Step) : rowsP f (st ++ [s]) = rowsP f st ++ [(s.1, offS f st, offS f st + s.2)] := by
  unfold rowsP
  rw [ch_snoc, rows_snoc, last_ch]
theorem rowsP_len (f : Int) (st : List Step) : (rowsP f st).length = st.length := by unfold rowsP; rw [rows_len, ch_len]
theorem rowsP_cons (f : Int) (s : Step) (st : List Step) : rowsP f (s :: st) = (s.1, f, f + s.2) :: rowsP (f + s.2) st := rfl
theorem rowsP_get : ∀ (f : Int) (st : List Step) (k : Nat) (s : Step), st[k]? = some s → ∃ o, (rowsP f st)[k]? = some (s.1, o, o + s.2)
  | _, [], k, s, h => by simp at h
  | f, t :: st, 0, s, h => by simp at h; subst h; exact ⟨f, rfl⟩
  | f, t :: st, k + 1, s, h => by
    obtain ⟨o, ho⟩ := rowsP_get (f + t.2) st k s (by simpa using h)
    exact ⟨o, by rw [rowsP_cons]; simpa using ho⟩
theorem ab_le {j : Int} (h : okJ j) : isJumpB j = true := by
  unfold isJumpB ab
  unfold okJ at h
  simp
  refine ⟨h.1, ?_⟩
  split <;> omega
/-- a plan's rows pass all checks -/
theorem okR_of {f : Int} {st : List Step} (h : okS st) : okR (rowsP f st) := by
  intro k r hr
  have hk : k < st.length := by rw [← rowsP_len f st]; exact (List.getElem?_eq_some_iff.mp hr).1
  obtain ⟨o, ho⟩ := rowsP_get f st k st[k] (List.getElem?_eq_getElem hk)
  rw [hr] at ho
  cases ho
  have ej : jmp (st[k].1, o, o + st[k].2) = st[k].2 := by show o + st[k].2 - o = _; omega
  refine ⟨by rw [ej]; exact ab_le (h.1 _ (List.getElem_mem hk)), ?_⟩
  unfold followB
  cases k with
  | zero => rfl
  | succ k =>
    have hk2 : k < st.length := by omega
    obtain ⟨o2, ho2⟩ := rowsP_get f st k st[k] (List.getElem?_eq_getElem hk2)
    have hl : ((rowsP f st).take (k + 1)).getLast? = some (st[k].1, o2, o2 + st[k].2) := by
      rw [take_snoc ho2, List.getLast?_append]
      simp
    rw [hl]
    have ej2 : jmp (st[k].1, o2, o2 + st[k].2) = st[k].2 := by show o2 + st[k].2 - o2 = _; omega
    show decide (ab (jmp (st[k].1, o2, o2 + st[k].2)) + ab (jmp (st[k + 1].1, o, o + st[k + 1].2)) < st[k + 1].1 - st[k].1) = true
    rw [ej, ej2]
    exact decide_eq_true (h.2 k _ _ (List.getElem?_eq_getElem hk2) (List.getElem?_eq_getElem hk))
def RLChanges (ds es : List PyData) : Prop := ∃ (f : Int) (st : List Step), ds = [planD f st] ∧ st.length ≤ 1000 ∧ es = (chOf f st).map stepD
theorem items_ch : ∀ cs : List (Int × Int), Items (cs.map stepD) cs := fun cs => ⟨by rw [List.length_map], fun i it h => by
  rw [List.getElem?_map] at h
  cases e : cs[i]? with
  | none => rw [e] at h; cases h
  | some c => rw [e] at h; cases h; exact ⟨c, rfl, .inl rfl⟩⟩
theorem step_at {K : PySem.W.Frag} {H : Hp} {v : V} {s : Step} (h : Dq K H v (stepD s)) : ∃ p, v = .ref p ∧ SqT K H p [.int s.1, .int s.2] := by
  obtain ⟨p, xs, rfl, hp, hx⟩ := dp_tup h
  cases hx with
  | cons a1 hx => cases hx with
    | cons a2 hx => cases hx; rw [dp_int a1, dp_int a2] at hp; exact ⟨p, rfl, hp⟩
theorem map_get {α : Type} {g : α → PyData} {xs : List α} {k : Nat} {d : PyData} (h : (xs.map g)[k]? = some d) : ∃ x, xs[k]? = some x ∧ d = g x := by
  rw [List.getElem?_map] at h
  cases e : xs[k]? with
  | none => rw [e] at h; cases h
  | some x => rw [e] at h; cases h; exact ⟨x, rfl, rfl⟩
section
variable {X : Cx} {M : List Addr} {σ : L2.St} {H H' : Hp} {e a b o ie : Expr} {pos p1 p2 p3 : Pos} {D : Ends} {rest : List Stmt}
theorem rb_parR (i j : Nat) {x y : Str} {px py pt : Pos} {kt k2 pt2} (ha : RA X [a, b] σ H fun vs H1 => ∃ v w, vs = [v, w] ∧ RB X rest D ((σ.set i (some v)).set j (some w)) H1) (hN : X.N.Nodup)
    (hw : swappedStores [.Tuple [.Name x px, .Name y py] kt pt] (.Tuple [a, b] k2 pt2) X.env = pure (some [x, y]) := by rfl) (hc : X.calm = true := by rfl) (hi : X.N[i]? = some x := by rfl) (hj : X.N[j]? = some y := by rfl) (hij : i ≠ j := by decide)
    (hx : X.env.scope.names.lookup x = some .local := by rfl) (hy : X.env.scope.names.lookup y = some .local := by rfl)
    (hs : swapsWithSole [.Tuple [.Name x px, .Name y py] kt pt] (.Tuple [a, b] k2 pt2) pos.line X.env = pure false := by rfl) : RB X (.Assign [.Tuple [.Name x px, .Name y py] kt pt] (.Tuple [a, b] k2 pt2) pos :: rest) D σ H :=
  ⟨_, pss_cons (ps_par hc hN hi hj hij hx hy ra_ hw hs) rb_, ha⟩
end
section
variable {P : Program} {w : World} {K : PySem.W.Frag} {mg : Str → Option Value} {base : Heap} {C : Addr}
theorem scLChanges : FnScope ["_law_plan", "_law_found", "_law_offset", "_law_moment", "_law_jump"] ["_law_plan"] (defScope sLChanges) := ⟨rfl, rfl, rfl, by decide +kernel, rfl, by decide +kernel, by decide +kernel⟩
theorem ok_lchanges {f : Addr} {fd : FuncData} (F : Df K mg "_law_changes" sLChanges ["_law_plan"] f fd) : FnOk P w K mg base CX0 1 f fd ["_law_plan"] (spL K RLChanges) := by
  refine F.F.ok scLChanges (fun vs H Q E h => ?_) (fun cdv A outer s H vs Q E hr h => ?_)
  · obtain ⟨M, ds, es, L, hd, ⟨f, st, rfl, _⟩, q⟩ := h
    exact dpa_len hd
  · obtain ⟨M, ds, es, L, hd, ⟨f, st, rfl, hlen, rfl⟩, q⟩ := h
    cases hd with
    | cons h1 h2 =>
      cases h2
      rename_i v0
      refine rb_parR 1 2 (ra_cons (XL.go (xl_lst L xa_nil) fun p xs H1 s1 hp h1p hxs => ra_1 (XD.go (xd_ixT (fun _ _ => rfl) (xd_name 0 rfl (h1.up (hid_mono s1))) xd_int (show atI [PyData.int f, .list (st.map stepD)] 0 = some (.int f) from rfl)) fun v2 H2 s2 hv2 => ⟨_, _, rfl, ?_⟩))) scLChanges.nd
      cases hxs
      have e2 := dp_int hv2
      subst e2
      have s12 := s1.trans s2
      have g0 : Same (hid M H) (hid (p :: M) H2) := hid_step hp s12
      have Lp : Live (p :: M) H2 := fun b hb => by
        rcases List.mem_cons.mp hb with z | hb
        · subst z; rw [s2 _ _ h1p]; simp
        · exact L.mono s12 b hb
      have k1 := h1.up g0
      refine rb_for (M := p :: M) (xd_ixT (fun _ _ => rfl) (xd_name 0 rfl k1) xd_int (show atI [PyData.int f, .list (st.map stepD)] 1 = some (.list (st.map stepD)) from rfl)) fun H3 s3 => ⟨fun k σ' H' => Same (hid (p :: M) H3) (hid (p :: M) H') ∧ Live (p :: M) H' ∧ Same H H' ∧ ∃ (xs : List V) (a3 a4 : Option V), σ' = [some v0, some (.ref p), some (.int (offS f (st.take k))), a3, a4] ∧ H' p = some (.lst xs) ∧ DqAll K (hid (p :: M) H') xs ((chOf f (st.take k)).map stepD),
        ⟨Same.refl _, Lp.mono s3, s12.trans s3, [], none, none, rfl, s3 _ _ (s2 _ _ h1p), .nil⟩, fun k σ' H' w => w.1, fun k it hk σ' H' v hw hv => ?_, fun σ' H' hw => ?_⟩
      · obtain ⟨z1, L4, z2, xs, a3, a4, rfl, hp4, hx4⟩ := hw
        obtain ⟨sx, hsx, rfl⟩ := map_get hk
        have hklt : k < st.length := (List.getElem?_eq_some_iff.mp hsx).1
        have hxl : xs.length < 100000 := by
          rw [dpa_len hx4, List.length_map, ch_len, List.length_take]
          omega
        obtain ⟨t, rfl, ht⟩ := step_at hv
        refine rg_tup (same_seqT hid_le ht) (rgs_cons (rg_name 3 (rgs_cons (rg_name 4 (rgs_nil ?_) scLChanges.nd)) scLChanges.nd))
        refine rb_set 2 (M := p :: M) (xd_add (xv_name 2 rfl).int (xv_name 4 rfl).int) (fun v5 H5 s5 hv5 => ?_) scLChanges.nd
        have e5 := dp_int hv5
        subst e5
        refine rb_append (M := p :: M) (xs := xs) (List.mem_cons_self ..) (xv_name 1 rfl) (s5 _ _ hp4) (xd_tup (L4.mono s5) (xa_cons (xv_name 3 rfl).int (xa_cons (xv_name 2 rfl).int xa_nil))) hxl fun v6 H6 s6 hv6 => rb_nil ?_
        have s46 := s5.trans s6
        refine ⟨?_, (L4.mono s46).upd, same_upd (z2.trans s46) hp, xs ++ [v6], some (.int sx.1), some (.int sx.2), ?_, upd_same, ?_⟩
        · rw [hid_cons_upd]; exact z1.trans (hid_mono s46)
        · rw [take_snoc hsx, off_snoc]; rfl
        · rw [hid_cons_upd, take_snoc hsx, ch_snoc, List.map_append]
          exact dpa_app (hx4.up (hid_mono s46)) (.cons hv6 .nil)
      · obtain ⟨z1, L4, z2, xs, a3, a4, rfl, hp4, hx4⟩ := hw
        refine rb_retR (XV.go (xv_name 1 rfl) fun H5 s5 => q p xs H5 (z2.trans s5) hp (s5 _ _ hp4) ?_)
        rw [List.length_map, List.take_length] at hx4
        exact (hx4.up (hid_mono (M := p :: M) s5)).up hid_weak
/-! made -/
def spMade (K : PySem.W.Frag) (C : Addr) : Sp := fun vs H Q _ => ∃ (M : List Addr) (v : V) (f : Int) (st : List Step), vs = [v] ∧ Live M H ∧ Dq K (hid M H) v (planD f st) ∧ st.length ≤ 1000 ∧ okS st ∧ ∀ y H1, Same H H1 → ZAt K C (hid M H1) y f (rowsP f st) → Q (.ref y) H1
theorem scLMade : FnScope ["_law_plan"] ["_law_plan"] (defScope sLMade) := ⟨rfl, rfl, rfl, by decide +kernel, rfl, by decide +kernel, by decide +kernel⟩
theorem ok_lmade {f fC fZ et : Addr} {fd fdC fdZ : FuncData} (W : ZMk P w K mg base C fZ fdZ et) (FC : Df K mg "_law_changes" sLChanges ["_law_plan"] fC fdC) (F : Df K mg "_law_made" sLMade ["_law_plan"] f fd) : FnOk P w K mg base CX0 6 f fd ["_law_plan"] (spMade K C) := by
  have GC : FnOk P w K mg base CX0 5 fC fdC ["_law_plan"] (spL K RLChanges) := (ok_lchanges FC).mono (by decide)
  refine F.F.ok scLMade (fun vs H Q E h => ?_) (fun cdv A outer s H vs Q E hr h => ?_)
  · obtain ⟨M, v, f, st, rfl, _⟩ := h; rfl
  · obtain ⟨M, v, f, st, rfl, L, h1, hlen, hok, q⟩ := h
    refine rb_retR ((xz_make (items := (chOf f st).map stepD) (cs := chOf f st) L W hr (xd_ixT (fun _ _ => rfl) (xd_name 0 rfl h1) xd_int (show atI [PyData.int f, .list (st.map stepD)] 0 = some (.int f) from rfl))
      (XL.dd (xl_call L GC hr FC.g FC.F.kp FC.b (xa_cons (xd_name 0 rfl h1) xa_nil) ⟨f, st, rfl, hlen, rfl⟩) L) (.inl rfl) (items_ch _) (okR_of hok) (by rw [ch_len]; exact hlen)).go q)
/-! spans -/
end
end Zn

set_option Elab.async false
set_option linter.all false
set_option maxRecDepth 100000
set_option maxHeartbeats 8000000
namespace Zn
open PySem PySem.Spec PyProof.Rows L2 Dl
/-! k08: is_integer, need_zone, checked_jumps, zone_with -/
abbrev sIsInt : Stmt := top 13
abbrev sNeedZ : Stmt := top 26
abbrev sChk : Stmt := top 31
abbrev sZW : Stmt := top 32
theorem ch_rows : ∀ (f : Int) (st : List Step), (rowsP f st).map chD = (chOf f st).map stepD
  | _, [] => rfl
  | f, s :: st => by
    rw [rowsP_cons, List.map_cons, ch_rows]
    rfl
theorem rowsP_at : ∀ (f : Int) (st : List Step) (k : Nat) (s : Step), st[k]? = some s → (rowsP f st)[k]? = some (s.1, offS f (st.take k), offS f (st.take k) + s.2)
  | _, [], k, s, h => by simp at h
  | f, t :: st, 0, s, h => by simp at h; subst h; rfl
  | f, t :: st, k + 1, s, h => by
    rw [rowsP_cons, List.take_succ_cons]
    show (rowsP (f + t.2) st)[k]? = some (s.1, offS (f + t.2) (st.take k), _)
    exact rowsP_at (f + t.2) st k s (by simpa using h)
theorem rowsP_take : ∀ (f : Int) (st : List Step) (k : Nat), (rowsP f st).take k = rowsP f (st.take k)
  | _, [], k => by cases k <;> rfl
  | f, s :: st, 0 => rfl
  | f, s :: st, k + 1 => by rw [rowsP_cons, List.take_succ_cons, List.take_succ_cons, rowsP_cons, rowsP_take]
theorem plan0 {f : Int} {st : List Step} : atI [PyData.int f, .list (st.map stepD)] 0 = some (.int f) := rfl
theorem plan1 {f : Int} {st : List Step} : atI [PyData.int f, .list (st.map stepD)] 1 = some (.list (st.map stepD)) := rfl
theorem mem_step {st : List Step} {d : PyData} (h : d ∈ st.map stepD) : ∃ s ∈ st, d = stepD s := by
  obtain ⟨s, h1, h2⟩ := List.mem_map.mp h
  exact ⟨s, h1, h2.symm⟩
section
variable {X : Cx} {M : List Addr} {σ : L2.St} {H H' : Hp} {e a b c o : Expr} {d sq : PyData} {ds : List PyData} {pos p1 p2 : Pos} {D : Ends} {rest : List Stmt} {C pa : Addr} {off : Int} {rs : List Row}
theorem xz_v (ho : XV X σ H o (.ref pa)) (hz : ZAt X.K C (hid M H) pa off rs) : XZ C X M σ H o off rs := fun H1 s Q q => ho H1 s Q fun H2 s2 => q pa H2 s2 (hz.up (hid_mono (s.trans s2)))
/-- over a list or a tuple -/
theorem rb_forS {tg : Expr} {body : List Stmt} (hsq : sq = .list ds ∨ sq = .tuple ds) (hit : XD X M σ H e sq)
    (h : ∀ H1, Same H H1 → ∃ Pv : Nat → L2.St → Hp → Prop, Pv 0 σ H1 ∧ (∀ k σ' H', Pv k σ' H' → Same (hid M H1) (hid M H')) ∧
      (∀ k d, ds[k]? = some d → ∀ σ' H' v, Pv k σ' H' → Dq X.K (hid M H') v d → RG X tg v σ' H' fun σ2 H2 => RB X body { D with nx := Pv (k + 1), ct := Pv (k + 1), bk := RB X rest D } σ2 H2) ∧ ∀ σ' H', Pv ds.length σ' H' → RB X rest D σ' H')
    (hp : PassesOwn (model X.prog X.w) X.A X.env X.xe := by exact PassesOwn.never) (hc : X.calm = true := by rfl) (hs : ∀ x, foldedSetIterable e X.env x = pure x := by intro _; rfl) : RB X (.For tg e body [] pos :: rest) D σ H := by
  rcases hsq with rfl | rfl
  · exact rb_for hit h hp hc hs
  · exact rb_forT hit h hp hc hs
/-- isinstance(a, (list, tuple)) -/
theorem xd_isS {q1 q2 q3 : Pos} {k3} (T1 : X.mg "isinstance" = none) (T2 : X.mg "list" = none) (T3 : X.mg "tuple" = none) (hsq : sq = .list ds ∨ sq = .tuple ds) (ha : XD X M σ H a sq) (hg : Gl X "isinstance" := by rfl) (hg1 : Gl X "list" := by rfl) (hg2 : Gl X "tuple" := by rfl)
    (he : starEach [a, .Tuple [.Name "list" q1, .Name "tuple" q2] k3 q3] X.env = (false, eval a X.env) :: starEach [.Tuple [.Name "list" q1, .Name "tuple" q2] k3 q3] X.env := by rfl) (he2 : starEach [.Tuple [.Name "list" q1, .Name "tuple" q2] k3 q3] X.env = (false, eval (.Tuple [.Name "list" q1, .Name "tuple" q2] k3 q3) X.env) :: starEach [] X.env := by rfl)
    (hs1 : starEach [.Name "list" q1, .Name "tuple" q2] X.env = (false, eval (.Name "list" q1) X.env) :: starEach [.Name "tuple" q2] X.env := by rfl) (hs2 : starEach [.Name "tuple" q2] X.env = (false, eval (.Name "tuple" q2) X.env) :: starEach [] X.env := by rfl)
    (hpl : (backTo pos (starEach [.Tuple [.Name "list" q1, .Name "tuple" q2] k3 q3] X.env)).any (·.1) = false := by rfl) : XD X M σ H (.Call (.Name "isinstance" p1) [a, .Tuple [.Name "list" q1, .Name "tuple" q2] k3 q3] [] pos) (.bool true) := by
  rcases hsq with rfl | rfl
  · exact (xd_is2 (d := .list ds) (r1 := true) (r2 := false) (T1 := "list") (T2 := "tuple") k_ll k_lt T1 T2 (by decide +kernel) T3 (by decide +kernel) ha hg hg1 hg2 (by decide) (by decide) (by decide) (by decide) he he2 hs1 hs2 hpl).to rfl
  · exact (xd_is2 (d := .tuple ds) (r1 := false) (r2 := true) (T1 := "list") (T2 := "tuple") k_tl k_tt T1 T2 (by decide +kernel) T3 (by decide +kernel) ha hg hg1 hg2 (by decide) (by decide) (by decide) (by decide) he he2 hs1 hs2 hpl).to rfl
/-- l <= x <= h, as a value -/
theorem xd_chainI {op op' : CmpOp} {g g' : Int → Int → Bool} {l m n : Int} (ho : OpR X (compareOp op) (rI0 fun i j => .bl (g i j))) (ho' : OpR X (compareOp op') (rI0 fun i j => .bl (g' i j))) (ha : XD X M σ H a (.int l)) (hb : XD X M σ H b (.int m)) (hc : XD X M σ H c (.int n))
    (hm : lastMarks [op, op'] [b, c] = false := by with_unfolding_all rfl) : XD X M σ H (.Compare a [op, op'] [b, c] pos) (.bool (g l m && g' m n)) := fun H1 s Q q =>
  ⟨_, pe_chain ho ho' re_ re_ re_ hm, ha H1 s _ fun v H2 s2 hv => hb H2 (s.trans s2) _ fun u H3 s3 hu => ⟨l, m, dp_int hv, dp_int hu, g l m, rfl, by
    cases e : g l m with
    | false =>
      rw [e] at q
      exact iteF (q _ H3 (s2.trans s3) (.bl _))
    | true =>
      rw [e] at q
      exact iteT (hc H3 ((s.trans s2).trans s3) _ fun y H4 s4 hy => ⟨m, n, dp_int hu, dp_int hy, q _ H4 ((s2.trans s3).trans s4) (.bl _)⟩)⟩⟩
/-- xs + [x]: a list that is being made -/
theorem live_new {p : Addr} (L : Live M H) (s : Same H H') (h : H' p ≠ none) : Live (p :: M) H' := fun b hb => by
  rcases List.mem_cons.mp hb with z | hb
  · subst z; exact h
  · exact L.mono s b hb
end
section
variable {P : Program} {w : World} {K : PySem.W.Frag} {mg : Str → Option Value} {base : Heap} {C : Addr}
def RInt (ds : List PyData) (d : PyData) : Prop := ∃ x lo hi : Int, ds = [.int x, .int lo, .int hi] ∧ d = .bool (decide (lo ≤ x) && decide (x ≤ hi))
theorem scIsInt : FnScope ["value", "low", "high"] ["value", "low", "high"] (defScope sIsInt) := ⟨rfl, rfl, rfl, by decide +kernel, rfl, by decide +kernel, by decide +kernel⟩
theorem ok_isInt {f fW : Addr} {fd fdW : FuncData} (T : Nm mg) (FW : Df K mg "is_whole" sWhole ["value"] fW fdW) (F : Df K mg "is_integer" sIsInt ["value", "low", "high"] f fd) : FnOk P w K mg base CX0 2 f fd ["value", "low", "high"] (spR K RInt) := by
  have GW : FnOk P w K mg base CX0 1 fW fdW ["value"] (spR K RWhole) := ok_whole T FW
  refine F.F.ok scIsInt (fun vs H Q E h => ?_) (fun cdv A outer s H vs Q E hr h => ?_)
  · obtain ⟨M, ds, d, L, hd, ⟨x, lo, hi, rfl, _⟩, q⟩ := h
    exact dpa_len hd
  · obtain ⟨M, ds, d, L, hd, ⟨x, lo, hi, rfl, rfl⟩, q⟩ := h
    cases hd with
    | cons h1 hd => cases hd with
      | cons h2 hd => cases hd with
        | cons h3 hd =>
          cases hd
          exact rb_ret (M := M) (xd_andT (xd_call L GW hr FW.g FW.F.kp FW.b (xa_cons (xd_name 0 rfl h1) xa_nil) ⟨.int x, rfl, rfl⟩) (xd_one (xd_chainI op_le op_le (xd_name 1 rfl h2) (xd_name 0 rfl h1) (xd_name 2 rfl h3)))) q
def spNeedZ (K : PySem.W.Frag) (C : Addr) : Sp := fun vs H Q _ => ∃ (M : List Addr) (a : Addr) (off : Int) (rs : List Row), vs = [.ref a] ∧ ZAt K C (hid M H) a off rs ∧ ∀ H1, Same H H1 → Q .non H1
theorem scNeedZ : FnScope ["value"] ["value"] (defScope sNeedZ) := ⟨rfl, rfl, rfl, by decide +kernel, rfl, by decide +kernel, by decide +kernel⟩
theorem ok_needZ {f : Addr} {fd : FuncData} (T : Nm mg) (Z : ZT K mg C) (I : ZI K C) (F : Df K mg "need_zone" sNeedZ ["value"] f fd) : FnOk P w K mg base CX0 1 f fd ["value"] (spNeedZ K C) := by
  refine F.F.ok scNeedZ (fun vs H Q E h => ?_) (fun cdv A outer s H vs Q E hr h => ?_)
  · obtain ⟨M, a, off, rs, rfl, _⟩ := h; rfl
  · obtain ⟨M, a, off, rs, rfl, hz, q⟩ := h
    have hty : ∀ H1, Same H H1 → TyX K H1 (.ref a) (.ref C) := fun H1 s1 => by
      obtain ⟨dx, r, e1, _⟩ := hz
      exact .base (.ins (s1 _ _ (hid_le _ _ e1)) Z.cl I.ha I.hn I.htk I.hm)
    exact rb_ifF ((xt_not (xt_val (M := M) (xd_isZ T.isi Z.mgC (xv_name 0 rfl) (hty H (Same.refl H)) hty I.yes))).to rfl) fun H1 s1 => rb_nil (q H1 s1)
/-! jumps -/
theorem any_int (ns : List Int) (n : Int) : (ns.any fun m => m == n) = decide (n ∈ ns) := by
  induction ns with
  | nil => simp
  | cons m ns ih =>
    rw [List.any_cons, ih]
    by_cases h : m = n
    · subst h; simp
    · have e : (m == n) = false := by simpa using h
      rw [e, Bool.false_or]
      have h' : n ≠ m := fun z => h z.symm
      by_cases k : n ∈ ns
      · rw [decide_eq_true k, decide_eq_true (List.mem_cons_of_mem _ k)]
      · rw [decide_eq_false k, decide_eq_false (by simp [h', k])]
theorem inI_R {X : Cx} {M : List Addr} {H : Hp} {v w : V} {n : Int} {ns : List Int} (hv : Dq X.K (hid M H) v (.int n)) (hw : Dq X.K (hid M H) w (.list (ns.map PyData.int)) ∨ Dq X.K (hid M H) w (.tuple (ns.map PyData.int))) {Q : VK} (q : Q (.bl (decide (n ∈ ns))) H) : rIn X.K false v w H Q := by
  rw [dp_int hv]
  rcases hw with hw | hw
  · obtain ⟨p, xs, rfl, hp, hx⟩ := dp_lst hw
    have e := int_all hx
    subst e
    exact ⟨p, _, rfl, .inl (SqL.of (hid_le _ _ hp)), rfl, flat_int ns, by rw [inV_int, any_int]; exact q⟩
  · obtain ⟨p, xs, rfl, hp, hx⟩ := dp_tup hw
    have e := int_all hx
    subst e
    exact ⟨p, _, rfl, .inr (same_seqT hid_le hp), rfl, flat_int ns, by rw [inV_int, any_int]; exact q⟩
theorem notInI_R {X : Cx} {M : List Addr} {H : Hp} {v w : V} {n : Int} {ns : List Int} (hv : Dq X.K (hid M H) v (.int n)) (hw : Dq X.K (hid M H) w (.list (ns.map PyData.int)) ∨ Dq X.K (hid M H) w (.tuple (ns.map PyData.int))) {Q : VK} (q : Q (.bl (!decide (n ∈ ns))) H) : rIn X.K true v w H Q := by
  rw [dp_int hv]
  rcases hw with hw | hw
  · obtain ⟨p, xs, rfl, hp, hx⟩ := dp_lst hw
    have e := int_all hx
    subst e
    exact ⟨p, _, rfl, .inl (SqL.of (hid_le _ _ hp)), rfl, flat_int ns, by rw [inV_int, any_int]; exact q⟩
  · obtain ⟨p, xs, rfl, hp, hx⟩ := dp_tup hw
    have e := int_all hx
    subst e
    exact ⟨p, _, rfl, .inr (same_seqT hid_le hp), rfl, flat_int ns, by rw [inV_int, any_int]; exact q⟩
section
variable {X : Cx} {M : List Addr} {σ : L2.St} {H : Hp} {a b : Expr} {pos : Pos} {n : Int} {ns : List Int} {sq : PyData}
theorem seq_of {K : PySem.W.Frag} {H : Hp} {w : V} (hs : sq = .list (ns.map PyData.int) ∨ sq = .tuple (ns.map PyData.int)) (h : Dq K H w sq) : Dq K H w (.list (ns.map PyData.int)) ∨ Dq K H w (.tuple (ns.map PyData.int)) := by
  rcases hs with rfl | rfl
  · exact .inl h
  · exact .inr h
theorem xt_inS (hs : sq = .list (ns.map PyData.int) ∨ sq = .tuple (ns.map PyData.int)) (ha : XD X M σ H a (.int n)) (hb : XD X M σ H b sq) (hm : behindInMarks .In b = false := by rfl) : XT X σ H (.Compare a [.In] [b] pos) (decide (n ∈ ns)) :=
  xt_cmp op_in_seq ha hb (fun H1 v w s hv hw Q q => inI_R hv (seq_of hs hw) (q H1 (Same.refl _))) hm
theorem xd_inS (hs : sq = .list (ns.map PyData.int) ∨ sq = .tuple (ns.map PyData.int)) (ha : XD X M σ H a (.int n)) (hb : XD X M σ H b sq) (hm : behindInMarks .In b = false := by rfl) : XD X M σ H (.Compare a [.In] [b] pos) (.bool (decide (n ∈ ns))) :=
  xd_cmp op_in_seq ha hb (fun H1 v w s hv hw Q q => inI_R hv (seq_of hs hw) (q _ H1 (Same.refl _) (.bl _))) hm
theorem xt_notInS (hs : sq = .list (ns.map PyData.int) ∨ sq = .tuple (ns.map PyData.int)) (ha : XD X M σ H a (.int n)) (hb : XD X M σ H b sq) (hm : behindInMarks .NotIn b = false := by rfl) : XT X σ H (.Compare a [.NotIn] [b] pos) (!decide (n ∈ ns)) :=
  xt_cmp op_notIn_seq ha hb (fun H1 v w s hv hw Q q => notInI_R hv (seq_of hs hw) (q H1 (Same.refl _))) hm
end
def okJs (js : List Int) : Prop := (∀ j ∈ js, okJ j) ∧ js.Nodup ∧ 1 ≤ js.length ∧ js.length ≤ 4
def RChk (ds es : List PyData) : Prop := ∃ (sq : PyData) (js : List Int), ds = [sq] ∧ (sq = .list (js.map PyData.int) ∨ sq = .tuple (js.map PyData.int)) ∧ okJs js ∧ es = js.map PyData.int
theorem okJ_B {j : Int} (h : okJ j) : isJumpB j = true := ab_le h
theorem scChk : FnScope ["jumps", "found", "item"] ["jumps"] (defScope sChk) := ⟨rfl, rfl, rfl, by decide +kernel, rfl, by decide +kernel, by decide +kernel⟩
theorem ok_chk {f fW fI : Addr} {fd fdW fdI : FuncData} (T : Nm mg) (hG : ∃ t, mg "GREATEST_JUMP" = some (.int 720 t)) (FW : Df K mg "is_whole" sWhole ["value"] fW fdW) (FI : Df K mg "is_jump" sIsJump ["value"] fI fdI) (F : Df K mg "checked_jumps" sChk ["jumps"] f fd) : FnOk P w K mg base CX0 2 f fd ["jumps"] (spL K RChk) := by
  have GW : FnOk P w K mg base CX0 1 fW fdW ["value"] (spR K RWhole) := ok_whole T FW
  have GI : FnOk P w K mg base CX0 1 fI fdI ["value"] (spR K RIsJump) := ok_isJump T hG FI
  refine F.F.ok scChk (fun vs H Q E h => ?_) (fun cdv A outer s H vs Q E hr h => ?_)
  · obtain ⟨M, ds, es, L, hd, ⟨sq, js, rfl, _⟩, q⟩ := h
    exact dpa_len hd
  · obtain ⟨M, ds, es, L, hd, ⟨sq, js, rfl, hsq, hjs, rfl⟩, q⟩ := h
    cases hd with
    | cons h1 h2 =>
      cases h2
      rename_i v0
      refine rb_setL 1 (xl_lst L xa_nil) (fun p xs H1 s1 hp h1p hxs => ?_) scChk.nd
      cases hxs
      have g0 : Same (hid M H) (hid (p :: M) H1) := hid_step hp s1
      have Lp : Live (p :: M) H1 := live_new L s1 (by rw [h1p]; simp)
      refine rb_forS (M := p :: M) hsq (xd_name 0 rfl (h1.up g0)) fun H3 s3 => ⟨fun k σ' H' => Same (hid (p :: M) H3) (hid (p :: M) H') ∧ Live (p :: M) H' ∧ Same H H' ∧ ∃ (a2 : Option V), σ' = [some v0, some (.ref p), a2] ∧ H' p = some (.lst ((js.take k).map V.int)),
        ⟨Same.refl _, Lp.mono s3, s1.trans s3, none, rfl, s3 _ _ h1p⟩, fun k σ' H' w => w.1, fun k it hk σ' H' v hw hv => ?_, fun σ' H' hw => ?_⟩
      · obtain ⟨z1, L4, z2, a2, rfl, hp4⟩ := hw
        obtain ⟨j, hj, rfl⟩ := map_get hk
        have hjm : j ∈ js := List.mem_of_getElem? hj
        have hnew : j ∉ js.take k := fun z => by
          have e : js = js.take k ++ j :: js.drop (k + 1) := by
            obtain ⟨hl, e⟩ := List.getElem?_eq_some_iff.mp hj
            rw [← e, List.getElem_cons_drop, List.take_append_drop]
          have nd := hjs.2.1
          rw [e, List.nodup_append] at nd
          exact nd.2.2 j z j (List.mem_cons_self ..) rfl
        have ev := dp_int hv
        subst ev
        refine rg_name 2 ?_ scChk.nd
        refine rb_ifF ((xt_or2 (xt_not (xt_val (M := p :: M) (xd_call L4 GW hr FW.g FW.F.kp FW.b (xa_cons (xv_name 2 rfl).int xa_nil) ⟨.int j, rfl, rfl⟩))) fun _ => xt_not (xt_val (M := p :: M) (xd_call L4 GI hr FI.g FI.F.kp FI.b (xa_cons (xv_name 2 rfl).int xa_nil) ⟨j, rfl, rfl⟩))).to (by rw [okJ_B (hjs.1 j hjm)]; rfl)) fun H5 s5 => ?_
        have hpM : p ∉ M := L.fresh hp
        refine rb_ifF ((xt_inS (M := M) (ns := js.take k) (.inl rfl) (xv_name 2 rfl).int (xd_name 1 rfl (.lst (by rw [hid_of hpM]; exact s5 _ _ hp4) (ints_dq _)))).to (decide_eq_false hnew)) fun H6 s6 => ?_
        have s46 := s5.trans s6
        refine rb_append (M := p :: M) (xs := (js.take k).map V.int) (List.mem_cons_self ..) (xv_name 1 rfl) (s46 _ _ hp4) (xv_name 2 rfl).int (by rw [List.length_map, List.length_take]; have := hjs.2.2.2; omega) fun v7 H7 s7 hv7 => rb_nil ?_
        have e7 := dp_int hv7
        subst e7
        have s47 := s46.trans s7
        refine ⟨?_, (L4.mono s47).upd, same_upd (z2.trans s47) hp, some (.int j), rfl, ?_⟩
        · rw [hid_cons_upd]; exact z1.trans (hid_mono s47)
        · rw [take_snoc hj, List.map_append]; exact upd_same
      · obtain ⟨z1, L4, z2, a2, rfl, hp4⟩ := hw
        rw [List.length_map, List.take_length] at hp4
        exact rb_retR (XV.go (xv_name 1 rfl) fun H5 s5 => q p _ H5 (z2.trans s5) hp (s5 _ _ hp4) (ints_dq _))
/-! zone_with -/
def spZW (K : PySem.W.Frag) (C : Addr) : Sp := fun vs H Q _ => ∃ (M : List Addr) (v : V) (f : Int) (sq : PyData) (items : List PyData) (st : List Step), vs = [.int f, v] ∧ Live M H ∧ Dq K (hid M H) v sq ∧ (sq = .list items ∨ sq = .tuple items) ∧ Items items st ∧ st.length ≤ 1000 ∧ okS st ∧
  ∀ y H1, Same H H1 → ZAt K C (hid M H1) y f (rowsP f st) → Q (.ref y) H1
theorem scZW : FnScope ["offset", "steps", "rows", "before", "item", "row"] ["offset", "steps"] (defScope sZW) := ⟨rfl, rfl, rfl, by decide +kernel, rfl, by decide +kernel, by decide +kernel⟩
theorem ok_zw {f fW fN fP fJ fI fF fZ et : Addr} {fd fdW fdN fdP fdJ fdI fdF fdZ : FuncData} (T : Nm mg) (hG : ∃ t, mg "GREATEST_JUMP" = some (.int 720 t)) (W : ZMk P w K mg base C fZ fdZ et) (FW : Df K mg "is_whole" sWhole ["value"] fW fdW) (FN : Df K mg "need_integer" sNeed ["value"] fN fdN) (FP : Df K mg "is_whole_pair" sPair ["value"] fP fdP)
    (FJ : Df K mg "jump_of" sJump ["row"] fJ fdJ) (FI : Df K mg "is_jump" sIsJump ["value"] fI fdI) (FF : Df K mg "can_follow" sFollow ["rows", "row"] fF fdF) (F : Df K mg "zone_with" sZW ["offset", "steps"] f fd) : FnOk P w K mg base CX0 6 f fd ["offset", "steps"] (spZW K C) := by
  have GN : FnOk P w K mg base CX0 5 fN fdN ["value"] (spR K RNeed) := (ok_need T FW FN).mono (by decide)
  have GP : FnOk P w K mg base CX0 5 fP fdP ["value"] (spR K RPair) := (ok_pair T FW FP).mono (by decide)
  have GF : FnOk P w K mg base CX0 5 fF fdF ["rows", "row"] (spR K RFollow) := (ok_follow T hG FJ FI FF).mono (by decide)
  refine F.F.ok scZW (fun vs H Q E h => ?_) (fun cdv A outer s H vs Q E hr h => ?_)
  · obtain ⟨M, v, f, sq, items, st, rfl, _⟩ := h; rfl
  · obtain ⟨M, v1, f, sq, items, st, rfl, L, h2, hsq, hit, hlen, ok, q⟩ := h
    have okr := okR_of (f := f) ok
    refine rb_expr (M := M) (d := .none) (xd_call L GN hr FN.g FN.F.kp FN.b (xa_cons (xv_name 0 rfl).int xa_nil) ⟨f, rfl, rfl⟩) fun Ha sa => ?_
    refine rb_ifF ((xt_not (xt_val (M := M) (xd_isS T.isi T.lst T.tup hsq (xd_name 1 rfl (h2.up (hid_mono sa)))))).to rfl) fun Hb sb => ?_
    have sab := sa.trans sb
    have La := L.mono sab
    refine rb_setL 2 (xl_lst La xa_nil) (fun p xs H1 s1 hp h1p hxs => ?_) scZW.nd
    cases hxs
    have k2 := (h2.up (hid_mono (M := M) sab)).up (hid_step hp s1)
    have Lp : Live (p :: M) H1 := live_new La s1 (by rw [h1p]; simp)
    refine rb_set 3 (M := p :: M) (xd_name 0 rfl (.int f)) (fun v H2 s2 hv => ?_) scZW.nd
    have e3 := dp_int hv
    subst e3
    have k3 := k2.up (hid_mono (M := p :: M) s2)
    have hp0 : H p = none := sab.free hp
    have s02 := (sab.trans s1).trans s2
    have hpM : p ∉ M := La.fresh hp
    refine rb_forS (M := p :: M) hsq (xd_name 1 rfl k3) fun H3 s3 => ⟨fun k σ' H' => Same (hid (p :: M) H3) (hid (p :: M) H') ∧ Live (p :: M) H' ∧ Same H H' ∧ ∃ (xs : List V) (a4 a5 : Option V), σ' = [some (.int f), some v1, some (.ref p), some (.int (offS f (st.take k))), a4, a5] ∧ H' p = some (.lst xs) ∧ DqAll K (hid (p :: M) H') xs ((rowsP f (st.take k)).map rowD),
      ⟨Same.refl _, (Lp.mono s2).mono s3, s02.trans s3, [], none, none, rfl, s3 _ _ (s2 _ _ h1p), .nil⟩, fun k σ' H' w => w.1, fun k it hk σ' H' v hw hv => ?_, fun σ' H' hw => ?_⟩
    · obtain ⟨z1, L4, z2, xs, a4, a5, rfl, hp4, hx4⟩ := hw
      obtain ⟨c, hc, hpr⟩ := hit.2 k it hk
      have hklt : k < st.length := (List.getElem?_eq_some_iff.mp hc).1
      obtain ⟨c1, c2⟩ := okr k _ (rowsP_at f st k c hc)
      rw [rowsP_take] at c2
      have hxl : xs.length < 100000 := by
        rw [dpa_len hx4, List.length_map, rowsP_len, List.length_take]
        omega
      refine rg_name 4 ?_ scZW.nd
      refine rb_ifF ((xt_not (xt_val (M := p :: M) (xd_call L4 GP hr FP.g FP.F.kp FP.b (xa_cons (xd_name 4 rfl hv) xa_nil) ⟨it, c, rfl, hpr, rfl⟩))).to rfl) fun H5 s5 => ?_
      have hv5 := hv.up (hid_mono (M := p :: M) s5)
      have L5 := L4.mono s5
      refine rb_set 5 (M := p :: M) (xd_tup L5 (xa_cons (pr_ix hpr (xd_name 4 rfl hv5) rfl) (xa_cons (xd_name 3 rfl (.int _)) (xa_cons (xd_add (xd_name 3 rfl (.int _)) (pr_ix hpr (xd_name 4 rfl hv5) rfl)) xa_nil)))) (fun v6 H6 s6 hv6 => ?_) scZW.nd
      have L6 := L5.mono s6
      have s46 := s5.trans s6
      have hx6 := hx4.up (hid_mono (M := p :: M) s46)
      have LM := Live.tail L6
      have hp6 : H6 p = some (.lst xs) := s46 _ _ hp4
      have kp : Dq K (hid M H6) (.ref p) (.list ((rowsP f (st.take k)).map rowD)) := .lst (by rw [hid_of hpM]; exact hp6) (hx6.up hid_weak)
      refine rb_ifF ((xt_not (xt_val (M := M) (xd_call LM GF hr FF.g FF.F.kp FF.b (xa_cons (xd_name 2 rfl kp) (xa_cons (xd_name 5 rfl (hv6.up hid_weak)) xa_nil)) ⟨_, (c.1, offS f (st.take k), offS f (st.take k) + c.2), rfl, rfl⟩))).to (by rw [c1, c2]; rfl)) fun H7 s7 => ?_
      refine rb_append (M := p :: M) (xs := xs) (List.mem_cons_self ..) (xv_name 2 rfl) (s7 _ _ hp6) (xd_name 5 rfl (hv6.up (hid_mono s7))) hxl fun v8 H8 s8 hv8 => ?_
      have s68 := s7.trans s8
      have s48 := s46.trans s68
      have hv9 : Dq K (hid (p :: M) (upd H8 p (.lst (xs ++ [v8])))) v6 (rowD (c.1, offS f (st.take k), offS f (st.take k) + c.2)) := by rw [hid_cons_upd]; exact hv6.up (hid_mono s68)
      refine rb_set 3 (M := p :: M) (xd_ixT (fun _ _ => rfl) (xd_name 5 rfl hv9) xd_int (show atI [PyData.int c.1, .int (offS f (st.take k)), .int (offS f (st.take k) + c.2)] 2 = some (.int (offS f (st.take k) + c.2)) from rfl)) (fun v10 H10 s10 hv10 => rb_nil ?_) scZW.nd
      have e10 := dp_int hv10
      subst e10
      have s4x : Same (hid (p :: M) H') (hid (p :: M) H10) := by
        refine (hid_mono (M := p :: M) s48).trans ?_
        have z := hid_mono (M := p :: M) s10
        rw [hid_cons_upd] at z
        exact z
      refine ⟨z1.trans s4x, (Live.upd (L6.mono s68)).mono s10, (same_upd (z2.trans s48) hp0).trans s10, xs ++ [v8], some v, some v6, ?_, s10 _ _ upd_same, ?_⟩
      · rw [take_snoc hc, off_snoc]
        rfl
      · rw [take_snoc hc, rowsP_snoc, List.map_append]
        refine dpa_app (hx4.up s4x) (.cons (hv8.up ?_) .nil)
        have z := hid_mono (M := p :: M) s10
        rw [hid_cons_upd] at z
        exact z
    · obtain ⟨z1, L4, z2, xs, a4, a5, rfl, hp4, hx4⟩ := hw
      rw [hit.1, List.take_length] at hx4
      have LM := Live.tail L4
      have kp : Dq K (hid M H') (.ref p) (.list ((rowsP f st).map rowD)) := .lst (by rw [hid_of hpM]; exact hp4) (hx4.up hid_weak)
      refine rb_retR ((xz_make (items := (chOf f st).map stepD) (cs := chOf f st) LM W hr (xd_name 0 rfl (.int f)) (XL.dd ((xl_comp (own := [("row", 5)]) (fun d => match d with | .tuple [x, _, z] => some (.tuple [x, z]) | _ => none) LM scZW.nd (xd_name 2 rfl kp)
        (blkOk_by (own := [("row", 5)]) (N := ["offset", "steps", "rows", "before", "item", "row"]) (sc := defScope sZW) (by decide +kernel)) (by rw [List.length_map, rowsP_len]; omega) (fun p d v H1 hd hp s1 Lp hv => ?_)).to ((fm_map rowD _ chD (fun _ => rfl) (rowsP f st)).trans (ch_rows f st))) LM) (.inl rfl) (items_ch _) okr (by rw [ch_len]; exact hlen)).go fun y H5 s5 hz => q y H5 (z2.trans s5) hz)
      obtain ⟨r, _, rfl⟩ := mem_row hd
      intro s0 H0 C0 cl fp
      refine rg_name 5 ?_ scZW.nd
      refine ⟨rfl, bt_nil ⟨Same.refl _, .inl ⟨rfl, _, rfl, fun s0 H0 C0 cl fp => ?_⟩⟩⟩
      exact XD.go (xd_tup Lp (xa_cons (xd_ixT (fun _ _ => rfl) (xd_name 5 rfl hv) xd_int rfl) (xa_cons (xd_ixT (fun _ _ => rfl) (xd_name 5 rfl hv) xd_int rfl) xa_nil))) fun v H2 s2 hv2 => ⟨s2, hv2⟩
end
end Zn

set_option Elab.async false
set_option linter.all false
set_option maxRecDepth 100000
set_option maxHeartbeats 8000000
namespace Dl
open PySem PySem.Spec PyProof.Rows L2
section
variable {X : Cx} {M : List Addr} {σ : L2.St} {H H' : Hp} {e a b c o elt tg iter : Expr} {ifs : List Expr} {scope : Scope} {own : List (Str × Nat)} {d d1 d2 : PyData} {ds ds2 es' : List PyData} {v : V} {pos p1 p2 p3 : Pos}
/-- [elt for tg in iter if ..], iter a tuple -/
theorem xl_compT (f : PyData → Option PyData) (L : Live M H) (hN : X.N.Nodup) (hit : XD X M σ H iter (.tuple ds)) (ok : BlkOk X.N X.env.scope scope own) (hz : ds.length ≤ 100000)
    (hst : ∀ p d v H1, d ∈ ds → H p = none → Same H H1 → Live (p :: M) H1 → Dq X.K (hid (p :: M) H1) v d → BG X scope tg v (wipe σ (own.map (·.2))) H1 fun σ2 H2 => wipe σ2 (own.map (·.2)) = wipe σ (own.map (·.2)) ∧ BT X scope ifs σ2 H2 fun k H3 =>
      Same H1 H3 ∧ ((k = true ∧ ∃ d', f d = some d' ∧ BE X scope elt σ2 H3 fun y H4 => Same H3 H4 ∧ Dq X.K (hid (p :: M) H4) y d') ∨ (k = false ∧ f d = none)))
    (hc : X.calm = true := by rfl) (hs : ∀ x, foldedSetIterable iter X.env x = pure x := by intro _; rfl) : XL X M σ H (.ListComp elt [⟨tg, iter, ifs, 0⟩] scope pos) (ds.filterMap f) := fun H1 s1 Q q =>
  ⟨_, pe_lc (own := own) hc hN (pi_tup re_) ok (fun _ _ _ _ _ => bg_) (fun _ _ _ _ _ => bt_) (fun _ _ _ _ _ => be_) hs, hit H1 s1 _ fun v H2 s2 hv => by
    obtain ⟨a, xs, rfl, ha, hx⟩ := dp_tup hv
    have L2' : Live M H2 := L.mono (s1.trans s2)
    refine ⟨a, rfl, ⟨xs, same_seqT hid_le ha⟩, fun p hp => ?_⟩
    have hp0 : H p = none := (s1.trans s2).free hp
    refine lc_tup (xs := xs) (a := a) (fun i H' => Same H2 H' ∧ ∃ acc, H' p = some (.lst acc) ∧ DqAll X.K (hid (p :: M) H') acc ((ds.take i).filterMap f)) ⟨same_new hp, [], upd_same, by simpa using DqAll.nil⟩ (fun i H' _ w => same_seqT w.1 (same_seqT hid_le ha)) (fun i x H' hi w => ?_) (fun H' w => ?_)
    · obtain ⟨sH, acc, hacc, hda⟩ := w
      obtain ⟨d, hd1, hd2⟩ := dpa_get' hx hi
      have etake : ds.take (i + 1) = ds.take i ++ [d] := by rw [List.take_add_one, hd1]; rfl
      have hlen : acc.length < sizeLine := by
        rw [dpa_len hda]
        have h1 : ((ds.take i).filterMap f).length ≤ (ds.take i).length := List.length_filterMap_le ..
        have h2 : (ds.take i).length ≤ i := by rw [List.length_take]; omega
        have h3 : i < ds.length := (List.getElem?_eq_some_iff.mp hd1).1
        have h4 : 100000 < sizeLine := by decide
        omega
      have Lp : Live (p :: M) H' := fun b hb => by
        rcases List.mem_cons.mp hb with z | hb
        · subst z; rw [hacc]; simp
        · exact L2'.mono sH b hb
      refine bg_mono (hst p d x H' (List.mem_of_getElem? hd1) hp0 ((s1.trans s2).trans sH) Lp (hd2.up (hid_step hp sH))) fun σ2 Ha ⟨hw, hbt⟩ => ⟨hw, bt_mono hbt fun k Hb ⟨sb, hk⟩ => ?_⟩
      rcases hk with ⟨hk, d', hf, hbe⟩ | ⟨hk, hf⟩
      · subst hk
        refine iteT (be_mono hbe fun y Hc ⟨sc, hy⟩ => ?_)
        have sd := sb.trans sc
        refine ⟨acc, sd _ _ hacc, hlen, fun b o e => ?_, acc ++ [y], upd_same, ?_⟩
        · rw [upd_ne (ne_of_none e hp)]
          exact sd _ _ (sH _ _ e)
        · have eh : hid (p :: M) (upd Hc p (.lst (acc ++ [y]))) = hid (p :: M) Hc := hid_upd_mem (List.mem_cons_self ..)
          rw [eh, etake, List.filterMap_append]
          have e2 : [d].filterMap f = [d'] := by simp [hf]
          rw [e2]
          exact dpa_app (hda.up (hid_mono sd)) (.cons hy .nil)
      · subst hk
        refine iteF ⟨sH.trans sb, acc, sb _ _ hacc, ?_⟩
        rw [etake, List.filterMap_append]
        have e2 : [d].filterMap f = [] := by simp [hf]
        rw [e2, List.append_nil]
        exact hda.up (hid_mono sb)
    · obtain ⟨sH, acc, hacc, hda⟩ := w
      have e1 : ds.take xs.length = ds := by rw [dpa_len hx]; exact List.take_length
      rw [e1] at hda
      refine q p acc H' (s2.trans sH) (s2.free hp) hacc (hda.up fun b o e => ?_)
      have n1 : b ∉ p :: M := fun z => by unfold hid at e; rw [if_pos z] at e; cases e
      rw [hid_of (fun z => n1 (List.mem_cons_of_mem _ z))]
      exact hid_le _ _ e⟩
/-- the greatest of some -/
def mx : List Int → Int
  | [] => 0
  | [x] => x
  | x :: y :: r => if mx (y :: r) ≤ x then x else mx (y :: r)
theorem mx_ok : ∀ {ns : List Int}, ns ≠ [] → mx ns ∈ ns ∧ ∀ y ∈ ns, y ≤ mx ns
  | [], h => absurd rfl h
  | [x], _ => ⟨List.mem_cons_self .., fun y hy => by rw [List.mem_singleton.mp hy]; exact Int.le_refl _⟩
  | x :: y :: r, _ => by
    obtain ⟨a, b⟩ := mx_ok (ns := y :: r) (by simp)
    unfold mx
    split
    · rename_i z
      refine ⟨List.mem_cons_self .., fun u hu => ?_⟩
      rcases List.mem_cons.mp hu with e | hu
      · rw [e]; exact Int.le_refl _
      · exact Int.le_trans (b u hu) z
    · rename_i z
      refine ⟨List.mem_cons_of_mem _ a, fun u hu => ?_⟩
      rcases List.mem_cons.mp hu with e | hu
      · rw [e]; omega
      · exact b u hu
theorem mx_same {ns ms : List Int} (h : ∀ k, k ∈ ns ↔ k ∈ ms) (hn : ns ≠ []) (hm : ms ≠ []) : mx ns = mx ms := by
  obtain ⟨a1, b1⟩ := mx_ok hn
  obtain ⟨a2, b2⟩ := mx_ok hm
  have := b2 _ ((h _).mp a1)
  have := b1 _ ((h _).mpr a2)
  omega
theorem xd_maxL {ns : List Int} (hm : X.mg "max" = none) (hn : ns ≠ []) (ha : XD X M σ H e (.list (ns.map PyData.int))) (hc : X.calm = true := by rfl) (hg : Gl X "max" := by rfl)
    (he : starEach [e] X.env = (false, eval e X.env) :: starEach [] X.env := by rfl) (hpl : (backTo p2 (starEach [] X.env)).any (·.1) = false := by rfl) : XD X M σ H (.Call (.Name "max" p1) [e] [] p2) (.int (mx ns)) := fun H1 s1 Q q =>
  re_B (cr_max hc) (ra_1 (ha H1 s1 _ fun v H2 s2 hv => by
    obtain ⟨a, xs, rfl, ha, hx⟩ := dp_lst hv
    have ex := ints_v hx
    subst ex
    refine ⟨a, ns, rfl, SqL.of (hid_le _ _ ha), by have := List.length_pos_iff.mpr hn; omega, fun m h1 h2 => ?_⟩
    obtain ⟨a1, b1⟩ := mx_ok hn
    have e : m = mx ns := by
      have := h2 _ a1
      have := b1 _ h1
      omega
    rw [e]
    exact q _ H2 s2 (.int _)) he) hm (by decide +kernel) hg (by decide) (by decide) he hpl
/-- sorted, as a list -/
def insI (x : Int) : List Int → List Int
  | [] => [x]
  | y :: ys => if x ≤ y then x :: y :: ys else y :: insI x ys
def isort : List Int → List Int
  | [] => []
  | x :: xs => insI x (isort xs)
theorem mem_ins (x k : Int) : ∀ ys : List Int, k ∈ insI x ys ↔ k = x ∨ k ∈ ys
  | [] => by simp [insI]
  | y :: ys => by
    unfold insI
    split
    · rw [List.mem_cons]
    · rw [List.mem_cons, mem_ins x k ys, List.mem_cons]
      constructor
      · rintro (h | h | h)
        · exact .inr (.inl h)
        · exact .inl h
        · exact .inr (.inr h)
      · rintro (h | h | h)
        · exact .inr (.inl h)
        · exact .inl h
        · exact .inr (.inr h)
theorem mem_isort (k : Int) : ∀ xs : List Int, k ∈ isort xs ↔ k ∈ xs
  | [] => Iff.rfl
  | x :: xs => by
    unfold isort
    rw [mem_ins, mem_isort k xs, List.mem_cons]
theorem asc_ins {x : Int} : ∀ {ys : List Int}, ys.Pairwise (· < ·) → x ∉ ys → (insI x ys).Pairwise (· < ·)
  | [], _, _ => List.pairwise_singleton _ _
  | y :: ys, h, n => by
    obtain ⟨h1, h2⟩ := List.pairwise_cons.mp h
    have ne : x ≠ y := fun z => n (z ▸ List.mem_cons_self ..)
    unfold insI
    split
    · refine List.pairwise_cons.mpr ⟨fun u hu => ?_, h⟩
      rcases List.mem_cons.mp hu with e | hu
      · rw [e]; omega
      · have := h1 u hu; omega
    · refine List.pairwise_cons.mpr ⟨fun u hu => ?_, asc_ins h2 fun z => n (List.mem_cons_of_mem _ z)⟩
      rcases (mem_ins x u ys).mp hu with e | hu
      · rw [e]; omega
      · exact h1 u hu
theorem asc_isort : ∀ {xs : List Int}, xs.Nodup → (isort xs).Pairwise (· < ·)
  | [], _ => .nil
  | x :: xs, h => by
    obtain ⟨h1, h2⟩ := List.nodup_cons.mp h
    exact asc_ins (asc_isort h2) fun z => h1 ((mem_isort x xs).mp z)
theorem len_ins (x : Int) : ∀ ys : List Int, (insI x ys).length = ys.length + 1
  | [] => rfl
  | y :: ys => by
    unfold insI
    split
    · rfl
    · rw [List.length_cons, len_ins x ys, List.length_cons]
theorem len_isort : ∀ xs : List Int, (isort xs).length = xs.length
  | [] => rfl
  | x :: xs => by unfold isort; rw [len_ins, len_isort xs]; rfl
end
end Dl
namespace Zn
open PySem PySem.Spec PyProof.Rows L2 Dl
/-! ### kinds -/
abbrev sKInit : Stmt := inClass (top 30) 0
abbrev sKJumps : Stmt := inClass (top 30) 1
abbrev sKApart : Stmt := inClass (top 30) 2
abbrev sKMost : Stmt := inClass (top 30) 3
abbrev sKCont : Stmt := inClass (top 30) 4
abbrev sKEq : Stmt := inClass (top 30) 5
abbrev sHas : Stmt := inClass (top 30) 6
abbrev sWhy : Stmt := inClass (top 30) 7
def kf (t : Addr) (ap mo : Int) : List (Str × V) := [("sizes", .ref t), ("distance", .int ap), ("many", .int mo)]
theorem kf_s (t : Addr) (ap mo : Int) : (kf t ap mo).lookup ("sizes" : Str) = some (.ref t) := by
  unfold kf
  simp [List.lookup]
theorem kf_d (t : Addr) (ap mo : Int) : (kf t ap mo).lookup ("distance" : Str) = some (.int ap) := by
  unfold kf
  simp [List.lookup, show (("distance" : Str) == ("sizes" : Str)) = false by decide +kernel]
theorem kf_m (t : Addr) (ap mo : Int) : (kf t ap mo).lookup ("many" : Str) = some (.int mo) := by
  unfold kf
  simp [List.lookup, show (("many" : Str) == ("sizes" : Str)) = false by decide +kernel, show (("many" : Str) == ("distance" : Str)) = false by decide +kernel]
theorem kf_none {m : Str} (t : Addr) (ap mo : Int) (h1 : (m == ("sizes" : Str)) = false) (h2 : (m == ("distance" : Str)) = false) (h3 : (m == ("many" : Str)) = false) : (kf t ap mo).lookup m = none := by
  unfold kf
  simp [List.lookup, h1, h2, h3]
theorem kf_put1 (t : Addr) (ap : Int) : putF "distance" (.int ap) [(("sizes" : Str), V.ref t)] = [(("sizes" : Str), V.ref t), (("distance" : Str), V.int ap)] := by
  show (if ("sizes" : Str) = "distance" then _ else (("sizes" : Str), V.ref t) :: [(("distance" : Str), V.int ap)]) = _
  rw [if_neg (by decide +kernel)]
theorem kf_put2 (t : Addr) (ap mo : Int) : putF "many" (.int mo) [(("sizes" : Str), V.ref t), (("distance" : Str), V.int ap)] = kf t ap mo := by
  show (if ("sizes" : Str) = "many" then _ else (("sizes" : Str), V.ref t) :: (if ("distance" : Str) = "many" then _ else (("distance" : Str), V.int ap) :: [(("many" : Str), V.int mo)])) = _
  rw [if_neg (by decide +kernel), if_neg (by decide +kernel)]
  rfl
/-- a kind as it was told -/
structure Kd where
  js : List Int
  ap : Int
  mo : Int
def floorK (js : List Int) : Int := 2 * mx (js.map ab)
structure KOk (k : Kd) : Prop where
  js : okJs k.js
  ap : floorK k.js < k.ap
  m0 : 0 ≤ k.mo
  m1 : k.mo ≤ 3
/-- at a a kind of the class at C -/
def KAt (K : PySem.W.Frag) (C : Addr) (H : Hp) (a : Addr) (k : Kd) : Prop := ∃ dx t, H a = some (.ins C dx (kf t k.ap k.mo)) ∧ Dq K H (.ref t) (.tuple ((isort k.js).map PyData.int))
theorem KAt.up {K : PySem.W.Frag} {C : Addr} {H H' : Hp} {a : Addr} {k : Kd} (h : KAt K C H a k) (s : Same H H') : KAt K C H' a k := by
  obtain ⟨dx, r, h1, h2⟩ := h
  exact ⟨dx, r, s _ _ h1, h2.up s⟩
structure KT (K : PySem.W.Frag) (mg : Str → Option Value) (C : Addr) : Prop where
  cl : Cls K C
  nS : NoAttr K C "sizes"
  nD : NoAttr K C "distance"
  nM : NoAttr K C "many"
  mgC : mg "Kind" = some (.ref C)
section
variable {X : Cx} {M : List Addr} {σ : L2.St} {H H' : Hp} {o : Expr} {pos : Pos} {K : PySem.W.Frag} {C pa : Addr} {k : Kd}
theorem xd_sizes (hZ : ∃ mg, KT X.K mg C) (h : KAt X.K C (hid M H) pa k) (ho : XV X σ H o (.ref pa)) (hb : attributeBase o "sizes" X.env (eval o X.env) = eval o X.env := by rfl) : XD X M σ H (.Attribute o "sizes" pos) (.tuple ((isort k.js).map PyData.int)) := by
  obtain ⟨dx, r, h1, h2⟩ := h
  obtain ⟨_, Z⟩ := hZ
  exact (xv_fld ho (hid_le _ _ h1) Z.cl Z.nS (kf_s r _ _) hb).dd h2
theorem xv_dist (hZ : ∃ mg, KT X.K mg C) (h : KAt X.K C (hid M H) pa k) (ho : XV X σ H o (.ref pa)) (hb : attributeBase o "distance" X.env (eval o X.env) = eval o X.env := by rfl) : XV X σ H (.Attribute o "distance" pos) (.int k.ap) := by
  obtain ⟨dx, r, h1, h2⟩ := h
  obtain ⟨_, Z⟩ := hZ
  exact xv_fld ho (hid_le _ _ h1) Z.cl Z.nD (kf_d r _ _) hb
theorem xv_many (hZ : ∃ mg, KT X.K mg C) (h : KAt X.K C (hid M H) pa k) (ho : XV X σ H o (.ref pa)) (hb : attributeBase o "many" X.env (eval o X.env) = eval o X.env := by rfl) : XV X σ H (.Attribute o "many" pos) (.int k.mo) := by
  obtain ⟨dx, r, h1, h2⟩ := h
  obtain ⟨_, Z⟩ := hZ
  exact xv_fld ho (hid_le _ _ h1) Z.cl Z.nM (kf_m r _ _) hb
end
def spKInit (K : PySem.W.Frag) (C : Addr) : Sp := fun vs H Q _ => ∃ (M : List Addr) (H0 : Hp) (y dx : Addr) (vq : V) (sq : PyData) (k : Kd), vs = [.ref y, vq, .int k.ap, .int k.mo] ∧ H = upd (upd H0 dx (.own y)) y (.ins C dx []) ∧ H0 y = none ∧ H0 dx = none ∧ dx ≠ y ∧ Live M H0 ∧
  Dq K (hid M H0) vq sq ∧ (sq = .list (k.js.map PyData.int) ∨ sq = .tuple (k.js.map PyData.int)) ∧ KOk k ∧ ∀ H1, Same H0 H1 → KAt K C (hid M H1) y k → Q .non H1
section
variable {P : Program} {w : World} {K : PySem.W.Frag} {mg : Str → Option Value} {base : Heap} {C : Addr}
theorem scKInit : FnScope ["self", "jumps", "apart", "most", "jump"] ["self", "jumps", "apart", "most"] (defScope sKInit) := ⟨rfl, rfl, rfl, by decide +kernel, rfl, by decide +kernel, by decide +kernel⟩
theorem fm_abs : ∀ js : List Int, (js.map PyData.int).filterMap (fun d => match d with | .int j => some (PyData.int (ab j)) | _ => none) = (js.map ab).map PyData.int
  | [] => rfl
  | j :: js => by rw [List.map_cons, List.filterMap_cons, List.map_cons, List.map_cons, ← fm_abs js]
theorem okJs_ne {js : List Int} (h : okJs js) : js ≠ [] := fun z => by
  have := h.2.2.1
  rw [z] at this
  simp at this
theorem ne_sort {js : List Int} (h : js ≠ []) : (isort js).map ab ≠ [] := fun z => by
  have e := congrArg List.length z
  rw [List.length_map, len_isort] at e
  exact h (List.length_eq_zero_iff.mp e)
theorem floor_sort {js : List Int} (h : js ≠ []) : 2 * mx ((isort js).map ab) = floorK js := by
  unfold floorK
  rw [mx_same (ns := (isort js).map ab) (ms := js.map ab) (fun k => ?_) (ne_sort h) (fun z => h (List.map_eq_nil_iff.mp z))]
  rw [List.mem_map, List.mem_map]
  constructor
  · rintro ⟨j, hj, e⟩; exact ⟨j, (mem_isort j js).mp hj, e⟩
  · rintro ⟨j, hj, e⟩; exact ⟨j, (mem_isort j js).mpr hj, e⟩
theorem ok_kinit {f fW fI fC fJ : Addr} {fd fdW fdI fdC fdJ : FuncData} (T : Nm mg) (hS : mg "sorted" = none) (Z : KT K mg C) (hG : ∃ t, mg "GREATEST_JUMP" = some (.int 720 t)) (hJ : ∃ t, mg "MOST_JUMPS" = some (.int 4 t)) (hM : ∃ t, mg "MOST_CHANGES" = some (.int 3 t)) (FW : Df K mg "is_whole" sWhole ["value"] fW fdW) (FI : Df K mg "is_integer" sIsInt ["value", "low", "high"] fI fdI)
    (FJ : Df K mg "is_jump" sIsJump ["value"] fJ fdJ) (FC : Df K mg "checked_jumps" sChk ["jumps"] fC fdC)
    {kV dc pm cd ct oc dV : Value} {od an : Option Addr} {osl : Array (Option Value)} (lk : K.lookup f = some ⟨oc, od, .func (PySem.W.fnOf "__init__" "Kind.__init__" (defArgs sKInit) (defBody sKInit) (defScope sKInit) dV kV dc pm an cd ct), osl⟩) (hcd : PySem.W.codeIn K cd "Kind.__init__" = true) :
    FnOk P w K mg base CX0 3 f (PySem.W.fnOf "__init__" "Kind.__init__" (defArgs sKInit) (defBody sKInit) (defScope sKInit) dV kV dc pm an cd ct) ["self", "jumps", "apart", "most"] (spKInit K C) := by
  have GW : FnOk P w K mg base CX0 2 fW fdW ["value"] (spR K RWhole) := (ok_whole T FW).mono (by decide)
  have GI : FnOk P w K mg base CX0 2 fI fdI ["value", "low", "high"] (spR K RInt) := ok_isInt T FW FI
  have GC : FnOk P w K mg base CX0 2 fC fdC ["jumps"] (spL K RChk) := ok_chk T hG FW FJ FC
  obtain ⟨tj, hJ⟩ := hJ
  obtain ⟨tm, hM⟩ := hM
  refine fn_of lk hcd scKInit (fun vs H Q E h => ?_) (fun A outer s H vs Q E hr h => ?_)
  · obtain ⟨M, H0, y, dx, vq, sq, k, rfl, _⟩ := h; rfl
  · obtain ⟨M, H0, y, dx, vq, sq, k, rfl, rfl, hy, hdx, hne, L, hq, hsq, hok, q⟩ := h
    suffices h : RB (cxOf CX0 P w K mg base ["self", "jumps", "apart", "most", "jump"] "Kind.__init__" (defScope sKInit) f cd A outer s (upd (upd H0 dx (.own y)) y (.ins C dx [])) E).nox (defBody sKInit) { nx := fun _ H' => Q .non H', rt := Q } (start ["self", "jumps", "apart", "most", "jump"] [V.ref y, vq, V.int k.ap, V.int k.mo]) (upd (upd H0 dx (.own y)) y (.ins C dx [])) by
      obtain ⟨t, h1, h2⟩ := h
      exact ⟨t, h1.nox, h2⟩
    have hjs := hok.js
    have hjl : (k.js.map PyData.int).length = k.js.length := List.length_map ..
    have hy1 : upd H0 dx (.own y) y = none := by rw [upd_ne (Ne.symm hne)]; exact hy
    have s0 : Same H0 (upd (upd H0 dx (.own y)) y (.ins C dx [])) := (same_new hdx).trans (same_new hy1)
    have eh : hid (y :: M) (upd (upd H0 dx (.own y)) y (.ins C dx [])) = hid M (upd H0 dx (.own y)) := hid_cons hy1
    have Ly : Live (y :: M) (upd (upd H0 dx (.own y)) y (.ins C dx [])) := (L.mono (same_new hdx)).cons hy1
    have hq1 : Dq K (hid (y :: M) (upd (upd H0 dx (.own y)) y (.ins C dx []))) vq sq := by rw [eh]; exact hq.up (hid_mono (same_new hdx))
    generalize hH : upd (upd H0 dx (.own y)) y (.ins C dx []) = H at s0 Ly hq1
    have hyH : H y = some (.ins C dx []) := by rw [← hH]; exact upd_same
    have lenS : ∀ {p1 p2 p3 : Pos}, XD (cxOf CX0 P w K mg base ["self", "jumps", "apart", "most", "jump"] "Kind.__init__" (defScope sKInit) f cd A outer s H E).nox (y :: M) (start ["self", "jumps", "apart", "most", "jump"] [V.ref y, vq, V.int k.ap, V.int k.mo]) H (.Call (.Name "len" p1) [.Name "jumps" p2] [] p3) (.int k.js.length) := fun {p1 p2 p3} => by
      rcases hsq with rfl | rfl
      · exact (xd_len T.len (xd_name 1 rfl hq1)).to (by rw [hjl])
      · exact (xd_lenT T.len (xd_name 1 rfl hq1)).to (by rw [hjl])
    refine rb_ifF ((xt_or2 (xt_not (xt_val (M := y :: M) (xd_isS T.isi T.lst T.tup hsq (xd_name 1 rfl hq1)))) fun _ => xt_not (xt_chainI (M := y :: M) op_le op_le xd_int lenS (xv_glob (v := .int 4) hJ ⟨tj, rfl⟩).int)).to (by
      have h1 := hjs.2.2.1
      have h2 := hjs.2.2.2
      rw [decide_eq_true (show (1 : Int) ≤ (k.js.length : Int) by omega), decide_eq_true (show (k.js.length : Int) ≤ 4 by omega)]
      rfl)) fun H1 s1 => ?_
    have hq2 := hq1.up (hid_mono (M := y :: M) s1)
    have L1 := Ly.mono s1
    refine rb_fld (pa := y) (dx := dx) (fs := []) (XD.go (M := y :: M) (xd_tupleL T.tup L1 (XL.dd (xl_sortedI (isort k.js) hS L1 (XL.dd (xl_call L1 GC hr FC.g FC.F.kp FC.b (xa_cons (xd_name 1 rfl hq2) xa_nil) ⟨sq, k.js, rfl, hsq, hjs, rfl⟩) L1) (by have := hjs.2.2.2; omega) hjs.2.1 (asc_isort hjs.2.1) (fun j => mem_isort j k.js)) L1)) fun v3 H3 s3 hv3 =>
      ⟨s3 _ _ (s1 _ _ hyH), (by decide), xv_name 0 rfl, fun H4 s4 => ?_⟩) Z.cl Z.nS
    obtain ⟨t, xs, rfl, ht, hxs⟩ := dp_tup hv3
    have s14 := s3.trans s4
    have L5 : Live (y :: M) (upd H4 y (.ins C dx (putF "sizes" (.ref t) []))) := (L1.mono s14).upd
    have s05 : Same H0 (upd H4 y (.ins C dx (putF "sizes" (.ref t) []))) := same_upd ((s0.trans s1).trans s14) hy
    have h5y : upd H4 y (.ins C dx (putF "sizes" (.ref t) [])) y = some (.ins C dx [("sizes", .ref t)]) := upd_same
    have ht5 : Dq K (hid (y :: M) (upd H4 y (.ins C dx (putF "sizes" (.ref t) [])))) (.ref t) (.tuple ((isort k.js).map PyData.int)) := by
      rw [hid_cons_upd]
      exact hv3.up (hid_mono s4)
    generalize upd H4 y (.ins C dx (putF "sizes" (.ref t) [])) = H5 at L5 s05 h5y ht5
    have ne := ne_sort (okJs_ne hjs)
    refine rb_ifF ((xt_or2 (xt_not (xt_val (M := y :: M) (xd_call L5 GW hr FW.g FW.F.kp FW.b (xa_cons (xv_name 2 rfl).int xa_nil) ⟨.int k.ap, rfl, rfl⟩))) fun _ => xt_cmpI (M := y :: M) op_le (xv_name 2 rfl).int (xd_mul xd_int (xd_maxL T.max ne (XL.dd ((xl_compT (own := [("jump", 4)]) (fun d => match d with | .int j => some (PyData.int (ab j)) | _ => none) L5 scKInit.nd
        ((xv_fld (xv_name 0 rfl) h5y Z.cl Z.nS (by simp [List.lookup])).dd ht5) (blkOk_by (own := [("jump", 4)]) (N := ["self", "jumps", "apart", "most", "jump"]) (sc := defScope sKInit) (by decide +kernel)) (by rw [List.length_map, len_isort]; have := hjs.2.2.2; omega) (fun p d v Hx hd hp sx Lp hv => ?cmp)).to (fm_abs _)) L5)) (.inl ⟨by decide, by decide⟩))).to (by
          rw [floor_sort (okJs_ne hjs), decide_eq_false (by have := hok.ap; omega)]
          rfl)) fun H6 s6 => ?_
    case cmp =>
      obtain ⟨j, _, rfl⟩ := List.mem_map.mp hd
      have ej := dp_int hv
      subst ej
      intro s0 H0 C0 cl fp
      refine rg_name 4 ?_ scKInit.nd
      refine ⟨rfl, bt_nil ⟨Same.refl _, .inl ⟨rfl, _, rfl, fun s0 H0 C0 cl fp => ?_⟩⟩⟩
      exact XD.go (xd_abs T.abs (xv_name 4 rfl).int) fun v H2 s2 hv2 => ⟨s2, hv2⟩
    have L6 := L5.mono s6
    refine rb_ifF ((xt_not (xt_val (M := y :: M) (xd_call L6 GI hr FI.g FI.F.kp FI.b (xa_cons (xv_name 3 rfl).int (xa_cons xd_int (xa_cons (xv_glob (v := .int 3) hM ⟨tm, rfl⟩).int xa_nil))) ⟨k.mo, 0, 3, rfl, rfl⟩))).to (by
      rw [decide_eq_true hok.m0, decide_eq_true hok.m1]
      rfl)) fun H7 s7 => ?_
    have s57 := s6.trans s7
    have ht7 := ht5.up (hid_mono (M := y :: M) s57)
    refine rb_fld (pa := y) (dx := dx) (fs := [("sizes", .ref t)]) (XV.go (xv_name 2 rfl) fun H8 s8 => ⟨s8 _ _ (s57 _ _ h5y), (by show 1 < 1000; decide), xv_name 0 rfl, fun H9 s9 => ?_⟩) Z.cl Z.nD
    rw [kf_put1]
    have s79 := s8.trans s9
    have ht9 : Dq K (hid (y :: M) (upd H9 y (.ins C dx [("sizes", .ref t), ("distance", .int k.ap)]))) (.ref t) (.tuple ((isort k.js).map PyData.int)) := by
      rw [hid_cons_upd]
      exact ht7.up (hid_mono s79)
    have s09 : Same H0 (upd H9 y (.ins C dx [("sizes", .ref t), ("distance", .int k.ap)])) := same_upd ((s05.trans s57).trans s79) hy
    have h9y : upd H9 y (.ins C dx [("sizes", .ref t), ("distance", .int k.ap)]) y = some (.ins C dx [("sizes", .ref t), ("distance", .int k.ap)]) := upd_same
    generalize upd H9 y (.ins C dx [("sizes", .ref t), ("distance", .int k.ap)]) = Ha at ht9 s09 h9y
    refine rb_fld (pa := y) (dx := dx) (fs := [("sizes", .ref t), ("distance", .int k.ap)]) (XV.go (xv_name 3 rfl) fun Hb sb => ⟨sb _ _ h9y, (by show 2 < 1000; decide), xv_name 0 rfl, fun Hc sc => rb_nil (q _ (same_upd ((s09.trans sb).trans sc) hy) ?_)⟩) Z.cl Z.nM
    rw [kf_put2]
    refine ⟨dx, t, by rw [hid_of (L.fresh hy)]; exact upd_same, ?_⟩
    have hz : Same (hid (y :: M) Ha) (hid (y :: M) (upd Hc y (.ins C dx (kf t k.ap k.mo)))) := by
      rw [hid_cons_upd]
      exact hid_mono (sb.trans sc)
    exact (ht9.up hz).up hid_weak
/-! properties -/
def spKD (K : PySem.W.Frag) (C : Addr) (f : Kd → PyData) : Sp := fun vs H Q _ => ∃ (M : List Addr) (a : Addr) (k : Kd), vs = [.ref a] ∧ Live M H ∧ KAt K C (hid M H) a k ∧ ∀ v H1, Same H H1 → Dq K (hid M H1) v (f k) → Q v H1
theorem scKJumps : FnScope ["self"] ["self"] (defScope sKJumps) := ⟨rfl, rfl, rfl, by decide +kernel, rfl, by decide +kernel, by decide +kernel⟩
theorem ok_kjumps {f : Addr} {fd : FuncData} (Z : KT K mg C) (F : Fun K "jumps" "Kind.jumps" sKJumps f fd) : FnOk P w K mg base CX0 1 f fd ["self"] (spKD K C fun k => .tuple ((isort k.js).map PyData.int)) := by
  refine F.ok scKJumps (fun vs H Q E h => ?_) (fun cdv A outer s H vs Q E hr h => ?_)
  · obtain ⟨M, a, k, rfl, _⟩ := h; rfl
  · obtain ⟨M, a, k, rfl, L, hk, q⟩ := h
    exact rb_ret (M := M) (xd_sizes ⟨_, Z⟩ hk (xv_name 0 rfl)) q
theorem scKApart : FnScope ["self"] ["self"] (defScope sKApart) := ⟨rfl, rfl, rfl, by decide +kernel, rfl, by decide +kernel, by decide +kernel⟩
theorem ok_kapart {f : Addr} {fd : FuncData} (Z : KT K mg C) (F : Fun K "apart" "Kind.apart" sKApart f fd) : FnOk P w K mg base CX0 1 f fd ["self"] (spKD K C fun k => .int k.ap) := by
  refine F.ok scKApart (fun vs H Q E h => ?_) (fun cdv A outer s H vs Q E hr h => ?_)
  · obtain ⟨M, a, k, rfl, _⟩ := h; rfl
  · obtain ⟨M, a, k, rfl, L, hk, q⟩ := h
    exact rb_ret (M := M) (xv_dist ⟨_, Z⟩ hk (xv_name 0 rfl)).int q
theorem scKMost : FnScope ["self"] ["self"] (defScope sKMost) := ⟨rfl, rfl, rfl, by decide +kernel, rfl, by decide +kernel, by decide +kernel⟩
theorem ok_kmost {f : Addr} {fd : FuncData} (Z : KT K mg C) (F : Fun K "most" "Kind.most" sKMost f fd) : FnOk P w K mg base CX0 1 f fd ["self"] (spKD K C fun k => .int k.mo) := by
  refine F.ok scKMost (fun vs H Q E h => ?_) (fun cdv A outer s H vs Q E hr h => ?_)
  · obtain ⟨M, a, k, rfl, _⟩ := h; rfl
  · obtain ⟨M, a, k, rfl, L, hk, q⟩ := h
    exact rb_ret (M := M) (xv_many ⟨_, Z⟩ hk (xv_name 0 rfl)).int q
end
end Zn

set_option Elab.async false
set_option linter.all false
set_option maxRecDepth 100000
set_option maxHeartbeats 8000000
namespace Dl
open PySem PySem.Spec PyProof.Rows L2
section
variable {X : Cx} {M : List Addr} {σ : L2.St} {H H' : Hp} {e a b c o : Expr} {d d1 d2 : PyData} {ds ds2 : List PyData} {v : V} {pos p1 p2 p3 tpos : Pos} {D : Ends} {rest : List Stmt}
/-- for i, x in enumerate(e): .. -/
theorem rb_enum {elts : List Expr} {kk : Nat} {body : List Stmt} (hm : X.mg "enumerate" = none) (hit : XD X M σ H e (.list ds))
    (h : ∀ H1, Same H H1 → ∃ Pv : Nat → L2.St → Hp → Prop, Pv 0 σ H1 ∧ (∀ k σ' H', Pv k σ' H' → Same (hid M H1) (hid M H')) ∧
      (∀ k d, ds[k]? = some d → ∀ σ' H' T x, Pv k σ' H' → H' T = none → Dq X.K (hid M H') x d → RG X (.Tuple elts kk tpos) (.ref T) σ' (upd H' T (.tup [.int (k : Nat), x])) fun σ2 H2 => RB X body { D with nx := Pv (k + 1), ct := Pv (k + 1), bk := RB X rest D } σ2 H2) ∧ ∀ σ' H', Pv ds.length σ' H' → RB X rest D σ' H')
    (hg : Gl X "enumerate" := by rfl) (he : starEach [e] X.env = [(false, eval e X.env)] := by rfl) (hp : PassesOwn (model X.prog X.w) X.A X.env X.xe := by exact PassesOwn.never) (hc : X.calm = true := by rfl) (hs : ∀ x, foldedSetIterable (.Call (.Name "enumerate" p1) [e] [] p2) X.env x = pure x := by intro _; rfl) :
    RB X (.For (.Tuple elts kk tpos) (.Call (.Name "enumerate" p1) [e] [] p2) body [] pos :: rest) D σ H :=
  ⟨_, pss_cons (ps_for hp hc (pi_enum hg hm ra_ he) rg_ rb_ hs) rb_, ra_1 (hit H (Same.refl H) _ fun v H1 s1 hv => by
    obtain ⟨a, xs, rfl, ha, hx⟩ := dp_lst hv
    obtain ⟨Pv, h0, hk, hst, hd⟩ := h H1 s1
    have hlen := dpa_len hx
    refine ⟨a, xs, rfl, SqL.of (hid_le _ _ ha), fun i m σ' H' => m + i = xs.length ∧ Pv i σ' H', ⟨xs.length, rfl, h0⟩, fun i m σ' H' w => ?_⟩
    obtain ⟨hmi, hp⟩ := w
    have here : SqL X.K H' a xs := SqL.of (hid_le _ _ (hk i σ' H' hp _ _ ha))
    cases ex : xs[i]? with
    | none =>
      have hge : xs.length ≤ i := List.getElem?_eq_none_iff.mp ex
      have ei : i = ds.length := by omega
      subst ei
      exact .inl ⟨⟨xs, here, hge⟩, hd σ' H' hp⟩
    | some x0 =>
      have hlt := (List.getElem?_eq_some_iff.mp ex).1
      refine .inr ⟨⟨xs, x0, here, ex⟩, Pv (i + 1), fun σ2 H2 h2 => ⟨m - 1, by omega, by omega, h2⟩, fun v H2 hy => ?_⟩
      obtain ⟨T, x, rfl, hT, rfl, hx0⟩ := hy
      obtain ⟨d, hd1, hd2⟩ := dpa_get' hx (hx0 xs here)
      exact hst i d hd1 σ' H' T x hp hT (hd2.up (hk i σ' H' hp))) he⟩
/-- for tg in range(a, b): .. -/
theorem rb_range2 {tg : Expr} {body : List Stmt} {lo hi : Int} {n : Nat} (hm : X.mg "range" = none) (ha : XD X M σ H a (.int lo)) (hb : XD X M σ H b (.int hi)) (hn : (hi - lo).toNat = n) (hz : (-(1000000 : Int) ≤ lo ∧ lo ≤ 1000000) ∧ (-(1000000 : Int) ≤ hi ∧ hi ≤ 1000000))
    (h : ∀ H1, Same H H1 → ∃ Pv : Nat → L2.St → Hp → Prop, Pv 0 σ H1 ∧ (∀ k σ' H', k < n → Pv k σ' H' → RG X tg (.int (lo + (k : Int))) σ' H' fun σ2 H2 => RB X body { D with nx := Pv (k + 1), ct := Pv (k + 1), bk := RB X rest D } σ2 H2) ∧ ∀ σ' H', Pv n σ' H' → RB X rest D σ' H')
    (hg : Gl X "range" := by rfl) (he : starEach [a, b] X.env = (false, eval a X.env) :: starEach [b] X.env := by rfl) (he2 : starEach [b] X.env = (false, eval b X.env) :: starEach [] X.env := by rfl) (he3 : starEach [b] X.env = [(false, eval b X.env)] := by rfl)
    (hp : PassesOwn (model X.prog X.w) X.A X.env X.xe := by exact PassesOwn.never) (hc : X.calm = true := by rfl) (hs : ∀ x, foldedSetIterable (.Call (.Name "range" p1) [a, b] [] p2) X.env x = pure x := by intro _; rfl) : RB X (.For tg (.Call (.Name "range" p1) [a, b] [] p2) body [] pos :: rest) D σ H :=
  ⟨_, pss_cons (ps_for hp hc (pi_range2 hg hm ra_ (by rw [he, he3]) he3) rg_ rb_ hs) rb_, ra_cons (ha H (Same.refl H) _ fun v H1 s1 hv => ra_1 (hb H1 s1 _ fun u H2 s2 hu => by
    have b1 : (1000000 : Int) < 2 ^ 62 := by decide
    obtain ⟨Pv, h0, hst, hd⟩ := h H2 (s1.trans s2)
    refine ⟨lo, hi, by rw [dp_int hv, dp_int hu], ⟨by omega, by omega, by omega, by omega⟩, ?_⟩
    rw [hn]
    exact for_range Pv h0 (fun i σ' H' hi' p => hst i σ' H' hi' p) hd) he2) he⟩
/-- e is None -/
def isN : PyData → Bool
  | .none => true
  | _ => false
theorem dec_non {K : PySem.W.Frag} {H : Hp} {v : V} {d : PyData} (h : Dq K H v d) : decide (v = V.non) = isN d := by
  cases h <;> first | exact decide_eq_true rfl | exact decide_eq_false (fun z => V.noConfusion z)
theorem xd_isNone {j} (ha : XD X M σ H a d) (hm : behindInMarks .Is (.Constant .none j p1) = false := by rfl) : XD X M σ H (.Compare a [.Is] [.Constant .none j p1] pos) (.bool (isN d)) :=
  xd_cmp op_isN ha xd_non (fun H1 v w s hv hw Q q => ⟨dp_non hw, by rw [dec_non hv]; exact q _ H1 (Same.refl _) (.bl _)⟩) hm
theorem xt_isNone {j} (ha : XD X M σ H a d) (hm : behindInMarks .Is (.Constant .none j p1) = false := by rfl) : XT X σ H (.Compare a [.Is] [.Constant .none j p1] pos) (isN d) :=
  xt_cmp op_isN ha (xd_non (M := M)) (fun H1 v w s hv hw Q q => ⟨dp_non hw, by rw [dec_non hv]; exact q H1 (Same.refl _)⟩) hm
/-- the first number below n with p -/
def first (p : Nat → Bool) : Nat → Option Nat
  | 0 => none
  | n + 1 => match first p n with
    | some i => some i
    | none => if p n = true then some n else none
theorem first_snoc {p : Nat → Bool} {k : Nat} (h : first p k = none) (hp : p k = false) : first p (k + 1) = none := by
  unfold first
  rw [h]
  simp [hp]
theorem first_hit {p : Nat → Bool} {k : Nat} (h : first p k = none) (hp : p k = true) : ∀ {n : Nat}, k < n → first p n = some k
  | 0, hn => by omega
  | n + 1, hn => by
    by_cases z : k = n
    · subst z
      unfold first
      rw [h]
      simp [hp]
    · have q := first_hit h hp (n := n) (by omega)
      unfold first
      rw [q]
/-- tuples and lists of whole numbers, compared -/
theorem eqv_ints2 : ∀ ns ms : List Int, PyData.eqvAll (ns.map PyData.int) (ms.map PyData.int) = decide (ns = ms)
  | [], [] => by simp [PyData.eqvAll]
  | [], m :: ms => by simp [PyData.eqvAll]
  | n :: ns, [] => by simp [PyData.eqvAll]
  | n :: ns, m :: ms => by
    rw [List.map_cons, List.map_cons]
    show (PyData.eqv (.int n) (.int m) && PyData.eqvAll (ns.map PyData.int) (ms.map PyData.int)) = _
    rw [eqv_ints2 ns ms]
    by_cases h1 : n = m
    · by_cases h2 : ns = ms
      · simp [h1, h2, PyData.eqv]
      · simp [h1, h2, PyData.eqv]
    · simp [h1, PyData.eqv]
theorem lay_ints : ∀ ns : List Int, PyData.canLayAll0 (ns.map PyData.int) = true
  | [] => by simp [PyData.canLayAll0]
  | r :: rs => by
    rw [List.map_cons]
    show (PyData.canLay0 (.int r) && PyData.canLayAll0 (rs.map PyData.int)) = true
    rw [lay_ints rs]
    simp [PyData.canLay0]
theorem depth_ints : ∀ ns : List Int, PyData.depthAll (ns.map PyData.int) = 0
  | [] => by simp [PyData.depthAll]
  | r :: rs => by
    rw [List.map_cons]
    show max (PyData.depth (.int r)) (PyData.depthAll (rs.map PyData.int)) = 0
    rw [depth_ints rs]
    simp [PyData.depth]
theorem shaped_intsT (ns : List Int) : SeqAt.shaped (.tuple (ns.map PyData.int)) = true := by
  unfold SeqAt.shaped
  rw [show PyData.canLay0 (.tuple (ns.map PyData.int)) = PyData.canLayAll0 (ns.map PyData.int) by simp [PyData.canLay0], lay_ints, show PyData.depth (.tuple (ns.map PyData.int)) = PyData.depthAll (ns.map PyData.int) + 1 by simp [PyData.depth], depth_ints]
  simp
theorem shaped_ints (ns : List Int) : SeqAt.shaped (.list (ns.map PyData.int)) = true := by
  unfold SeqAt.shaped
  rw [show PyData.canLay0 (.list (ns.map PyData.int)) = PyData.canLayAll0 (ns.map PyData.int) by simp [PyData.canLay0], lay_ints, show PyData.depth (.list (ns.map PyData.int)) = PyData.depthAll (ns.map PyData.int) + 1 by simp [PyData.depth], depth_ints]
  simp
end
end Dl
namespace Zn
open PySem PySem.Spec PyProof.Rows L2 Dl
theorem jmp_rows : ∀ (f : Int) (st : List Step), (rowsP f st).map jmp = st.map (·.2)
  | _, [] => rfl
  | f, s :: st => by
    rw [rowsP_cons, List.map_cons, List.map_cons, jmp_rows]
    have e : jmp (s.1, f, f + s.2) = s.2 := by show f + s.2 - f = _; omega
    rw [e]
theorem jumps_rows (f : Int) (st : List Step) : (rowsP f st).map (fun r => PyData.int (jmp r)) = (st.map (·.2)).map PyData.int := by
  have h := congrArg (List.map PyData.int) (jmp_rows f st)
  rw [List.map_map] at h
  exact h
section
variable {X : Cx} {M : List Addr} {σ : L2.St} {H : Hp} {e o : Expr} {C : Addr} {off : Int} {rs : List Row} {pos apos p1 p2 : Pos} {f : Addr} {fd : FuncData}
/-- o.m(), a new list -/
theorem xl_z {m : Str} {g : Int → List Row → List PyData} {k : Nat} {pl : Sem Bool} (L : Live M H) (hc : Cls X.K C) (hM : Meth X.K C m f) (h1 : (m == ("base" : Str)) = false) (h2 : (m == ("rows" : Str)) = false) (F : FnOk X.prog X.w X.K X.mg X.base CX0 k f fd ["self"] (spML X.K C g)) (hr : Room k X.A) (hb : Binds X.K fd ["self"] [])
    (ho : XZ C X M σ H o off rs) (hlen : rs.length ≤ 1000)
    (ht : eval (.Call (.Attribute o m apos) [] [] pos) X.env = (do
      let ov ← eval o X.env
      standAt apos.atName
      let (f, first) ← holding [ov] (getMethod ov m pl)
      callWith pos f first (backTo pos (starEach [] X.env)) (backToKw pos (keywordEach [] X.env))) := by rfl) : XL X M σ H (.Call (.Attribute o m apos) [] [] pos) (g off rs) := fun H1 s Q q =>
  ⟨_, pe_meth0 re_ hc hM F hr hb .nil pass0 ht, ho H1 s _ fun y H2 s2 hz => by
    obtain ⟨dx, r, e1, e2⟩ := hz
    exact ⟨y, dx, _, rfl, hid_le _ _ e1, zf_none off r h1 h2, M, y, off, rs, rfl, L.mono (s.trans s2), ⟨dx, r, e1, e2⟩, hlen, fun p xs H3 s3 hp h3 hd => q p xs H3 (s2.trans s3) (s2.free hp) h3 hd⟩⟩
theorem xd_lenX (L : Live M H) (hs : PySem.W.findIn X.K (.ref C) "__len__" = some (some (.ref f))) (hf : PySem.W.isFn X.K (.ref f) = true) (F : FnOk X.prog X.w X.K X.mg X.base CX0 1 f fd ["self"] (spMD X.K C fun _ rs => .int rs.length)) (hr : Room 2 X.A) (hb : Binds X.K fd ["self"] []) (hm : X.mg "len" = none)
    (ho : XZ C X M σ H o off rs) (hlen : rs.length ≤ 1000) (hg : Gl X "len" := by rfl) (he : starEach [o] X.env = (false, eval o X.env) :: starEach [] X.env := by rfl) (hpl : (backTo pos (starEach [] X.env)).any (·.1) = false := by rfl) :
    XD X M σ H (.Call (.Name "len" p1) [o] [] pos) (.int rs.length) := fun H1 s Q q =>
  re_B (call_lenO hs hf F hr hb) (ra_1 (ho H1 s _ fun y H2 s2 hz => by
    have hz0 := hz
    obtain ⟨dx, r, e1, e2⟩ := hz
    exact ⟨y, dx, _, rfl, hid_le _ _ e1, M, y, off, rs, rfl, L.mono (s.trans s2), hz0, hlen, fun v H3 s3 hv => ⟨rs.length, dp_int hv, by omega, q _ H3 (s2.trans s3) (.int _)⟩⟩) he) hm (by decide +kernel) hg (by decide) (by decide) he hpl
/-- the expression tells a kind -/
def XK (C : Addr) (X : Cx) (M : List Addr) (σ : L2.St) (H : Hp) (e : Expr) (k : Kd) : Prop := ∀ H1, Same H H1 → ∀ Q : VK, (∀ y H2, Same H1 H2 → KAt X.K C (hid M H2) y k → Q (.ref y) H2) → RE X e σ H1 Q
theorem XK.go {Q : VK} {k : Kd} (h : XK C X M σ H e k) (q : ∀ y H2, Same H H2 → KAt X.K C (hid M H2) y k → Q (.ref y) H2) : RE X e σ H Q := h H (Same.refl H) Q q
theorem xk_v {pa : Addr} {k : Kd} (ho : XV X σ H o (.ref pa)) (hk : KAt X.K C (hid M H) pa k) : XK C X M σ H o k := fun H1 s Q q => ho H1 s Q fun H2 s2 => q pa H2 s2 (hk.up (hid_mono (s.trans s2)))
/-- isinstance(o, Kind) -/
theorem xd_isK {t : Value} {r : Bool} {v : V} (hm : X.mg "isinstance" = none) (hC : X.mg "Kind" = some (.ref C)) (ho : XV X σ H o v) (hup : ∀ H1, Same H H1 → TyX X.K H1 v t) (hk : PySem.W.kitOne X.K t (.ref C) = some r) (hg : Gl X "isinstance" := by rfl) (hgZ : Gl X "Kind" := by rfl)
    (he : starEach [o, .Name "Kind" p2] X.env = (false, eval o X.env) :: starEach [.Name "Kind" p2] X.env := by rfl) (he2 : starEach [.Name "Kind" p2] X.env = (false, eval (.Name "Kind" p2) X.env) :: starEach [] X.env := by rfl) (hpl : (backTo pos (starEach [.Name "Kind" p2] X.env)).any (·.1) = false := by rfl) :
    XD X M σ H (.Call (.Name "isinstance" p1) [o, .Name "Kind" p2] [] pos) (.bool r) := fun H1 s Q q =>
  re_B call_isi (ra_cons (ho H1 s _ fun H2 s2 => ra_1 (xv_glob (v := .ref C) hC rfl hgZ (by decide) H2 (Same.refl _) _ fun H3 s3 => ⟨v, .ref C, t, .ref C, r, rfl, .own C, hup H3 ((s.trans s2).trans s3), hk, q _ H3 (s2.trans s3) (.bl _)⟩) he2) he) hm (by decide +kernel) hg (by decide) (by decide) he hpl
end
/-! ### why_not -/
def pJ (js : List Int) (st : List Step) (i : Nat) : Bool := match st[i]? with
  | some s => !decide (s.2 ∈ js)
  | none => false
def pA (ap : Int) (st : List Step) (i : Nat) : Bool := match st[i]?, st[i + 1]? with
  | some s, some t => decide (t.1 - s.1 < ap)
  | _, _ => false
def whyD (k : Kd) (st : List Step) : PyData :=
  if (st.length : Int) > k.mo then .tuple [.str "most", .int st.length]
  else match first (pJ k.js st) st.length with
    | some i => .tuple [.str "jump", .int i]
    | none => match first (pA k.ap st) (st.length - 1) with
      | some i => .tuple [.str "apart", .int (1 + i)]
      | none => .none
def spWhy (K : PySem.W.Frag) (CZ CK : Addr) (f : Kd → List Step → PyData) : Sp := fun vs H Q _ => ∃ (M : List Addr) (a z : Addr) (k : Kd) (off : Int) (st : List Step), vs = [.ref a, .ref z] ∧ Live M H ∧ KAt K CK (hid M H) a k ∧ ZAt K CZ (hid M H) z off (rowsP off st) ∧ st.length ≤ 50 ∧ ∀ v H1, Same H H1 → Dq K (hid M H1) v (f k st) → Q v H1
section
variable {P : Program} {w : World} {K : PySem.W.Frag} {mg : Str → Option Value} {base : Heap} {CZ CK : Addr}
theorem isort_mem (js : List Int) (n : Int) : decide (n ∈ isort js) = decide (n ∈ js) := by
  by_cases h : n ∈ js
  · rw [decide_eq_true h, decide_eq_true ((mem_isort n js).mpr h)]
  · rw [decide_eq_false h, decide_eq_false fun z => h ((mem_isort n js).mp z)]
theorem moms_fm : ∀ cs : List (Int × Int), (cs.map stepD).filterMap (fun d => match d with | .tuple [x, _] => some x | _ => none) = (cs.map (·.1)).map PyData.int
  | [] => rfl
  | c :: cs => by rw [List.map_cons, List.filterMap_cons, List.map_cons, List.map_cons, ← moms_fm cs]; rfl
theorem moms_ch : ∀ (o : Int) (st : List Step), (chOf o st).map (·.1) = st.map (·.1)
  | _, [] => rfl
  | o, s :: st => by
    show s.1 :: (chOf (o + s.2) st).map (·.1) = _
    rw [moms_ch]
    rfl
theorem scWhy : FnScope ["self", "zone", "index", "jump", "moments", "moment", "offset"] ["self", "zone"] (defScope sWhy) := ⟨rfl, rfl, rfl, by decide +kernel, rfl, by decide +kernel, by decide +kernel⟩
theorem atN {ns : List Int} {i : Nat} {n : Int} (h : ns[i]? = some n) {j : Int} (hj : j = (i : Int)) : atI (ns.map PyData.int) j = some (.int n) := by
  rw [hj]
  exact atI_nat (by rw [List.getElem?_map, h]; rfl)
theorem ok_why {f fN fC fJ fL : Addr} {fd fdN fdC fdJ fdL : FuncData} (T : Nm mg) (hE : mg "enumerate" = none) (Z : ZT K mg CZ) (Y : KT K mg CK)
    (GN : FnOk P w K mg base CX0 2 fN fdN ["value"] (spNeedZ K CZ)) (FN : Df K mg "need_zone" sNeedZ ["value"] fN fdN)
    (GC : FnOk P w K mg base CX0 2 fC fdC ["self"] (spML K CZ fun _ rs => rs.map chD)) (MC : Mt K CZ "changes" "Zone.changes" sChanges ["self"] fC fdC)
    (GJ : FnOk P w K mg base CX0 2 fJ fdJ ["self"] (spML K CZ fun _ rs => rs.map fun r => .int (jmp r))) (MJ : Mt K CZ "jump_list" "Zone.jump_list" sJumps ["self"] fJ fdJ)
    (GL : FnOk P w K mg base CX0 1 fL fdL ["self"] (spMD K CZ fun _ rs => .int rs.length)) (ML : Mt K CZ "__len__" "Zone.__len__" sLen ["self"] fL fdL)
    (F : Fun K "why_not" "Kind.why_not" sWhy f fd) : FnOk P w K mg base CX0 3 f fd ["self", "zone"] (spWhy K CZ CK whyD) := by
  refine F.ok scWhy (fun vs H Q E h => ?_) (fun cdv A outer s H vs Q E hr h => ?_)
  · obtain ⟨M, a, z, k, off, st, rfl, _⟩ := h; rfl
  · obtain ⟨M, a, z, k, off, st, rfl, L, hk, hz, hlen, q⟩ := h
    have hrl : (rowsP off st).length ≤ 1000 := by rw [rowsP_len]; omega
    refine rb_exprR (re_call GN hr FN.g FN.F.kp FN.b (ra_1 (XV.go (xv_name 1 rfl) fun H1 s1 => ⟨M, z, off, _, rfl, hz.up (hid_mono s1), fun H2 s2 => ?_⟩)))
    have s02 := s1.trans s2
    have L2' := L.mono s02
    have hk2 := hk.up (hid_mono (M := M) s02)
    have hz2 := hz.up (hid_mono (M := M) s02)
    refine rb_if (xt_cmpI (M := M) op_gt (xd_lenX L2' ML.m.at_ ML.m.fn GL hr ML.b T.len (xz_v (xv_name 1 rfl) hz2) hrl) (xv_many ⟨_, Y⟩ hk2 (xv_name 0 rfl)).int) (fun e H3 s3 => ?_) (fun e H3 s3 => rb_nil ?_)
    · have e1 := of_decide_eq_true e
      rw [rowsP_len] at e1
      refine rb_ret (M := M) (xd_tup (L2'.mono s3) (xa_cons xd_str (xa_cons (xd_lenX (L2'.mono s3) ML.m.at_ ML.m.fn GL hr ML.b T.len (xz_v (xv_name 1 rfl) (hz2.up (hid_mono s3))) hrl) xa_nil))) fun v H4 s4 hv => q v H4 ((s02.trans s3).trans s4) ?_
      unfold whyD
      rw [if_pos e1]
      rw [rowsP_len] at hv
      exact hv
    · have e1 := of_decide_eq_false e
      rw [rowsP_len] at e1
      have s03 := s02.trans s3
      have L3 := L.mono s03
      have hz3 := hz.up (hid_mono (M := M) s03)
      refine rb_enum (M := M) hE (XL.dd ((xl_z L3 Z.cl MJ.m (by decide +kernel) (by decide +kernel) GJ hr MJ.b (xz_v (xv_name 1 rfl) hz3) hrl).to (jumps_rows off st)) L3) fun H4 s4 => ⟨fun i σ' H' => Same H4 H' ∧ first (pJ k.js st) i = none ∧ ∃ a2 a3, σ' = [some (.ref a), some (.ref z), a2, a3, none, none, none], ⟨Same.refl _, rfl, none, none, rfl⟩, fun i σ' H' w => hid_mono w.1, fun i it hi σ' H' t x w ht hv => ?_, fun σ' H' w => ?_⟩
      · obtain ⟨z1, hf, a2, a3, rfl⟩ := w
        obtain ⟨j, hj, rfl⟩ := map_get hi
        rw [List.getElem?_map] at hj
        cases es : st[i]? with
        | none => rw [es] at hj; cases hj
        | some sx =>
          rw [es] at hj
          cases hj
          have ev := dp_int hv
          subst ev
          have z2 : Same H4 (upd H' t (.tup [.int (i : Nat), .int sx.2])) := z1.trans (same_new ht)
          refine rg_tup (SqT.of upd_same) (rgs_cons (rg_name 2 (rgs_cons (rg_name 3 (rgs_nil ?_) scWhy.nd)) scWhy.nd))
          show RB _ _ _ _ (upd H' t (.tup [.int (i : Nat), .int sx.2]))
          generalize upd H' t (.tup [.int (i : Nat), .int sx.2]) = H5 at z2
          have s05 := (s03.trans s4).trans z2
          have hk5 := hk.up (hid_mono (M := M) s05)
          have ep : pJ k.js st i = !decide (sx.2 ∈ k.js) := by unfold pJ; rw [es]
          refine rb_if ((xt_notInS (M := M) (ns := isort k.js) (.inr rfl) (xv_name 3 rfl).int (xd_sizes ⟨_, Y⟩ hk5 (xv_name 0 rfl))).to (by rw [isort_mem, ← ep])) (fun e H6 s6 => ?_) (fun e H6 s6 => rb_nil (rb_nil ?_))
          · refine rb_ret (M := M) (xd_tup ((L.mono s05).mono s6) (xa_cons xd_str (xa_cons (xv_name 2 rfl).int xa_nil))) fun v H7 s7 hv => q v H7 ((s05.trans s6).trans s7) ?_
            unfold whyD
            rw [if_neg e1, first_hit hf e (List.getElem?_eq_some_iff.mp es).1]
            exact hv
          · exact ⟨z2.trans s6, first_snoc hf e, some (.int i), some (.int sx.2), rfl⟩
      · obtain ⟨z1, hf, a2, a3, rfl⟩ := w
        rw [List.length_map, List.length_map] at hf
        have s04 := (s03.trans s4).trans z1
        have L4 := L.mono s04
        have hz4 := hz.up (hid_mono (M := M) s04)
        refine rb_setC0 4 (M := M) (own := [("moment", 5), ("offset", 6)]) (fun d => match d with | .tuple [x, _] => some x | _ => none) L4 scWhy.nd (XL.dd ((xl_z L4 Z.cl MC.m (by decide +kernel) (by decide +kernel) GC hr MC.b (xz_v (xv_name 1 rfl) hz4) hrl).to (ch_rows off st)) L4)
          (blkOk_by (own := [("moment", 5), ("offset", 6)]) (N := ["self", "zone", "index", "jump", "moments", "moment", "offset"]) (sc := defScope sWhy) (by decide +kernel)) (by rw [List.length_map, ch_len]; omega) (fun p d v H1 hd hp s1 Lp hv => ?_) (fun p xs H5 s5 hp h5 hx => ?_)
        · obtain ⟨c, _, rfl⟩ := mem_step hd
          obtain ⟨t, rfl, ht⟩ := step_at hv
          intro s0 H0 C0 cl fp
          refine rg_tup (same_seqT hid_le ht) (rgs_cons (rg_name 5 (rgs_cons (rg_name 6 (rgs_nil ?_) scWhy.nd)) scWhy.nd))
          refine ⟨rfl, bt_nil ⟨Same.refl _, .inl ⟨rfl, _, rfl, fun s0 H0 C0 cl fp => ?_⟩⟩⟩
          exact XV.go (xv_name 5 rfl) fun H3 s3 => ⟨s3, .int c.1⟩
        rw [moms_fm (chOf off st), moms_ch] at hx
        have kp : Dq K (hid M H5) (.ref p) (.list ((st.map (·.1)).map PyData.int)) := .lst (by rw [hid_of (L4.fresh hp)]; exact h5) hx
        refine rb_range2 (M := M) (n := st.length - 1) T.rng xd_int (xd_len T.len (xd_name 4 rfl kp)) (by rw [List.length_map, List.length_map]; omega) ⟨⟨by decide, by decide⟩, by rw [List.length_map, List.length_map]; omega, by rw [List.length_map, List.length_map]; omega⟩ fun H6 s6 => ⟨fun i σ' H' => Same H6 H' ∧ first (pA k.ap st) i = none ∧ ∃ b2, σ' = [some (.ref a), some (.ref z), b2, a3, some (.ref p), none, none], ⟨Same.refl _, rfl, a2, rfl⟩, fun i σ' H' hi w => ?_, fun σ' H' w => ?_⟩
        · obtain ⟨y1, hf2, b2, rfl⟩ := w
          have s07 := ((s04.trans s5).trans s6).trans y1
          have hk7 := hk.up (hid_mono (M := M) s07)
          have kp7 := kp.up (hid_mono (M := M) (s6.trans y1))
          have l1 : i < st.length := by omega
          have l2 : i + 1 < st.length := by omega
          have g1 : (st.map (·.1))[i]? = some st[i].1 := by rw [List.getElem?_map, List.getElem?_eq_getElem l1]; rfl
          have g2 : (st.map (·.1))[i + 1]? = some st[i + 1].1 := by rw [List.getElem?_map, List.getElem?_eq_getElem l2]; rfl
          have ep : pA k.ap st i = decide (st[i + 1].1 - st[i].1 < k.ap) := by unfold pA; rw [List.getElem?_eq_getElem l1, List.getElem?_eq_getElem l2]
          refine rg_name 2 ?_ scWhy.nd
          refine rb_if ((xt_cmpI (M := M) op_lt (xd_sub (xd_ixL (fun _ _ => rfl) (xd_name 4 rfl kp7) (xv_name 2 rfl).int (atN g2 (by omega))) (xd_ixL (fun _ _ => rfl) (xd_name 4 rfl kp7) (xd_sub (xv_name 2 rfl).int xd_int) (atN g1 (by omega)))) (xv_dist ⟨_, Y⟩ hk7 (xv_name 0 rfl)).int).to ep.symm) (fun e H8 s8 => ?_) (fun e H8 s8 => rb_nil (rb_nil ?_))
          · refine rb_ret (M := M) (xd_tup ((L.mono s07).mono s8) (xa_cons xd_str (xa_cons (xv_name 2 rfl).int xa_nil))) fun v H9 s9 hv => q v H9 ((s07.trans s8).trans s9) ?_
            unfold whyD
            rw [if_neg e1, hf, first_hit hf2 e hi]
            exact hv
          · exact ⟨y1.trans s8, first_snoc hf2 e, _, rfl⟩
        · obtain ⟨y1, hf2, b2, rfl⟩ := w
          have s07 := ((s04.trans s5).trans s6).trans y1
          refine rb_ret (M := M) xd_non fun v H9 s9 hv => q v H9 (s07.trans s9) ?_
          unfold whyD
          rw [if_neg e1, hf, hf2]
          exact hv
end
end Zn

set_option Elab.async false
set_option linter.all false
set_option maxRecDepth 100000
set_option maxHeartbeats 8000000
namespace Zn
open PySem PySem.Spec PyProof.Rows L2 Dl
section
variable {X : Cx} {M : List Addr} {σ : L2.St} {H : Hp} {a b c e o : Expr} {CZ CK : Addr} {off : Int} {st : List Step} {pos apos p1 p2 : Pos} {f : Addr} {fd : FuncData} {kd kd' : Kd} {sq : PyData}
/-- o.why_not(e) -/
theorem xd_why {n : Nat} {g : Kd → List Step → PyData} {pl : Sem Bool} {m : Str} (L : Live M H) (hc : Cls X.K CK) (hM : Meth X.K CK m f) (h1 : (m == ("sizes" : Str)) = false) (h2 : (m == ("distance" : Str)) = false) (h3 : (m == ("many" : Str)) = false) (F : FnOk X.prog X.w X.K X.mg X.base CX0 n f fd ["self", "zone"] (spWhy X.K CZ CK g)) (hr : Room n X.A) (hb : Binds X.K fd ["self", "zone"] [])
    (ho : XK CK X M σ H o kd) (he : XZ CZ X M σ H e off (rowsP off st)) (hlen : st.length ≤ 50) (hst : starEach [e] X.env = (false, eval e X.env) :: starEach [] X.env := by rfl) (hpl : (backTo pos (starEach [] X.env)).any (·.1) = false := by rfl)
    (ht : eval (.Call (.Attribute o m apos) [e] [] pos) X.env = (do
      let ov ← eval o X.env
      standAt apos.atName
      let (f, first) ← holding [ov] (getMethod ov m pl)
      callWith pos f first (backTo pos (starEach [e] X.env)) (backToKw pos (keywordEach [] X.env))) := by rfl) : XD X M σ H (.Call (.Attribute o m apos) [e] [] pos) (g kd st) := fun H1 s Q q =>
  ⟨_, pe_meth re_ hc hM F hr hb .nil pass0 ra_ hst hpl ht, ho H1 s _ fun y H2 s2 hk => by
    have hk0 := hk
    obtain ⟨dx, r, e1, e2⟩ := hk
    refine ⟨y, dx, _, rfl, hid_le _ _ e1, kf_none _ _ _ h1 h2 h3, ra_1 (he H2 (s.trans s2) _ fun z H3 s3 hz => ?_) hst⟩
    rw [List.append_nil]
    exact ⟨M, y, z, kd, off, st, rfl, L.mono ((s.trans s2).trans s3), hk0.up (hid_mono s3), hz, hlen, fun v H4 s4 hv => q v H4 ((s2.trans s3).trans s4) hv⟩⟩
end
def hasD (k : Kd) (st : List Step) : PyData := .bool (isN (whyD k st))
def inK (js : List Int) : PyData → Bool
  | .int n => decide (n ∈ js)
  | _ => false
def spKCont (K : PySem.W.Frag) (C : Addr) : Sp := fun vs H Q _ => ∃ (M : List Addr) (a : Addr) (k : Kd) (v : V) (d : PyData), vs = [.ref a, v] ∧ Live M H ∧ KAt K C (hid M H) a k ∧ Dq K (hid M H) v d ∧ ∀ H1, Same H H1 → Q (.bl (inK k.js d)) H1
def sameK (k k' : Kd) : Bool := decide (isort k.js = isort k'.js) && (decide (k.ap = k'.ap) && decide (k.mo = k'.mo))
def spKEq (K : PySem.W.Frag) (C : Addr) : Sp := fun vs H Q _ => ∃ (M : List Addr) (a b : Addr) (k k' : Kd), vs = [.ref a, .ref b] ∧ Live M H ∧ KAt K C (hid M H) a k ∧ KAt K C (hid M H) b k' ∧ ∀ H1, Same H H1 → Q (.bl (sameK k k')) H1
section
variable {P : Program} {w : World} {K : PySem.W.Frag} {mg : Str → Option Value} {base : Heap} {CZ CK : Addr}
theorem scHas : FnScope ["self", "zone"] ["self", "zone"] (defScope sHas) := ⟨rfl, rfl, rfl, by decide +kernel, rfl, by decide +kernel, by decide +kernel⟩
theorem ok_has {f fW : Addr} {fd fdW : FuncData} (Y : KT K mg CK) (GW : FnOk P w K mg base CX0 3 fW fdW ["self", "zone"] (spWhy K CZ CK whyD)) (MW : Mt K CK "why_not" "Kind.why_not" sWhy ["self", "zone"] fW fdW) (F : Fun K "has" "Kind.has" sHas f fd) : FnOk P w K mg base CX0 4 f fd ["self", "zone"] (spWhy K CZ CK hasD) := by
  refine F.ok scHas (fun vs H Q E h => ?_) (fun cdv A outer s H vs Q E hr h => ?_)
  · obtain ⟨M, a, z, k, off, st, rfl, _⟩ := h; rfl
  · obtain ⟨M, a, z, k, off, st, rfl, L, hk, hz, hlen, q⟩ := h
    exact rb_ret (M := M) (xd_isNone (xd_why L Y.cl MW.m (by decide +kernel) (by decide +kernel) (by decide +kernel) GW hr MW.b (xk_v (xv_name 0 rfl) hk) (xz_v (xv_name 1 rfl) hz) hlen)) q
theorem scKCont : FnScope ["self", "x"] ["self", "x"] (defScope sKCont) := ⟨rfl, rfl, rfl, by decide +kernel, rfl, by decide +kernel, by decide +kernel⟩
theorem ok_kcont {f fW : Addr} {fd fdW : FuncData} (T : Nm mg) (Y : KT K mg CK) (FW : Df K mg "is_whole" sWhole ["value"] fW fdW) (F : Fun K "__contains__" "Kind.__contains__" sKCont f fd) : FnOk P w K mg base CX0 2 f fd ["self", "x"] (spKCont K CK) := by
  have GW : FnOk P w K mg base CX0 1 fW fdW ["value"] (spR K RWhole) := ok_whole T FW
  refine F.ok scKCont (fun vs H Q E h => ?_) (fun cdv A outer s H vs Q E hr h => ?_)
  · obtain ⟨M, a, k, v, d, rfl, _⟩ := h; rfl
  · obtain ⟨M, a, k, v, d, rfl, L, hk, hd, q⟩ := h
    by_cases hwh : whole d = true
    · obtain ⟨n, rfl⟩ : ∃ n, d = .int n := by
        cases d <;> first | exact ⟨_, rfl⟩ | exact absurd hwh Bool.false_ne_true
      refine rb_ret (M := M) (xd_andT (xd_call L GW hr FW.g FW.F.kp FW.b (xa_cons (xd_name 1 rfl hd) xa_nil) ⟨.int n, rfl, rfl⟩) (xd_one ((xd_inS (ns := isort k.js) (.inr rfl) (xd_name 1 rfl hd) (xd_sizes ⟨_, Y⟩ hk (xv_name 0 rfl))).to (by rw [isort_mem])))) fun v H1 s1 hv => ?_
      rw [dp_bl hv]
      exact q H1 s1
    · have e : whole d = false := by cases h : whole d <;> simp_all
      refine rb_ret (M := M) (xd_andF ((xd_call L GW hr FW.g FW.F.kp FW.b (xa_cons (xd_name 1 rfl hd) xa_nil) ⟨d, rfl, rfl⟩).to (by rw [e]))) fun v H1 s1 hv => ?_
      rw [dp_bl hv]
      have e2 : inK k.js d = false := by cases d <;> first | rfl | exact absurd rfl hwh
      rw [← e2]
      exact q H1 s1
/-- what the written part says of isinstance(.., Kind) -/
structure KI (K : PySem.W.Frag) (C : Addr) : Prop where
  ha : PySem.W.findIn K (.ref C) "__class__" = some (some (.builtin "object.__class__"))
  hn : PySem.W.specialIn K (.builtin "object.__class__") "__get__" = some (some (.builtin "getset_descriptor.__get__"))
  htk : PySem.W.takesIn K (.builtin "object.__class__") = some true
  hm : PySem.W.mroIn K C (.type "object") = some true
  yes : PySem.W.kitOne K (.ref C) (.ref C) = some true
theorem scKEq : FnScope ["self", "other"] ["self", "other"] (defScope sKEq) := ⟨rfl, rfl, rfl, by decide +kernel, rfl, by decide +kernel, by decide +kernel⟩
theorem ok_keq {f : Addr} {fd : FuncData} (T : Nm mg) (Y : KT K mg CK) (I : KI K CK) (F : Fun K "__eq__" "Kind.__eq__" sKEq f fd) : FnOk P w K mg base CX0 1 f fd ["self", "other"] (spKEq K CK) := by
  refine F.ok scKEq (fun vs H Q E h => ?_) (fun cdv A outer s H vs Q E hr h => ?_)
  · obtain ⟨M, a, b, k, k', rfl, _⟩ := h; rfl
  · obtain ⟨M, a, b, k, k', rfl, L, hk, hk', q⟩ := h
    have hty : ∀ H1, Same H H1 → TyX K H1 (.ref b) (.ref CK) := fun H1 s1 => by
      obtain ⟨dx, r, e1, _⟩ := hk'
      exact .base (.ins (s1 _ _ (hid_le _ _ e1)) Y.cl I.ha I.hn I.htk I.hm)
    refine rb_ifF ((xt_not (xt_val (M := M) (xd_isK T.isi Y.mgC (xv_name 1 rfl) hty I.yes))).to rfl) fun H1 s1 => ?_
    have h1 := hk.up (hid_mono (M := M) s1)
    have h2 := hk'.up (hid_mono (M := M) s1)
    have ee : PyData.eqv (.tuple ((isort k.js).map PyData.int)) (.tuple ((isort k'.js).map PyData.int)) = decide (isort k.js = isort k'.js) := by
      simp only [PyData.eqv]
      exact eqv_ints2 _ _
    refine rb_ret (M := M) (d := .bool (sameK k k')) ?_ fun v H2 s2 hv => by
      rw [dp_bl hv]
      exact q H2 (s1.trans s2)
    unfold sameK
    cases c1 : decide (isort k.js = isort k'.js) with
    | false => exact xd_andF ((xd_eqD hr.units (xd_sizes ⟨_, Y⟩ h1 (xv_name 0 rfl)) (xd_sizes ⟨_, Y⟩ h2 (xv_name 1 rfl)) (shaped_intsT _) (shaped_intsT _)).to (by rw [ee, c1]))
    | true =>
      refine xd_andT ((xd_eqD hr.units (xd_sizes ⟨_, Y⟩ h1 (xv_name 0 rfl)) (xd_sizes ⟨_, Y⟩ h2 (xv_name 1 rfl)) (shaped_intsT _) (shaped_intsT _)).to (by rw [ee, c1])) ?_
      rw [Bool.true_and]
      exact xd_and2 (xd_eqI (xv_dist ⟨_, Y⟩ h1 (xv_name 0 rfl)).int (xv_dist ⟨_, Y⟩ h2 (xv_name 1 rfl)).int) fun _ => xd_eqI (xv_many ⟨_, Y⟩ h1 (xv_name 0 rfl)).int (xv_many ⟨_, Y⟩ h2 (xv_name 1 rfl)).int
end
/-! ### Kind(..) -/
structure KMk (P : Program) (w : World) (K : PySem.W.Frag) (mg : Str → Option Value) (base : Heap) (C f : Addr) (fd : FuncData) : Prop where
  Z : KT K mg C
  mkk : Mk K C f
  G : FnOk P w K mg base CX0 3 f fd ["self", "jumps", "apart", "most"] (spKInit K C)
  b3 : Binds K fd ["self", "jumps", "apart", "most"] []
  b2 : ∃ t, Binds K fd ["self", "jumps", "apart", "most"] [.int 2 t]
structure KQ (P : Program) (w : World) (K : PySem.W.Frag) (mg : Str → Option Value) (base : Heap) (C f : Addr) (fd : FuncData) : Prop where
  E : ClsEq K C f
  G : FnOk P w K mg base CX0 1 f fd ["self", "other"] (spKEq K C)
  b : Binds K fd ["self", "other"] []
structure ZQ (P : Program) (w : World) (K : PySem.W.Frag) (mg : Str → Option Value) (base : Heap) (C f : Addr) (fd : FuncData) : Prop where
  E : ClsEq K C f
  G : FnOk P w K mg base CX0 1 f fd ["self", "other"] (spEqZ K C)
  b : Binds K fd ["self", "other"] []
section
variable {X : Cx} {M : List Addr} {σ : L2.St} {H : Hp} {a b c e o : Expr} {CZ CK C : Addr} {off off' : Int} {rs rs' : List Row} {st : List Step} {pos apos p1 p2 : Pos} {f : Addr} {fd : FuncData} {k k' : Kd} {sq : PyData}
theorem xk_make (L : Live M H) (W : KMk X.prog X.w X.K X.mg X.base CK f fd) (hr : Room 4 X.A) (hok : KOk k) (hsq : sq = .list (k.js.map PyData.int) ∨ sq = .tuple (k.js.map PyData.int)) (ha : XD X M σ H a sq) (hb : XD X M σ H b (.int k.ap)) (hc : XD X M σ H c (.int k.mo)) (hg : Gl X "Kind" := by rfl)
    (he : starEach [a, b, c] X.env = (false, eval a X.env) :: starEach [b, c] X.env := by rfl) (he2 : starEach [b, c] X.env = (false, eval b X.env) :: starEach [c] X.env := by rfl) (he3 : starEach [c] X.env = (false, eval c X.env) :: starEach [] X.env := by rfl) (hpl : (backTo pos (starEach [b, c] X.env)).any (·.1) = false := by rfl) :
    XK CK X M σ H (.Call (.Name "Kind" p1) [a, b, c] [] pos) k := fun H1 s Q q =>
  re_make W.mkk W.G hr W.Z.mgC W.b3 .nil (ra_cons (ha H1 s _ fun v H2 s2 hv => ra_cons (hb H2 (s.trans s2) _ fun u H3 s3 hu => ra_1 (hc H3 ((s.trans s2).trans s3) _ fun t H4 s4 ht y dx hy hdx hne => by
    rw [dp_int hu, dp_int ht]
    exact ⟨M, H4, y, dx, v, sq, k, rfl, rfl, hy, hdx, hne, L.mono (((s.trans s2).trans s3).trans s4), hv.up (hid_mono (s3.trans s4)), hsq, hok, fun H5 s5 hk => ⟨rfl, q y H5 (((s2.trans s3).trans s4).trans s5) hk⟩⟩) he3) he2) he) hg (by decide) he hpl
theorem xk_make2 (L : Live M H) (W : KMk X.prog X.w X.K X.mg X.base CK f fd) (hr : Room 4 X.A) (hok : KOk k) (hm : k.mo = 2) (hsq : sq = .list (k.js.map PyData.int) ∨ sq = .tuple (k.js.map PyData.int)) (ha : XD X M σ H a sq) (hb : XD X M σ H b (.int k.ap)) (hg : Gl X "Kind" := by rfl)
    (he : starEach [a, b] X.env = (false, eval a X.env) :: starEach [b] X.env := by rfl) (he2 : starEach [b] X.env = (false, eval b X.env) :: starEach [] X.env := by rfl) (hpl : (backTo pos (starEach [b] X.env)).any (·.1) = false := by rfl) :
    XK CK X M σ H (.Call (.Name "Kind" p1) [a, b] [] pos) k := fun H1 s Q q => by
  obtain ⟨t, b2⟩ := W.b2
  exact re_make (dvs := [.int 2]) W.mkk W.G hr W.Z.mgC b2 (.cons ⟨t, rfl⟩ .nil) (ra_cons (ha H1 s _ fun v H2 s2 hv => ra_1 (hb H2 (s.trans s2) _ fun u H3 s3 hu y dx hy hdx hne => by
    rw [dp_int hu]
    exact ⟨M, H3, y, dx, v, sq, k, by rw [hm]; rfl, rfl, hy, hdx, hne, L.mono ((s.trans s2).trans s3), hv.up (hid_mono s3), hsq, hok, fun H5 s5 hk => ⟨rfl, q y H5 ((s2.trans s3).trans s5) hk⟩⟩) he2) he) hg (by decide) he hpl
theorem xt_neK (L : Live M H) (W : KQ X.prog X.w X.K X.mg X.base CK f fd) (hr : Room 2 X.A) (ha : XK CK X M σ H a k) (hb : XK CK X M σ H b k') (hm : behindInMarks .NotEq b = false := by first | exact nomark _ | rfl) : XT X σ H (.Compare a [.NotEq] [b] pos) (!sameK k k') := fun H1 s Q q =>
  ⟨_, pt_cmpR (op_neO W.E W.G hr W.b) re_ re_ hm, ha H1 s _ fun y H2 s2 hz => hb H2 (s.trans s2) _ fun y' H3 s3 hz' => by
    have hz3 := hz.up (hid_mono s3)
    have h1 := hz3
    have h2 := hz'
    obtain ⟨dx, r, e1, _⟩ := h1
    obtain ⟨dy, r', e2, _⟩ := h2
    exact ⟨y, dx, _, y', dy, _, rfl, hid_le _ _ e1, rfl, hid_le _ _ e2, M, y, y', k, k', rfl, L.mono ((s.trans s2).trans s3), hz3, hz', fun H4 s4 => ⟨_, rfl, _, rfl, q H4 ((s2.trans s3).trans s4)⟩⟩⟩
theorem xt_eqK (L : Live M H) (W : KQ X.prog X.w X.K X.mg X.base CK f fd) (hr : Room 1 X.A) (ha : XK CK X M σ H a k) (hb : XK CK X M σ H b k') (hm : behindInMarks .Eq b = false := by first | exact nomark _ | rfl) : XT X σ H (.Compare a [.Eq] [b] pos) (sameK k k') := fun H1 s Q q =>
  ⟨_, pt_cmpR (op_eqO (tb := fun _ => True) W.E W.G hr W.b) re_ re_ hm, ha H1 s _ fun y H2 s2 hz => hb H2 (s.trans s2) _ fun y' H3 s3 hz' => by
    have hz3 := hz.up (hid_mono s3)
    have h1 := hz3
    have h2 := hz'
    obtain ⟨dx, r, e1, _⟩ := h1
    obtain ⟨dy, r', e2, _⟩ := h2
    exact ⟨y, dx, _, rfl, hid_le _ _ e1, .inl ⟨y', dy, _, rfl, hid_le _ _ e2⟩, M, y, y', k, k', rfl, L.mono ((s.trans s2).trans s3), hz3, hz', fun H4 s4 => ⟨_, rfl, _, rfl, q H4 ((s2.trans s3).trans s4)⟩⟩⟩
theorem xd_eqK (L : Live M H) (W : KQ X.prog X.w X.K X.mg X.base CK f fd) (hr : Room 1 X.A) (ha : XK CK X M σ H a k) (hb : XK CK X M σ H b k') (hm : behindInMarks .Eq b = false := by first | exact nomark _ | rfl) : XD X M σ H (.Compare a [.Eq] [b] pos) (.bool (sameK k k')) := fun H1 s Q q =>
  ⟨_, pe_cmpR (op_eqO (tb := fun _ => True) W.E W.G hr W.b) re_ re_ hm, ha H1 s _ fun y H2 s2 hz => hb H2 (s.trans s2) _ fun y' H3 s3 hz' => by
    have hz3 := hz.up (hid_mono s3)
    have h1 := hz3
    have h2 := hz'
    obtain ⟨dx, r, e1, _⟩ := h1
    obtain ⟨dy, r', e2, _⟩ := h2
    exact ⟨y, dx, _, rfl, hid_le _ _ e1, .inl ⟨y', dy, _, rfl, hid_le _ _ e2⟩, M, y, y', k, k', rfl, L.mono ((s.trans s2).trans s3), hz3, hz', fun H4 s4 => ⟨_, rfl, q _ H4 ((s2.trans s3).trans s4) (.bl _)⟩⟩⟩
theorem xt_neZ (L : Live M H) (W : ZQ X.prog X.w X.K X.mg X.base C f fd) (hr : Room 2 X.A) (ha : XZ C X M σ H a off rs) (hb : XZ C X M σ H b off' rs') (hm : behindInMarks .NotEq b = false := by first | exact nomark _ | rfl) : XT X σ H (.Compare a [.NotEq] [b] pos) (!decide (off = off' ∧ rs = rs')) := fun H1 s Q q =>
  ⟨_, pt_cmpR (op_neO W.E W.G hr W.b) re_ re_ hm, ha H1 s _ fun y H2 s2 hz => hb H2 (s.trans s2) _ fun y' H3 s3 hz' => by
    have hz3 := hz.up (hid_mono s3)
    have h1 := hz3
    have h2 := hz'
    obtain ⟨dx, r, e1, _⟩ := h1
    obtain ⟨dy, r', e2, _⟩ := h2
    exact ⟨y, dx, _, y', dy, _, rfl, hid_le _ _ e1, rfl, hid_le _ _ e2, M, y, y', off, rs, rfl, L.mono ((s.trans s2).trans s3), hz3, .inl ⟨off', rs', hz', fun H4 s4 => ⟨_, rfl, _, rfl, q H4 ((s2.trans s3).trans s4)⟩⟩⟩⟩
/-- d in a kind -/
theorem xd_inKd {d : PyData} (L : Live M H) (hs : PySem.W.findIn X.K (.ref CK) "__contains__" = some (some (.ref f))) (hf : PySem.W.isFn X.K (.ref f) = true) (F : FnOk X.prog X.w X.K X.mg X.base CX0 2 f fd ["self", "x"] (spKCont X.K CK)) (hr : Room 2 X.A) (hb : Binds X.K fd ["self", "x"] [])
    (ha : XD X M σ H a d) (hz : XK CK X M σ H b k) (hm : behindInMarks .In b = false := by first | exact nomark _ | rfl) : XD X M σ H (.Compare a [.In] [b] pos) (.bool (inK k.js d)) := fun H1 s Q q =>
  ⟨_, pe_cmpR (op_inO hs hf F hr hb) re_ re_ hm, ha H1 s _ fun v H2 s2 hv => hz H2 (s.trans s2) _ fun y H3 s3 hk3 => by
    have h1 := hk3
    obtain ⟨dx, r, e1, _⟩ := h1
    exact ⟨y, dx, _, rfl, hid_le _ _ e1, M, y, k, v, d, rfl, L.mono ((s.trans s2).trans s3), hk3, hv.up (hid_mono s3), fun H4 s4 => ⟨_, rfl, q _ H4 ((s2.trans s3).trans s4) (.bl _)⟩⟩⟩
/-- o.p, a property of a kind -/
theorem xd_kprop {pp : Addr} {m : Str} {g : Kd → PyData} (L : Live M H) (hc : Cls X.K CK) (hp : PropOf X.K CK m pp f) (F : FnOk X.prog X.w X.K X.mg X.base CX0 1 f fd ["self"] (spKD X.K CK g)) (hr : Room 2 X.A) (hb : Binds X.K fd ["self"] [])
    {pa : Addr} (ho : XV X σ H o (.ref pa)) (hk : KAt X.K CK (hid M H) pa k) (hab : attributeBase o m X.env (eval o X.env) = eval o X.env := by rfl) : XD X M σ H (.Attribute o m pos) (g k) := fun H1 s Q q => by
  have hk0 := hk
  obtain ⟨dx, r, e1, e2⟩ := hk
  exact re_prop (ho.up s) (s _ _ (hid_le _ _ e1)) hc hp F hr hb (fun H2 s2 => ⟨M, pa, k, rfl, L.mono (s.trans s2), hk0.up (hid_mono (s.trans s2)), fun v H3 s3 hv => q v H3 (s2.trans s3) hv⟩) hab
/-- zone_with(a, b) -/
theorem xz_with {items : List PyData} (L : Live M H) (F : FnOk X.prog X.w X.K X.mg X.base CX0 6 f fd ["offset", "steps"] (spZW X.K CZ)) (hr : Room 6 X.A) (FF : Df X.K X.mg "zone_with" sZW ["offset", "steps"] f fd) (ha : XD X M σ H a (.int off)) (hb : XD X M σ H b sq) (hsq : sq = .list items ∨ sq = .tuple items) (hit : Items items st) (hlen : st.length ≤ 1000) (hok : okS st)
    (hg : Gl X "zone_with" := by rfl) (he : starEach [a, b] X.env = (false, eval a X.env) :: starEach [b] X.env := by rfl) (he2 : starEach [b] X.env = (false, eval b X.env) :: starEach [] X.env := by rfl) (hpl : (backTo pos (starEach [b] X.env)).any (·.1) = false := by rfl) : XZ CZ X M σ H (.Call (.Name "zone_with" p1) [a, b] [] pos) off (rowsP off st) := fun H1 s Q q =>
  re_call F hr FF.g FF.F.kp FF.b (ra_cons (ha H1 s _ fun v H2 s2 hv => ra_1 (hb H2 (s.trans s2) _ fun u H3 s3 hu => ⟨M, u, off, sq, items, st, by rw [dp_int hv], L.mono ((s.trans s2).trans s3), hu, hsq, hit, hlen, hok, fun y H4 s4 hz => q y H4 ((s2.trans s3).trans s4) hz⟩) he2) he) hg (by decide) he hpl
end
end Zn

set_option Elab.async false
set_option linter.all false
set_option maxRecDepth 100000
set_option maxHeartbeats 8000000
namespace Zn
open PySem PySem.Spec PyProof.Rows L2 Dl
/-! k08: the law's own kinds -/
abbrev sLKind : Stmt := top 37
abbrev sLSteps : Stmt := top 38
section
variable {X : Cx} {M : List Addr} {σ : L2.St} {H : Hp} {a b e o hi : Expr} {pos p1 p2 : Pos} {xs : List V} {l : Addr} {Q : VK}
/-- o.pop(e) -/
theorem re_pop (ho : XV X σ H o (.ref l)) (h1 : H l = some (.lst xs)) (hz : xs.length ≤ 100000) (hi : ∀ H1, Same H H1 → RE X e σ H1 fun v H2 => ∃ r : Nat, v = .int (r : Int) ∧ H2 l = some (.lst xs) ∧ ∃ y, xs[r]? = some y ∧ Q y (upd H2 l (.lst (xs.eraseIdx r))))
    (hbase : attributeBase o "pop" X.env (eval o X.env) = eval o X.env := by rfl)
    (hfew : ((backTo p2 (starEach [e] X.env)).all (fun x => !x.1) && (backToKw p2 (keywordEach [] X.env)).all (fun x => x.1.isSome) && decide ([e].length + ([] : List Keyword).length + (if ([] : List Keyword).isEmpty then 0 else 1) < 30)) = true := by rfl)
    (hline : (p1.endLine == p2.line) = true := by rfl) (hs : starEach [e] X.env = (false, eval e X.env) :: starEach [] X.env := by rfl) (hplain : (backTo p2 (starEach [] X.env)).any (·.1) = false := by rfl) : RE X (.Call (.Attribute o "pop" p1) [e] [] p2) σ H Q :=
  ⟨_, pe_bm PySem.F.plainAttrs_list PySem.F.slot_list_pop PySem.F.type_list_pop mt_popAt re_ ra_ hbase hfew hline hs hplain,
    ho H (Same.refl H) _ fun H1 s1 => ⟨.inl ⟨rfl, xs, SqL.of (s1 _ _ h1)⟩, ra_1 (re_mono (hi H1 s1) fun v H2 ⟨r, ev, h2, y, hy, q⟩ => by
      have hr : r < xs.length := (List.getElem?_eq_some_iff.mp hy).1
      have b1 : (100000 : Int) < 2 ^ 63 := by decide
      refine ⟨l, xs, r, r, y, rfl, by rw [ev], h2, by omega, by omega, ?_, hy, q⟩
      unfold seqIndex?
      simp
      omega) hs⟩⟩
/-- a == b, whatever happens on the way -/
theorem rt_eqI {Q : Bool → Hp → Prop} (h : RE X a σ H fun v H1 => ∃ i : Int, v = .int i ∧ RE X b σ H1 fun w H2 => ∃ j : Int, w = .int j ∧ Q (decide (i = j)) H2) (hm : behindInMarks .Eq b = false := by first | exact nomark _ | rfl) : RT X (.Compare a [.Eq] [b] pos) σ H Q :=
  ⟨_, pt_cmpR op_eq re_ re_ hm, re_mono h fun v H1 ⟨i, ev, h1⟩ => re_mono h1 fun w H2 ⟨j, ew, q⟩ => by
    subst ev
    subst ew
    exact ⟨rfl, by rw [Dl.dec_int]; exact ⟨_, rfl, q⟩⟩⟩
/-- a[:hi] -/
theorem re_cutHi (h : RE X a σ H fun v H1 => ∃ p, v = .ref p ∧ RE X hi σ H1 fun w H2 => ∃ n : Int, w = .int n ∧ H2 p = some (.lst xs) ∧ ∀ q, H2 q = none → Q (.ref q) (upd H2 q (.lst (cutV xs none (some n))))) : RE X (.Subscript a (.Slice none (some hi) none p2) pos) σ H Q :=
  ⟨_, pe_slice sl_list re_ po_none (po_some re_), re_mono h fun v H1 ⟨p, ev, h1⟩ => re_mono h1 fun w H2 ⟨n, ew, hp, q⟩ => ⟨n, ew, p, xs, ev, SqL.of hp, q⟩⟩
end
theorem erase_perm : ∀ (ss : List Int) (r : Nat) (h : r < ss.length), (ss[r] :: ss.eraseIdx r).Perm ss
  | s :: ss, 0, _ => List.Perm.refl _
  | s :: ss, r + 1, h => by
    have hr : r < ss.length := by simpa using h
    have ih := erase_perm ss r hr
    rw [List.getElem_cons_succ, List.eraseIdx_cons_succ]
    exact (List.Perm.swap s ss[r] _).trans (ih.cons s)
instance (j : Int) : Decidable (okJ j) := by unfold okJ; infer_instance
theorem pop_perm {ss js : List Int} {r : Nat} (h : r < ss.length) : (ss.eraseIdx r ++ (js ++ [ss[r]])).Perm (ss ++ js) := by
  rw [← List.append_assoc]
  refine (List.perm_append_singleton _ _).trans ?_
  rw [← List.cons_append]
  exact (erase_perm ss r h).append_right js
theorem map_erase (f : Int → V) : ∀ (ss : List Int) (r : Nat), (ss.map f).eraseIdx r = (ss.eraseIdx r).map f
  | [], r => rfl
  | s :: ss, 0 => rfl
  | s :: ss, r + 1 => by
    rw [List.map_cons, List.eraseIdx_cons_succ, List.eraseIdx_cons_succ, List.map_cons, map_erase f ss r]
def kindD (k : Kd) : PyData := .tuple [.list (k.js.map PyData.int), .int k.ap, .int k.mo]
def stock : List Int := [60, -60, 30, -30, 1, -1, 720, -720, 45, -120]
theorem mem6 {z a b c d e f : Int} (h : z ∈ [a, b, c, d, e, f]) : z = a ∨ z = b ∨ z = c ∨ z = d ∨ z = e ∨ z = f := by simpa using h
theorem mx_small {js : List Int} (h : ∀ j ∈ js, okJ j) (hn : js ≠ []) : 0 < mx (js.map ab) ∧ mx (js.map ab) ≤ 720 := by
  obtain ⟨a, _⟩ := mx_ok (ns := js.map ab) (fun z => hn (List.map_eq_nil_iff.mp z))
  obtain ⟨j, hj, e⟩ := List.mem_map.mp a
  have q := h j hj
  unfold okJ at q
  rw [← e]
  unfold ab
  split <;> omega
def spLKind (K : PySem.W.Frag) : Sp := fun vs H Q _ => ∃ (M : List Addr) (b : Addr) (n : Nat), vs = [.ref b] ∧ Live M H ∧ BagAt H b n ∧ n ≤ 900000 ∧
  ∀ (k : Kd) v H1, KOk k → k.ap ≤ 10 ^ 26 → SameB b H H1 → BagAt H1 b (n + 30) → Dq K (hid (b :: M) H1) v (kindD k) → Q v H1
theorem live_bag {M : List Addr} {H H' : Hp} {b : Addr} {n : Nat} (L : Live M H) (s : SameB b H H') (hB : BagAt H' b n) : Live (b :: M) H' := fun a ha => by
  rcases List.mem_cons.mp ha with e | ha
  · subst e; exact hB.some
  · by_cases e : a = b
    · subst e; exact hB.some
    · intro q0
      cases q1 : H a with
      | none => exact L a ha q1
      | some o => rw [s a o e q1] at q0; cases q0
section
variable {P : Program} {w : World} {K : PySem.W.Frag} {mg : Str → Option Value} {base : Heap}
theorem scLKind : FnScope ["_law_bag_here", "_law_stock", "_law_jumps", "_law_lap", "_law_jump", "_law_floor", "_law_apart"] ["_law_bag_here"] (defScope sLKind) := ⟨rfl, rfl, rfl, by decide +kernel, rfl, by decide +kernel, by decide +kernel⟩
theorem ok_lkind {f fT : Addr} {fd fdT : FuncData} (T : Nm mg) (FT : Df K mg "_law_take" sTake ["_law_bag_here", "_law_many"] fT fdT) (F : Df K mg "_law_kind" sLKind ["_law_bag_here"] f fd) : FnOk P w K mg base CX0 2 f fd ["_law_bag_here"] (spLKind K) := by
  have GT : FnOk P w K mg base CX0 1 fT fdT ["_law_bag_here", "_law_many"] spTake := ok_take FT
  refine F.F.ok scLKind (fun vs H Q E h => ?_) (fun cdv A outer s0 H vs Q E hr h => ?_)
  · obtain ⟨M, b, n, rfl, _⟩ := h; rfl
  · obtain ⟨M, b, n, rfl, L, hB, hn, q⟩ := h
    refine rb_setL 1 (M := []) (ds := stock.map PyData.int) (xl_lst Live.nil (xa_cons xd_int (xa_cons (xd_neg xd_int) (xa_cons xd_int (xa_cons (xd_neg xd_int) (xa_cons xd_int (xa_cons (xd_neg xd_int) (xa_cons xd_int (xa_cons (xd_neg xd_int) (xa_cons xd_int (xa_cons (xd_neg xd_int) xa_nil)))))))))) (by decide)) (fun s xs H1 s1 hs h1 hx => ?_) scLKind.nd
    have ex := ints_v (ns := stock) hx
    subst ex
    refine rb_setL 2 (M := []) (xl_lst Live.nil xa_nil) (fun p xs H2 s2 hp h2 hx2 => ?_) scLKind.nd
    cases hx2
    have hp0 : H p = none := s1.free hp
    have hs2 := s2 _ _ h1
    have nps : p ≠ s := fun z => by rw [z, h1] at hp; cases hp
    have npb : p ≠ b := fun z => by subst z; exact hB.some hp0
    have nsb : s ≠ b := fun z => by subst z; exact hB.some hs
    have hB2 := bag_sameB hB (s1.trans s2)
    -- the laps
    refine rb_range T.rng ?_
    refine re_addI (re_int xv_int fun H3 s3 => ⟨1, rfl, ?_⟩)
    refine re_take GT FT hr (xv_name 0 rfl) xv_int (bag_sameB hB2 s3) fun t1 H4 t10 t11 sB4 hB4 => ⟨t1, rfl, ?_⟩
    have sB24 : SameB b H2 H4 := (SameB.of s3).trans sB4
    refine ⟨(1 + t1).toNat, by rw [Int.toNat_of_nonneg (by omega)], by omega, fun i σ' H' => ∃ (ss js : List Int) (a3 a4 : Option V), σ' = [some (.ref b), some (.ref s), some (.ref p), a3, a4, none, none] ∧ SameB b H H' ∧ H' s = some (.lst (ss.map V.int)) ∧ H' p = some (.lst (js.map V.int)) ∧ BagAt H' b (n + 2 + 2 * i) ∧
        js.length = i ∧ ss.length + i = 10 ∧ (ss ++ js).Nodup ∧ ∀ j ∈ ss ++ js, okJ j, ?_, ?_, ?_⟩
    · refine ⟨stock, [], none, none, rfl, (SameB.of (s1.trans s2)).trans sB24, sB24 _ _ nsb hs2, sB24 _ _ npb h2, hB4.up (Same.refl _) (by omega), rfl, rfl, by decide, fun j hj => ?_⟩
      rw [List.append_nil] at hj
      unfold okJ
      rcases mem10 hj with e | e | e | e | e | e | e | e | e | e <;> (rw [e]; decide)
    · intro i σ' H' hin hw
      obtain ⟨ss, js, a3, a4, rfl, sB, hss, hjs, hBi, hjl, hsl, hnd, hok⟩ := hw
      refine rg_name 3 ?_ scLKind.nd
      have hi4 : i < 4 := by omega
      refine rb_setR 4 (re_pop (xv_name 1 rfl) hss (by rw [List.length_map]; omega) fun H5 s5 => ?_) scLKind.nd
      have hlen : ((ss.map V.int).length : Int) = (ss.length : Int) := by rw [List.length_map]
      have c200 : (200 : Nat) < 2 ^ 200 := by decide
      refine re_take GT FT hr (xv_name 0 rfl) (xv_lenS T.len (xv_name 1 rfl) (SqL.of (s5 _ _ hss))) (hBi.up s5 (Nat.le_refl _)) (fun r H6 r0 r1 sB6 hB6 => ?_) (by rw [hlen]; omega) (by rw [hlen]; omega)
      rw [hlen] at r1
      have hrl : r.toNat < ss.length := by omega
      have sB56 : SameB b H' H6 := (SameB.of s5).trans sB6
      refine ⟨r.toNat, by rw [Int.toNat_of_nonneg r0], sB6 _ _ nsb (s5 _ _ hss), .int ss[r.toNat], by rw [List.getElem?_map, List.getElem?_eq_getElem hrl]; rfl, ?_⟩
      rw [map_erase]
      have hp6 : upd H6 s (.lst ((ss.eraseIdx r.toNat).map V.int)) p = some (.lst (js.map V.int)) := by rw [upd_ne nps]; exact sB56 _ _ npb hjs
      refine rb_append (M := [p]) (xs := js.map V.int) (List.mem_singleton.mpr rfl) (xv_name 2 rfl) hp6 (xv_name 4 rfl).int (by rw [List.length_map]; omega) fun v7 H7 s7 hv7 => rb_nil ?_
      have e7 := dp_int hv7
      subst e7
      have hs7 : H7 s = some (.lst ((ss.eraseIdx r.toNat).map V.int)) := s7 _ _ upd_same
      have pp := pop_perm (js := js) hrl
      refine ⟨ss.eraseIdx r.toNat, js ++ [ss[r.toNat]], some (.int (i : Int)), some (.int ss[r.toNat]), rfl, fun a o n e => ?_, by rw [upd_ne (Ne.symm nps)]; exact hs7, by rw [List.map_append]; exact upd_same, ?_, by rw [List.length_append, hjl]; rfl, by rw [List.length_eraseIdx_of_lt hrl]; omega, pp.nodup_iff.mpr hnd, fun j hj => hok j (pp.mem_iff.mp hj)⟩
      · have nas : a ≠ s := ne_of_none e hs
        have nap : a ≠ p := ne_of_none e hp0
        rw [upd_ne nap]
        refine s7 _ _ ?_
        rw [upd_ne nas]
        exact sB56 a o n (sB a o n e)
      · obtain ⟨g, m, c, e1, e2, e3, e4, e5⟩ := hB6
        exact ⟨g, m, c, by rw [upd_ne (Ne.symm npb)]; exact s7 _ _ (by rw [upd_ne (Ne.symm nsb)]; exact e1), e2, e3, e4, by omega⟩
    · intro σ' H' hw
      obtain ⟨ss, js, a3, a4, rfl, sB, hss, hjs, hBi, hjl, hsl, hnd, hok⟩ := hw
      have hjs1 : okJs js := ⟨fun j hj => hok j (List.mem_append_right _ hj), (List.nodup_append.mp hnd).2.1, by omega, by omega⟩
      have hBi' : BagAt H' b (n + 12) := hBi.up (Same.refl _) (by omega)
      clear hBi
      -- floor, apart, what is returned
      have fin : ∀ (js2 : List Int) (p2 : Addr) (H5 : Hp), okJs js2 → SameB b H H5 → BagAt H5 b (n + 20) → H p2 = none → H5 p2 = some (.lst (js2.map V.int)) →
          RB (cxOf CX0 P w K mg base ["_law_bag_here", "_law_stock", "_law_jumps", "_law_lap", "_law_jump", "_law_floor", "_law_apart"] "_law_kind" (defScope sLKind) f cdv A outer s0 H E).nox ((defBody sLKind).drop 4) { nx := fun _ H1 => Q .non H1, rt := Q } [some (.ref b), some (.ref s), some (.ref p2), a3, a4, none, none] H5 := fun js2 pj H5 hj2 sB5 hB5 hpj0 hpj => by
        have npj : pj ≠ b := fun z => by subst z; exact hB.some hpj0
        have kj : Dq K (hid [b] H5) (.ref pj) (.list (js2.map PyData.int)) := .lst (by rw [hid_of (by simp [npj])]; exact hpj) (ints_dq _)
        have Lb : Live [b] H5 := fun y hy => by rw [List.mem_singleton.mp hy]; exact hB5.some
        have ne2 : js2 ≠ [] := okJs_ne hj2
        have ne3 : js2.map ab ≠ [] := fun z => ne2 (List.map_eq_nil_iff.mp z)
        obtain ⟨m0, m1⟩ := mx_small hj2.1 ne2
        refine rb_set 5 (M := [b]) (xd_add (xd_mul xd_int (xd_maxL T.max ne3 (XL.dd ((xl_comp (own := [("_law_jump", 4)]) (fun d => match d with | .int j => some (PyData.int (ab j)) | _ => none) Lb scLKind.nd (xd_name 2 rfl kj)
          (blkOk_by (own := [("_law_jump", 4)]) (N := ["_law_bag_here", "_law_stock", "_law_jumps", "_law_lap", "_law_jump", "_law_floor", "_law_apart"]) (sc := defScope sLKind) (by decide +kernel)) (by rw [List.length_map]; have := hj2.2.2.2; omega) (fun q d v Hx hd hq sx Lq hv => ?cmp)).to (fm_abs _)) Lb)) (.inl ⟨by decide, by decide⟩)) xd_int) (fun v6 H6 s6 hv6 => ?_) scLKind.nd
        case cmp =>
          obtain ⟨j, _, rfl⟩ := List.mem_map.mp hd
          have ej := dp_int hv
          subst ej
          intro s0 H0 C0 cl fp
          refine rg_name 4 ?_ scLKind.nd
          refine ⟨rfl, bt_nil ⟨Same.refl _, .inl ⟨rfl, _, rfl, fun s0 H0 C0 cl fp => ?_⟩⟩⟩
          exact XD.go (xd_abs T.abs (xv_name 4 rfl).int) fun v H2 s2 hv2 => ⟨s2, hv2⟩
        have e6 := dp_int hv6
        subst e6
        -- apart
        refine rb_setR 6 ?_ scLKind.nd
        refine re_addI (re_int (xv_name 5 rfl) fun H7 s7 => ⟨_, rfl, ?_⟩)
        refine re_menu (n := 5) (fun _ _ => rfl) (by decide) ?_
        refine ra_int xv_int fun H8 s8 => ?_
        refine ra_cons (re_take GT FT hr (xv_name 0 rfl) xv_int (hB5.up ((s6.trans s7).trans s8) (Nat.le_refl _)) fun t2 H9 t20 t21 sB9 hB9 => ?_)
        refine ra_int xv_int fun Ha sa => ?_
        refine ra_int xv_int fun Hb sb => ?_
        refine ra_1 (re_int (xd_pow (M := []) xd_int xd_int ⟨by decide, by decide, by decide⟩).vint fun Hc sc => ⟨[0, t2, 1440, 5000, 10 ^ 25], rfl, rfl, fun l hl => ?_⟩)
        refine re_take GT FT hr (xv_name 0 rfl) xv_int (bag_new (hB9.up ((sa.trans sb).trans sc) (Nat.le_refl _)) hl) fun t3 Hd t30 t31 sBd hBd => ⟨t3, rfl, t30, t31, sBd _ _ (fun z => by subst z; exact (hB9.up ((sa.trans sb).trans sc) (Nat.le_refl _)).some hl) upd_same, fun z hz => ⟨z, rfl, ?_⟩⟩
        have hz0 : 0 ≤ z ∧ z ≤ 10 ^ 25 := by
          rcases mem5 hz with e | e | e | e | e
          · rw [e]; decide
          · have : (100 : Int) ≤ 10 ^ 25 := by decide
            omega
          · rw [e]; decide
          · rw [e]; decide
          · rw [e]; decide
        have sB5d : SameB b H5 Hd := (((SameB.of ((s6.trans s7).trans s8)).trans sB9).trans (.of ((sa.trans sb).trans sc))).trans ((sameB_new hl).trans sBd)
        generalize hap : 2 * mx (js2.map ab) + 1 + z = ap
        -- the tuple
        refine rb_retR ⟨_, pe_tup ra_, ra_cons (XV.go (xv_name 2 rfl) fun He se => ra_cons (XV.go (xv_name 6 rfl) fun Hf sf => ra_1 ?_))⟩
        refine re_menu (n := 6) (fun _ _ => rfl) (by decide) ?_
        refine ra_int xv_int fun H21 s21 => ?_
        refine ra_int xv_int fun H22 s22 => ?_
        refine ra_int xv_int fun H23 s23 => ?_
        refine ra_int xv_int fun H24 s24 => ?_
        refine ra_int xv_int fun H25 s25 => ?_
        refine ra_1 (re_int xv_int fun H26 s26 => ⟨[2, 1, 3, 0, 2, 1], rfl, rfl, fun l2 hl2 => ?_⟩)
        have sd26 := ((((((se.trans sf).trans s21).trans s22).trans s23).trans s24).trans s25).trans s26
        have hB26 := hBd.up sd26 (Nat.le_refl _)
        refine re_take GT FT hr (xv_name 0 rfl) xv_int (bag_new hB26 hl2) fun t4 H27 t40 t41 sB27 hB27 => ⟨t4, rfl, t40, t41, sB27 _ _ (fun z => by subst z; exact hB26.some hl2) upd_same, fun mo hmo => ⟨by show 3 ≤ sizeLine; decide, fun t ht => ?_⟩⟩
        have hmo3 : 0 ≤ mo ∧ mo ≤ 3 := by
          rcases mem6 hmo with e | e | e | e | e | e <;> omega
        have sB527 : SameB b H5 H27 := (sB5d.trans (.of sd26)).trans ((sameB_new hl2).trans sB27)
        have L27 : Live (b :: M) H27 := live_bag L (sB5.trans sB527) hB27
        have b26 : (10 : Int) ^ 26 = 100000000000000000000000000 := by decide
        have b25 : (10 : Int) ^ 25 = 10000000000000000000000000 := by decide
        refine q ⟨js2, ap, mo⟩ _ _ ⟨hj2, by show 2 * mx (js2.map ab) < ap; omega, hmo3.1, hmo3.2⟩ (by show ap ≤ 10 ^ 26; omega) ((sB5.trans sB527).trans (sameB_new ht)) ((bag_new hB27 ht).up (Same.refl _) (by omega)) ?_
        rw [hid_new L27 ht]
        have npM : pj ∉ b :: M := fun z => by
          rcases List.mem_cons.mp z with e | e
          · exact npj e
          · exact L pj e hpj0
        exact .tup (SqT.of upd_same) (DqAll.up (.cons (.lst (by rw [hid_of npM]; exact sB527 _ _ npj hpj) (ints_dq _)) (.cons (.int _) (.cons (.int _) .nil))) (same_new (hid_free ht)))
      refine rb_ifR (rt_eqI (re_take GT FT hr (xv_name 0 rfl) xv_int hBi' fun t2 H5 t20 t21 sB5 hB5 => ⟨t2, rfl, re_int xv_int fun H6 s6 => ⟨0, rfl, ?_⟩⟩))
      have sB6 : SameB b H' H6 := sB5.trans (.of s6)
      have hB6 := hB5.up s6 (Nat.le_refl _)
      cases ec : decide (t2 = 0) with
      | false =>
        rw [if_neg Bool.false_ne_true]
        exact rb_nil (fin js p H6 hjs1 (sB.trans sB6) (hB6.up (Same.refl _) (by omega)) hp0 (sB6 _ _ npb hjs))
      | true =>
        rw [if_pos rfl]
        refine rb_setR 2 (re_cutHi (xs := [.int 60, .int (-60)]) (XL.go (M := []) (ds := [.int 60, .int (-60)]) (xl_lst Live.nil (xa_cons xd_int (xa_cons (xd_neg xd_int) xa_nil))) fun l xs H7 s7 hl h7 hx7 => ⟨l, rfl, ?_⟩)) scLKind.nd
        have ex := ints_v (ns := [60, -60]) hx7
        subst ex
        refine re_addI (re_int xv_int fun H8 s8 => ⟨1, rfl, ?_⟩)
        have hB8 := hB6.up (s7.trans s8) (Nat.le_refl _)
        have nlb : l ≠ b := fun z => by subst z; exact hB6.some hl
        refine re_take GT FT hr (xv_name 0 rfl) xv_int hB8 fun t3 H9 t30 t31 sB9 hB9 => ⟨t3, rfl, 1 + t3, rfl, sB9 _ _ nlb (s8 _ _ h7), fun l2 hl2 => rb_nil ?_⟩
        have sB69 : SameB b H6 H9 := (SameB.of (s7.trans s8)).trans sB9
        have t3c : t3 = 0 ∨ t3 = 1 := by omega
        have hl20 : H l2 = none := Classical.byContradiction fun z => by
          obtain ⟨o, ho⟩ := Option.ne_none_iff_exists'.mp z
          have nb : l2 ≠ b := fun y => by subst y; exact hB9.some hl2
          rw [((sB.trans sB6).trans sB69) l2 o nb ho] at hl2
          cases hl2
        rcases t3c with e | e
        · subst e
          exact fin [60] l2 _ ⟨by decide, by decide, by decide, by decide⟩ (((sB.trans sB6).trans sB69).trans (sameB_new hl2)) ((bag_new hB9 hl2).up (Same.refl _) (by omega)) hl20 upd_same
        · subst e
          exact fin [60, -60] l2 _ ⟨by decide, by decide, by decide, by decide⟩ (((sB.trans sB6).trans sB69).trans (sameB_new hl2)) ((bag_new hB9 hl2).up (Same.refl _) (by omega)) hl20 upd_same
end
end Zn

set_option Elab.async false
set_option linter.all false
set_option maxRecDepth 100000
set_option maxHeartbeats 8000000
namespace Zn
open PySem PySem.Spec PyProof.Rows L2 Dl
/-! k08: steps, is_of, equal, reason -/
abbrev sLIsOf : Stmt := top 39
abbrev sLEqual : Stmt := top 42
abbrev sLReason : Stmt := top 43
/-- steps of a kind -/
structure OfK (k : Kd) (st : List Step) : Prop where
  js : ∀ s ∈ st, s.2 ∈ k.js
  gap : ∀ (i : Nat) (s t : Step), st[i]? = some s → st[i + 1]? = some t → k.ap ≤ t.1 - s.1
theorem mx_le {js : List Int} {j : Int} (h : j ∈ js) : ab j ≤ mx (js.map ab) := (mx_ok (ns := js.map ab) (fun z => by rw [List.map_eq_nil_iff] at z; rw [z] at h; simp at h)).2 _ (List.mem_map.mpr ⟨j, h, rfl⟩)
theorem ofK_ok {k : Kd} {st : List Step} (hk : KOk k) (h : OfK k st) : okS st := by
  refine ⟨fun s hs => hk.js.1 _ (h.js s hs), fun i s t h1 h2 => ?_⟩
  have a := mx_le (h.js s (List.mem_of_getElem? h1))
  have b := mx_le (h.js t (List.mem_of_getElem? h2))
  have c := h.gap i s t h1 h2
  have d := hk.ap
  unfold floorK at d
  unfold gapJ
  omega
theorem ofK_nil (k : Kd) : OfK k [] := ⟨fun s h => by simp at h, fun i s t h => by simp at h⟩
theorem ofK_snoc {k : Kd} {st : List Step} {t : Step} (h : OfK k st) (hj : t.2 ∈ k.js) (hl : ∀ l, st.getLast? = some l → k.ap ≤ t.1 - l.1) : OfK k (st ++ [t]) := by
  refine ⟨fun s hs => ?_, fun i s u h1 h2 => ?_⟩
  · rcases List.mem_append.mp hs with z | z
    · exact h.js s z
    · rw [List.mem_singleton.mp z]; exact hj
  · have hi : i + 1 < (st ++ [t]).length := (List.getElem?_eq_some_iff.mp h2).1
    rw [List.length_append, List.length_singleton] at hi
    by_cases e : i + 1 < st.length
    · rw [List.getElem?_append_left (by omega)] at h1
      rw [List.getElem?_append_left e] at h2
      exact h.gap i s u h1 h2
    · have ei : i + 1 = st.length := by omega
      rw [List.getElem?_append_left (by omega)] at h1
      rw [List.getElem?_append_right (by omega), ei, Nat.sub_self] at h2
      cases h2
      refine hl s ?_
      rw [List.getLast?_eq_getElem?, ← ei]
      exact h1
theorem first_none {p : Nat → Bool} : ∀ {n : Nat}, (∀ i, i < n → p i = false) → first p n = none
  | 0, _ => rfl
  | n + 1, h => first_snoc (first_none fun i hi => h i (by omega)) (h n (by omega))
theorem ofK_why {k : Kd} {st : List Step} (h : OfK k st) (hl : (st.length : Int) ≤ k.mo) : whyD k st = .none := by
  unfold whyD
  rw [if_neg (by omega)]
  have e1 : first (pJ k.js st) st.length = none := first_none fun i hi => by
    unfold pJ
    rw [List.getElem?_eq_getElem hi]
    simp [h.js _ (List.getElem_mem hi)]
  have e2 : first (pA k.ap st) (st.length - 1) = none := first_none fun i hi => by
    have l1 : i < st.length := by omega
    have l2 : i + 1 < st.length := by omega
    unfold pA
    rw [List.getElem?_eq_getElem l1, List.getElem?_eq_getElem l2]
    have := h.gap i _ _ (List.getElem?_eq_getElem l1) (List.getElem?_eq_getElem l2)
    exact decide_eq_false (by omega)
  rw [e1, e2]
theorem k0 {k : Kd} : atI [PyData.list (k.js.map PyData.int), .int k.ap, .int k.mo] 0 = some (.list (k.js.map PyData.int)) := rfl
theorem k1 {k : Kd} : atI [PyData.list (k.js.map PyData.int), .int k.ap, .int k.mo] 1 = some (.int k.ap) := rfl
theorem k2 {k : Kd} : atI [PyData.list (k.js.map PyData.int), .int k.ap, .int k.mo] 2 = some (.int k.mo) := rfl
section
variable {X : Cx} {M : List Addr} {σ : L2.St} {H : Hp} {a b e o : Expr} {pos p1 p2 p3 tpos : Pos} {xs : List V} {l : Addr} {D : Ends} {rest : List Stmt} {elt : Expr} {ifs : List Expr} {scope : Scope} {own : List (Str × Nat)} {ds ds2 : List PyData}
/-- o.append(e), whatever happens in e -/
theorem rb_appendE (ho : XV X σ H o (.ref l)) (h1 : H l = some (.lst xs)) (hz : xs.length < 100000) (he : ∀ H1, Same H H1 → RE X e σ H1 fun v H2 => H2 l = some (.lst xs) ∧ RB X rest D σ (upd H2 l (.lst (xs ++ [v]))))
    (hbase : attributeBase o "append" X.env (eval o X.env) = eval o X.env := by rfl)
    (hfew : ((backTo p2 (starEach [e] X.env)).all (fun x => !x.1) && (backToKw p2 (keywordEach [] X.env)).all (fun x => x.1.isSome) && decide ([e].length + ([] : List Keyword).length + (if ([] : List Keyword).isEmpty then 0 else 1) < 30)) = true := by rfl)
    (hline : (p1.endLine == p2.line) = true := by rfl) (hs : starEach [e] X.env = (false, eval e X.env) :: starEach [] X.env := by rfl) (hplain : (backTo p2 (starEach [] X.env)).any (·.1) = false := by rfl)
    (hsw : swapsWith (.Call (.Attribute o "append" p1) [e] [] p2) none pos.line X.env = pure false := by rfl) : RB X (.Expr (.Call (.Attribute o "append" p1) [e] [] p2) pos :: rest) D σ H :=
  rb_exprR ⟨_, pe_bm PySem.F.plainAttrs_list PySem.F.slot_list_append PySem.F.type_list_append mt_append re_ ra_ hbase hfew hline hs hplain,
    ho H (Same.refl H) _ fun H1 s1 => ⟨.inl ⟨rfl, xs, SqL.of (s1 _ _ h1)⟩, ra_1 (re_mono (he H1 s1) fun v H2 ⟨h2, q⟩ => ⟨l, xs, v, rfl, rfl, h2, Nat.lt_of_lt_of_le hz (by decide), q⟩) hs⟩⟩ hsw
theorem cut1 (xs : List PyData) : Dl.cutD xs (some 1) none = xs.drop 1 := by
  unfold Dl.cutD
  have e1 : HT.sIx xs.length 0 (some 1) = min 1 xs.length := HT.sIx_nat _ _ 1
  rw [HT.sIx_none, e1]
  cases xs with
  | nil => rfl
  | cons x xs =>
    have e2 : min 1 (x :: xs).length = 1 := by simp
    rw [e2]
    show List.take _ xs = xs
    exact List.take_of_length_le (by simp)
/-- a comprehension over zip that leaves all out -/
theorem xl_zipNone {elts : List Expr} {kk : Nat} (hm : X.mg "zip" = none) (L : Live M H) (hN : X.N.Nodup) (ha : XD X M σ H a (.list ds)) (hb : XD X M σ H b (.list ds2)) (ok : BlkOk X.N X.env.scope scope own)
    (hst : ∀ (i : Nat) d d2 T x y H1, ds[i]? = some d → ds2[i]? = some d2 → Same H H1 → Dq X.K (hid M H1) x d → Dq X.K (hid M H1) y d2 → H1 T = some (.tup [x, y]) → BG X scope (.Tuple elts kk tpos) (.ref T) (wipe σ (own.map (·.2))) H1 fun τ H2 => wipe τ (own.map (·.2)) = wipe σ (own.map (·.2)) ∧ BT X scope ifs τ H2 fun k H3 => Same H1 H3 ∧ k = false)
    (hc : X.calm = true := by rfl) (hs : ∀ x, foldedSetIterable (.Call (.Name "zip" p1) [a, b] [] p2) X.env x = pure x := by intro _; rfl) (hg : Gl X "zip" := by rfl)
    (he : starEach [a, b] X.env = (false, eval a X.env) :: starEach [b] X.env := by rfl) (he2 : starEach [b] X.env = (false, eval b X.env) :: starEach [] X.env := by rfl) (hpl : (backTo p2 (starEach [b] X.env)).any (·.1) = false := by rfl) :
    XL X M σ H (.ListComp elt [⟨.Tuple elts kk tpos, .Call (.Name "zip" p1) [a, b] [] p2, ifs, 0⟩] scope pos) [] := fun H1 s1 Q q =>
  ⟨_, pe_lc (own := own) hc hN (pi_zip hg hm ra_ he hpl) ok (fun _ _ _ _ _ => bg_) (fun _ _ _ _ _ => bt_) (fun _ _ _ _ _ => be_) hs, ra_cons (ha H1 s1 _ fun v H2 s2 hv => ra_1 (hb H2 (s1.trans s2) _ fun u H3 s3 hu => by
    obtain ⟨pa, xs, rfl, hpa, hx⟩ := dp_lst (hv.up (hid_mono s3))
    obtain ⟨pb, ys, rfl, hpb, hy⟩ := dp_lst hu
    have s03 := (s1.trans s2).trans s3
    refine ⟨pa, pb, xs, ys, rfl, SqL.of (hid_le _ _ hpa), SqL.of (hid_le _ _ hpb), fun p hp => ?_⟩
    refine ⟨fun i m Hx => m + i = min xs.length ys.length ∧ Same H3 Hx ∧ Hx p = some (.lst []), ⟨min xs.length ys.length, rfl, same_new hp, upd_same⟩, fun i m Hx w => ?_⟩
    obtain ⟨hmi, sx, hpx⟩ := w
    have ga : SqL X.K Hx pa xs := SqL.of (sx _ _ (hid_le _ _ hpa))
    have gb : SqL X.K Hx pb ys := SqL.of (sx _ _ (hid_le _ _ hpb))
    by_cases hlt : i < min xs.length ys.length
    · have l1 : i < xs.length := by omega
      have l2 : i < ys.length := by omega
      refine .inr ⟨⟨xs, ys, xs[i], ys[i], ga, gb, List.getElem?_eq_getElem l1, List.getElem?_eq_getElem l2⟩, fun Hy => Same H3 Hy ∧ Hy p = some (.lst []), fun Hy hy => ⟨m - 1, by omega, by omega, hy.1, hy.2⟩, fun v Hy hyl => ?_⟩
      obtain ⟨T, x, y, rfl, hT, rfl, h1, h2⟩ := hyl
      obtain ⟨d, hd1, hd2⟩ := dpa_get' hx (h1 xs ga)
      obtain ⟨d2, hd3, hd4⟩ := dpa_get' hy (h2 ys gb)
      have sy : Same Hx (upd Hx T (.tup [x, y])) := same_new hT
      refine bg_mono (hst i d d2 T x y _ hd1 hd3 ((s03.trans sx).trans sy) (hd2.up (hid_mono (sx.trans sy))) (hd4.up (hid_mono (sx.trans sy))) upd_same) fun τ Ha ⟨hw, hbt⟩ => ⟨hw, bt_mono hbt fun k Hb ⟨sb, hk⟩ => ?_⟩
      subst hk
      exact iteF ⟨(sx.trans sy).trans sb, sb _ _ (sy _ _ hpx)⟩
    · refine .inl ⟨⟨xs, ys, ga, gb, by omega⟩, q p [] Hx ((s2.trans s3).trans sx) ((s2.trans s3).free hp) hpx .nil⟩) he2) he⟩
end
def spLSteps (K : PySem.W.Frag) : Sp := fun vs H Q _ => ∃ (M : List Addr) (b : Addr) (n : Nat) (k : Kd) (vk : V) (m0 : Int), vs = [.ref b, vk, .int m0] ∧ Live M H ∧ BagAt H b n ∧ n ≤ 900000 ∧ Dq K (hid (b :: M) H) vk (kindD k) ∧ KOk k ∧
  ∀ (st : List Step) v H1, OfK k st → (st.length : Int) ≤ k.mo → SameB b H H1 → BagAt H1 b (n + 30) → Dq K (hid (b :: M) H1) v (.list (st.map stepD)) → Q v H1
section
variable {P : Program} {w : World} {K : PySem.W.Frag} {mg : Str → Option Value} {base : Heap} {CK : Addr}
theorem scLSteps : FnScope ["_law_bag_here", "_law_kind_here", "_law_moment", "_law_found", "_law_lap"] ["_law_bag_here", "_law_kind_here", "_law_moment"] (defScope sLSteps) := ⟨rfl, rfl, rfl, by decide +kernel, rfl, by decide +kernel, by decide +kernel⟩
theorem ok_lsteps {f fT : Addr} {fd fdT : FuncData} (T : Nm mg) (FT : Df K mg "_law_take" sTake ["_law_bag_here", "_law_many"] fT fdT) (F : Df K mg "_law_steps" sLSteps ["_law_bag_here", "_law_kind_here", "_law_moment"] f fd) : FnOk P w K mg base CX0 2 f fd ["_law_bag_here", "_law_kind_here", "_law_moment"] (spLSteps K) := by
  have GT : FnOk P w K mg base CX0 1 fT fdT ["_law_bag_here", "_law_many"] spTake := ok_take FT
  refine F.F.ok scLSteps (fun vs H Q E h => ?_) (fun cdv A outer s0 H vs Q E hr h => ?_)
  · obtain ⟨M, b, n, k, vk, m0, rfl, _⟩ := h; rfl
  · obtain ⟨M, b, n, k, vk, m0, rfl, L, hB, hn, hk, hok, q⟩ := h
    have c200 : (200 : Nat) < 2 ^ 200 := by decide
    have hjl : ((k.js.map PyData.int).length : Int) = (k.js.length : Int) := by rw [List.length_map]
    have hj1 := hok.js.2.2.1
    have hj4 := hok.js.2.2.2
    refine rb_setL 3 (M := []) (xl_lst Live.nil xa_nil) (fun p xs H1 s1 hp h1 hx => ?_) scLSteps.nd
    cases hx
    have npb : p ≠ b := fun z => by subst z; exact hB.some hp
    have hB1 := bag_sameB hB s1
    refine rb_setR 2 ?_ scLSteps.nd
    refine re_subI (re_addI (re_int (xv_name 2 rfl) fun H2 s2 => ⟨m0, rfl, re_take GT FT hr (xv_name 0 rfl) xv_int (bag_sameB hB1 s2) fun r H3 r0 r1 sB3 hB3 => ⟨r, rfl, m0 + r, rfl, re_int xv_int fun H4 s4 => ⟨2000, rfl, ?_⟩⟩⟩))
    have sB14 : SameB b H1 H4 := ((SameB.of s2).trans sB3).trans (.of s4)
    have hB4 := hB3.up s4 (Nat.le_refl _)
    have sB04 : SameB b H H4 := (SameB.of s1).trans sB14
    have g04 : Same (hid (b :: M) H) (hid (b :: M) H4) := sB04.hid (List.mem_cons_self ..)
    have hk4 := hk.up g04
    have hp4 : H4 p = some (.lst []) := sB14 _ _ npb h1
    refine rb_range T.rng (re_call GT hr FT.g FT.F.kp FT.b (ra_cons ((xv_name 0 rfl).go fun H5 s5 => ra_1 (XV.go (xd_add (M := b :: M) (xd_ixT (fun _ _ => rfl) (xd_name 1 rfl (hk4.up (hid_mono s5))) xd_int k2) xd_int).vint fun H6 s6 => ?_))))
    have hm0 := hok.m0
    have hm1 := hok.m1
    refine ⟨b, k.mo + 1, n + 1, rfl, by omega, by omega, by omega, hB4.up (s5.trans s6) (Nat.le_refl _), fun r5 H7 r50 r51 sB7 hB7 => ?_⟩
    have sB47 : SameB b H4 H7 := (SameB.of (s5.trans s6)).trans sB7
    refine ⟨r5.toNat, by rw [Int.toNat_of_nonneg r50], by omega, fun i σ' H' => ∃ (st : List Step) (m : Int) (xs : List V) (a4 : Option V), σ' = [some (.ref b), some vk, some (.int m), some (.ref p), a4] ∧ SameB b H H' ∧ H' p = some (.lst xs) ∧ DqAll K (hid (p :: b :: M) H') xs (st.map stepD) ∧
        BagAt H' b (n + 4 + 3 * i) ∧ st.length = i ∧ OfK k st ∧ ∀ l, st.getLast? = some l → k.ap ≤ m - l.1, ?_, ?_, ?_⟩
    · exact ⟨[], _, [], none, rfl, sB04.trans sB47, sB47 _ _ npb hp4, .nil, hB7.up (Same.refl _) (by omega), rfl, ofK_nil k, fun l hl => by simp at hl⟩
    · intro i σ' H' hin hw
      obtain ⟨st, m, xs, a4, rfl, sB, hpx, hxs, hBi, hsl, hof, hlast⟩ := hw
      have hi3 : i < 3 := by omega
      have hxl : xs.length < 100000 := by rw [dpa_len hxs, List.length_map]; omega
      refine rg_name 4 ?_ scLSteps.nd
      have hk' := hk.up (sB.hid (M := b :: M) (List.mem_cons_self ..))
      refine rb_appendE (xv_name 3 rfl) hpx hxl fun H8 s8 => ?_
      refine ⟨_, pe_tup ra_, ra_cons (XV.go (xv_name 2 rfl) fun H9 s9 => ra_1 ⟨_, pe_ix ix_list re_ re_ (fun _ _ => rfl), XD.go (M := b :: M) (xd_ixT (fun _ _ => rfl) (xd_name 1 rfl (hk'.up (hid_mono (s8.trans s9)))) xd_int k0) fun vj Ha sa hvj => ?_⟩)⟩
      obtain ⟨pj, ys, rfl, hpj, hys⟩ := dp_lst hvj
      have ey := ints_v hys
      subst ey
      have s8a := (s8.trans s9).trans sa
      have npj : pj ≠ b := fun z => by
        unfold hid at hpj
        rw [if_pos (by rw [z]; exact List.mem_cons_self ..)] at hpj
        cases hpj
      have hpj' := hid_le _ _ hpj
      refine re_take GT FT hr (xv_name 0 rfl) ((xd_len (M := b :: M) T.len (xd_ixT (fun _ _ => rfl) (xd_name 1 rfl (hk'.up (hid_mono s8a))) xd_int k0)).vint) (hBi.up s8a (Nat.le_refl _)) (fun r Hb r0 r1 sBb hBb => ?_) (by rw [hjl]; omega) (by rw [hjl]; omega)
      rw [hjl] at r1
      have hrl : r.toNat < k.js.length := by omega
      have sB8b : SameB b H' Hb := (SameB.of s8a).trans sBb
      refine ⟨pj, _, r, _, rfl, rfl, SqL.of (sBb _ _ npj hpj'), at_menu r0 hrl, ?_⟩
      refine ⟨by show 2 ≤ sizeLine; decide, fun t ht => ⟨?_, ?_⟩⟩
      · have npt : t ≠ p := fun z => by subst z; rw [sB8b _ _ npb hpx] at ht; cases ht
        rw [upd_ne (Ne.symm npt)]
        exact sB8b _ _ npb hpx
      · have npt : t ≠ p := fun z => by subst z; rw [sB8b _ _ npb hpx] at ht; cases ht
        have nbt : t ≠ b := fun z => by subst z; exact hBb.some ht
        have hBc : BagAt (upd (upd Hb t (.tup [V.int m, V.int k.js[r.toNat]])) p (.lst (xs ++ [V.ref t]))) b (n + 4 + 3 * i + 1) := by
          obtain ⟨g, mm, c, e1, e2, e3, e4, e5⟩ := hBb
          exact ⟨g, mm, c, by rw [upd_ne (Ne.symm npb), upd_ne (Ne.symm nbt)]; exact e1, e2, e3, e4, by omega⟩
        have sBc : SameB b H (upd (upd Hb t (.tup [V.int m, V.int k.js[r.toNat]])) p (.lst (xs ++ [V.ref t]))) := fun a o na e => by
          rw [upd_ne (ne_of_none e hp)]
          have z := sB8b a o na (sB a o na e)
          rw [upd_ne (ne_of_none z ht)]
          exact z
        have gx : Same (hid (p :: b :: M) H') (hid (p :: b :: M) (upd (upd Hb t (.tup [V.int m, V.int k.js[r.toNat]])) p (.lst (xs ++ [V.ref t])))) := by
          rw [hid_cons_upd]
          exact ((sB8b.hid (M := p :: b :: M) (List.mem_cons_of_mem _ (List.mem_cons_self ..))).trans (hid_mono (same_new ht)))
        have htM : t ∉ p :: b :: M := fun z => by
          rcases List.mem_cons.mp z with e | z
          · exact npt e
          · rcases List.mem_cons.mp z with e | z
            · exact nbt e
            · cases e2 : H t with
              | none => exact L t z e2
              | some o => rw [sB8b t o nbt (sB t o nbt e2)] at ht; cases ht
        have hxs2 : DqAll K (hid (p :: b :: M) (upd (upd Hb t (.tup [V.int m, V.int k.js[r.toNat]])) p (.lst (xs ++ [V.ref t])))) (xs ++ [V.ref t]) ((st ++ [(m, k.js[r.toNat])]).map stepD) := by
          rw [List.map_append]
          refine dpa_app (hxs.up gx) (.cons ?_ .nil)
          refine .tup (SqT.of (xs := [V.int m, V.int k.js[r.toNat]]) ?_) (.cons (.int _) (.cons (.int _) .nil))
          rw [hid_of htM, upd_ne npt]
          exact upd_same
        have hpc : upd (upd Hb t (.tup [V.int m, V.int k.js[r.toNat]])) p (.lst (xs ++ [V.ref t])) p = some (.lst (xs ++ [V.ref t])) := upd_same
        show RB _ _ _ _ (upd (upd Hb t (.tup [V.int m, V.int k.js[r.toNat]])) p (.lst (xs ++ [V.ref t])))
        generalize upd (upd Hb t (.tup [V.int m, V.int k.js[r.toNat]])) p (.lst (xs ++ [V.ref t])) = Hc at hBc sBc hxs2 hpc
        have hkc := hk.up (sBc.hid (M := b :: M) (List.mem_cons_self ..))
        refine rb_setR 2 ?_ scLSteps.nd
        refine re_addI (re_addI (re_int (xv_name 2 rfl) fun Hd sd => ⟨m, rfl, re_int (xd_ixT (M := b :: M) (fun _ _ => rfl) (xd_name 1 rfl (hkc.up (hid_mono sd))) xd_int k1).vint fun He se => ⟨k.ap, rfl, m + k.ap, rfl, ?_⟩⟩))
        refine re_menu (n := 3) (fun _ _ => rfl) (by decide) ?_
        refine ra_int xv_int fun Hf sf => ?_
        refine ra_int xv_int fun Hg sg => ?_
        have scg := ((sd.trans se).trans sf).trans sg
        refine ra_1 (re_take GT FT hr (xv_name 0 rfl) xv_int (hBc.up scg (Nat.le_refl _)) fun t1 Hh t10 t11 sBh hBh => ⟨[0, 0, t1], rfl, rfl, fun l hl => ?_⟩)
        refine re_take GT FT hr (xv_name 0 rfl) xv_int (bag_new hBh hl) fun t2 Hi t20 t21 sBi hBi2 => ⟨t2, rfl, t20, t21, sBi _ _ (fun z => by subst z; exact hBh.some hl) upd_same, fun z hz => ⟨z, rfl, rb_nil ?_⟩⟩
        have hz0 : 0 ≤ z := by
          have hz' : z = 0 ∨ z = 0 ∨ z = t1 := by simpa using hz
          rcases hz' with e | e | e <;> omega
        have sBci : SameB b Hc Hi := ((SameB.of scg).trans sBh).trans ((sameB_new hl).trans sBi)
        refine ⟨st ++ [(m, k.js[r.toNat])], m + k.ap + z, xs ++ [V.ref t], some (.int (i : Int)), rfl, sBc.trans sBci, sBci _ _ npb hpc, hxs2.up (sBci.hid (List.mem_cons_of_mem _ (List.mem_cons_self ..))), hBi2.up (Same.refl _) (by omega), by rw [List.length_append, hsl]; rfl, ofK_snoc hof (List.getElem_mem hrl) (fun l hl => hlast l hl), fun l hl => ?_⟩
        rw [List.getLast?_append] at hl
        simp at hl
        rw [← hl]
        show k.ap ≤ m + k.ap + z - m
        omega
    · intro σ' H' hw
      obtain ⟨st, m, xs, a4, rfl, sB, hpx, hxs, hBi, hsl, hof, hlast⟩ := hw
      refine rb_retR (XV.go (xv_name 3 rfl) fun H8 s8 => ?_)
      have npM : p ∉ b :: M := fun z => by
        rcases List.mem_cons.mp z with e | z
        · exact npb e
        · exact L p z hp
      refine q st (.ref p) H8 hof (by omega) (sB.trans (.of s8)) (hBi.up s8 (by omega)) (.lst (by rw [hid_of npM]; exact s8 _ _ hpx) ((hxs.up (hid_mono s8)).up hid_weak))
end
end Zn

set_option Elab.async false
set_option linter.all false
set_option maxRecDepth 100000
set_option maxHeartbeats 8000000
namespace Zn
open PySem PySem.Spec PyProof.Rows L2 Dl
def RIsOf (ds : List PyData) (d : PyData) : Prop := ∃ (k : Kd) (f : Int) (st : List Step), ds = [kindD k, planD f st] ∧ OfK k st ∧ (st.length : Int) ≤ k.mo ∧ st.length ≤ 50 ∧ d = .bool true
def RReason (ds : List PyData) (d : PyData) : Prop := ∃ (k : Kd) (f : Int) (st : List Step), ds = [kindD k, planD f st] ∧ st.length ≤ 50 ∧ d = whyD k st
theorem step0 {s : Step} : atI [PyData.int s.1, .int s.2] 0 = some (.int s.1) := rfl
theorem step1 {s : Step} : atI [PyData.int s.1, .int s.2] 1 = some (.int s.2) := rfl
theorem stepN {st : List Step} {i : Nat} {s : Step} (h : st[i]? = some s) {j : Int} (hj : j = (i : Int)) : atI (st.map stepD) j = some (stepD s) := by
  rw [hj]
  exact atI_nat (by rw [List.getElem?_map, h]; rfl)
section
variable {P : Program} {w : World} {K : PySem.W.Frag} {mg : Str → Option Value} {base : Heap} {CK : Addr}
theorem fm_none : ∀ st : List Step, (st.map stepD).filterMap (fun _ => (none : Option PyData)) = []
  | [] => rfl
  | s :: st => by rw [List.map_cons, List.filterMap_cons]; exact fm_none st
theorem eqv_nil : PyData.eqv (.list []) (.list []) = true := by simp [PyData.eqv, PyData.eqvAll]
theorem scLIsOf : FnScope ["_law_kind_here", "_law_plan", "_law_step", "_law_one", "_law_other"] ["_law_kind_here", "_law_plan"] (defScope sLIsOf) := ⟨rfl, rfl, rfl, by decide +kernel, rfl, by decide +kernel, by decide +kernel⟩
theorem ok_lisof {f : Addr} {fd : FuncData} (T : Nm mg) (hz : mg "zip" = none) (F : Df K mg "_law_is_of" sLIsOf ["_law_kind_here", "_law_plan"] f fd) : FnOk P w K mg base CX0 1 f fd ["_law_kind_here", "_law_plan"] (spR K RIsOf) := by
  refine F.F.ok scLIsOf (fun vs H Q E h => ?_) (fun cdv A outer s0 H vs Q E hr h => ?_)
  · obtain ⟨M, ds, d, L, hd, ⟨k, f, st, rfl, _⟩, q⟩ := h
    exact dpa_len hd
  · obtain ⟨M, ds, d, L, hd, ⟨k, f, st, rfl, hof, hmo, hlen, rfl⟩, q⟩ := h
    cases hd with
    | cons h1 hd => cases hd with
      | cons h2 hd =>
        cases hd
        refine rb_ifF ((xt_or2 (xt_cmpI (M := M) op_gt (xd_len T.len (xd_ixT (fun _ _ => rfl) (xd_name 1 rfl h2) xd_int plan1)) (xd_ixT (fun _ _ => rfl) (xd_name 0 rfl h1) xd_int k2)) fun _ =>
          xt_neD (M := M) hr.units (XL.dd ((xl_comp (own := [("_law_step", 2)]) (fun _ => (none : Option PyData)) L scLIsOf.nd (xd_ixT (fun _ _ => rfl) (xd_name 1 rfl h2) xd_int plan1) (blkOk_by (own := [("_law_step", 2)]) (N := ["_law_kind_here", "_law_plan", "_law_step", "_law_one", "_law_other"]) (sc := defScope sLIsOf) (by decide +kernel)) (by rw [List.length_map]; omega) (fun p d v H1 hd hp s1 Lp hv => ?cmp)).to (fm_none st)) L)
            (xd_lst L xa_nil) shaped_nil shaped_nil).to (by
              rw [List.length_map, decide_eq_false (by omega), eqv_nil]
              rfl)) fun H1 s1 => ?_
        case cmp =>
          obtain ⟨sx, hsx, rfl⟩ := mem_step hd
          intro s0 H0 C0 cl fp
          refine rg_name 2 ?_ scLIsOf.nd
          have h1' : Dq K (hid (p :: M) H1) _ (kindD k) := h1.up (hid_step hp s1)
          have hv : Dq K (hid (p :: M) H1) v (stepD sx) := hv
          refine ⟨rfl, bt_one (k := false) (fun s0 H0 C0 cl fp => ?_) fun H2 s2 => ⟨s2, .inr ⟨rfl, rfl⟩⟩⟩
          refine (xt_notInS (M := p :: M) (ns := k.js) (.inl rfl) (xd_ixT (fun _ _ => rfl) (xd_name 2 rfl hv) xd_int step1) (xd_ixT (fun _ _ => rfl) (xd_name 0 rfl h1') xd_int k0)).to ?_
          rw [decide_eq_true (hof.js sx hsx)]
          rfl
        have L1 := L.mono s1
        have g1 := h1.up (hid_mono (M := M) s1)
        have g2 := h2.up (hid_mono (M := M) s1)
        refine rb_ret (M := M) ((xd_eqD hr.units (XL.dd (xl_zipNone (own := [("_law_one", 3), ("_law_other", 4)]) hz L1 scLIsOf.nd (xd_ixT (fun _ _ => rfl) (xd_name 1 rfl g2) xd_int plan1) (XL.dd ((xl_cut L1 (xd_ixT (fun _ _ => rfl) (xd_name 1 rfl g2) xd_int plan1) (xo_some (M := M) xd_int) xo_none).to (cut1 _)) L1)
          (blkOk_by (own := [("_law_one", 3), ("_law_other", 4)]) (N := ["_law_kind_here", "_law_plan", "_law_step", "_law_one", "_law_other"]) (sc := defScope sLIsOf) (by decide +kernel)) (fun i d d2 T x y H2 hd hd2 s2 hx hy hT => ?cmz)) L1) (xd_lst L1 xa_nil) shaped_nil shaped_nil).to (by rw [eqv_nil])) fun v H2 s2 hv => q v H2 (s1.trans s2) hv
        obtain ⟨sx, hsx, rfl⟩ := map_get hd
        rw [List.getElem?_drop, List.getElem?_map, Nat.add_comm] at hd2
        cases es : st[i + 1]? with
        | none => rw [es] at hd2; cases hd2
        | some sy =>
          rw [es] at hd2
          cases hd2
          have hg := hof.gap i sx sy hsx es
          intro s0 H0 C0 cl fp
          refine rg_tup (SqT.of hT) (rgs_cons (rg_name 3 (rgs_cons (rg_name 4 (rgs_nil ?_) scLIsOf.nd)) scLIsOf.nd))
          have g1' : Dq K (hid M H2) _ (kindD k) := g1.up (hid_mono (M := M) s2)
          have hx : Dq K (hid M H2) x (stepD sx) := hx
          have hy : Dq K (hid M H2) y (stepD sy) := hy
          refine ⟨rfl, bt_one (k := false) (fun s0 H0 C0 cl fp => ?_) fun H3 s3 => ⟨s3, rfl⟩⟩
          refine (xt_cmpI (M := M) op_lt (xd_sub (xd_ixT (fun _ _ => rfl) (xd_name 4 rfl hy) xd_int step0) (xd_ixT (fun _ _ => rfl) (xd_name 3 rfl hx) xd_int step0)) (xd_ixT (fun _ _ => rfl) (xd_name 0 rfl g1') xd_int k1)).to ?_
          exact decide_eq_false (by omega)
/-! equal -/
def spLEqual (K : PySem.W.Frag) (CK : Addr) : Sp := fun vs H Q _ => ∃ (M : List Addr) (a : Addr) (k0 k : Kd) (vj vp : V) (js : List Int), vs = [.ref a, vj, vp] ∧ Live M H ∧ KAt K CK (hid M H) a k0 ∧ Dq K (hid M H) vj (.list (js.map PyData.int)) ∧ Dq K (hid M H) vp (kindD k) ∧ okJs js ∧ KOk k ∧
  ∀ H1, Same H H1 → Q (.bl (decide (floorK js < k.ap) && sameK k0 ⟨js, k.ap, k.mo⟩)) H1
theorem scLEqual : FnScope ["_law_kind_here", "_law_jumps", "_law_plain", "_law_jump", "_law_floor"] ["_law_kind_here", "_law_jumps", "_law_plain"] (defScope sLEqual) := ⟨rfl, rfl, rfl, by decide +kernel, rfl, by decide +kernel, by decide +kernel⟩
theorem ok_lequal {f fK fQ : Addr} {fd fdK fdQ : FuncData} (T : Nm mg) (W : KMk P w K mg base CK fK fdK) (V : KQ P w K mg base CK fQ fdQ) (F : Df K mg "_law_equal" sLEqual ["_law_kind_here", "_law_jumps", "_law_plain"] f fd) : FnOk P w K mg base CX0 5 f fd ["_law_kind_here", "_law_jumps", "_law_plain"] (spLEqual K CK) := by
  refine F.F.ok scLEqual (fun vs H Q E h => ?_) (fun cdv A outer s0 H vs Q E hr h => ?_)
  · obtain ⟨M, a, k0, k, vj, vp, js, rfl, _⟩ := h; rfl
  · obtain ⟨M, a, kh, k, vj, vp, js, rfl, L, hk, hj, hp, hjs, hok, q⟩ := h
    have ne2 : js ≠ [] := okJs_ne hjs
    have ne3 : js.map ab ≠ [] := fun z => ne2 (List.map_eq_nil_iff.mp z)
    refine rb_set 4 (M := M) (xd_mul xd_int (xd_maxL T.max ne3 (XL.dd ((xl_comp (own := [("_law_jump", 3)]) (fun d => match d with | .int j => some (PyData.int (ab j)) | _ => none) L scLEqual.nd (xd_name 1 rfl hj)
      (blkOk_by (own := [("_law_jump", 3)]) (N := ["_law_kind_here", "_law_jumps", "_law_plain", "_law_jump", "_law_floor"]) (sc := defScope sLEqual) (by decide +kernel)) (by rw [List.length_map]; have := hjs.2.2.2; omega) (fun p d v Hx hd hq sx Lq hv => ?cmp)).to (fm_abs _)) L)) (.inl ⟨by decide, by decide⟩)) (fun v6 H6 s6 hv6 => ?_) scLEqual.nd
    case cmp =>
      obtain ⟨j, _, rfl⟩ := List.mem_map.mp hd
      have ej := dp_int hv
      subst ej
      intro s0 H0 C0 cl fp
      refine rg_name 3 ?_ scLEqual.nd
      refine ⟨rfl, bt_nil ⟨Same.refl _, .inl ⟨rfl, _, rfl, fun s0 H0 C0 cl fp => ?_⟩⟩⟩
      exact XD.go (xd_abs T.abs (xv_name 3 rfl).int) fun v H2 s2 hv2 => ⟨s2, hv2⟩
    have e6 := dp_int hv6
    subst e6
    have L6 := L.mono s6
    have hk6 := hk.up (hid_mono (M := M) s6)
    have hj6 := hj.up (hid_mono (M := M) s6)
    have hp6 := hp.up (hid_mono (M := M) s6)
    refine rb_ret (M := M) (d := .bool (decide (floorK js < k.ap) && sameK kh ⟨js, k.ap, k.mo⟩)) (xd_and2 (xd_cmpI op_gt (xd_ixT (fun _ _ => rfl) (xd_name 2 rfl hp6) xd_int k1) (xv_name 4 rfl).int) fun e => xd_eqK L6 V (hr.mono (by decide)) (xk_v (xv_name 0 rfl) hk6) (xk_make (k := ⟨js, k.ap, k.mo⟩) L6 W (hr.mono (by decide)) ⟨hjs, of_decide_eq_true e, hok.m0, hok.m1⟩ (.inl rfl) (xd_name 1 rfl hj6) (xd_ixT (fun _ _ => rfl) (xd_name 2 rfl hp6) xd_int k1) (xd_ixT (fun _ _ => rfl) (xd_name 2 rfl hp6) xd_int k2))) fun v H7 s7 hv => ?_
    rw [dp_bl hv]
    exact q H7 (s6.trans s7)
/-! reason -/
theorem scLReason : FnScope ["_law_kind_here", "_law_plan", "_law_index", "_law_step"] ["_law_kind_here", "_law_plan"] (defScope sLReason) := ⟨rfl, rfl, rfl, by decide +kernel, rfl, by decide +kernel, by decide +kernel⟩
theorem ok_lreason {f : Addr} {fd : FuncData} (T : Nm mg) (hE : mg "enumerate" = none) (F : Df K mg "_law_reason" sLReason ["_law_kind_here", "_law_plan"] f fd) : FnOk P w K mg base CX0 1 f fd ["_law_kind_here", "_law_plan"] (spR K RReason) := by
  refine F.F.ok scLReason (fun vs H Q E h => ?_) (fun cdv A outer s0 H vs Q E hr h => ?_)
  · obtain ⟨M, ds, d, L, hd, ⟨k, f, st, rfl, _⟩, q⟩ := h
    exact dpa_len hd
  · obtain ⟨M, ds, d, L, hd, ⟨k, f, st, rfl, hlen, rfl⟩, q⟩ := h
    cases hd with
    | cons h1 hd => cases hd with
      | cons h2 hd =>
        cases hd
        rename_i v0 v1
        refine rb_if (xt_cmpI (M := M) op_gt (xd_len T.len (xd_ixT (fun _ _ => rfl) (xd_name 1 rfl h2) xd_int plan1)) (xd_ixT (fun _ _ => rfl) (xd_name 0 rfl h1) xd_int k2)) (fun e H3 s3 => ?_) (fun e H3 s3 => rb_nil ?_)
        · have e1 := of_decide_eq_true e
          rw [List.length_map] at e1
          refine rb_ret (M := M) (xd_tup (L.mono s3) (xa_cons xd_str (xa_cons (xd_len T.len (xd_ixT (fun _ _ => rfl) (xd_name 1 rfl (h2.up (hid_mono s3))) xd_int plan1)) xa_nil))) fun v H4 s4 hv => q v H4 (s3.trans s4) ?_
          unfold whyD
          rw [if_pos e1]
          rw [List.length_map] at hv
          exact hv
        · have e1 := of_decide_eq_false e
          rw [List.length_map] at e1
          have h23 := h2.up (hid_mono (M := M) s3)
          refine rb_enum (M := M) hE (xd_ixT (fun _ _ => rfl) (xd_name 1 rfl h23) xd_int plan1) fun H4 s4 => ⟨fun i σ' H' => Same H4 H' ∧ first (pJ k.js st) i = none ∧ ∃ a2 a3, σ' = [some v0, some v1, a2, a3], ⟨Same.refl _, rfl, none, none, rfl⟩, fun i σ' H' w => hid_mono w.1, fun i it hi σ' H' t x w ht hv => ?_, fun σ' H' w => ?_⟩
          · obtain ⟨z1, hf, a2, a3, rfl⟩ := w
            obtain ⟨sx, es, rfl⟩ := map_get hi
            have z2 : Same H4 (upd H' t (.tup [.int (i : Nat), x])) := z1.trans (same_new ht)
            have hv2 : Dq K (hid M (upd H' t (.tup [.int (i : Nat), x]))) x (stepD sx) := hv.up (hid_mono (same_new ht))
            refine rg_tup (SqT.of upd_same) (rgs_cons (rg_name 2 (rgs_cons (rg_name 3 (rgs_nil ?_) scLReason.nd)) scLReason.nd))
            show RB _ _ _ _ (upd H' t (.tup [.int (i : Nat), x]))
            generalize upd H' t (.tup [.int (i : Nat), x]) = H5 at z2 hv2
            have s05 := (s3.trans s4).trans z2
            have h15 := h1.up (hid_mono (M := M) s05)
            have ep : pJ k.js st i = !decide (sx.2 ∈ k.js) := by unfold pJ; rw [es]
            refine rb_if ((xt_notInS (M := M) (ns := k.js) (.inl rfl) (xd_ixT (fun _ _ => rfl) (xd_name 3 rfl hv2) xd_int step1) (xd_ixT (fun _ _ => rfl) (xd_name 0 rfl h15) xd_int k0)).to ep.symm) (fun e H6 s6 => ?_) (fun e H6 s6 => rb_nil (rb_nil ?_))
            · refine rb_ret (M := M) (xd_tup ((L.mono s05).mono s6) (xa_cons xd_str (xa_cons (xv_name 2 rfl).int xa_nil))) fun v H7 s7 hv => q v H7 ((s05.trans s6).trans s7) ?_
              unfold whyD
              rw [if_neg e1, first_hit hf e (List.getElem?_eq_some_iff.mp es).1]
              exact hv
            · exact ⟨z2.trans s6, first_snoc hf e, _, _, rfl⟩
          · obtain ⟨z1, hf, a2, a3, rfl⟩ := w
            rw [List.length_map] at hf
            have s04 := (s3.trans s4).trans z1
            have h24 := h2.up (hid_mono (M := M) s04)
            refine rb_range2 (M := M) (n := st.length - 1) T.rng xd_int (xd_len T.len (xd_ixT (fun _ _ => rfl) (xd_name 1 rfl h24) xd_int plan1)) (by rw [List.length_map]; omega) ⟨⟨by decide, by decide⟩, by rw [List.length_map]; omega, by rw [List.length_map]; omega⟩ fun H6 s6 => ⟨fun i σ' H' => Same H6 H' ∧ first (pA k.ap st) i = none ∧ ∃ b2, σ' = [some v0, some v1, b2, a3], ⟨Same.refl _, rfl, a2, rfl⟩, fun i σ' H' hi w => ?_, fun σ' H' w => ?_⟩
            · obtain ⟨y1, hf2, b2, rfl⟩ := w
              have s07 := (s04.trans s6).trans y1
              have h17 := h1.up (hid_mono (M := M) s07)
              have h27 := h2.up (hid_mono (M := M) s07)
              have l1 : i < st.length := by omega
              have l2 : i + 1 < st.length := by omega
              have ep : pA k.ap st i = decide (st[i + 1].1 - st[i].1 < k.ap) := by unfold pA; rw [List.getElem?_eq_getElem l1, List.getElem?_eq_getElem l2]
              refine rg_name 2 ?_ scLReason.nd
              refine rb_if ((xt_cmpI (M := M) op_lt (xd_sub (xd_ixT (fun _ _ => rfl) (xd_ixL (fun _ _ => rfl) (xd_ixT (fun _ _ => rfl) (xd_name 1 rfl h27) xd_int plan1) (xv_name 2 rfl).int (stepN (List.getElem?_eq_getElem l2) (by omega))) xd_int step0) (xd_ixT (fun _ _ => rfl) (xd_ixL (fun _ _ => rfl) (xd_ixT (fun _ _ => rfl) (xd_name 1 rfl h27) xd_int plan1) (xd_sub (xv_name 2 rfl).int xd_int) (stepN (List.getElem?_eq_getElem l1) (by omega))) xd_int step0)) (xd_ixT (fun _ _ => rfl) (xd_name 0 rfl h17) xd_int k1)).to ep.symm) (fun e H8 s8 => ?_) (fun e H8 s8 => rb_nil (rb_nil ?_))
              · refine rb_ret (M := M) (xd_tup ((L.mono s07).mono s8) (xa_cons xd_str (xa_cons (xv_name 2 rfl).int xa_nil))) fun v H9 s9 hv => q v H9 ((s07.trans s8).trans s9) ?_
                unfold whyD
                rw [if_neg e1, hf, first_hit hf2 e hi]
                exact hv
              · exact ⟨y1.trans s8, first_snoc hf2 e, _, rfl⟩
            · obtain ⟨y1, hf2, b2, rfl⟩ := w
              refine rb_ret (M := M) xd_non fun v H9 s9 hv => q v H9 (((s04.trans s6).trans y1).trans s9) ?_
              unfold whyD
              rw [if_neg e1, hf, hf2]
              exact hv
end
end Zn

set_option Elab.async false
set_option linter.all false
set_option maxRecDepth 100000
set_option maxHeartbeats 8000000
namespace Zn
open PySem PySem.Spec PyProof.Rows L2 Dl
/-! k08: plans with one thing otherwise -/
abbrev sLNear : Stmt := top 44
def G (fa h : Step → Step) : Nat → List Step → List Step
  | _, [] => []
  | 0, s :: r => fa s :: r.map h
  | a + 1, s :: r => s :: G fa h a r
theorem G_get (fa h : Step → Step) : ∀ (a : Nat) (st : List Step) (k : Nat), (G fa h a st)[k]? = (st[k]?).map fun s => if k < a then s else if k = a then fa s else h s
  | _, [], k => by unfold G; simp
  | 0, s :: r, 0 => by unfold G; simp
  | 0, s :: r, k + 1 => by
    unfold G
    rw [List.getElem?_cons_succ, List.getElem?_cons_succ, List.getElem?_map]
    cases r[k]? <;> simp
  | a + 1, s :: r, 0 => by unfold G; simp
  | a + 1, s :: r, k + 1 => by
    unfold G
    rw [List.getElem?_cons_succ, List.getElem?_cons_succ, G_get fa h a r k]
    cases r[k]? with
    | none => rfl
    | some t =>
      show some _ = some _
      congr 1
      show (if k < a then t else if k = a then fa t else h t) = (if k + 1 < a + 1 then t else if k + 1 = a + 1 then fa t else h t)
      by_cases h1 : k < a
      · rw [if_pos h1, if_pos (show k + 1 < a + 1 by omega)]
      · rw [if_neg h1, if_neg (show ¬ (k + 1 < a + 1) by omega)]
        by_cases h2 : k = a
        · rw [if_pos h2, if_pos (show k + 1 = a + 1 by omega)]
        · rw [if_neg h2, if_neg (show ¬ (k + 1 = a + 1) by omega)]
theorem G_len (fa h : Step → Step) : ∀ (a : Nat) (st : List Step), (G fa h a st).length = st.length
  | _, [] => by unfold G; rfl
  | 0, s :: r => by unfold G; simp
  | a + 1, s :: r => by unfold G; rw [List.length_cons, List.length_cons, G_len fa h a r]
theorem G_same (h : Step → Step) : ∀ (a : Nat) (st : List Step), st.take a ++ (st.drop a).map h = G h h a st
  | _, [] => by unfold G; simp
  | 0, s :: r => by unfold G; simp
  | a + 1, s :: r => by
    unfold G
    rw [List.take_succ_cons, List.drop_succ_cons, List.cons_append, G_same h a r]
theorem G_at (fa h : Step → Step) : ∀ (a : Nat) (st : List Step) (s : Step), st[a]? = some s → st.take a ++ [fa s] ++ (st.drop (a + 1)).map h = G fa h a st
  | _, [], s, e => by simp at e
  | 0, t :: r, s, e => by
    simp at e
    subst e
    unfold G
    simp
  | a + 1, t :: r, s, e => by
    unfold G
    rw [List.take_succ_cons, List.drop_succ_cons, List.cons_append, List.cons_append, G_at fa h a r s (by simpa using e)]
theorem okS_G {fa h : Step → Step} {a : Nat} {st : List Step} (ok : okS st) (hfj : ∀ s ∈ st, okJ (fa s).2) (hhj : ∀ s ∈ st, okJ (h s).2) (c1 : ∀ s t, s ∈ st → gapJ s t → gapJ (fa s) (h t)) (c2 : ∀ s t, gapJ s t → gapJ (h s) (h t))
    (c3 : ∀ u v, v ∈ st → 0 < a → st[a - 1]? = some u → st[a]? = some v → gapJ u v → gapJ u (fa v)) : okS (G fa h a st) := by
  refine ⟨fun s hs => ?_, fun k s t h1 h2 => ?_⟩
  · obtain ⟨k, hk⟩ := List.mem_iff_getElem?.mp hs
    rw [G_get] at hk
    cases e : st[k]? with
    | none => rw [e] at hk; cases hk
    | some u =>
      rw [e] at hk
      have hu := List.mem_of_getElem? e
      simp only [Option.map_some, Option.some.injEq] at hk
      rw [← hk]
      split
      · exact ok.1 u hu
      · split
        · exact hfj u hu
        · exact hhj u hu
  · rw [G_get] at h1 h2
    cases e1 : st[k]? with
    | none => rw [e1] at h1; cases h1
    | some u =>
      cases e2 : st[k + 1]? with
      | none => rw [e2] at h2; cases h2
      | some v =>
        rw [e1] at h1
        rw [e2] at h2
        simp only [Option.map_some, Option.some.injEq] at h1 h2
        have g := ok.2 k u v e1 e2
        rw [← h1, ← h2]
        by_cases ka : k < a
        · rw [if_pos ka]
          by_cases kb : k + 1 < a
          · rw [if_pos kb]; exact g
          · have ea : k + 1 = a := by omega
            rw [if_neg kb, if_pos ea]
            subst ea
            exact c3 u v (List.mem_of_getElem? e2) (by omega) (by simpa using e1) e2 g
        · rw [if_neg ka, if_neg (show ¬ (k + 1 < a) by omega), if_neg (show ¬ (k + 1 = a) by omega)]
          by_cases kb : k = a
          · rw [if_pos kb]; exact c1 u v (List.mem_of_getElem? e1) g
          · rw [if_neg kb]; exact c2 u v g
def sh (n : Int) (s : Step) : Step := (s.1 + n, s.2)
def j3 (j : Int) : Int := if j ∈ [(-1 : Int), 720] then 1 else j + 1
theorem j3_ok {j : Int} (h : okJ j) : okJ (j3 j) ∧ ab (j3 j) ≤ ab j + 1 := by
  unfold okJ at h
  unfold j3
  split
  · refine ⟨by unfold okJ; omega, ?_⟩
    unfold ab
    split <;> split <;> omega
  · rename_i z
    simp at z
    refine ⟨by unfold okJ; omega, ?_⟩
    unfold ab
    split <;> split <;> omega
/-- no jump much greater than those of the kind -/
def nearC (k : Kd) (st : List Step) (c : Int) : Prop := ∀ s ∈ st, ab s.2 ≤ mx (k.js.map ab) + c
theorem nearC_G {k : Kd} {fa h : Step → Step} {a : Nat} {st : List Step} {c : Int} (n : nearC k st c) (hc : 0 ≤ c) (hf : ∀ s ∈ st, ab (fa s).2 ≤ ab s.2 + 1) (hh : ∀ s, (h s).2 = s.2) : nearC k (G fa h a st) (c + 1) := fun s hs => by
  obtain ⟨i, hi⟩ := List.mem_iff_getElem?.mp hs
  rw [G_get] at hi
  cases e : st[i]? with
  | none => rw [e] at hi; cases hi
  | some u =>
    rw [e] at hi
    have hu := List.mem_of_getElem? e
    have nu := n u hu
    simp only [Option.map_some, Option.some.injEq] at hi
    rw [← hi]
    split
    · omega
    · split
      · have := hf u hu; omega
      · rw [hh]; omega
theorem cut_to {α : Type} (g : α → PyData) (xs : List α) (a : Nat) (h : a ≤ xs.length) : Dl.cutD (xs.map g) none (some (a : Int)) = (xs.take a).map g := by
  unfold Dl.cutD
  have e1 : HT.sIx (xs.map g).length (xs.map g).length (some (a : Int)) = min a (xs.map g).length := HT.sIx_nat _ _ a
  rw [HT.sIx_none, e1, List.drop_zero, List.length_map, Nat.min_eq_left h, Nat.sub_zero, List.map_take]
theorem cut_from {α : Type} (g : α → PyData) (xs : List α) (a : Nat) (h : a ≤ xs.length) : Dl.cutD (xs.map g) (some (a : Int)) none = (xs.drop a).map g := by
  unfold Dl.cutD
  have e1 : HT.sIx (xs.map g).length 0 (some (a : Int)) = min a (xs.map g).length := HT.sIx_nat _ _ a
  rw [HT.sIx_none, e1, List.length_map, Nat.min_eq_left h, List.map_drop]
  exact List.take_of_length_le (by rw [List.length_drop, List.length_map]; omega)
theorem fm_sh (n : Int) : ∀ st : List Step, (st.map stepD).filterMap (fun d => match d with | .tuple [.int m, .int j] => some (PyData.tuple [.int (m + n), .int j]) | _ => none) = (st.map (sh n)).map stepD
  | [] => rfl
  | s :: st => by rw [List.map_cons, List.filterMap_cons, List.map_cons, List.map_cons, ← fm_sh n st]; rfl
def spLNear (K : PySem.W.Frag) : Sp := fun vs H Q _ => ∃ (M : List Addr) (b : Addr) (n : Nat) (k : Kd) (vk vp : V) (f : Int) (st : List Step) (c : Int), vs = [.ref b, vk, vp] ∧ Live M H ∧ BagAt H b n ∧ n ≤ 900000 ∧ Dq K (hid (b :: M) H) vk (kindD k) ∧ Dq K (hid (b :: M) H) vp (planD f st) ∧ KOk k ∧ okS st ∧ st.length ≤ 20 ∧ nearC k st c ∧ 0 ≤ c ∧ c ≤ 5 ∧
  ∀ (f' : Int) (st' : List Step) v H1, okS st' → st'.length ≤ st.length + 1 → nearC k st' (c + 1) → SameB b H H1 → BagAt H1 b (n + 5) → Dq K (hid (b :: M) H1) v (planD f' st') → Q v H1
section
variable {P : Program} {w : World} {K : PySem.W.Frag} {mg : Str → Option Value} {base : Heap}
theorem scLNear : FnScope ["_law_bag_here", "_law_kind_here", "_law_plan", "_law_steps_here", "_law_way", "_law_last", "_law_at", "_law_moment", "_law_jump", "_law_tight", "_law_near_here", "_law_late"] ["_law_bag_here", "_law_kind_here", "_law_plan"] (defScope sLNear) := ⟨rfl, rfl, rfl, by decide +kernel, rfl, by decide +kernel, by decide +kernel⟩
theorem ok_lnear {f fT : Addr} {fd fdT : FuncData} (T : Nm mg) (FT : Df K mg "_law_take" sTake ["_law_bag_here", "_law_many"] fT fdT) (F : Df K mg "_law_near" sLNear ["_law_bag_here", "_law_kind_here", "_law_plan"] f fd) : FnOk P w K mg base CX0 2 f fd ["_law_bag_here", "_law_kind_here", "_law_plan"] (spLNear K) := by
  have GT : FnOk P w K mg base CX0 1 fT fdT ["_law_bag_here", "_law_many"] spTake := ok_take FT
  refine F.F.ok scLNear (fun vs H Q E h => ?_) (fun cdv A outer s0 H vs Q E hr h => ?_)
  · obtain ⟨M, b, n, k, vk, vp, f, st, c, rfl, _⟩ := h; rfl
  · obtain ⟨M, b, n, k, vk, vp, fo, st, c, rfl, L, hB, hn, hk, hp, hok, ok, hlen, hnr, hc0, hc5, q⟩ := h
    have c200 : (200 : Nat) < 2 ^ 200 := by decide
    obtain ⟨j0, jr, hj0⟩ : ∃ j0 jr, k.js = j0 :: jr := by
      cases e : k.js with
      | nil => exact absurd e (okJs_ne hok.js)
      | cons j0 jr => exact ⟨j0, jr, rfl⟩
    have hj0m : j0 ∈ k.js := by rw [hj0]; exact List.mem_cons_self ..
    have atj : atI (k.js.map PyData.int) ((0 : Nat) : Int) = some (.int j0) := atI_nat (by rw [hj0]; rfl)
    have Lb : Live (b :: M) H := live_bag L (fun _ _ _ e => e) hB
    refine rb_parR 3 4 (ra_cons (XL.go (xl_listL T.lst Lb (xd_ixT (fun _ _ => rfl) (xd_name 2 rfl hp) xd_int plan1)) fun p xs H1 s1 hpn h1 hx => ra_1 (re_take GT FT hr (xv_name 0 rfl) xv_int (bag_sameB hB s1) fun way H2 w0 w1 sB2 hB2 => ⟨_, _, rfl, ?_⟩))) scLNear.nd
    have npb : p ≠ b := fun z => by subst z; exact hB.some hpn
    have sB02 : SameB b H H2 := (SameB.of s1).trans sB2
    have g02 : Same (hid (b :: M) H) (hid (b :: M) H2) := sB02.hid (List.mem_cons_self ..)
    have L2' : Live (b :: M) H2 := live_bag L sB02 hB2
    have hpM : p ∉ b :: M := Lb.fresh hpn
    have g12 : Same (hid (b :: M) H1) (hid (b :: M) H2) := sB2.hid (List.mem_cons_self ..)
    have kp : Dq K (hid (b :: M) H2) (.ref p) (.list (st.map stepD)) := .lst (by rw [hid_of hpM]; exact sB2 _ _ npb h1) (hx.up g12)
    have hk2 := hk.up g02
    have hp2 := hp.up g02
    refine rb_if (xt_or2 (xt_eqD (M := b :: M) hr.units (xd_name 3 rfl kp) (xd_lst L2' xa_nil) (shaped_steps st) shaped_nil) fun _ => xt_eqI (M := b :: M) (xv_name 4 rfl).int xd_int) (fun e H3 s3 => ?_) (fun e H3 s3 => rb_nil ?_)
    · -- one more
      have L3 := L2'.mono s3
      have kp3 := kp.up (hid_mono (M := b :: M) s3)
      have hk3 := hk2.up (hid_mono (M := b :: M) s3)
      have hp3 := hp2.up (hid_mono (M := b :: M) s3)
      obtain ⟨la, hla0, hla⟩ : ∃ la : Int, (st = [] → la = 0) ∧ ∀ l, st.getLast? = some l → la = l.1 := by
        cases el : st.getLast? with
        | none => exact ⟨0, fun _ => rfl, fun l hl => by cases hl⟩
        | some l => exact ⟨l.1, fun z => (by rw [z] at el; cases el), fun l' hl => by cases hl; rfl⟩
      refine rb_set 5 (M := b :: M) (d := .int la) ?hla (fun v4 H4 s4 hv4 => ?_) scLNear.nd
      case hla =>
        by_cases he : st = []
        · rw [hla0 he]
          exact xd_ifF ((xt_neD (M := b :: M) hr.units (xd_name 3 rfl kp3) (xd_lst L3 xa_nil) (shaped_steps st) shaped_nil).to (by rw [eqv_steps, decide_eq_true he]; rfl)) xd_int
        · obtain ⟨l, hl⟩ : ∃ l, st.getLast? = some l := ⟨_, List.getLast?_eq_some_getLast he⟩
          rw [hla l hl]
          exact xd_ifT ((xt_neD (M := b :: M) hr.units (xd_name 3 rfl kp3) (xd_lst L3 xa_nil) (shaped_steps st) shaped_nil).to (by rw [eqv_steps, decide_eq_false he]; rfl)) (xd_ixT (fun _ _ => rfl) (xd_ixL (fun _ _ => rfl) (xd_name 3 rfl kp3) (xd_neg xd_int) (last_step hl)) xd_int step0)
      have e4 := dp_int hv4
      subst e4
      have kp4 := kp3.up (hid_mono (M := b :: M) s4)
      have hk4 := hk3.up (hid_mono (M := b :: M) s4)
      have hp4 := hp3.up (hid_mono (M := b :: M) s4)
      have L4 := L3.mono s4
      refine rb_ret (M := b :: M) (d := planD fo (st ++ [(la + k.ap + 9, j0)])) (xd_tup L4 (xa_cons (xd_ixT (fun _ _ => rfl) (xd_name 2 rfl hp4) xd_int plan0) (xa_cons ((XL.dd (xl_cat L4 (xd_name 3 rfl kp4) (xd_lst L4 (xa_cons (xd_tup L4 (xa_cons (xd_add (xd_add (xv_name 5 rfl).int (xd_ixT (fun _ _ => rfl) (xd_name 1 rfl hk4) xd_int k1)) xd_int) (xa_cons (xd_ixL (fun _ _ => rfl) (xd_ixT (fun _ _ => rfl) (xd_name 1 rfl hk4) xd_int k0) xd_int atj) xa_nil))) xa_nil)) (by rw [List.length_map]; show _ + 1 ≤ _; omega)) L4).to (by rw [List.map_append]; rfl)) xa_nil))) fun v H5 s5 hv => ?_
      have hj := hok.js.1 j0 hj0m
      have mj := mx_le hj0m
      have hap := hok.ap
      unfold floorK at hap
      refine q fo _ v H5 ?_ (by rw [List.length_append]; exact Nat.le_refl _) (fun s hs => ?_) (((sB02.trans (.of s3)).trans (.of s4)).trans (.of s5)) (hB2.up ((s3.trans s4).trans s5) (by omega)) hv
      · cases el : st.getLast? with
        | none =>
          rw [List.getLast?_eq_none_iff.mp el]
          exact okS_one hj
        | some l =>
          refine okS_snoc ok el hj ?_
          have hl := hnr l (List.mem_of_getLast? el)
          rw [hla l el]
          unfold gapJ
          show ab l.2 + ab j0 < l.1 + k.ap + 9 - l.1
          omega
      · rcases List.mem_append.mp hs with z | z
        · have := hnr s z; omega
        · rw [List.mem_singleton.mp z]
          show ab j0 ≤ _
          omega
    · rw [eqv_steps, Bool.or_eq_false_iff] at e
      have he : st ≠ [] := of_decide_eq_false e.1
      have hpos := List.length_pos_iff.mpr he
      have hB3 := hB2.up s3 (Nat.le_refl _)
      have kp3 := kp.up (hid_mono (M := b :: M) s3)
      have hjl : ((st.map stepD).length : Int) = (st.length : Int) := by rw [List.length_map]
      refine rb_setR 6 (re_take GT FT hr (xv_name 0 rfl) ((xd_len (M := b :: M) T.len (xd_name 3 rfl kp3)).vint) hB3 (fun r H4 r0 r1 sB4 hB4 => ?_) (by rw [hjl]; omega) (by rw [hjl]; omega)) scLNear.nd
      rw [hjl] at r1
      obtain ⟨a, rfl⟩ : ∃ a : Nat, r = (a : Int) := ⟨r.toNat, (Int.toNat_of_nonneg r0).symm⟩
      have hal : a < st.length := by omega
      have sB04 : SameB b H H4 := (sB02.trans (.of s3)).trans sB4
      have g34 : Same (hid (b :: M) H3) (hid (b :: M) H4) := sB4.hid (List.mem_cons_self ..)
      have kp4 := kp3.up g34
      have hk4 := (hk2.up (hid_mono (M := b :: M) s3)).up g34
      have hp4 := (hp2.up (hid_mono (M := b :: M) s3)).up g34
      have L4 : Live (b :: M) H4 := live_bag L sB04 hB4
      have hsa := List.getElem?_eq_getElem hal
      generalize st[a] = sa at hsa
      have hsam : sa ∈ st := List.mem_of_getElem? hsa
      -- steps[:at] + [(moment + n, jump) ..]
      refine rb_if (xt_eqI (M := b :: M) (xv_name 4 rfl).int xd_int) (fun e5 H5 s5 => ?_) (fun e5 H5 s5 => rb_nil ?_)
      · have L5 := L4.mono s5
        have kp5 := kp4.up (hid_mono (M := b :: M) s5)
        have hp5 := hp4.up (hid_mono (M := b :: M) s5)
        refine rb_ret (M := b :: M) (d := planD fo (G (sh 1) (sh 1) a st)) (xd_tup L5 (xa_cons (xd_ixT (fun _ _ => rfl) (xd_name 2 rfl hp5) xd_int plan0) (xa_cons ((XL.dd (xl_cat L5 (XL.dd ((xl_cut L5 (xd_name 3 rfl kp5) xo_none (xo_some (M := b :: M) (xv_name 6 rfl).int)).to (cut_to stepD st a (by omega))) L5)
          (XL.dd ((xl_comp (own := [("_law_moment", 7), ("_law_jump", 8)]) (fun d => match d with | .tuple [.int m, .int j] => some (PyData.tuple [.int (m + 1), .int j]) | _ => none) L5 scLNear.nd (XL.dd ((xl_cut L5 (xd_name 3 rfl kp5) (xo_some (M := b :: M) (xv_name 6 rfl).int) xo_none).to (cut_from stepD st a (by omega))) L5)
            (blkOk_by (own := [("_law_moment", 7), ("_law_jump", 8)]) (N := ["_law_bag_here", "_law_kind_here", "_law_plan", "_law_steps_here", "_law_way", "_law_last", "_law_at", "_law_moment", "_law_jump", "_law_tight", "_law_near_here", "_law_late"]) (sc := defScope sLNear) (by decide +kernel)) (by rw [List.length_map, List.length_drop]; omega) (fun p d v Hx hd hq sx Lq hv => ?cmp1)).to (fm_sh 1 _)) L5) (by rw [List.length_map, List.length_map, List.length_map, List.length_take, List.length_drop]; omega)) L5).to (by rw [← List.map_append, G_same])) xa_nil))) fun v H6 s6 hv => ?_
        case cmp1 =>
          obtain ⟨sx, _, rfl⟩ := mem_step hd
          obtain ⟨t, rfl, ht⟩ := step_at hv
          intro s0 H0 C0 cl fp
          refine rg_tup (same_seqT hid_le ht) (rgs_cons (rg_name 7 (rgs_cons (rg_name 8 (rgs_nil ?_) scLNear.nd)) scLNear.nd))
          refine ⟨rfl, bt_nil ⟨Same.refl _, .inl ⟨rfl, _, rfl, fun s0 H0 C0 cl fp => ?_⟩⟩⟩
          exact XD.go (xd_tup Lq (xa_cons (xd_add (xv_name 7 rfl).int xd_int) (xa_cons (xv_name 8 rfl).int xa_nil))) fun v H2 s2 hv2 => ⟨s2, hv2⟩
        refine q fo (G (sh 1) (sh 1) a st) v H6 (okS_G ok (fun s hs => ok.1 s hs) (fun s hs => ok.1 s hs) (fun s t _ g => ?_) (fun s t g => ?_) (fun u v _ _ _ _ g => ?_)) (by rw [G_len]; omega) (nearC_G hnr hc0 (fun s _ => by show ab s.2 ≤ _; omega) (fun _ => rfl)) ((sB04.trans (.of s5)).trans (.of s6)) (hB4.up (s5.trans s6) (by omega)) hv
        · unfold gapJ sh at *; show _ < _; simp only; omega
        · unfold gapJ sh at *; show _ < _; simp only; omega
        · unfold gapJ sh at *; show _ < _; simp only; omega
      · -- tight
        have L5 := L4.mono s5
        have kp5 := kp4.up (hid_mono (M := b :: M) s5)
        have hp5 := hp4.up (hid_mono (M := b :: M) s5)
        have hsaI : atI (st.map stepD) ((a : Nat) : Int) = some (stepD sa) := stepN hsa rfl
        obtain ⟨u, hu, hua⟩ : ∃ u, atI (st.map stepD) ((a : Int) - 1) = some (stepD u) ∧ (0 < a → st[a - 1]? = some u) := by
          by_cases z : 0 < a
          · refine ⟨st[a - 1], stepN (List.getElem?_eq_getElem (by omega)) (by omega), fun _ => List.getElem?_eq_getElem (by omega)⟩
          · obtain ⟨l, hl⟩ : ∃ l, st.getLast? = some l := ⟨_, List.getLast?_eq_some_getLast he⟩
            have ea : ((a : Int) - 1) = -1 := by omega
            exact ⟨l, by rw [ea]; exact last_step hl, fun y => absurd y z⟩
        refine rb_set 9 (M := b :: M) (d := .int (ab sa.2 + ab u.2 + 1)) (xd_add (xd_add (xd_abs T.abs (xd_ixT (fun _ _ => rfl) (xd_ixL (fun _ _ => rfl) (xd_name 3 rfl kp5) (xv_name 6 rfl).int hsaI) xd_int step1)) (xd_abs T.abs (xd_ixT (fun _ _ => rfl) (xd_ixL (fun _ _ => rfl) (xd_name 3 rfl kp5) (xd_sub (xv_name 6 rfl).int xd_int) hu) xd_int step1))) xd_int) (fun v6 H6 s6 hv6 => ?_) scLNear.nd
        have e6 := dp_int hv6
        subst e6
        have L6 := L5.mono s6
        have kp6 := kp5.up (hid_mono (M := b :: M) s6)
        have hp6 := hp5.up (hid_mono (M := b :: M) s6)
        refine rb_set 10 (M := b :: M) (d := .bool (decide ((0 : Int) < (a : Int)) && decide (sa.1 - u.1 ≤ ab sa.2 + ab u.2 + 1))) (xd_and2 (xd_cmpI op_gt (xv_name 6 rfl).int xd_int) fun _ => xd_cmpI op_le (xd_sub (xd_ixT (fun _ _ => rfl) (xd_ixL (fun _ _ => rfl) (xd_name 3 rfl kp6) (xv_name 6 rfl).int hsaI) xd_int step0) (xd_ixT (fun _ _ => rfl) (xd_ixL (fun _ _ => rfl) (xd_name 3 rfl kp6) (xd_sub (xv_name 6 rfl).int xd_int) hu) xd_int step0)) (xv_name 9 rfl).int) (fun v7 H7 s7 hv7 => ?_) scLNear.nd
        have e7 := dp_bl hv7
        subst e7
        generalize hnb : (decide ((0 : Int) < (a : Int)) && decide (sa.1 - u.1 ≤ ab sa.2 + ab u.2 + 1)) = nb at hv7
        have L7 := L6.mono s7
        have kp7 := kp6.up (hid_mono (M := b :: M) s7)
        have hp7 := hp6.up (hid_mono (M := b :: M) s7)
        have sB07 := (((sB04.trans (.of s5)).trans (.of s6)).trans (.of s7))
        have hB7 := hB4.up ((s5.trans s6).trans s7) (Nat.le_refl _)
        refine rb_if (xt_and2 (xt_eqI (M := b :: M) (xv_name 4 rfl).int xd_int) fun _ => xt_not (xt_val (M := b :: M) (xd_name 10 rfl hv7))) (fun e8 H8 s8 => ?_) (fun e8 H8 s8 => rb_nil ?_)
        · rw [Bool.and_eq_true] at e8
          have hnb2 : nb = false := by simpa using e8.2
          rw [hnb2] at hnb
          have L8 := L7.mono s8
          have kp8 := kp7.up (hid_mono (M := b :: M) s8)
          have hp8 := hp7.up (hid_mono (M := b :: M) s8)
          refine rb_ret (M := b :: M) (d := planD fo (G (sh (-1)) (sh (-1)) a st)) (xd_tup L8 (xa_cons (xd_ixT (fun _ _ => rfl) (xd_name 2 rfl hp8) xd_int plan0) (xa_cons ((XL.dd (xl_cat L8 (XL.dd ((xl_cut L8 (xd_name 3 rfl kp8) xo_none (xo_some (M := b :: M) (xv_name 6 rfl).int)).to (cut_to stepD st a (by omega))) L8)
            (XL.dd ((xl_comp (own := [("_law_moment", 7), ("_law_jump", 8)]) (fun d => match d with | .tuple [.int m, .int j] => some (PyData.tuple [.int (m + -1), .int j]) | _ => none) L8 scLNear.nd (XL.dd ((xl_cut L8 (xd_name 3 rfl kp8) (xo_some (M := b :: M) (xv_name 6 rfl).int) xo_none).to (cut_from stepD st a (by omega))) L8)
              (blkOk_by (own := [("_law_moment", 7), ("_law_jump", 8)]) (N := ["_law_bag_here", "_law_kind_here", "_law_plan", "_law_steps_here", "_law_way", "_law_last", "_law_at", "_law_moment", "_law_jump", "_law_tight", "_law_near_here", "_law_late"]) (sc := defScope sLNear) (by decide +kernel)) (by rw [List.length_map, List.length_drop]; omega) (fun p d v Hx hd hq sx Lq hv => ?cmp2)).to (fm_sh (-1) _)) L8) (by rw [List.length_map, List.length_map, List.length_map, List.length_take, List.length_drop]; omega)) L8).to (by rw [← List.map_append, G_same])) xa_nil))) fun v H9 s9 hv => ?_
          case cmp2 =>
            obtain ⟨sx, _, rfl⟩ := mem_step hd
            obtain ⟨t, rfl, ht⟩ := step_at hv
            intro s0 H0 C0 cl fp
            refine rg_tup (same_seqT hid_le ht) (rgs_cons (rg_name 7 (rgs_cons (rg_name 8 (rgs_nil ?_) scLNear.nd)) scLNear.nd))
            refine ⟨rfl, bt_nil ⟨Same.refl _, .inl ⟨rfl, _, rfl, fun s0 H0 C0 cl fp => ?_⟩⟩⟩
            refine XD.go (xd_tup Lq (xa_cons (xd_sub (xv_name 7 rfl).int xd_int) (xa_cons (xv_name 8 rfl).int xa_nil))) fun v H2 s2 hv2 => ⟨s2, ?_⟩
            have e0 : sx.1 - 1 = sx.1 + -1 := by omega
            rw [e0] at hv2
            exact hv2
          refine q fo (G (sh (-1)) (sh (-1)) a st) v H9 (okS_G ok (fun s hs => ok.1 s hs) (fun s hs => ok.1 s hs) (fun s t _ g => ?_) (fun s t g => ?_) (fun u' v' _ ha0 hu' hv' g => ?_)) (by rw [G_len]; omega) (nearC_G hnr hc0 (fun s _ => by show ab s.2 ≤ _; omega) (fun _ => rfl)) ((sB07.trans (.of s8)).trans (.of s9)) (hB7.up (s8.trans s9) (by omega)) hv
          · unfold gapJ sh at *; show _ < _; simp only; omega
          · unfold gapJ sh at *; show _ < _; simp only; omega
          · rw [hua ha0] at hu'
            rw [hsa] at hv'
            cases hu'
            cases hv'
            rw [decide_eq_true (show (0 : Int) < (a : Int) by omega), Bool.true_and] at hnb
            have z := of_decide_eq_false hnb
            unfold gapJ sh
            show _ < _
            simp only
            omega
        · have L8 := L7.mono s8
          have kp8 := kp7.up (hid_mono (M := b :: M) s8)
          have hp8 := hp7.up (hid_mono (M := b :: M) s8)
          refine rb_if (xt_eqI (M := b :: M) (xv_name 4 rfl).int xd_int) (fun e9 H9 s9 => ?_) (fun e9 H9 s9 => rb_nil ?_)
          · have L9 := L8.mono s9
            have kp9 := kp8.up (hid_mono (M := b :: M) s9)
            have hp9 := hp8.up (hid_mono (M := b :: M) s9)
            refine rb_set 8 (M := b :: M) (d := .int (j3 sa.2)) ?hjs (fun va Ha ha hva => ?_) scLNear.nd
            case hjs =>
              by_cases hm : sa.2 ∈ [(-1 : Int), 720]
              · have e1 : j3 sa.2 = 1 := if_pos hm
                rw [e1]
                exact xd_ifF ((xt_notInS (M := b :: M) (ns := [-1, 720]) (.inr rfl) (xd_ixT (fun _ _ => rfl) (xd_ixL (fun _ _ => rfl) (xd_name 3 rfl kp9) (xv_name 6 rfl).int hsaI) xd_int step1) (xd_tup L9 (xa_cons (xd_neg xd_int) (xa_cons xd_int xa_nil)))).to (by rw [decide_eq_true hm]; rfl)) xd_int
              · have e1 : j3 sa.2 = sa.2 + 1 := if_neg hm
                rw [e1]
                exact xd_ifT ((xt_notInS (M := b :: M) (ns := [-1, 720]) (.inr rfl) (xd_ixT (fun _ _ => rfl) (xd_ixL (fun _ _ => rfl) (xd_name 3 rfl kp9) (xv_name 6 rfl).int hsaI) xd_int step1) (xd_tup L9 (xa_cons (xd_neg xd_int) (xa_cons xd_int xa_nil)))).to (by rw [decide_eq_false hm]; rfl)) (xd_add (xd_ixT (fun _ _ => rfl) (xd_ixL (fun _ _ => rfl) (xd_name 3 rfl kp9) (xv_name 6 rfl).int hsaI) xd_int step1) xd_int)
            have ea := dp_int hva
            subst ea
            have La := L9.mono ha
            have kpa := kp9.up (hid_mono (M := b :: M) ha)
            have hpa := hp9.up (hid_mono (M := b :: M) ha)
            refine rb_setC0 11 (M := b :: M) (own := [("_law_moment", 7), ("_law_last", 5)]) (fun d => match d with | .tuple [.int m, .int j] => some (PyData.tuple [.int (m + 18), .int j]) | _ => none) La scLNear.nd (XL.dd ((xl_cut La (xd_name 3 rfl kpa) (xo_some (M := b :: M) ((xd_add (xv_name 6 rfl).int xd_int).to (show PyData.int ((a : Int) + 1) = .int ((a + 1 : Nat) : Int) by rw [Int.natCast_add]; rfl))) xo_none).to (cut_from stepD st (a + 1) (by omega))) La)
              (blkOk_by (own := [("_law_moment", 7), ("_law_last", 5)]) (N := ["_law_bag_here", "_law_kind_here", "_law_plan", "_law_steps_here", "_law_way", "_law_last", "_law_at", "_law_moment", "_law_jump", "_law_tight", "_law_near_here", "_law_late"]) (sc := defScope sLNear) (by decide +kernel)) (by rw [List.length_map, List.length_drop]; omega) (fun p d v Hx hd hq sx Lq hv => ?cmp3) (fun l xl Hb sb hlb hl hxl => ?_)
            case cmp3 =>
              obtain ⟨sx, _, rfl⟩ := mem_step hd
              obtain ⟨t, rfl, ht⟩ := step_at hv
              intro s0 H0 C0 cl fp
              refine rg_tup (same_seqT hid_le ht) (rgs_cons (rg_name 7 (rgs_cons (rg_name 5 (rgs_nil ?_) scLNear.nd)) scLNear.nd))
              refine ⟨rfl, bt_nil ⟨Same.refl _, .inl ⟨rfl, _, rfl, fun s0 H0 C0 cl fp => ?_⟩⟩⟩
              exact XD.go (xd_tup Lq (xa_cons (xd_add (xv_name 7 rfl).int xd_int) (xa_cons (xv_name 5 rfl).int xa_nil))) fun v H2 s2 hv2 => ⟨s2, hv2⟩
            rw [fm_sh 18] at hxl
            have Lb2 := La.mono sb
            have kl : Dq K (hid (b :: M) Hb) (.ref l) (.list (((st.drop (a + 1)).map (sh 18)).map stepD)) := .lst (by rw [hid_of (La.fresh hlb)]; exact hl) hxl
            have kpb := kpa.up (hid_mono (M := b :: M) sb)
            have hpb := hpa.up (hid_mono (M := b :: M) sb)
            refine rb_ret (M := b :: M) (d := planD fo (G (fun s => (s.1 + 9, j3 s.2)) (sh 18) a st)) (xd_tup Lb2 (xa_cons (xd_ixT (fun _ _ => rfl) (xd_name 2 rfl hpb) xd_int plan0) (xa_cons ((XL.dd (xl_cat Lb2 (XL.dd (xl_cat Lb2 (XL.dd ((xl_cut Lb2 (xd_name 3 rfl kpb) xo_none (xo_some (M := b :: M) (xv_name 6 rfl).int)).to (cut_to stepD st a (by omega))) Lb2)
              (xd_lst Lb2 (xa_cons (xd_tup Lb2 (xa_cons (xd_add (xd_ixT (fun _ _ => rfl) (xd_ixL (fun _ _ => rfl) (xd_name 3 rfl kpb) (xv_name 6 rfl).int hsaI) xd_int step0) xd_int) (xa_cons (xv_name 8 rfl).int xa_nil))) xa_nil)) (by rw [List.length_map, List.length_take]; show _ + 1 ≤ _; omega)) Lb2) (xd_name 11 rfl kl) (by rw [List.length_append, List.length_map, List.length_map, List.length_map, List.length_take, List.length_drop]; show _ + 1 + _ ≤ _; omega)) Lb2).to (by
                rw [← G_at (fun s => (s.1 + 9, j3 s.2)) (sh 18) a st sa hsa, List.map_append, List.map_append]
                rfl)) xa_nil))) fun v Hc sc hv => ?_
            refine q fo (G (fun s => (s.1 + 9, j3 s.2)) (sh 18) a st) v Hc (okS_G ok (fun s hs => (j3_ok (ok.1 s hs)).1) (fun s hs => ok.1 s hs) (fun s t hs g => ?_) (fun s t g => ?_) (fun u' v' hv' _ _ _ g => ?_)) (by rw [G_len]; omega) (nearC_G hnr hc0 (fun s hs => (j3_ok (ok.1 s hs)).2) (fun _ => rfl)) (((((sB07.trans (.of s8)).trans (.of s9)).trans (.of ha)).trans (.of sb)).trans (.of sc)) (hB7.up ((((s8.trans s9).trans ha).trans sb).trans sc) (by omega)) hv
            · have z := (j3_ok (ok.1 s hs)).2
              unfold gapJ sh at *; show _ < _; simp only; omega
            · unfold gapJ sh at *; show _ < _; simp only; omega
            · have z := (j3_ok (ok.1 v' hv')).2
              unfold gapJ at *; show _ < _; simp only; omega
          · have L9 := L8.mono s9
            have kp9 := kp8.up (hid_mono (M := b :: M) s9)
            have hp9 := hp8.up (hid_mono (M := b :: M) s9)
            refine rb_ret (M := b :: M) (d := planD (fo - 9) (st.drop 1)) (xd_tup L9 (xa_cons (xd_sub (xd_ixT (fun _ _ => rfl) (xd_name 2 rfl hp9) xd_int plan0) xd_int) (xa_cons ((XL.dd (xl_cut L9 (xd_name 3 rfl kp9) (xo_some (M := b :: M) xd_int) xo_none) L9).to (by rw [cut1, List.map_drop])) xa_nil))) fun v Ha ha hv => ?_
            refine q (fo - 9) _ v Ha ⟨fun s hs => ok.1 s (List.mem_of_mem_drop hs), fun i s t h1 h2 => ?_⟩ (by rw [List.length_drop]; omega) (fun s hs => by have := hnr s (List.mem_of_mem_drop hs); omega) (((sB07.trans (.of s8)).trans (.of s9)).trans (.of ha)) (hB7.up ((s8.trans s9).trans ha) (by omega)) hv
            rw [List.getElem?_drop] at h1 h2
            exact ok.2 (1 + i) s t h1 (by rw [Nat.add_assoc]; exact h2)
end
end Zn

set_option Elab.async false
set_option linter.all false
set_option maxRecDepth 100000
set_option maxHeartbeats 8000000
namespace Zn
open PySem PySem.Spec PyProof.Rows L2 Dl
/-! k08: what the law wants besides -/
def bigI (n : Nat) (ns : List Int) : Prop := ∀ x ∈ ns, x.natAbs < n
theorem log_big {i : Int} (h : i.natAbs < 10 ^ 33) : i.natAbs.log2 < 110 := by
  by_cases z : i.natAbs = 0
  · rw [z]; decide
  · rw [Nat.log2_lt z]
    exact Nat.lt_trans h (by decide)
theorem ints_show : ∀ {ns : List Int}, bigI (10 ^ 33) ns → PyData.leavesShortAll 40 (ns.map PyData.int) = true ∧ PyData.showableAll (ns.map PyData.int) = true ∧ PyData.hasDictAll (ns.map PyData.int) = false ∧ PyData.depthAll (ns.map PyData.int) = 0 ∧ PyData.weightAll (ns.map PyData.int) ≤ 200 * ns.length
  | [], _ => ⟨rfl, rfl, rfl, rfl, Nat.zero_le _⟩
  | n :: ns, h => by
    have hn := h n (List.mem_cons_self ..)
    have lg := log_big hn
    obtain ⟨b1, b2, b3, b4, b5⟩ := ints_show (ns := ns) fun x hx => h x (List.mem_cons_of_mem _ hx)
    have e := int_text_length_le10 (k := 33) (by decide) hn
    rw [List.map_cons]
    refine ⟨?_, ?_, ?_, ?_, ?_⟩
    · simp only [PyData.leavesShortAll, PyData.leavesShort, b1, Bool.and_true, decide_eq_true_eq]
      show (Str.ofString (toString n)).length ≤ 40
      rw [PySem.ofString_length]; omega
    · simp only [PyData.showableAll, PyData.showable, b2, Bool.and_true, decide_eq_true_eq]; omega
    · simp only [PyData.hasDictAll, PyData.hasDict, b3, Bool.or_self]
    · simp only [PyData.depthAll, PyData.depth, b4]; rfl
    · simp only [PyData.weightAll, PyData.weight, List.length_cons, Nat.mul_add]
      split <;> omega
structure Shows (d : PyData) : Prop where
  h1 : d.showable = true
  h2 : d.hasDict = false
  h3 : d.depth ≤ 60
  h4 : d.shown.length ≤ sizeLine
/-- [(ints), a, b] -/
theorem shows_k {ns : List Int} {a b : Int} (h : bigI (10 ^ 33) ns) (hn : ns.length ≤ 10) (ha : a.natAbs < 10 ^ 33) (hb : b.natAbs < 10 ^ 33) : Shows (.list [.tuple (ns.map PyData.int), .int a, .int b]) := by
  obtain ⟨b1, b2, b3, b4, b5⟩ := ints_show h
  obtain ⟨c1, c2, c3, c4, c5⟩ := ints_show (ns := [a, b]) (fun x hx => by
    simp only [List.mem_cons, List.not_mem_nil, or_false] at hx
    rcases hx with e | e <;> (rw [e]; assumption))
  have d1 : PyData.leavesShort 40 (.list [.tuple (ns.map PyData.int), .int a, .int b]) = true := by
    show (PyData.leavesShortAll 40 (ns.map PyData.int) && PyData.leavesShortAll 40 ([a, b].map PyData.int)) = true
    rw [b1, c1]; rfl
  refine ⟨?_, ?_, ?_, ?_⟩
  · show (PyData.showableAll (ns.map PyData.int) && PyData.showableAll ([a, b].map PyData.int)) = true
    rw [b2, c2]; rfl
  · show (PyData.hasDictAll (ns.map PyData.int) || PyData.hasDictAll ([a, b].map PyData.int)) = false
    rw [b3, c3]; rfl
  · show max (PyData.depthAll (ns.map PyData.int) + 1) (PyData.depthAll ([a, b].map PyData.int)) + 1 ≤ 60
    rw [b4, c4]; decide
  · have e := PyData.shown_le 40 (by decide) _ d1
    have w : PyData.weight (.list [.tuple (ns.map PyData.int), .int a, .int b]) ≤ 20000 := by
      have g1 := log_big ha
      have g2 := log_big hb
      simp only [PyData.weight, PyData.weightAll]
      split <;> split <;> omega
    rw [sizeLine_eq]
    omega
/-- (word, n) -/
def Word (x : Str) : Prop := x = "most" ∨ x = "jump" ∨ x = "apart"
theorem shows_w {x : Str} {n : Int} (hx : Word x) (hn : n.natAbs < 10 ^ 33) : Shows (.tuple [.str x, .int n]) := by
  obtain ⟨c1, c2, c3, c4, c5⟩ := ints_show (ns := [n]) (fun y hy => by rw [List.mem_singleton.mp hy]; exact hn)
  have w1 : PyData.leavesShort 40 (.str x) = true ∧ PyData.showable (.str x) = true ∧ PyData.hasDict (.str x) = false ∧ PyData.depth (.str x) = 0 ∧ PyData.weight (.str x) ≤ 100 := by
    rcases hx with rfl | rfl | rfl <;> exact ⟨by decide +kernel, by decide +kernel, by decide +kernel, by decide +kernel, by decide +kernel⟩
  obtain ⟨b1, b2, b3, b4, b5⟩ := w1
  have d1 : PyData.leavesShort 40 (.tuple [.str x, .int n]) = true := by
    show (PyData.leavesShort 40 (.str x) && PyData.leavesShortAll 40 ([n].map PyData.int)) = true
    rw [b1, c1]; rfl
  refine ⟨?_, ?_, ?_, ?_⟩
  · show (PyData.showable (.str x) && PyData.showableAll ([n].map PyData.int)) = true
    rw [b2, c2]; rfl
  · show (PyData.hasDict (.str x) || PyData.hasDictAll ([n].map PyData.int)) = false
    rw [b3, c3]; rfl
  · show max (PyData.depth (.str x)) (PyData.depthAll ([n].map PyData.int)) + 1 ≤ 60
    rw [b4, c4]; decide
  · have e := PyData.shown_le 40 (by decide) _ d1
    have w : PyData.weight (.tuple [.str x, .int n]) ≤ 20000 := by
      have g1 := log_big hn
      show PyData.weightAll [.str x, .int n] ≤ _
      simp only [PyData.weightAll]
      have g2 : PyData.weight (.int n) ≤ 200 := by
        simp only [PyData.weight]
        split <;> omega
      omega
    rw [sizeLine_eq]
    omega
theorem why_word (k : Kd) (st : List Step) (hl : st.length ≤ 50) : whyD k st = .none ∨ ∃ x n, whyD k st = .tuple [.str x, .int n] ∧ Word x ∧ n.natAbs < 10 ^ 33 := by
  have e33 : (10 : Nat) ^ 33 = 1000000000000000000000000000000000 := by decide
  have fl : ∀ (p : Nat → Bool) (n i : Nat), first p n = some i → i < n := fun p n => by
    induction n with
    | zero => intro i h; cases h
    | succ n ih =>
      intro i h
      unfold first at h
      cases e : first p n with
      | some j =>
        rw [e] at h
        cases h
        have := ih _ e
        omega
      | none =>
        rw [e] at h
        simp only at h
        split at h
        · cases h; omega
        · cases h
  unfold whyD
  split
  · exact .inr ⟨"most", _, rfl, .inl rfl, by omega⟩
  · cases e1 : first (pJ k.js st) st.length with
    | some i => exact .inr ⟨"jump", _, rfl, .inr (.inl rfl), by have := fl _ _ _ e1; omega⟩
    | none =>
      cases e2 : first (pA k.ap st) (st.length - 1) with
      | some i => exact .inr ⟨"apart", _, rfl, .inr (.inr rfl), by have := fl _ _ _ e2; omega⟩
      | none => exact .inl rfl
section
variable {X : Cx} {M : List Addr} {σ : L2.St} {H : Hp} {a b c e o : Expr} {d : PyData} {ds : List PyData} {pos apos p1 p2 p3 p4 : Pos} {D : Ends} {rest : List Stmt} {CK : Addr} {Q : VK}
/-- repr(a) != repr(b) of the same list or tuple -/
theorem xt_reprNeS {pa pb : Pos} (hA : X.A.guards = some []) (hu : X.A.units + 64 < cLine) (hm : X.mg "repr" = none) (hd : ∀ {K : PySem.W.Frag} {H : Hp} {v : V}, Dq K H v d → ∃ p, v = .ref p) (ha : XD X M σ H a d) (hb : XD X M σ H b d) (h : Shows d) (hg : Gl X "repr" := by rfl)
    (he : starEach [a] X.env = (false, eval a X.env) :: starEach [] X.env := by rfl) (hpl : (backTo pa (starEach [] X.env)).any (·.1) = false := by rfl) (he2 : starEach [b] X.env = (false, eval b X.env) :: starEach [] X.env := by rfl) (hpl2 : (backTo pb (starEach [] X.env)).any (·.1) = false := by rfl) :
    XT X σ H (.Compare (.Call (.Name "repr" p1) [a] [] pa) [.NotEq] [.Call (.Name "repr" p2) [b] [] pb] pos) false := by
  have key : ∀ {e : Expr} {pp qq : Pos}, XD X M σ H e d → starEach [e] X.env = (false, eval e X.env) :: starEach [] X.env → (backTo qq (starEach [] X.env)).any (·.1) = false → XD X M σ H (.Call (.Name "repr" pp) [e] [] qq) (.str d.shown) := fun {e pp qq} hx z1 z2 H1 s Q q =>
    re_B (call_reprD hA hu) (ra_1 (hx H1 s _ fun v H2 s2 hv => by
      obtain ⟨p, rfl⟩ := hd hv
      exact ⟨p, _, rfl, (hv.up hid_le).dp, h.h1, h.h2, h.h3, h.h4, q _ H2 s2 (.str _)⟩) z1) hm (by decide +kernel) hg (by decide) (by decide) z1 z2
  refine xt_cmp op_ne (key ha he hpl) (key hb he2 hpl2) fun H1 v w s hv hw Q q => ?_
  rw [dp_str hv, dp_str hw]
  exact ⟨rfl, by rw [decide_eq_true rfl]; exact q H1 (Same.refl _)⟩
theorem ref_l {ds : List PyData} : ∀ {K : PySem.W.Frag} {H : Hp} {v : V}, Dq K H v (.list ds) → ∃ p, v = .ref p := fun h => by
  obtain ⟨p, xs, e, _⟩ := dp_lst h
  exact ⟨p, e⟩
theorem ref_t {ds : List PyData} : ∀ {K : PySem.W.Frag} {H : Hp} {v : V}, Dq K H v (.tuple ds) → ∃ p, v = .ref p := fun h => by
  obtain ⟨p, xs, e, _⟩ := dp_tup h
  exact ⟨p, e⟩
/-- repr of a reason -/
theorem xt_reprNeW {pa pb : Pos} {k : Kd} {st : List Step} (hl : st.length ≤ 50) (hA : X.A.guards = some []) (hu : X.A.units + 64 < cLine) (hm : X.mg "repr" = none) (ha : XD X M σ H a (whyD k st)) (hb : XD X M σ H b (whyD k st)) (hg : Gl X "repr" := by rfl)
    (he : starEach [a] X.env = (false, eval a X.env) :: starEach [] X.env := by rfl) (hpl : (backTo pa (starEach [] X.env)).any (·.1) = false := by rfl) (he2 : starEach [b] X.env = (false, eval b X.env) :: starEach [] X.env := by rfl) (hpl2 : (backTo pb (starEach [] X.env)).any (·.1) = false := by rfl) :
    XT X σ H (.Compare (.Call (.Name "repr" p1) [a] [] pa) [.NotEq] [.Call (.Name "repr" p2) [b] [] pb] pos) false := by
  rcases why_word k st hl with e | ⟨x, n, e, hx, hn⟩
  · rw [e] at ha hb
    exact xt_reprNeP hm (.inl rfl) ha hb hg he hpl he2 hpl2
  · rw [e] at ha hb
    exact xt_reprNeS hA hu hm ref_t ha hb (shows_w hx hn) hg he hpl he2 hpl2
/-- a[::-1] -/
theorem xl_rev {j : _} (L : Live M H) (ha : XD X M σ H a (.list ds)) : XL X M σ H (.Subscript a (.Slice none none (some (.UnaryOp .USub (.Constant (.int 1) j p1) p2)) p3) pos) ds.reverse := fun H1 s Q q =>
  ⟨_, pe_revL re_, ha H1 s _ fun v H2 s2 hv => by
    obtain ⟨p, xs, rfl, hp, hx⟩ := dp_lst hv
    refine ⟨p, xs, rfl, SqL.of (hid_le _ _ hp), fun l hl => q l _ _ (s2.trans (same_new hl)) (s2.free hl) upd_same ?_⟩
    rw [hid_new (L.mono (s.trans s2)) hl]
    have rev : ∀ {vs : List V} {es : List PyData} {K : PySem.W.Frag} {Hx : Hp}, DqAll K Hx vs es → DqAll K Hx vs.reverse es.reverse := fun {vs es K Hx} h => by
      induction vs generalizing es with
      | nil => cases h; exact .nil
      | cons v vs ih =>
        cases h with
        | cons h1 h2 =>
          rw [List.reverse_cons, List.reverse_cons]
          exact dpa_app (ih h2) (.cons h1 .nil)
    exact (rev hx).up (same_new (hid_free hl))⟩
/-- a * n, a list of few -/
theorem xl_rep {n : Nat} (L : Live M H) (ha : XD X M σ H a (.list ds)) (hb : XD X M σ H b (.int (n : Int))) (hz : ds.length ≤ 10 ∧ n ≤ 10) : XL X M σ H (.BinOp a .Mult b pos) (List.replicate n ds).flatten := fun H1 s Q q =>
  ⟨_, pe_op op_rep re_ re_, ha H1 s _ fun v H2 s2 hv => hb H2 (s.trans s2) _ fun w H3 s3 hw => by
    obtain ⟨p, xs, rfl, hp, hx⟩ := dp_lst (hv.up (hid_mono s3))
    have b1 : (10 : Int) < 2 ^ 63 := by decide
    have hxl := dpa_len hx
    have b2 : 100 ≤ sizeLine := by decide
    refine ⟨p, n, xs, rfl, dp_int hw, hid_le _ _ hp, by omega, by omega, ?_, fun l hl => q l _ _ ((s2.trans s3).trans (same_new hl)) ((s2.trans s3).free hl) upd_same ?_⟩
    · rw [Int.toNat_natCast, hxl]
      exact Nat.le_trans (Nat.mul_le_mul hz.1 hz.2) b2
    · rw [hid_new (L.mono ((s.trans s2).trans s3)) hl, Int.toNat_natCast]
      have rep : ∀ m : Nat, DqAll X.K (hid M H3) (List.replicate m xs).flatten (List.replicate m ds).flatten := fun m => by
        induction m with
        | zero => exact .nil
        | succ m ih =>
          rw [List.replicate_succ, List.replicate_succ, List.flatten_cons, List.flatten_cons]
          exact dpa_app hx ih
      exact (rep n).up (same_new (hid_free hl))⟩
theorem xt_neB {k k' : Bool} (hk : k = k') (ha : XD X M σ H a (.bool k)) (hb : XD X M σ H b (.bool k')) : XT X σ H (.Compare a [.NotEq] [b] pos) false := by
  subst hk
  exact xt_cmp op_ne ha hb fun H1 v w s hv hw Q q => by
    rw [dp_bl hv, dp_bl hw]
    exact ⟨rfl, by rw [decide_eq_true rfl]; exact q H1 (Same.refl _)⟩
theorem xd_inD (hu : X.A.units + 65 < cLine) (ha : XD X M σ H a d) (hb : XD X M σ H b (.list ds)) (s1 : SeqAt.shaped d = true) (s2 : SeqAt.shaped (.list ds) = true) (hm : behindInMarks .In b = false := by rfl) : XD X M σ H (.Compare a [.In] [b] pos) (.bool (ds.any fun z => PyData.eqv z d)) :=
  xd_cmp (op_inD hu) ha hb (fun H1 v w s hv hw Q q => ⟨d, ds, (hv.up hid_le).dp, (hw.up hid_le).dp, s1, s2, q _ H1 (Same.refl _) (.bl _)⟩) hm
/-- for tg in e, whatever happens in e -/
theorem rb_forE {tg : Expr} {body : List Stmt} (h : RE X e σ H fun v H1 => ∃ ds, Dq X.K (hid M H1) v (.list ds) ∧ ∃ Pv : Nat → L2.St → Hp → Prop, Pv 0 σ H1 ∧ (∀ k σ' H', Pv k σ' H' → Same (hid M H1) (hid M H')) ∧
      (∀ k d, ds[k]? = some d → ∀ σ' H' v, Pv k σ' H' → Dq X.K (hid M H') v d → RG X tg v σ' H' fun σ2 H2 => RB X body { D with nx := Pv (k + 1), ct := Pv (k + 1), bk := RB X rest D } σ2 H2) ∧ ∀ σ' H', Pv ds.length σ' H' → RB X rest D σ' H')
    (hp : PassesOwn (model X.prog X.w) X.A X.env X.xe := by exact PassesOwn.never) (hc : X.calm = true := by rfl) (hs : ∀ x, foldedSetIterable e X.env x = pure x := by intro _; rfl) : RB X (.For tg e body [] pos :: rest) D σ H :=
  ⟨_, pss_cons (ps_for hp hc (pi_list re_) rg_ rb_ hs) rb_, re_mono h fun v H1 ⟨ds, hv, Pv, h0, hk, hst, hd⟩ => by
    obtain ⟨a, xs, rfl, ha, hx⟩ := dp_lst hv
    refine ⟨a, rfl, ⟨xs, SqL.of (hid_le _ _ ha)⟩, for_list (xs := xs) Pv h0 (fun i σ' H' _ p => SqL.of (hid_le _ _ (hk i σ' H' p _ _ ha))) (fun i x σ' H' hi p => ?_) (by rw [dpa_len hx]; exact hd)⟩
    obtain ⟨d, h1, h2⟩ := dpa_get' hx hi
    exact hst i d h1 σ' H' x p (h2.up (hk i σ' H' p))⟩
end
theorem room65 {k : Nat} {A : Around} (r : Room k A) : A.units + 65 < cLine := by have := r.un; omega
/-! the lists of jumps that are held against the kind's -/
def lD (l : List Int) : PyData := .list (l.map PyData.int)
def oth (js : List Int) : List (List Int) := [[1], [2], [-1, 1]] ++ (if 1 < js.length then [js.drop 1] else [])
theorem oth_ok {js l : List Int} (hjs : okJs js) (h : l ∈ oth js) : okJs l := by
  unfold oth at h
  rcases List.mem_append.mp h with h | h
  · simp only [List.mem_cons, List.not_mem_nil, or_false] at h
    rcases h with e | e | e <;> (rw [e]; exact ⟨by decide, by decide, by decide, by decide⟩)
  · split at h
    · rename_i hl
      rw [List.mem_singleton.mp h]
      have := hjs.2.2.2
      refine ⟨fun j hj => hjs.1 j (List.mem_of_mem_drop hj), (List.drop_sublist 1 js).nodup hjs.2.1, by rw [List.length_drop]; omega, by rw [List.length_drop]; omega⟩
    · simp at h
theorem fm_noneL : ∀ ls : List (List Int), (ls.map lD).filterMap (fun _ => (none : Option PyData)) = []
  | [] => rfl
  | l :: ls => by rw [List.map_cons, List.filterMap_cons]; exact fm_noneL ls
/-- odd values -/
def OddD (js : List Int) (d : PyData) : Prop := (∃ n : Int, d = .int n) ∨ d = .none ∨ d = .bool true ∨ d = .str "60" ∨ d = .list [.int 60]
theorem odd_shaped {js : List Int} {d : PyData} (h : OddD js d) : SeqAt.shaped d = true := by
  rcases h with ⟨n, e⟩ | e | e | e | e
  · rw [e]
    unfold SeqAt.shaped
    simp [PyData.canLay0, PyData.depth]
  all_goals (rw [e]; decide +kernel)
theorem odd_in {js : List Int} {d : PyData} (h : OddD js d) : (!isBl d && (js.map PyData.int).any fun z => PyData.eqv z d) = inK js d := by
  rcases h with ⟨n, e⟩ | e | e | e | e
  · rw [e]
    show (true && (js.map PyData.int).any fun z => PyData.eqv z (.int n)) = decide (n ∈ js)
    rw [Bool.true_and]
    induction js with
    | nil => simp
    | cons j js ih =>
      rw [List.map_cons, List.any_cons, ih]
      by_cases z : j = n
      · subst z; simp [PyData.eqv]
      · have z' : n ≠ j := fun y => z y.symm
        simp [PyData.eqv, z, z']
  all_goals
    rw [e]
    induction js with
    | nil => rfl
    | cons j js ih =>
      rw [List.map_cons, List.any_cons]
      simp only [isBl, inK, PyData.eqv, Bool.false_or, Bool.not_true, Bool.not_false, Bool.true_and, Bool.false_and] at ih ⊢ <;> first | rfl | exact ih
theorem fm_neg : ∀ js : List Int, (js.map PyData.int).filterMap (fun d => match d with | .int j => some (PyData.int (-j)) | _ => none) = (js.map (fun j => -j)).map PyData.int
  | [] => rfl
  | j :: js => by rw [List.map_cons, List.filterMap_cons, List.map_cons, List.map_cons, ← fm_neg js]
def prL (c : Step) : PyData := .list [.int c.1, .int c.2]
theorem items_prL : ∀ cs : List Step, Items (cs.map prL) cs := fun cs => ⟨by rw [List.length_map], fun i it h => by
  rw [List.getElem?_map] at h
  cases e : cs[i]? with
  | none => rw [e] at h; cases h
  | some c => rw [e] at h; cases h; exact ⟨c, rfl, .inr rfl⟩⟩
theorem fm_prL : ∀ st : List Step, (st.map stepD).filterMap (fun d => match d with | .tuple [x, y] => some (PyData.list [x, y]) | _ => none) = st.map prL
  | [] => rfl
  | s :: st => by rw [List.map_cons, List.filterMap_cons, List.map_cons, ← fm_prL st]; rfl
theorem sort_rev {js : List Int} (h : js.Nodup) : isort js.reverse = isort js :=
  asc_eq (asc_isort ((List.reverse_perm js).nodup_iff.mpr h)) (asc_isort h) fun k => by rw [mem_isort, mem_isort, List.mem_reverse]
end Zn

set_option Elab.async false
set_option linter.all false
set_option maxRecDepth 100000
set_option maxHeartbeats 16000000
namespace Zn
open PySem PySem.Spec PyProof.Rows L2 Dl
abbrev sLaw : Stmt := top 45
def spLaw (K : PySem.W.Frag) : Sp := fun vs H Q _ => ∃ (a : Addr) (ns : List Int), vs = [.ref a] ∧ SqL K H a (ns.map V.int) ∧ ∀ H1, Same H H1 → Q (.bl true) H1
/-- all that the law wants -/
structure Al (P : Program) (w : World) (K : PySem.W.Frag) (mg : Str → Option Value) (base : Heap) (CZ CK : Addr) : Prop where
  T : Nm mg
  srt : mg "sorted" = none
  Z : ZT K mg CZ
  Y : KT K mg CK
  cell : ∃ f fd, Df K mg "_law_cell" sCell ["_law_script", "_law_index"] f fd ∧ FnOk P w K mg base CX0 1 f fd ["_law_script", "_law_index"] (spCell K)
  bag : ∃ f fd, Df K mg "_law_bag" sBag ["_law_cell_here"] f fd ∧ FnOk P w K mg base CX0 1 f fd ["_law_cell_here"] spBag
  take : ∃ f fd, Df K mg "_law_take" sTake ["_law_bag_here", "_law_many"] f fd ∧ FnOk P w K mg base CX0 1 f fd ["_law_bag_here", "_law_many"] spTake
  kind : ∃ f fd, Df K mg "_law_kind" sLKind ["_law_bag_here"] f fd ∧ FnOk P w K mg base CX0 2 f fd ["_law_bag_here"] (spLKind K)
  steps : ∃ f fd, Df K mg "_law_steps" sLSteps ["_law_bag_here", "_law_kind_here", "_law_moment"] f fd ∧ FnOk P w K mg base CX0 2 f fd ["_law_bag_here", "_law_kind_here", "_law_moment"] (spLSteps K)
  isof : ∃ f fd, Df K mg "_law_is_of" sLIsOf ["_law_kind_here", "_law_plan"] f fd ∧ FnOk P w K mg base CX0 1 f fd ["_law_kind_here", "_law_plan"] (spR K RIsOf)
  made : ∃ f fd, Df K mg "_law_made" sLMade ["_law_plan"] f fd ∧ FnOk P w K mg base CX0 6 f fd ["_law_plan"] (spMade K CZ)
  equal : ∃ f fd, Df K mg "_law_equal" sLEqual ["_law_kind_here", "_law_jumps", "_law_plain"] f fd ∧ FnOk P w K mg base CX0 5 f fd ["_law_kind_here", "_law_jumps", "_law_plain"] (spLEqual K CK)
  reason : ∃ f fd, Df K mg "_law_reason" sLReason ["_law_kind_here", "_law_plan"] f fd ∧ FnOk P w K mg base CX0 1 f fd ["_law_kind_here", "_law_plan"] (spR K RReason)
  near : ∃ f fd, Df K mg "_law_near" sLNear ["_law_bag_here", "_law_kind_here", "_law_plan"] f fd ∧ FnOk P w K mg base CX0 2 f fd ["_law_bag_here", "_law_kind_here", "_law_plan"] (spLNear K)
  zw : ∃ f fd, Df K mg "zone_with" sZW ["offset", "steps"] f fd ∧ FnOk P w K mg base CX0 6 f fd ["offset", "steps"] (spZW K CZ)
  km : ∃ f fd, KMk P w K mg base CK f fd
  kq : ∃ f fd, KQ P w K mg base CK f fd
  zq : ∃ f fd, ZQ P w K mg base CZ f fd
  pj : ∃ pp f fd, PropOf K CK "jumps" pp f ∧ Binds K fd ["self"] [] ∧ FnOk P w K mg base CX0 1 f fd ["self"] (spKD K CK fun k => .tuple ((isort k.js).map PyData.int))
  pa : ∃ pp f fd, PropOf K CK "apart" pp f ∧ Binds K fd ["self"] [] ∧ FnOk P w K mg base CX0 1 f fd ["self"] (spKD K CK fun k => .int k.ap)
  pm : ∃ pp f fd, PropOf K CK "most" pp f ∧ Binds K fd ["self"] [] ∧ FnOk P w K mg base CX0 1 f fd ["self"] (spKD K CK fun k => .int k.mo)
  cont : ∃ f fd, Mt K CK "__contains__" "Kind.__contains__" sKCont ["self", "x"] f fd ∧ FnOk P w K mg base CX0 2 f fd ["self", "x"] (spKCont K CK)
  has : ∃ f fd, Mt K CK "has" "Kind.has" sHas ["self", "zone"] f fd ∧ FnOk P w K mg base CX0 4 f fd ["self", "zone"] (spWhy K CZ CK hasD)
  why : ∃ f fd, Mt K CK "why_not" "Kind.why_not" sWhy ["self", "zone"] f fd ∧ FnOk P w K mg base CX0 3 f fd ["self", "zone"] (spWhy K CZ CK whyD)
section
variable {X : Cx} {M : List Addr} {σ : L2.St} {H : Hp} {e : Expr} {pos p1 : Pos} {C f : Addr} {fd : FuncData} {off : Int}
/-- _law_made(e) -/
theorem xz_made8 {st : List Step} (L : Live M H) (F : FnOk X.prog X.w X.K X.mg X.base CX0 6 f fd ["_law_plan"] (spMade X.K C)) (hr : Room 6 X.A) (FF : Df X.K X.mg "_law_made" sLMade ["_law_plan"] f fd) (ha : XD X M σ H e (planD off st)) (hlen : st.length ≤ 1000) (hok : okS st)
    (hg : Gl X "_law_made" := by rfl) (he : starEach [e] X.env = (false, eval e X.env) :: starEach [] X.env := by rfl) (hpl : (backTo pos (starEach [] X.env)).any (·.1) = false := by rfl) : XZ C X M σ H (.Call (.Name "_law_made" p1) [e] [] pos) off (rowsP off st) := fun H1 s Q q =>
  re_call F hr FF.g FF.F.kp FF.b (ra_1 (ha H1 s _ fun v H2 s2 hv => ⟨M, v, off, st, rfl, L.mono (s.trans s2), hv, hlen, hok, fun y H3 s3 hz => q y H3 (s2.trans s3) hz⟩) he) hg (by decide) he hpl
end
def lawN : List Str := ["_law_script", "_law_index", "_law_bag_here", "_law_plain", "_law_kind_here", "_law_others", "_law_each", "_law_odd", "_law_jump", "_law_lap", "_law_great", "_law_plan", "_law_near_here", "_law_foreign", "_law_other", "_law_steps_here", "_law_step", "_law_zone"]
section
variable {P : Program} {w : World} {K : PySem.W.Frag} {mg : Str → Option Value} {base : Heap} {CZ CK : Addr}
theorem scLaw : FnScope ["_law_script", "_law_index", "_law_bag_here", "_law_plain", "_law_kind_here", "_law_others", "_law_each", "_law_odd", "_law_jump", "_law_lap", "_law_great", "_law_plan", "_law_near_here", "_law_foreign", "_law_other", "_law_steps_here", "_law_step", "_law_zone"] ["_law_script"] (defScope sLaw) := ⟨rfl, rfl, rfl, by decide +kernel, rfl, by decide +kernel, by decide +kernel⟩
theorem ok_law {f : Addr} {fd : FuncData} (A : Al P w K mg base CZ CK) (F : Fun K "law" "law" sLaw f fd) : FnG P w K mg base 8 f fd ["_law_script"] (spLaw K) := by
  obtain ⟨fc, fdc, FC, GC⟩ := A.cell
  obtain ⟨fb, fdb, FB, GB⟩ := A.bag
  obtain ⟨ft, fdt, FT, GT⟩ := A.take
  obtain ⟨fk, fdk, FK, GK⟩ := A.kind
  obtain ⟨fs, fds, FS, GS⟩ := A.steps
  obtain ⟨fi, fdi, FI, GI⟩ := A.isof
  obtain ⟨fm, fdm, FM, GM⟩ := A.made
  obtain ⟨fe, fde, FE, GE⟩ := A.equal
  obtain ⟨fr, fdr, FR, GR⟩ := A.reason
  obtain ⟨fn, fdn, FN, GN⟩ := A.near
  obtain ⟨fz, fdz, FZ, GZ⟩ := A.zw
  obtain ⟨f1, fd1, WK⟩ := A.km
  obtain ⟨f2, fd2, QK⟩ := A.kq
  obtain ⟨f3, fd3, QZ⟩ := A.zq
  obtain ⟨pp1, p1, pd1, P1, PB1, PG1⟩ := A.pj
  obtain ⟨pp2, p2, pd2, P2, PB2, PG2⟩ := A.pa
  obtain ⟨pp3, p3, pd3, P3, PB3, PG3⟩ := A.pm
  obtain ⟨f4, fd4, M4, G4⟩ := A.cont
  obtain ⟨f5, fd5, M5, G5⟩ := A.has
  obtain ⟨f6, fd6, M6, G6⟩ := A.why
  have T := A.T
  have Z := A.Z
  have Y := A.Y
  refine fn_g F scLaw (fun vs H Q E h => ?_) (fun cdv A0 outer s H vs Q E hA hr h => ?_)
  · obtain ⟨a, ns, rfl, _⟩ := h; rfl
  · obtain ⟨a, ns, rfl, hS, q⟩ := h
    have hr6 := hr.mono (show 6 ≤ 7 by decide)
    have hr5 := hr.mono (show 5 ≤ 7 by decide)
    have hr4 := hr.mono (show 4 ≤ 7 by decide)
    have hr3 := hr.mono (show 3 ≤ 7 by decide)
    have hr2 := hr.mono (show 2 ≤ 7 by decide)
    have hr1 := hr.mono (show 1 ≤ 7 by decide)
    refine rb_range T.rng (XD.go (M := []) (xd_max T.max (xa_cons xd_int (xa_cons (xd_min T.min (xa_cons xd_int (xa_cons (xv_lenS T.len (xv_name 0 rfl) hS).int xa_nil))) xa_nil))) fun v H0 s0 hv => ?_)
    have ev := dp_int hv
    subst ev
    generalize hnn : (if (if ((ns.map V.int).length : Int) < 8 then ((ns.map V.int).length : Int) else 8) > 2 then (if ((ns.map V.int).length : Int) < 8 then ((ns.map V.int).length : Int) else 8) else 2) = nn
    have hn2 : 0 ≤ nn ∧ nn ≤ 100 := by
      rw [← hnn]
      split <;> split <;> omega
    refine ⟨nn.toNat, by rw [Int.toNat_of_nonneg hn2.1], by omega, fun k σ' H' => Same H H' ∧ ∃ u1 u2 u3 u4 u5 u6 u7 u8 u9 u10 u11 u12 u13 u14 u15 u16 u17, σ' = [some (.ref a), u1, u2, u3, u4, u5, u6, u7, u8, u9, u10, u11, u12, u13, u14, u15, u16, u17], ⟨s0, none, none, none, none, none, none, none, none, none, none, none, none, none, none, none, none, none, rfl⟩, fun k σ' H' hk w => ?_, fun σ' H' w => ?_⟩
    · obtain ⟨sH0, u1, u2, u3, u4, u5, u6, u7, u8, u9, u10, u11, u12, u13, u14, u15, u16, u17, rfl⟩ := w
      refine rg_name 1 ?_ scLaw.nd
      -- the bag, the kind
      refine rb_setR 2 (re_call GB hr1 FB.g FB.F.kp FB.b (ra_1 (re_call GC hr1 FC.g FC.F.kp FC.b (ra_cons (XV.go (xv_name 0 rfl) fun Ha sa => ra_1 (XV.go (xv_name 1 rfl) fun Hb sb => ⟨a, ns, k, rfl, ((sH0.trans sa).trans sb).seq hS, fun nc Hc sc => ⟨nc, rfl, fun b H1 s1 hb hB => ?_⟩⟩)))))) scLaw.nd
      have s01 : Same H' H1 := ((sa.trans sb).trans sc).trans s1
      have hb0 : H' b = none := ((sa.trans sb).trans sc).free hb
      refine rb_setR 3 (re_call GK hr2 FK.g FK.F.kp FK.b (ra_1 (XV.go (xv_name 2 rfl) fun H2 s2 => ⟨[], b, 0, rfl, Live.nil, hB.up s2 (Nat.le_refl _), by decide, fun kd vk H3 hok hap26 sB3 hB3 hvk => ?_⟩))) scLaw.nd
      have hvk : Dq K (hid [b] H3) vk (kindD kd) := hvk
      have s03 : Same H' H3 := fun x o e => sB3 x o (ne_of_none e hb0) ((s01.trans s2) x o e)
      have hjs := hok.js
      have hj4 := hjs.2.2.2
      have L3 : Live [b] H3 := fun y hy => by rw [List.mem_singleton.mp hy]; exact hB3.some
      refine rb_setR 4 (XK.go (xk_make (k := kd) L3 WK hr4 hok (.inl rfl) (xd_ixT (fun _ _ => rfl) (xd_name 3 rfl hvk) xd_int (k0 (k := kd))) (xd_ixT (fun _ _ => rfl) (xd_name 3 rfl hvk) xd_int (k1 (k := kd))) (xd_ixT (fun _ _ => rfl) (xd_name 3 rfl hvk) xd_int (k2 (k := kd)))) fun y H4 s4 hk4 => ?_) scLaw.nd
      have hk4 : KAt K CK (hid [b] H4) y kd := hk4
      have hv4 : Dq K (hid [b] H4) vk (kindD kd) := hvk.up (hid_mono s4)
      have L4 := L3.mono s4
      have hB4 := hB3.up s4 (Nat.le_refl _)
      clear hB3
      have e33 : (10 : Nat) ^ 33 = 1000000000000000000000000000000000 := by decide
      have e26 : (10 : Int) ^ 26 = 100000000000000000000000000 := by decide
      have sj := ne_sort (okJs_ne hjs)
      have hm0 := hok.m0
      have hm1 := hok.m1
      have hap0 := hok.ap
      have mxs := mx_small hjs.1 (okJs_ne hjs)
      have hap1 : 0 ≤ kd.ap := by unfold floorK at hap0; omega
      -- the properties
      have shk : Shows (.list [.tuple ((isort kd.js).map PyData.int), .int kd.ap, .int kd.mo]) := shows_k (fun j hj => by
        have z := hjs.1 j ((mem_isort j kd.js).mp hj)
        unfold okJ at z
        omega) (by rw [len_isort]; omega) (by omega) (by omega)
      refine rb_ifF (xt_reprNeS (M := [b]) hA hr.units T.rep ref_l (xd_lst L4 (xa_cons (xd_kprop L4 Y.cl P1 PG1 hr2 PB1 (xv_name 4 rfl) hk4) (xa_cons (xd_kprop L4 Y.cl P2 PG2 hr2 PB2 (xv_name 4 rfl) hk4) (xa_cons (xd_kprop L4 Y.cl P3 PG3 hr2 PB3 (xv_name 4 rfl) hk4) xa_nil))))
        (xd_lst L4 (xa_cons (xd_tupleL T.tup L4 (XL.dd (xl_sortedI (isort kd.js) A.srt L4 (xd_ixT (fun _ _ => rfl) (xd_name 3 rfl hv4) xd_int (k0 (k := kd))) (by omega) hjs.2.1 (asc_isort hjs.2.1) (fun j => mem_isort j kd.js)) L4)) (xa_cons (xd_ixT (fun _ _ => rfl) (xd_name 3 rfl hv4) xd_int (k1 (k := kd))) (xa_cons (xd_ixT (fun _ _ => rfl) (xd_name 3 rfl hv4) xd_int (k2 (k := kd))) xa_nil)))) shk) fun H5 s5 => ?_
      have L5 := L4.mono s5
      have hk5 : KAt K CK (hid [b] H5) y kd := hk4.up (hid_mono s5)
      have hv5 : Dq K (hid [b] H5) vk (kindD kd) := hv4.up (hid_mono s5)
      -- alike, and with a greater least time
      have okr : okJs kd.js.reverse := ⟨fun j hj => hjs.1 j (List.mem_reverse.mp hj), (List.reverse_perm kd.js).nodup_iff.mpr hjs.2.1, by rw [List.length_reverse]; exact hjs.2.2.1, by rw [List.length_reverse]; exact hj4⟩
      have flr : floorK kd.js.reverse = floorK kd.js := by rw [← floor_sort (okJs_ne okr), sort_rev hjs.2.1, floor_sort (okJs_ne hjs)]
      refine rb_ifF ((xt_or2 (xt_neK (M := [b]) (k' := ⟨kd.js.reverse, kd.ap, kd.mo⟩) L5 QK hr2 (xk_v (xv_name 4 rfl) hk5) (xk_make L5 WK hr4 ⟨okr, by show floorK kd.js.reverse < kd.ap; rw [flr]; exact hap0, hm0, hm1⟩ (.inr rfl) (xd_tupleL T.tup L5 (XL.dd ((xl_rev L5 (xd_ixT (ds := [.list (kd.js.map PyData.int), .int kd.ap, .int kd.mo]) (fun _ _ => rfl) (xd_name 3 rfl hv5) xd_int (k0 (k := kd)))).to (by rw [List.map_reverse])) L5)) (xd_ixT (fun _ _ => rfl) (xd_name 3 rfl hv5) xd_int (k1 (k := kd))) (xd_ixT (fun _ _ => rfl) (xd_name 3 rfl hv5) xd_int (k2 (k := kd)))))
        fun _ => xt_eqK (M := [b]) (k' := ⟨kd.js, kd.ap + 1, kd.mo⟩) L5 QK hr1 (xk_v (xv_name 4 rfl) hk5) (xk_make L5 WK hr4 ⟨hjs, by show floorK kd.js < kd.ap + 1; omega, hm0, hm1⟩ (.inl rfl) (xd_ixT (fun _ _ => rfl) (xd_name 3 rfl hv5) xd_int (k0 (k := kd))) (xd_add (xd_ixT (fun _ _ => rfl) (xd_name 3 rfl hv5) xd_int (k1 (k := kd))) xd_int) (xd_ixT (fun _ _ => rfl) (xd_name 3 rfl hv5) xd_int (k2 (k := kd))))).to (by
          have e1 : sameK kd ⟨kd.js.reverse, kd.ap, kd.mo⟩ = true := by
            unfold sameK
            rw [sort_rev hjs.2.1]
            simp
          have e2 : sameK kd ⟨kd.js, kd.ap + 1, kd.mo⟩ = false := by
            unfold sameK
            rw [decide_eq_false (show ¬ kd.ap = kd.ap + 1 by omega), Bool.false_and, Bool.and_false]
          rw [e1, e2]
          rfl)) fun H6 s6 => ?_
      have L6 := L5.mono s6
      have hk6 : KAt K CK (hid [b] H6) y kd := hk5.up (hid_mono s6)
      have hv6 : Dq K (hid [b] H6) vk (kindD kd) := hv5.up (hid_mono s6)
      -- others
      have cnt : ∀ js : List Int, (([[1], [2], [-1, 1]].map lD) ++ (List.replicate (if 1 < js.length then 1 else 0) [lD (js.drop 1)]).flatten) = (oth js).map lD := fun js => by
        unfold oth
        rw [List.map_append]
        congr 1
        split <;> rfl
      refine rb_set 5 (M := [b]) (d := .list ((oth kd.js).map lD)) ((XL.dd (xl_cat L6 (xd_lst L6 (xa_cons (xd_lst L6 (xa_cons xd_int xa_nil)) (xa_cons (xd_lst L6 (xa_cons xd_int xa_nil)) (xa_cons (xd_lst L6 (xa_cons (xd_neg xd_int) (xa_cons xd_int xa_nil))) xa_nil))))
        (XL.dd (xl_rep (n := if 1 < kd.js.length then 1 else 0) L6 (xd_lst L6 (xa_cons ((XL.dd (xl_cut L6 (xd_ixT (fun _ _ => rfl) (xd_name 3 rfl hv6) xd_int (k0 (k := kd))) (xo_some (M := [b]) xd_int) xo_none) L6).to (show _ = lD (kd.js.drop 1) by rw [cut1, ← List.map_drop]; rfl)) xa_nil)) ((xd_intB T.int (xd_cmpI op_gt (xd_len T.len (xd_ixT (fun _ _ => rfl) (xd_name 3 rfl hv6) xd_int (k0 (k := kd)))) xd_int)).to (by
          rw [List.length_map]
          by_cases z : 1 < kd.js.length
          · rw [decide_eq_true (show (1 : Int) < (kd.js.length : Int) by omega), if_pos z]; rfl
          · rw [decide_eq_false (show ¬ (1 : Int) < (kd.js.length : Int) by omega), if_neg z]; rfl)) ⟨by simp, by split <;> simp⟩) L6) (by split <;> (simp))) L6).to (congrArg PyData.list (cnt kd.js))) (fun vo H7 s7 hvo => ?_) scLaw.nd
      have L7 := L6.mono s7
      have hk7 : KAt K CK (hid [b] H7) y kd := hk6.up (hid_mono s7)
      have hv7 : Dq K (hid [b] H7) vk (kindD kd) := hv6.up (hid_mono s7)
      have hvo : Dq K (hid [b] H7) vo (.list ((oth kd.js).map lD)) := hvo
      have oth4 : (oth kd.js).length ≤ 10 := by unfold oth; split <;> simp
      refine rb_ifF ((xt_neD (M := [b]) hr.units (XL.dd ((xl_comp (own := [("_law_each", 6)]) (fun _ => (none : Option PyData)) L7 scLaw.nd (xd_name 5 rfl hvo) (blkOk_by (own := [("_law_each", 6)]) (N := lawN) (sc := defScope sLaw) (by decide +kernel)) (by rw [List.length_map]; omega) (fun p d v Hx hd hp sx Lp hv => ?cmpO)).to (fm_noneL _)) L7) (xd_lst L7 xa_nil) shaped_nil shaped_nil).to (by rw [eqv_nil]; rfl)) fun H8 s8 => ?_
      case cmpO =>
        obtain ⟨l, hl, rfl⟩ := List.mem_map.mp hd
        have okl := oth_ok hjs hl
        have hv : Dq K (hid (p :: [b]) Hx) v (lD l) := hv
        have hkx : KAt K CK (hid (p :: [b]) Hx) y kd := hk7.up (hid_step hp sx)
        have hvx : Dq K (hid (p :: [b]) Hx) vk (kindD kd) := hv7.up (hid_step hp sx)
        intro s0 H0 C0 cl fp
        refine rg_name 6 ?_ scLaw.nd
        refine ⟨rfl, bt_one (k := false) (fun s0 H0 C0 cl fp => ?_) fun H9 s9 => ⟨s9, .inr ⟨rfl, rfl⟩⟩⟩
        refine (xt_and2 (k2 := decide (floorK l < kd.ap) && sameK kd ⟨l, kd.ap, kd.mo⟩) (xt_neD (M := p :: [b]) hr.units (XL.dd (xl_sortedI (isort l) A.srt Lp (xd_name 6 rfl hv) (by have := okl.2.2.2; omega) okl.2.1 (asc_isort okl.2.1) (fun j => mem_isort j l)) Lp) (XL.dd (xl_sortedI (isort kd.js) A.srt Lp (xd_ixT (fun _ _ => rfl) (xd_name 3 rfl hvx) xd_int (k0 (k := kd))) (by omega) hjs.2.1 (asc_isort hjs.2.1) (fun j => mem_isort j kd.js)) Lp) (shaped_ints _) (shaped_ints _)) fun _ => xt_val (M := p :: [b]) ?_).to ?_
        · exact fun H9 s9 Q9 q9 => re_call GE hr5 FE.g FE.F.kp FE.b (ra_cons (XV.go (xv_name 4 rfl) fun Ha sa => ra_cons (XV.go (xv_name 6 rfl) fun Hb sb => ra_1 (XV.go (xv_name 3 rfl) fun Hc sc =>
            ⟨p :: [b], y, kd, kd, v, vk, l, rfl, Lp.mono (((s9.trans sa).trans sb).trans sc), hkx.up (hid_mono (((s9.trans sa).trans sb).trans sc)), hv.up (hid_mono (((s9.trans sa).trans sb).trans sc)), hvx.up (hid_mono (((s9.trans sa).trans sb).trans sc)), okl, hok, fun Hd sd => q9 _ Hd (((sa.trans sb).trans sc).trans sd) (.bl _)⟩))))
        · have ee : PyData.eqv (.list ((isort l).map PyData.int)) (.list ((isort kd.js).map PyData.int)) = decide (isort l = isort kd.js) := by
            simp only [PyData.eqv]
            exact eqv_ints2 _ _
          rw [ee]
          by_cases z : isort l = isort kd.js
          · rw [decide_eq_true z]; rfl
          · have e2 : sameK kd ⟨l, kd.ap, kd.mo⟩ = false := by
              unfold sameK
              rw [decide_eq_false (fun y => z y.symm)]
              rfl
            rw [e2, Bool.and_false, Bool.and_false]
      have L8 := L7.mono s8
      have hk8 : KAt K CK (hid [b] H8) y kd := hk7.up (hid_mono s8)
      have hv8 : Dq K (hid [b] H8) vk (kindD kd) := hv7.up (hid_mono s8)
      -- another greatest number
      have hmm : 0 ≤ (kd.mo + 1) % 4 ∧ (kd.mo + 1) % 4 ≤ 3 := by omega
      refine rb_ifF ((xt_eqK (M := [b]) (k' := ⟨kd.js, kd.ap, (kd.mo + 1) % 4⟩) L8 QK hr1 (xk_v (xv_name 4 rfl) hk8) (xk_make L8 WK hr4 ⟨hjs, hap0, hmm.1, hmm.2⟩ (.inl rfl) (xd_ixT (fun _ _ => rfl) (xd_name 3 rfl hv8) xd_int (k0 (k := kd))) (xd_ixT (fun _ _ => rfl) (xd_name 3 rfl hv8) xd_int (k1 (k := kd))) (xd_mod (xd_add (xd_ixT (fun _ _ => rfl) (xd_name 3 rfl hv8) xd_int (k2 (k := kd))) xd_int) xd_int (by decide)))).to (by
        unfold sameK
        show (_ && (_ && decide (kd.mo = (kd.mo + 1) % 4))) = false
        rw [decide_eq_false (show ¬ kd.mo = (kd.mo + 1) % 4 by omega), Bool.and_false, Bool.and_false])) fun H9 s9 => ?_
      have L9 := L8.mono s9
      have hk9 : KAt K CK (hid [b] H9) y kd := hk8.up (hid_mono s9)
      have hv9 : Dq K (hid [b] H9) vk (kindD kd) := hv8.up (hid_mono s9)
      refine rb_ifF (xt_neB (M := [b]) (k := sameK ⟨kd.js, kd.ap, 2⟩ kd) (k' := decide (kd.mo = 2)) (by
        unfold sameK
        show (decide (isort kd.js = isort kd.js) && (decide (kd.ap = kd.ap) && decide ((2 : Int) = kd.mo))) = _
        rw [decide_eq_true rfl, decide_eq_true rfl, Bool.true_and, Bool.true_and]
        by_cases z : kd.mo = 2
        · rw [decide_eq_true z, decide_eq_true z.symm]
        · rw [decide_eq_false z, decide_eq_false fun x => z x.symm]) (xd_eqK L9 QK hr1 (xk_make2 (k := ⟨kd.js, kd.ap, 2⟩) L9 WK hr4 ⟨hjs, hap0, by show (0 : Int) ≤ 2; decide, by show (2 : Int) ≤ 3; decide⟩ rfl (.inl rfl) (xd_ixT (fun _ _ => rfl) (xd_name 3 rfl hv9) xd_int (k0 (k := kd))) (xd_ixT (fun _ _ => rfl) (xd_name 3 rfl hv9) xd_int (k1 (k := kd)))) (xk_v (xv_name 4 rfl) hk9)) (xd_eqI (xd_ixT (fun _ _ => rfl) (xd_name 3 rfl hv9) xd_int (k2 (k := kd))) xd_int)) fun H10 s10 => ?_
      have L10 := L9.mono s10
      have hk10 : KAt K CK (hid [b] H10) y kd := hk9.up (hid_mono s10)
      have hv10 : Dq K (hid [b] H10) vk (kindD kd) := hv9.up (hid_mono s10)
      have s410 := ((((s5.trans s6).trans s7).trans s8).trans s9).trans s10
      -- odd values
      have hodd : ∀ d ∈ (kd.js.map PyData.int ++ (kd.js.map fun j => -j).map PyData.int) ++ [PyData.none, .bool true, .str "60", .list [.int 60], .int 0, .int 61], OddD kd.js d := fun d hd => by
        rcases List.mem_append.mp hd with hd | hd
        · rcases List.mem_append.mp hd with hd | hd
          · obtain ⟨j, _, rfl⟩ := List.mem_map.mp hd
            exact .inl ⟨j, rfl⟩
          · obtain ⟨j, _, rfl⟩ := List.mem_map.mp hd
            exact .inl ⟨j, rfl⟩
        · simp only [List.mem_cons, List.not_mem_nil, or_false] at hd
          rcases hd with e | e | e | e | e | e
          · exact .inr (.inl e)
          · exact .inr (.inr (.inl e))
          · exact .inr (.inr (.inr (.inl e)))
          · exact .inr (.inr (.inr (.inr e)))
          · exact .inl ⟨0, e⟩
          · exact .inl ⟨61, e⟩
      refine rb_for (M := [b]) (ds := (kd.js.map PyData.int ++ (kd.js.map fun j => -j).map PyData.int) ++ [PyData.none, .bool true, .str "60", .list [.int 60], .int 0, .int 61]) (XL.dd (xl_cat L10 (XL.dd (xl_cat L10 (xd_ixT (fun _ _ => rfl) (xd_name 3 rfl hv10) xd_int (k0 (k := kd))) (XL.dd ((xl_comp (own := [("_law_jump", 8)]) (fun d => match d with | .int j => some (PyData.int (-j)) | _ => none) L10 scLaw.nd (xd_ixT (fun _ _ => rfl) (xd_name 3 rfl hv10) xd_int (k0 (k := kd))) (blkOk_by (own := [("_law_jump", 8)]) (N := lawN) (sc := defScope sLaw) (by decide +kernel)) (by rw [List.length_map]; omega) (fun p d v Hx hd hp sx Lp hv => ?cmpN)).to (fm_neg _)) L10) (by rw [List.length_map, List.length_map, List.length_map]; omega)) L10)
        (xd_lst L10 (xa_cons xd_non (xa_cons xd_bl (xa_cons xd_str (xa_cons (xd_lst L10 (xa_cons xd_int xa_nil)) (xa_cons xd_int (xa_cons xd_int xa_nil))))))) (by rw [List.length_append, List.length_map, List.length_map, List.length_map]; show _ + 6 ≤ _; omega)) L10) fun H11 s11 => ⟨fun i σ' Hx => Same H11 Hx ∧ ∃ w7, σ' = [some (.ref a), some (.int (k : Int)), some (.ref b), some vk, some (.ref y), some vo, u6, w7, u8, u9, u10, u11, u12, u13, u14, u15, u16, u17], ⟨Same.refl _, u7, rfl⟩, fun i σ' Hx w => hid_mono w.1, fun i d hi σ' Hx v w hv => ?_, fun σ' Hx w => ?_⟩
      case cmpN =>
        obtain ⟨j, _, rfl⟩ := List.mem_map.mp hd
        have ej := dp_int hv
        subst ej
        intro s0 H0 C0 cl fp
        refine rg_name 8 ?_ scLaw.nd
        refine ⟨rfl, bt_nil ⟨Same.refl _, .inl ⟨rfl, _, rfl, fun s0 H0 C0 cl fp => ?_⟩⟩⟩
        exact XD.go (xd_neg (xv_name 8 rfl).int) fun v H2 s2 hv2 => ⟨s2, hv2⟩
      · obtain ⟨z1, w7, rfl⟩ := w
        have od := hodd d (List.mem_of_getElem? hi)
        have sx := s11.trans z1
        have Lx := L10.mono sx
        have hkx : KAt K CK (hid [b] Hx) y kd := hk10.up (hid_mono sx)
        have hvx : Dq K (hid [b] Hx) vk (kindD kd) := hv10.up (hid_mono sx)
        have hv : Dq K (hid [b] Hx) v d := hv
        refine rg_name 7 ?_ scLaw.nd
        refine rb_ifF (xt_neB (M := [b]) (k := inK kd.js d) (k' := !isBl d && (kd.js.map PyData.int).any fun z => PyData.eqv z d) (odd_in od).symm (xd_inKd Lx M4.m.at_ M4.m.fn G4 hr2 M4.b (xd_name 7 rfl hv) (xk_v (xv_name 4 rfl) hkx)) (xd_and2 (xd_not (xd_is1 (k_bool d) T.isi T.bool (by decide +kernel) (xd_name 7 rfl hv))) fun _ => xd_inD (room65 hr) (xd_name 7 rfl hv) (xd_ixT (fun _ _ => rfl) (xd_name 3 rfl hvx) xd_int (k0 (k := kd))) (odd_shaped od) (shaped_ints _))) fun Hy sy => rb_nil ?_
        exact ⟨z1.trans sy, some v, rfl⟩
      · obtain ⟨z1, w7, rfl⟩ := w
        have sx := s11.trans z1
        have Lx := L10.mono sx
        have hkx : KAt K CK (hid [b] Hx) y kd := hk10.up (hid_mono sx)
        have hvx : Dq K (hid [b] Hx) vk (kindD kd) := hv10.up (hid_mono sx)
        have hBx : BagAt Hx b 30 := hB4.up (s410.trans sx) (Nat.le_refl _)
        have s0x : Same H' Hx := (s03.trans s4).trans (s410.trans sx)
        have nr0 : ∀ st : List Step, OfK kd st → nearC kd st 0 := fun st ho s hs => by
          have := mx_le (ho.js s hs)
          omega
        -- six laps
        refine rb_range T.rng (XV.go xv_int fun Hy sy => ⟨6, rfl, by decide, fun i σ' Hz => SameB b Hx Hz ∧ BagAt Hz b (30 + 200 * i) ∧ ∃ v9 v10 v11 v12 v13 v14 v15 v17, σ' = [some (.ref a), some (.int (k : Int)), some (.ref b), some vk, some (.ref y), some vo, u6, w7, u8, v9, v10, v11, v12, v13, v14, v15, u16, v17], ⟨.of sy, hBx.up sy (Nat.le_refl _), u9, u10, u11, u12, u13, u14, u15, u17, rfl⟩, fun i σ' Hz hi w => ?_, fun σ' Hz w => ?_⟩)
        · obtain ⟨sB, hBz, v9, v10, v11, v12, v13, v14, v15, v17, rfl⟩ := w
          have hi6 : i < 6 := hi
          have hkz : KAt K CK (hid [b] Hz) y kd := hkx.up (sB.hid (List.mem_singleton.mpr rfl))
          have hvz : Dq K (hid [b] Hz) vk (kindD kd) := hvx.up (sB.hid (List.mem_singleton.mpr rfl))
          refine rg_name 9 ?_ scLaw.nd
          -- great
          refine rb_setR 10 ?_ scLaw.nd
          refine re_menu (n := 3) (fun _ _ => rfl) (by decide) ?_
          refine ra_int xv_int fun H21 s21 => ?_
          refine ra_int (xd_pow (M := []) xd_int xd_int ⟨by decide, by decide, by decide⟩).vint fun H22 s22 => ?_
          refine ra_1 (re_int (xd_neg (M := []) (xd_pow xd_int xd_int ⟨by decide, by decide, by decide⟩)).vint fun H23 s23 => ⟨[0, 10 ^ 28, -(10 ^ 27)], rfl, rfl, fun l hl => ?_⟩)
          have hB23 := hBz.up ((s21.trans s22).trans s23) (Nat.le_refl _)
          refine re_take GT FT hr1 (xv_name 2 rfl) xv_int (bag_new hB23 hl) fun r H24 r0 r1 sB24 hB24 => ⟨r, rfl, r0, r1, sB24 _ _ (fun z => by subst z; exact hB23.some hl) upd_same, fun gr _ => ?_⟩
          have sBa : SameB b Hz H24 := (SameB.of ((s21.trans s22).trans s23)).trans ((sameB_new hl).trans sB24)
          -- the plan
          refine rb_setR 11 ⟨_, pe_tup ra_, ra_cons ?_⟩ scLaw.nd
          refine re_addI (re_subI (re_take GT FT hr1 (xv_name 2 rfl) xv_int hB24 fun r2 H25 r20 r21 sB25 hB25 => ⟨r2, rfl, re_int xv_int fun H26 s26 => ⟨400, rfl, r2 - 400, rfl, re_int (xv_name 10 rfl) fun H27 s27 => ⟨gr, rfl, ?_⟩⟩⟩))
          refine ra_1 (re_call GS hr2 FS.g FS.F.kp FS.b ?_)
          refine ra_cons (XV.go (xv_name 2 rfl) fun H28 s28 => ?_)
          refine ra_cons (XV.go (xv_name 3 rfl) fun H29 s29 => ?_)
          refine ra_1 (XV.go (xd_neg (M := []) (xv_name 10 rfl).int).vint fun H30 s30 => ?_)
          have s2530 := (((s26.trans s27).trans s28).trans s29).trans s30
          have sBb : SameB b Hz H30 := (sBa.trans sB25).trans (.of s2530)
          have hB30 := hB25.up s2530 (Nat.le_refl _)
          refine ⟨[], b, 30 + 200 * i + 2, kd, vk, -gr, rfl, Live.nil, hB30, by omega, hvz.up (sBb.hid (List.mem_singleton.mpr rfl)), hok, fun st vs1 H31 hof hle sB31 hB31 hst => ⟨by show 2 ≤ sizeLine; decide, fun t ht => ?_⟩⟩
          generalize r2 - 400 + gr = fo
          have sBc : SameB b Hz (upd H31 t (.tup [V.int fo, vs1])) := (sBb.trans sB31).trans (sameB_new ht)
          have hBc : BagAt (upd H31 t (.tup [V.int fo, vs1])) b (30 + 200 * i + 40) := (bag_new hB31 ht).up (Same.refl _) (by omega)
          have L31 : Live [b] H31 := fun q hq => by rw [List.mem_singleton.mp hq]; exact hB31.some
          have hpl : Dq K (hid [b] (upd H31 t (.tup [V.int fo, vs1]))) (.ref t) (planD fo st) := by
            rw [hid_new L31 ht]
            exact .tup (SqT.of upd_same) (DqAll.up (.cons (.int _) (.cons hst .nil)) (same_new (hid_free ht)))
          show RB _ _ _ _ (upd H31 t (.tup [V.int fo, vs1]))
          generalize upd H31 t (.tup [V.int fo, vs1]) = Ha at sBc hBc hpl
          have La : Live [b] Ha := fun q hq => by rw [List.mem_singleton.mp hq]; exact hBc.some
          have hka : KAt K CK (hid [b] Ha) y kd := hkz.up (sBc.hid (List.mem_singleton.mpr rfl))
          have hva : Dq K (hid [b] Ha) vk (kindD kd) := hvz.up (sBc.hid (List.mem_singleton.mpr rfl))
          have hl3 : st.length ≤ 3 := by omega
          have okst := ofK_ok hok hof
          -- it is of the kind
          refine rb_ifF ((xt_or2 (xt_not (xt_val (M := [b]) (xd_call La GI hr1 FI.g FI.F.kp FI.b (xa_cons (xd_name 3 rfl hva) (xa_cons (xd_name 11 rfl hpl) xa_nil)) ⟨kd, fo, st, rfl, hof, hle, by omega, rfl⟩))) fun _ => xt_not (xt_val (M := [b]) ((xd_why (st := st) (off := fo) (kd := kd) (g := hasD) La Y.cl M5.m (by decide +kernel) (by decide +kernel) (by decide +kernel) G5 hr4 M5.b (xk_v (xv_name 4 rfl) hka) (xz_with (st := st) La GZ hr6 FZ (xd_ixT (fun _ _ => rfl) (xd_name 11 rfl hpl) xd_int plan0) (xd_ixT (fun _ _ => rfl) (xd_name 11 rfl hpl) xd_int plan1) (.inl rfl) (items_ch st) (by omega) okst) (by omega)).to (show hasD kd st = .bool true by unfold hasD; rw [ofK_why hof hle]; rfl)))).to rfl) fun Hb2 sb2 => ?_
          have sBd : SameB b Hz Hb2 := sBc.trans (.of sb2)
          have hBd := hBc.up sb2 (Nat.le_refl _)
          have hvd := hva.up (hid_mono (M := [b]) sb2)
          have hpd := hpl.up (hid_mono (M := [b]) sb2)
          -- one thing otherwise
          refine rb_setR 12 (re_call GN hr2 FN.g FN.F.kp FN.b ?_) scLaw.nd
          refine ra_cons (XV.go (xv_name 2 rfl) fun H32 s32 => ?_)
          refine ra_cons (XV.go (xv_name 3 rfl) fun H33 s33 => ?_)
          refine ra_1 (XV.go (xv_name 11 rfl) fun H34 s34 => ?_)
          have s3234 := (s32.trans s33).trans s34
          refine ⟨[], b, 30 + 200 * i + 40, kd, vk, .ref t, fo, st, 0, rfl, Live.nil, hBd.up s3234 (Nat.le_refl _), by omega, hvd.up (hid_mono s3234), hpd.up (hid_mono s3234), hok, okst, by omega, nr0 st hof, by decide, by decide, fun f1 st1 vn H35 ok1 le1 nr1 sB35 hB35 hvn => ?_⟩
          have hvn : Dq K (hid [b] H35) vn (planD f1 st1) := hvn
          have sBd5 : SameB b Hb2 H35 := (SameB.of s3234).trans sB35
          have hv35 := hvd.up (sBd5.hid (M := [b]) (List.mem_singleton.mpr rfl))
          have hp35 := hpd.up (sBd5.hid (M := [b]) (List.mem_singleton.mpr rfl))
          -- of another kind
          refine rb_setR 13 ⟨_, pe_tup ra_, ra_cons ?_⟩ scLaw.nd
          refine re_int xv_int fun H36 s36 => ?_
          refine ra_1 (re_call GS hr2 FS.g FS.F.kp FS.b ?_)
          refine ra_cons (XV.go (xv_name 2 rfl) fun H37 s37 => ?_)
          refine ra_cons (re_call GK hr2 FK.g FK.F.kp FK.b ?_)
          refine ra_1 (XV.go (xv_name 2 rfl) fun H38 s38 => ?_)
          have s3638 := (s36.trans s37).trans s38
          refine ⟨[], b, 30 + 200 * i + 45, rfl, Live.nil, hB35.up s3638 (by omega), by omega, fun kd2 vk2 H39 hok2 _ sB39 hB39 hvk2 => ra_1 (XV.go xv_int fun H40 s40 => ?_)⟩
          have hvk2 : Dq K (hid [b] H39) vk2 (kindD kd2) := hvk2
          refine ⟨[], b, 30 + 200 * i + 75, kd2, vk2, 0, rfl, Live.nil, hB39.up s40 (by omega), by omega, hvk2.up (hid_mono s40), hok2, fun st3 vs3 H41 hof3 hle3 sB41 hB41 hst3 => ⟨by show 2 ≤ sizeLine; decide, fun t3 ht3 => ?_⟩⟩
          have sBe : SameB b H35 (upd H41 t3 (.tup [V.int 5, vs3])) := ((((SameB.of s3638).trans sB39).trans (.of s40)).trans sB41).trans (sameB_new ht3)
          have hBe : BagAt (upd H41 t3 (.tup [V.int 5, vs3])) b (30 + 200 * i + 110) := (bag_new hB41 ht3).up (Same.refl _) (by omega)
          have L41 : Live [b] H41 := fun q hq => by rw [List.mem_singleton.mp hq]; exact hB41.some
          have hp3 : Dq K (hid [b] (upd H41 t3 (.tup [V.int 5, vs3]))) (.ref t3) (planD 5 st3) := by
            rw [hid_new L41 ht3]
            exact .tup (SqT.of upd_same) (DqAll.up (.cons (.int _) (.cons hst3 .nil)) (same_new (hid_free ht3)))
          show RB _ _ _ _ (upd H41 t3 (.tup [V.int 5, vs3]))
          generalize upd H41 t3 (.tup [V.int 5, vs3]) = Hc2 at sBe hBe hp3
          have ge := sBe.hid (M := [b]) (List.mem_singleton.mpr rfl)
          have hvc := hv35.up ge
          have hpc := hp35.up ge
          have hnc := hvn.up ge
          have sBf : SameB b Hz Hc2 := (sBd.trans sBd5).trans sBe
          have hl33 : st3.length ≤ 3 := by have := hok2.m1; omega
          -- each of the four
          refine rb_forE (M := [b]) ⟨_, pe_lst ra_, ra_cons ?_⟩
          refine XV.go (xv_name 11 rfl) fun H51 s51 => ?_
          refine ra_cons (XV.go (xv_name 12 rfl) fun H52 s52 => ?_)
          refine ra_cons (re_call GN hr2 FN.g FN.F.kp FN.b ?_)
          refine ra_cons (XV.go (xv_name 2 rfl) fun H53 s53 => ?_)
          refine ra_cons (XV.go (xv_name 3 rfl) fun H54 s54 => ?_)
          refine ra_1 (XV.go (xv_name 12 rfl) fun H55 s55 => ?_)
          have s5155 := (((s51.trans s52).trans s53).trans s54).trans s55
          refine ⟨[], b, 30 + 200 * i + 110, kd, vk, vn, f1, st1, 0 + 1, rfl, Live.nil, hBe.up s5155 (Nat.le_refl _), by omega, hvc.up (hid_mono s5155), hnc.up (hid_mono s5155), hok, ok1, by omega, nr1, by decide, by decide, fun f2 st2 v2 H56 ok2 le2 nr2 sB56 hB56 hv2 => ra_1 (XV.go (xv_name 13 rfl) fun H57 s57 => ⟨by show 4 ≤ sizeLine; decide, fun l hl => ?_⟩)⟩
          have hv2 : Dq K (hid [b] H56) v2 (planD f2 st2) := hv2
          have sBg : SameB b Hc2 H57 := ((SameB.of s5155).trans sB56).trans (.of s57)
          have hB57 := hB56.up s57 (Nat.le_refl _)
          have L57 : Live [b] H57 := fun q hq => by rw [List.mem_singleton.mp hq]; exact hB57.some
          have gg := sBg.hid (M := [b]) (List.mem_singleton.mpr rfl)
          have gl : Same (hid [b] H57) (hid [b] (upd H57 l (.lst [V.ref t, vn, v2, V.ref t3]))) := hid_mono (same_new hl)
          have hitems : Dq K (hid [b] (upd H57 l (.lst [V.ref t, vn, v2, V.ref t3]))) (.ref l) (.list [planD fo st, planD f1 st1, planD f2 st2, planD 5 st3]) := by
            refine .lst (xs := [V.ref t, vn, v2, V.ref t3]) (by rw [hid_of (L57.fresh hl)]; exact upd_same) (DqAll.up (.cons (hpc.up gg) (.cons (hnc.up gg) (.cons (hv2.up (hid_mono s57)) (.cons (hp3.up gg) .nil)))) gl)
          have sBh : SameB b Hz (upd H57 l (.lst [V.ref t, vn, v2, V.ref t3])) := (sBf.trans sBg).trans (sameB_new hl)
          have hBh : BagAt (upd H57 l (.lst [V.ref t, vn, v2, V.ref t3])) b (30 + 200 * i + 150) := (bag_new hB57 hl).up (Same.refl _) (by omega)
          refine ⟨_, hitems, ?_⟩
          clear hitems gl
          generalize upd H57 l (.lst [V.ref t, vn, v2, V.ref t3]) = Hd at sBh hBh
          have hkd : KAt K CK (hid [b] Hd) y kd := hkz.up (sBh.hid (List.mem_singleton.mpr rfl))
          have hvd2 : Dq K (hid [b] Hd) vk (kindD kd) := hvz.up (sBh.hid (List.mem_singleton.mpr rfl))
          have Ld : Live [b] Hd := fun q hq => by rw [List.mem_singleton.mp hq]; exact hBh.some
          have good : ∀ (j : Nat) (d : PyData), [planD fo st, planD f1 st1, planD f2 st2, planD 5 st3][j]? = some d → ∃ f9 st9, d = planD f9 st9 ∧ okS st9 ∧ st9.length ≤ 10 := fun j d hd => by
            have hm : d ∈ [planD fo st, planD f1 st1, planD f2 st2, planD 5 st3] := List.mem_of_getElem? hd
            simp only [List.mem_cons, List.not_mem_nil, or_false] at hm
            rcases hm with e | e | e | e
            · exact ⟨_, _, e, okst, by omega⟩
            · exact ⟨_, _, e, ok1, by omega⟩
            · exact ⟨_, _, e, ok2, by omega⟩
            · exact ⟨_, _, e, ofK_ok hok2 hof3, by omega⟩
          refine ⟨fun j σ' He => Same Hd He ∧ ∃ x14 x15 x17, σ' = [some (.ref a), some (.int (k : Int)), some (.ref b), some vk, some (.ref y), some vo, u6, w7, u8, some (.int (i : Int)), some (.int gr), some (.ref t), some vn, some (.ref t3), x14, x15, u16, x17], ⟨Same.refl _, v14, v15, v17, rfl⟩, fun j σ' He w => hid_mono w.1, fun j d hd σ' He v w hv => ?_, fun σ' He w => ?_⟩
          · obtain ⟨y1, x14, x15, x17, rfl⟩ := w
            obtain ⟨f9, st9, rfl, ok9, le9⟩ := good j d hd
            have hv : Dq K (hid [b] He) v (planD f9 st9) := hv
            have Le := Ld.mono y1
            refine rg_name 14 ?_ scLaw.nd
            refine rb_setC0 15 (M := [b]) (own := [("_law_step", 16)]) (fun d => match d with | .tuple [x, y] => some (PyData.list [x, y]) | _ => none) Le scLaw.nd (xd_ixT (fun _ _ => rfl) (xd_name 14 rfl hv) xd_int plan1) (blkOk_by (own := [("_law_step", 16)]) (N := lawN) (sc := defScope sLaw) (by decide +kernel)) (by rw [List.length_map]; omega) (fun p d v Hq hd hp sq Lp hv => ?cmpS) (fun p xs Hf sf hpf hf hxf => ?_)
            case cmpS =>
              obtain ⟨sx1, _, rfl⟩ := mem_step hd
              intro s0 H0 C0 cl fp
              refine rg_name 16 ?_ scLaw.nd
              refine ⟨rfl, bt_nil ⟨Same.refl _, .inl ⟨rfl, prL sx1, rfl, fun s0 H0 C0 cl fp => ?_⟩⟩⟩
              refine XL.go (xl_listT T.lst Lp (xd_name 16 rfl hv)) fun qa ys Hr sr hq h2 hy => ?_
              exact ⟨sr, .lst (by rw [hid_of (Lp.fresh hq)]; exact h2) hy⟩
            have hxf : DqAll K (hid [b] Hf) xs (st9.map prL) := (congrArg (fun z => DqAll K (hid [b] Hf) xs z) (fm_prL st9)).mp hxf
            have Lf := Le.mono sf
            have hvf : Dq K (hid [b] Hf) v (planD f9 st9) := hv.up (hid_mono sf)
            have ksl : Dq K (hid [b] Hf) (.ref p) (.list (st9.map prL)) := .lst (by rw [hid_of (Le.fresh hpf)]; exact hf) hxf
            refine rb_setR 17 (XZ.go (xz_with (st := st9) (off := f9) Lf GZ hr6 FZ (xd_ixT (fun _ _ => rfl) (xd_name 14 rfl hvf) xd_int plan0) (xd_name 15 rfl ksl) (.inl rfl) (items_prL st9) (by omega) ok9) fun zz Hg sg hzz => ?_) scLaw.nd
            have hzz : ZAt K CZ (hid [b] Hg) zz f9 (rowsP f9 st9) := hzz
            have Lg := Lf.mono sg
            have s1g := (y1.trans sf).trans sg
            have hkg : KAt K CK (hid [b] Hg) y kd := hkd.up (hid_mono s1g)
            have hvg : Dq K (hid [b] Hg) vk (kindD kd) := hvd2.up (hid_mono s1g)
            have hpg : Dq K (hid [b] Hg) v (planD f9 st9) := hvf.up (hid_mono sg)
            refine rb_ifF ((xt_or2 (xt_neZ (M := [b]) Lg QZ hr2 (xz_v (xv_name 17 rfl) hzz) (xz_made8 Lg GM hr6 FM (xd_name 14 rfl hpg) (by omega) ok9)) fun _ => xt_reprNeW (M := [b]) (k := kd) (st := st9) (by omega) hA hr.units T.rep (xd_why (st := st9) (off := f9) (kd := kd) (g := whyD) Lg Y.cl M6.m (by decide +kernel) (by decide +kernel) (by decide +kernel) G6 hr3 M6.b (xk_v (xv_name 4 rfl) hkg) (xz_v (xv_name 17 rfl) hzz) (by omega))
              (xd_call Lg GR hr1 FR.g FR.F.kp FR.b (xa_cons (xd_name 3 rfl hvg) (xa_cons (xd_name 14 rfl hpg) xa_nil)) ⟨kd, f9, st9, rfl, by omega, rfl⟩)).to (by rw [decide_eq_true ⟨rfl, rfl⟩]; rfl)) fun Hh sh => ?_
            have Lh := Lg.mono sh
            have hkh : KAt K CK (hid [b] Hh) y kd := hkg.up (hid_mono sh)
            have hvh : Dq K (hid [b] Hh) vk (kindD kd) := hvg.up (hid_mono sh)
            have hph : Dq K (hid [b] Hh) v (planD f9 st9) := hpg.up (hid_mono sh)
            have hzh : ZAt K CZ (hid [b] Hh) zz f9 (rowsP f9 st9) := hzz.up (hid_mono sh)
            refine rb_ifF (xt_neB (M := [b]) (k := isN (whyD kd st9)) (k' := isN (whyD kd st9)) rfl (xd_why (st := st9) (off := f9) (kd := kd) (g := hasD) Lh Y.cl M5.m (by decide +kernel) (by decide +kernel) (by decide +kernel) G5 hr4 M5.b (xk_v (xv_name 4 rfl) hkh) (xz_v (xv_name 17 rfl) hzh) (by omega)) (xd_isNone (xd_call Lh GR hr1 FR.g FR.F.kp FR.b (xa_cons (xd_name 3 rfl hvh) (xa_cons (xd_name 14 rfl hph) xa_nil)) ⟨kd, f9, st9, rfl, by omega, rfl⟩))) fun Hi si => rb_nil ?_
            exact ⟨(s1g.trans sh).trans si, _, _, _, rfl⟩
          · obtain ⟨y1, x14, x15, x17, rfl⟩ := w
            exact rb_nil ⟨sB.trans (sBh.trans (.of y1)), hBh.up y1 (by omega), _, _, _, _, _, _, _, _, rfl⟩
        · obtain ⟨sB, hBz, v9, v10, v11, v12, v13, v14, v15, v17, rfl⟩ := w
          have s0z : Same H' Hz := fun q o e => sB q o (ne_of_none e hb0) (s0x q o e)
          exact rb_nil ⟨sH0.trans s0z, _, _, _, _, _, _, _, _, _, _, _, _, _, _, _, _, _, rfl⟩
    · obtain ⟨sH0, u1, u2, u3, u4, u5, u6, u7, u8, u9, u10, u11, u12, u13, u14, u15, u16, u17, rfl⟩ := w
      exact rb_ret (M := []) xd_bl fun v H1 s1 hv => by
        rw [dp_bl hv]
        exact q H1 (sH0.trans s1)
end
end Zn

set_option Elab.async false
set_option linter.all false
set_option maxRecDepth 100000
set_option maxHeartbeats 8000000
namespace Zn
open PySem PySem.Spec PyProof.Rows L2 Dl
/-! ### the law called behind the top -/
section
variable {P : Program} {w : World} {K : PySem.W.Frag} {mg mb : Str → Option Value} {fa a : Addr} {fd : FuncData} {t : Shared} {us : List Value} {ns : List Int}
/-- from a heap H that tells of the script at most -/
theorem head_from {H : Hp} (KX : K.In t.heap) (hg : t.heap.Ns mainGlobals mg) (hb : t.heap.Ns builtinsNs mb) (hbb : ∀ x : Str, x ≠ "__name__" → mb x = bootBuiltins x) (hlim : t.heap.NoLimit) (gens : t.gens = #[])
    (hobj : t.heap.get? a = some { cls := .type "list", data := .seq us.toArray })
    (F : ∀ base : Heap, K.In base → base.Ns mainGlobals mg → FnG P w K mg base 8 fa fd ["_law_script"] (spLaw K)) (hbd : ∀ (s : Shared) (u : Value), BindsTo s fd ⟨[u], []⟩ [("_law_script", u)])
    (only : Only H) (hS : SqL K H a (ns.map V.int)) (hok : HOk P w H t.heap) (at1 : ∀ b, H b ≠ none → b = a) (nk : H a ≠ none → K.lookup a = none) :
    codeAny (model P w) callerA (.call (.ref fa) ⟨[.ref a], []⟩) (fun r s => r = .ok (.ret (.bool true)) ∧ OldK t.heap s.heap ∧ s.os = t.os ∧ AllBare s.gens) t := by
  have kept : ∀ {b : Addr} {o : Obj}, t.heap.get? b = some o → H b = none → (hidT t.heap H).get? b = some o := fun p q => hidT_get p q
  have free : ∀ {b : Addr} {o : Obj}, t.heap.get? b = some o → (b = a → False) → H b = none := fun {b o} _ nb => Classical.byContradiction fun z => nb (at1 b z)
  have spaces : ∀ {b : Addr} {m : Str → Option Value}, t.heap.Ns b m → (hidT t.heap H).Ns b m := fun {b m} z => by
    obtain ⟨o, es, ep, p, q, r⟩ := z
    refine ⟨o, es, ep, kept p (free p fun e => ?_), q, r⟩
    rw [e, hobj] at p
    injection p with p
    rw [← p] at q
    injection q
  have kin : K.In (hidT t.heap H) := fun b o e => kept (KX b o e) (Classical.byContradiction fun z => by
    have eb := at1 b z
    rw [eb] at z e
    rw [nk z] at e
    cases e)
  obtain ⟨mc, hl1, hl2⟩ := hlim
  have md : Mod K mg (hidT t.heap H) := ⟨kin, spaces hg, ⟨mb, spaces hb, hbb⟩, mc, spaces hl1, hl2⟩
  have env : Env0 P w K mg (hidT t.heap H) callerA [] t H := { frames := rfl, mod := md, bs := fun b o e => of_hidT e, bsz := Nat.le_of_eq (hidT_size _ _), funs := trivial, frf := fun b z => absurd z List.not_mem_nil, hok := hok, bare := .of_eq gens }
  have run := (F _ kin (spaces hg)).run callerA rfl ⟨rfl, by decide, by decide⟩ [] t H ⟨[.ref a], []⟩ [.ref a] [.ref a] (fun v _ => v = .bl true) (fun _ _ _ => False) env (hbd t (.ref a)) (.cons rfl .nil) ⟨a, ns, rfl, hS, fun _ _ => rfl⟩
  refine codeAny_mono run fun r s z => ?_
  match r, z with
  | .error e, z => exact z.elim
  | .ok .next, z => exact z.elim
  | .ok .brk, z => exact z.elim
  | .ok .cont, z => exact z.elim
  | .ok (.ret u), z =>
    obtain ⟨v, H2, os, bare, un, hok2, rv, ev⟩ := z
    have ev' : v = .bl true := ev
    rw [ev'] at rv
    have eu : u = Value.bool true := rv
    rw [eu]
    refine ⟨rfl, OldK.of_keep fun b o e => ?_, os, bare⟩
    rcases only b with n | ⟨ob, xs, fz⟩
    · exact un.keep b o e n (fun q => absurd (show b ∈ ([] : List Addr) from q) List.not_mem_nil) (by simp)
    · have p1 := (hok b _ fz).1
      have p2 := (hok2 b _ (un.frzs b ob _ fz)).1
      rw [e] at p1
      injection p1 with p1
      rw [p1]
      exact p2
/-- the law, called with a script -/
theorem head_g (KX : K.In t.heap) (hg : t.heap.Ns mainGlobals mg) (hb : t.heap.Ns builtinsNs mb) (hbb : ∀ x : Str, x ≠ "__name__" → mb x = bootBuiltins x) (hlim : t.heap.NoLimit) (gens : t.gens = #[])
    (hobj : t.heap.get? a = some { cls := .type "list", data := .seq us.toArray }) (hi : IntsAre us ns) (hl : ns.length ≤ sizeLine)
    (F : ∀ base : Heap, K.In base → base.Ns mainGlobals mg → FnG P w K mg base 8 fa fd ["_law_script"] (spLaw K)) (hbd : ∀ (s : Shared) (u : Value), BindsTo s fd ⟨[u], []⟩ [("_law_script", u)]) :
    codeAny (model P w) callerA (.call (.ref fa) ⟨[.ref a], []⟩) (fun r s => r = .ok (.ret (.bool true)) ∧ OldK t.heap s.heap ∧ s.os = t.os ∧ AllBare s.gens) t := by
  have vi := vals_ints hi
  have el := hi.length
  rcases lk : K.lookup a with _ | o
  · have e1 : ∀ b, b ≠ a → (if b = a then some (HO.frz { cls := .type "list", data := .seq us.toArray } (.lst (ns.map V.int))) else none) = none := fun b n => if_neg n
    refine head_from (H := fun b => if b = a then some (.frz { cls := .type "list", data := .seq us.toArray } (.lst (ns.map V.int))) else none) (ns := ns) KX hg hb hbb hlim gens hobj F hbd (fun b => ?_) (.inl (.inr ⟨_, if_pos rfl⟩)) (fun b u z => ?_) (fun b z => Classical.byContradiction fun n => z (e1 b n)) fun _ => lk
    · exact (Classical.em (b = a)).elim (fun z => .inr ⟨_, _, if_pos z⟩) fun z => .inl (e1 b z)
    · rcases Classical.em (b = a) with e | e
      · rw [e] at z ⊢
        have z' := (if_pos rfl).symm.trans z
        injection z' with z'
        rw [← z']
        exact ⟨hobj, by rw [List.length_map]; exact hl, us, _, vi, hobj⟩
      · exact absurd ((e1 b e).symm.trans z) (fun q => nomatch q)
  · have e := KX a o lk
    rw [hobj] at e
    injection e with e
    rw [← e] at lk
    exact head_from (H := fun _ => none) (ns := ns) KX hg hb hbb hlim gens hobj F hbd (fun _ => .inl rfl) (.inr ⟨_, us.toArray, _, lk, rfl, rfl, rfl, by rw [List.size_toArray, el]; exact hl, by simpa using vi⟩) (fun _ _ z => nomatch z) (fun _ z => absurd rfl z) (fun z => absurd rfl z)
end
theorem walk_g {l : PySem.W.OpenLaw} {q : Program} {loose : List Str} {XP : (Str → Option Value) → Heap → Prop} {YP : World → Heap → Prop} {d : DefRec} {K : Params → PySem.W.Frag} (hn : l.most = some 63) (hdf : d.params.defaults = [])
    (hY : ∀ (w : World) (h : Heap), YP w h → (K w.params).In h)
    (F : ∀ (w : World) (mg : Str → Option Value) (fa : Addr) (h : Heap), (K w.params).In h → h.Ns mainGlobals mg → mg d.name = some (.ref fa) →
      ∃ fd : FuncData, (∀ (s : Shared) (u : Value), BindsTo s fd ⟨[u], []⟩ [("_law_script", u)]) ∧ ∀ base : Heap, (K w.params).In base → base.Ns mainGlobals mg → FnG l.prog w (K w.params) mg base 8 fa fd ["_law_script"] (spLaw (K w.params))) :
    PySem.W.WalkO q loose XP YP l.row.toRowW d [] (fun f vs => PySem.call f vs) :=
  Att.attach_call hn hdf fun w _ s1 mg _ fa _ _ _ _ a us ns G Y _ _ _ hm hobj hi hl hg => by
    have KX := hY w _ Y
    obtain ⟨fd, hb, hF⟩ := F w mg fa _ KX G.T.g hm
    exact head_g KX G.T.g G.T.b G.T.builtins G.T.nolimit hg hobj hi (Nat.le_trans hl (by decide)) hF hb
end Zn

set_option Elab.async false
set_option linter.all false
set_option maxRecDepth 100000
set_option maxHeartbeats 8000000
namespace Zn
open PySem PySem.Spec PyProof.Rows L2 Dl
/-! ### what the start has written, put together -/
def DfE (K : PySem.W.Frag) (mg : Str → Option Value) (x : Str) (st : Stmt) (ps : List Str) : Prop := ∃ f fd, Df K mg x st ps f fd
theorem df_mk {K : PySem.W.Frag} {h : Heap} {mg : Str → Option Value} {x : Str} {st : Stmt} {ps : List Str} {f : Addr} {od an : Option Addr} {osl : Array (Option Value)} {oc kV dc pm cd ct : Value} (X : K.In h) (G : h.Ns mainGlobals mg)
    (a : PySem.W.nsIn K mainGlobals x = some (some (.ref f))) (l : K.lookup f = some ⟨oc, od, .func (PySem.W.fnOf x x (defArgs st) (defBody st) (defScope st) .none kV dc pm an cd ct), osl⟩) (c : PySem.W.codeIn K cd x = true) (k : PySem.W.keepIn K (.ref f) = true)
    (hb : ∀ (us : List Value), us.length = ps.length → bindArgs (PySem.W.fnOf x x (defArgs st) (defBody st) (defScope st) .none kV dc pm an cd ct) ⟨us, []⟩ = pure (ps.zip us)) : DfE K mg x st ps :=
  ⟨f, _, fun_mk l c k, PySem.W.mg_of X G a, .all hb⟩
def MtE (K : PySem.W.Frag) (C : Addr) (x q : Str) (st : Stmt) (ps : List Str) : Prop := ∃ f fd, Mt K C x q st ps f fd
theorem mt_mk {K : PySem.W.Frag} {C : Addr} {x q : Str} {st : Stmt} {ps : List Str} {f : Addr} {od an : Option Addr} {osl : Array (Option Value)} {oc kV dc pm cd ct : Value}
    (a : PySem.W.findIn K (.ref C) x = some (some (.ref f))) (i : PySem.W.isFn K (.ref f) = true) (l : K.lookup f = some ⟨oc, od, .func (PySem.W.fnOf x q (defArgs st) (defBody st) (defScope st) .none kV dc pm an cd ct), osl⟩) (c : PySem.W.codeIn K cd q = true) (k : PySem.W.keepIn K (.ref f) = true)
    (hb : ∀ (us : List Value), us.length = ps.length → bindArgs (PySem.W.fnOf x q (defArgs st) (defBody st) (defScope st) .none kV dc pm an cd ct) ⟨us, []⟩ = pure (ps.zip us)) : MtE K C x q st ps :=
  ⟨f, _, fun_mk l c k, .all hb, a, i, k⟩
/-- a class's own == -/
structure EqF (K : PySem.W.Frag) (C : Addr) (q : Str) (st : Stmt) : Prop where
  m : MtE K C "__eq__" q st ["self", "other"]
  cls : ∃ nm qn N bs hdct sn sub ab col dd k0 k1 k2 k3 k5 newId f, K.lookup C = some (excClassObj nm qn C N bs [.type "object"] hdct sn sub ab col dd k0 k1 k2 k3 k5 newId) ∧ PySem.W.nsOkIn K N = true ∧ PySem.W.nsIn K N "__eq__" = some (some (.ref f)) ∧ PySem.W.nsIn K N "__ne__" = some none ∧
    PySem.W.findIn K (.ref C) "__eq__" = some (some (.ref f)) ∧ ∃ o, K.lookup f = some o ∧ o.cls = .type "function"
theorem nsOk_mk {K : PySem.W.Frag} {N : Addr} {o : Obj} (l : K.lookup N = some o) (h : PySem.W.nsOkIn [(N, o)] N = true) : PySem.W.nsOkIn K N = true := by
  have e : List.lookup N [(N, o)] = some o := by simp [List.lookup]
  unfold PySem.W.nsOkIn at h ⊢
  rw [e] at h
  rw [l]
  exact h
theorem eq_mk {K : PySem.W.Frag} {C N f : Addr} {q : Str} {st : Stmt} {nm qn : Str} {bs : List Value} {hdct : Bool} {sn : List Str} {sub : List Value} {ab : Bool} {col : Option Bool} {dd : Option Addr} {k0 k1 k2 k3 k5 : Option Value} {newId : String} {o : Obj} (m : MtE K C "__eq__" q st ["self", "other"])
    (l : K.lookup C = some (excClassObj nm qn C N bs [.type "object"] hdct sn sub ab col dd k0 k1 k2 k3 k5 newId)) (n : PySem.W.nsOkIn K N = true) (e : PySem.W.nsIn K N "__eq__" = some (some (.ref f))) (z : PySem.W.nsIn K N "__ne__" = some none)
    (a : PySem.W.findIn K (.ref C) "__eq__" = some (some (.ref f))) (lo : K.lookup f = some o) (t : o.cls = .type "function") : EqF K C q st :=
  ⟨m, nm, qn, N, bs, hdct, sn, sub, ab, col, dd, k0, k1, k2, k3, k5, newId, f, l, n, e, z, a, o, lo, t⟩
theorem clsEq {K : PySem.W.Frag} {C : Addr} {q : Str} {st : Stmt} (h : EqF K C q st) : ∃ f fd, Mt K C "__eq__" q st ["self", "other"] f fd ∧ ClsEq K C f := by
  obtain ⟨⟨c7, cd7, C7⟩, nm, qn, N, bs, hdct, sn, sub, ab, col, dd, k0, k1, k2, k3, k5, newId, fq, e1, e2, e3, e4, e5, e6⟩ := h
  have efq : fq = c7 := by
    have z := e5.symm.trans C7.m.at_
    injection z with z
    injection z with z
    injection z
  subst efq
  exact ⟨_, _, C7, ⟨⟨nm, qn, N, bs, hdct, sn, sub, ab, col, dd, k0, k1, k2, k3, k5, newId, e1, e2, e3, e4⟩, C7.m.at_, C7.m.fn, e6⟩⟩
/-- a property -/
def PrE (K : PySem.W.Frag) (C : Addr) (x q : Str) (st : Stmt) : Prop := ∃ pp f fd, PropOf K C x pp f ∧ Fun K x q st f fd ∧ Binds K fd ["self"] []
theorem prE_mk {K : PySem.W.Frag} {C pp f : Addr} {x q : Str} {st : Stmt} {od an : Option Addr} {osl : Array (Option Value)} {oc kV dc pm cd ct : Value} {rest : List Value} (a : PySem.W.findIn K (.ref C) x = some (some (.ref pp))) (b : PySem.W.specialIn K (.ref pp) "__get__" = some (some (.builtin "property.__get__"))) (t : PySem.W.takesIn K (.ref pp) = some true)
    (r : PySem.W.recIn K pp "property" = some (.ref f :: rest)) (l : K.lookup f = some ⟨oc, od, .func (PySem.W.fnOf x q (defArgs st) (defBody st) (defScope st) .none kV dc pm an cd ct), osl⟩) (c : PySem.W.codeIn K cd q = true) (k : PySem.W.keepIn K (.ref f) = true)
    (hb : ∀ (us : List Value), us.length = 1 → bindArgs (PySem.W.fnOf x q (defArgs st) (defBody st) (defScope st) .none kV dc pm an cd ct) ⟨us, []⟩ = pure ([("self" : Str)].zip us)) : PrE K C x q st :=
  ⟨pp, f, _, ⟨a, b, t, rest, r⟩, fun_mk l c k, .all hb⟩
structure ZC (K : PySem.W.Frag) (C : Addr) : Prop where
  aC : PySem.W.nsIn K mainGlobals "Zone" = some (some (.ref C))
  pg : PySem.W.plainGet K C Str.empty = true
  hd : PySem.W.hasDictIn K C = true
  po : PySem.W.plainOver K C = true
  sa : PySem.W.findIn K (.ref C) "__setattr__" = some (some (.builtin "object.__setattr__"))
  ha : PySem.W.findIn K (.ref C) "__class__" = some (some (.builtin "object.__class__"))
  hm : PySem.W.mroIn K C (.type "object") = some true
  bq : (Value.ref C == Value.ref C) = true
  mks : PySem.W.makesIn K C = true
  kc : PySem.W.keepIn K (.ref C) = true
  no : PySem.W.kitOne K (.type "list") (.ref C) = some false
  nB : PySem.W.findIn K (.ref C) "base" = some none
  nR : PySem.W.findIn K (.ref C) "rows" = some none
  mC : MtE K C "changes" "Zone.changes" sChanges ["self"]
  mJ : MtE K C "jump_list" "Zone.jump_list" sJumps ["self"]
  mL : MtE K C "__len__" "Zone.__len__" sLen ["self"]
  eq : EqF K C "Zone.__eq__" sEq
structure KC (K : PySem.W.Frag) (C : Addr) : Prop where
  aC : PySem.W.nsIn K mainGlobals "Kind" = some (some (.ref C))
  pg : PySem.W.plainGet K C Str.empty = true
  hd : PySem.W.hasDictIn K C = true
  po : PySem.W.plainOver K C = true
  sa : PySem.W.findIn K (.ref C) "__setattr__" = some (some (.builtin "object.__setattr__"))
  ha : PySem.W.findIn K (.ref C) "__class__" = some (some (.builtin "object.__class__"))
  hm : PySem.W.mroIn K C (.type "object") = some true
  bq : (Value.ref C == Value.ref C) = true
  mks : PySem.W.makesIn K C = true
  kc : PySem.W.keepIn K (.ref C) = true
  nS : PySem.W.findIn K (.ref C) "sizes" = some none
  nD : PySem.W.findIn K (.ref C) "distance" = some none
  nM : PySem.W.findIn K (.ref C) "many" = some none
  mK : MtE K C "__contains__" "Kind.__contains__" sKCont ["self", "x"]
  mH : MtE K C "has" "Kind.has" sHas ["self", "zone"]
  mW : MtE K C "why_not" "Kind.why_not" sWhy ["self", "zone"]
  pj : PrE K C "jumps" "Kind.jumps" sKJumps
  pa : PrE K C "apart" "Kind.apart" sKApart
  pm : PrE K C "most" "Kind.most" sKMost
  eq : EqF K C "Kind.__eq__" sKEq
/-- what all classes share -/
structure ObF (K : PySem.W.Frag) : Prop where
  hn : PySem.W.specialIn K (.builtin "object.__class__") "__get__" = some (some (.builtin "getset_descriptor.__get__"))
  htk : PySem.W.takesIn K (.builtin "object.__class__") = some true
/-- the class's maker -/
structure InF (K : PySem.W.Frag) (C : Addr) : Prop where
  ex : ∃ (f dt et : Addr) (od an : Option Addr) (osl : Array (Option Value)) (oc kV dc pm cd ct : Value) (o oe : Obj) (n ne : Nat), PySem.W.findIn K (.ref C) "__init__" = some (some (.ref f)) ∧ PySem.W.isFn K (.ref f) = true ∧
    K.lookup f = some ⟨oc, od, .func (PySem.W.fnOf "__init__" "Zone.__init__" (defArgs sInit) (defBody sInit) (defScope sInit) (.ref dt) kV dc pm an cd ct), osl⟩ ∧ PySem.W.codeIn K cd "Zone.__init__" = true ∧
    K.lookup dt = some o ∧ o.data = .seq #[.ref et] n ∧ K.lookup et = some oe ∧ oe.cls = .type "tuple" ∧ oe.data = .seq #[] ne
theorem in_mk {K : PySem.W.Frag} {C f dt et : Addr} {od an : Option Addr} {osl : Array (Option Value)} {oc kV dc pm cd ct : Value} {o oe : Obj} {n ne : Nat} (a : PySem.W.findIn K (.ref C) "__init__" = some (some (.ref f))) (i : PySem.W.isFn K (.ref f) = true)
    (l : K.lookup f = some ⟨oc, od, .func (PySem.W.fnOf "__init__" "Zone.__init__" (defArgs sInit) (defBody sInit) (defScope sInit) (.ref dt) kV dc pm an cd ct), osl⟩) (c : PySem.W.codeIn K cd "Zone.__init__" = true)
    (d : K.lookup dt = some o) (dd : o.data = .seq #[.ref et] n) (e : K.lookup et = some oe) (ec : oe.cls = .type "tuple") (ed : oe.data = .seq #[] ne) : InF K C :=
  ⟨⟨f, dt, et, od, an, osl, oc, kV, dc, pm, cd, ct, o, oe, n, ne, a, i, l, c, d, dd, e, ec, ed⟩⟩
/-- the maker of kinds -/
structure KnF (K : PySem.W.Frag) (C : Addr) : Prop where
  ex : ∃ (f dt : Addr) (t : Tok) (od an : Option Addr) (osl : Array (Option Value)) (oc kV dc pm cd ct : Value) (o : Obj) (n : Nat), PySem.W.findIn K (.ref C) "__init__" = some (some (.ref f)) ∧ PySem.W.isFn K (.ref f) = true ∧
    K.lookup f = some ⟨oc, od, .func (PySem.W.fnOf "__init__" "Kind.__init__" (defArgs sKInit) (defBody sKInit) (defScope sKInit) (.ref dt) kV dc pm an cd ct), osl⟩ ∧ PySem.W.codeIn K cd "Kind.__init__" = true ∧ K.lookup dt = some o ∧ o.data = .seq #[.int 2 t] n
theorem kn_mk {K : PySem.W.Frag} {C f dt : Addr} {t : Tok} {od an : Option Addr} {osl : Array (Option Value)} {oc kV dc pm cd ct : Value} {o : Obj} {n : Nat} (a : PySem.W.findIn K (.ref C) "__init__" = some (some (.ref f))) (i : PySem.W.isFn K (.ref f) = true)
    (l : K.lookup f = some ⟨oc, od, .func (PySem.W.fnOf "__init__" "Kind.__init__" (defArgs sKInit) (defBody sKInit) (defScope sKInit) (.ref dt) kV dc pm an cd ct), osl⟩) (c : PySem.W.codeIn K cd "Kind.__init__" = true) (d : K.lookup dt = some o) (dd : o.data = .seq #[.int 2 t] n) : KnF K C :=
  ⟨⟨f, dt, t, od, an, osl, oc, kV, dc, pm, cd, ct, o, n, a, i, l, c, d, dd⟩⟩
theorem binds_kinit {K : PySem.W.Frag} {dt : Addr} {t : Tok} {an : Option Addr} {kV dc pm cd ct : Value} {o : Obj} {n : Nat} (ld : K.lookup dt = some o) (dd : o.data = .seq #[.int 2 t] n) :
    Binds K (PySem.W.fnOf "__init__" "Kind.__init__" (defArgs sKInit) (defBody sKInit) (defScope sKInit) (.ref dt) kV dc pm an cd ct) ["self", "jumps", "apart", "most"] [] ∧ Binds K (PySem.W.fnOf "__init__" "Kind.__init__" (defArgs sKInit) (defBody sKInit) (defScope sKInit) (.ref dt) kV dc pm an cd ct) ["self", "jumps", "apart", "most"] [.int 2 t] :=
  ⟨fun s us X hl => by
    rw [List.append_nil] at hl ⊢
    match us, hl with
    | [_, _, _, _], _ => exact PySem.W.binds_K X rfl ld dd rfl rfl, fun s us X hl => by
    rw [List.length_append] at hl
    have h2 : us.length = 3 := by simpa using hl
    match us, h2 with
    | [_, _, _], _ => exact PySem.W.binds_K X rfl ld dd rfl rfl⟩
def GlI (K : PySem.W.Frag) (x : Str) (n : Int) : Prop := ∃ t, PySem.W.nsIn K mainGlobals x = some (some (.int n t))
theorem gi_mk {K : PySem.W.Frag} {x : Str} {n : Int} {t : Tok} (h : PySem.W.nsIn K mainGlobals x = some (some (.int n t))) : GlI K x n := ⟨t, h⟩
structure Gls (K : PySem.W.Frag) : Prop where
  g1 : GlI K "GREATEST_JUMP" 720
  g2 : GlI K "MOST_JUMPS" 4
  g3 : GlI K "MOST_CHANGES" 3
theorem kit_self {K : PySem.W.Frag} {C : Addr} (h : (Value.ref C == Value.ref C) = true) : PySem.W.kitOne K (.ref C) (.ref C) = some true := by
  unfold PySem.W.kitOne
  exact if_pos h
theorem kit_list {K : PySem.W.Frag} {C : Addr} {co} (h : (Value.type "list" == Value.ref C) = false) (c : PySem.W.clsIn K C = some co) (t : PySem.W.typeIn K (.ref C) = some (.type "type")) (s : PySem.W.subIn K (.type "list") (.ref C) = some false) : PySem.W.kitOne K (.type "list") (.ref C) = some false := by
  unfold PySem.W.kitOne
  rw [if_neg (by rw [h]; decide)]
  unfold PySem.W.kitCls
  show (if ((PySem.W.clsIn K C).isSome && PySem.W.typeIn K (.ref C) == some (.type "type")) = true then PySem.W.subIn K (.type "list") (.ref C) else none) = some false
  rw [c, t, if_pos (by rfl), s]
theorem binds_init {K : PySem.W.Frag} {dt et : Addr} {an : Option Addr} {kV dc pm cd ct : Value} {o : Obj} {n : Nat} (ld : K.lookup dt = some o) (dd : o.data = .seq #[.ref et] n) :
    Binds K (PySem.W.fnOf "__init__" "Zone.__init__" (defArgs sInit) (defBody sInit) (defScope sInit) (.ref dt) kV dc pm an cd ct) ["self", "offset", "changes"] [] ∧ Binds K (PySem.W.fnOf "__init__" "Zone.__init__" (defArgs sInit) (defBody sInit) (defScope sInit) (.ref dt) kV dc pm an cd ct) ["self", "offset", "changes"] [.ref et] :=
  ⟨fun s us X hl => by
    rw [List.append_nil] at hl ⊢
    match us, hl with
    | [_, _, _], _ => exact PySem.W.binds_K X rfl ld dd rfl rfl, fun s us X hl => by
    rw [List.length_append] at hl
    have h2 : us.length = 2 := by simpa using hl
    match us, h2 with
    | [_, _], _ => exact PySem.W.binds_K X rfl ld dd rfl rfl⟩
structure NoB (K : PySem.W.Frag) : Prop where
  isi : PySem.W.nsIn K mainGlobals "isinstance" = some none
  int : PySem.W.nsIn K mainGlobals "int" = some none
  bool : PySem.W.nsIn K mainGlobals "bool" = some none
  lst : PySem.W.nsIn K mainGlobals "list" = some none
  tup : PySem.W.nsIn K mainGlobals "tuple" = some none
  len : PySem.W.nsIn K mainGlobals "len" = some none
  abs : PySem.W.nsIn K mainGlobals "abs" = some none
  min : PySem.W.nsIn K mainGlobals "min" = some none
  max : PySem.W.nsIn K mainGlobals "max" = some none
  rep : PySem.W.nsIn K mainGlobals "repr" = some none
  rng : PySem.W.nsIn K mainGlobals "range" = some none
  srt : PySem.W.nsIn K mainGlobals "sorted" = some none
  enu : PySem.W.nsIn K mainGlobals "enumerate" = some none
  zip : PySem.W.nsIn K mainGlobals "zip" = some none
structure DfA (K : PySem.W.Frag) (mg : Str → Option Value) : Prop where
  d0 : DfE K mg "is_whole" sWhole ["value"]
  d1 : DfE K mg "is_whole_pair" sPair ["value"]
  d2 : DfE K mg "need_integer" sNeed ["value"]
  d3 : DfE K mg "rows_of" sRows ["offset", "changes"]
  d4 : DfE K mg "can_follow" sFollow ["rows", "row"]
  d5 : DfE K mg "is_jump" sIsJump ["value"]
  d6 : DfE K mg "jump_of" sJump ["row"]
  d7 : DfE K mg "is_integer" sIsInt ["value", "low", "high"]
  d8 : DfE K mg "need_zone" sNeedZ ["value"]
  d9 : DfE K mg "checked_jumps" sChk ["jumps"]
  d10 : DfE K mg "zone_with" sZW ["offset", "steps"]
  d11 : DfE K mg "_law_cell" sCell ["_law_script", "_law_index"]
  d12 : DfE K mg "_law_bag" sBag ["_law_cell_here"]
  d13 : DfE K mg "_law_take" sTake ["_law_bag_here", "_law_many"]
  d14 : DfE K mg "_law_kind" sLKind ["_law_bag_here"]
  d15 : DfE K mg "_law_steps" sLSteps ["_law_bag_here", "_law_kind_here", "_law_moment"]
  d16 : DfE K mg "_law_is_of" sLIsOf ["_law_kind_here", "_law_plan"]
  d17 : DfE K mg "_law_changes" sLChanges ["_law_plan"]
  d18 : DfE K mg "_law_made" sLMade ["_law_plan"]
  d19 : DfE K mg "_law_equal" sLEqual ["_law_kind_here", "_law_jumps", "_law_plain"]
  d20 : DfE K mg "_law_reason" sLReason ["_law_kind_here", "_law_plan"]
  d21 : DfE K mg "_law_near" sLNear ["_law_bag_here", "_law_kind_here", "_law_plan"]
  d22 : DfE K mg "law" sLaw ["_law_script"]
theorem al_of {P : Program} {w : World} {K : PySem.W.Frag} {h : Heap} {mg : Str → Option Value} {base : Heap} {CZ CK : Addr} (X : K.In h) (G : h.Ns mainGlobals mg) (hGl : Gls K) (B : NoB K) (D : DfA K mg) (O : ObF K) (Q : ZC K CZ) (R : KC K CK) (J : InF K CZ) (N : KnF K CK) : Al P w K mg base CZ CK := by
  have T : Nm mg := ⟨PySem.W.mg_none_of X G B.isi, PySem.W.mg_none_of X G B.int, PySem.W.mg_none_of X G B.bool, PySem.W.mg_none_of X G B.lst, PySem.W.mg_none_of X G B.tup, PySem.W.mg_none_of X G B.len, PySem.W.mg_none_of X G B.abs, PySem.W.mg_none_of X G B.min, PySem.W.mg_none_of X G B.max, PySem.W.mg_none_of X G B.rep, PySem.W.mg_none_of X G B.rng⟩
  have hsrt := PySem.W.mg_none_of X G B.srt
  have henu := PySem.W.mg_none_of X G B.enu
  have hzip := PySem.W.mg_none_of X G B.zip
  have Z : ZT K mg CZ := ⟨⟨Q.pg, Q.hd, Q.po, Q.sa⟩, Q.nB, Q.nR, PySem.W.mg_of X G Q.aC⟩
  have Y : KT K mg CK := ⟨⟨R.pg, R.hd, R.po, R.sa⟩, R.nS, R.nD, R.nM, PySem.W.mg_of X G R.aC⟩
  have IZ : ZI K CZ := ⟨Q.ha, O.hn, O.htk, Q.hm, kit_self Q.bq, Q.no⟩
  have IK : KI K CK := ⟨R.ha, O.hn, O.htk, R.hm, kit_self R.bq⟩
  obtain ⟨⟨tg, hg⟩, ⟨tg2, hg2⟩, ⟨tg3, hg3⟩⟩ := hGl
  have hG : ∃ t, mg "GREATEST_JUMP" = some (.int 720 t) := ⟨tg, PySem.W.mg_of X G hg⟩
  have hG2 : ∃ t, mg "MOST_JUMPS" = some (.int 4 t) := ⟨tg2, PySem.W.mg_of X G hg2⟩
  have hG3 : ∃ t, mg "MOST_CHANGES" = some (.int 3 t) := ⟨tg3, PySem.W.mg_of X G hg3⟩
  obtain ⟨f0, fd0, F0⟩ := D.d0
  obtain ⟨f1, fd1, F1⟩ := D.d1
  obtain ⟨f2, fd2, F2⟩ := D.d2
  obtain ⟨f3, fd3, F3⟩ := D.d3
  obtain ⟨f4, fd4, F4⟩ := D.d4
  obtain ⟨f5, fd5, F5⟩ := D.d5
  obtain ⟨f6, fd6, F6⟩ := D.d6
  obtain ⟨f7, fd7, F7⟩ := D.d7
  obtain ⟨f8, fd8, F8⟩ := D.d8
  obtain ⟨f9, fd9, F9⟩ := D.d9
  obtain ⟨f10, fd10, F10⟩ := D.d10
  obtain ⟨f11, fd11, F11⟩ := D.d11
  obtain ⟨f12, fd12, F12⟩ := D.d12
  obtain ⟨f13, fd13, F13⟩ := D.d13
  obtain ⟨f14, fd14, F14⟩ := D.d14
  obtain ⟨f15, fd15, F15⟩ := D.d15
  obtain ⟨f16, fd16, F16⟩ := D.d16
  obtain ⟨f17, fd17, F17⟩ := D.d17
  obtain ⟨f18, fd18, F18⟩ := D.d18
  obtain ⟨f19, fd19, F19⟩ := D.d19
  obtain ⟨f20, fd20, F20⟩ := D.d20
  obtain ⟨f21, fd21, F21⟩ := D.d21
  obtain ⟨c1, cd1, C1⟩ := Q.mC
  obtain ⟨c2, cd2, C2⟩ := Q.mJ
  obtain ⟨c3, cd3, C3⟩ := Q.mL
  obtain ⟨e1, ed1, E1⟩ := R.mK
  obtain ⟨e2, ed2, E2⟩ := R.mH
  obtain ⟨e3, ed3, E3⟩ := R.mW
  obtain ⟨pp1, p1, pd1, hp1, P1, PB1⟩ := R.pj
  obtain ⟨pp2, p2, pd2, hp2, P2, PB2⟩ := R.pa
  obtain ⟨pp3, p3, pd3, hp3, P3, PB3⟩ := R.pm
  obtain ⟨qz, qzd, MQ, EQ⟩ := clsEq Q.eq
  obtain ⟨qk, qkd, MQK, EQK⟩ := clsEq R.eq
  obtain ⟨fi, dt, et, od, an, osl, oc, kV, dc, pm, cd, ct, oo, oe, n, ne, i1, i2, i3, i4, i5, i6, i7, i8, i9⟩ := J
  obtain ⟨fk, dk, tk, odk, ank, oslk, ock, kVk, dck, pmk, cdk, ctk, ok, nk, j1, j2, j3, j4, j5, j6⟩ := N
  have W : ZMk P w K mg base CZ fi (PySem.W.fnOf "__init__" "Zone.__init__" (defArgs sInit) (defBody sInit) (defScope sInit) (.ref dt) kV dc pm an cd ct) et :=
    ⟨Z, ⟨Q.mks, i1, i2, Q.kc⟩, ok_init (fd := fd0) T Z hG F0 F1 F6 F5 F4 F3 F2 i3 i4, (binds_init i5 i6).1, (binds_init i5 i6).2, .inr ⟨oe, #[], ne, i7, i8, i9, by decide, .nil⟩⟩
  have WK : KMk P w K mg base CK fk (PySem.W.fnOf "__init__" "Kind.__init__" (defArgs sKInit) (defBody sKInit) (defScope sKInit) (.ref dk) kVk dck pmk ank cdk ctk) :=
    ⟨Y, ⟨R.mks, j1, j2, R.kc⟩, ok_kinit (fd := fd0) T hsrt Y hG hG2 hG3 F0 F7 F5 F9 j3 j4, (binds_kinit j5 j6).1, ⟨tk, (binds_kinit j5 j6).2⟩⟩
  have QK : KQ P w K mg base CK qk qkd := ⟨EQK, ok_keq T Y IK MQK.F, MQK.b⟩
  have GN : FnOk P w K mg base CX0 2 f8 fd8 ["value"] (spNeedZ K CZ) := (ok_needZ T Z IZ F8).mono (by decide)
  have GC : FnOk P w K mg base CX0 2 c1 cd1 ["self"] (spML K CZ fun _ rs => rs.map chD) := (ok_changes Z C1.F).mono (by decide)
  have GJ : FnOk P w K mg base CX0 2 c2 cd2 ["self"] (spML K CZ fun _ rs => rs.map fun r => .int (jmp r)) := ok_jumps Z F6 C2.F
  have GL : FnOk P w K mg base CX0 1 c3 cd3 ["self"] (spMD K CZ fun _ rs => .int rs.length) := ok_len T Z C3.F
  have GW : FnOk P w K mg base CX0 3 e3 ed3 ["self", "zone"] (spWhy K CZ CK whyD) := ok_why T henu Z Y GN F8 GC C1 GJ C2 GL C3 E3.F
  exact
  { T := T
    srt := hsrt
    Z := Z
    Y := Y
    cell := ⟨_, _, F11, ok_cell T F11⟩
    bag := ⟨_, _, F12, ok_bag T F12⟩
    take := ⟨_, _, F13, ok_take F13⟩
    kind := ⟨_, _, F14, ok_lkind T F13 F14⟩
    steps := ⟨_, _, F15, ok_lsteps T F13 F15⟩
    isof := ⟨_, _, F16, ok_lisof T hzip F16⟩
    made := ⟨_, _, F18, ok_lmade W F17 F18⟩
    equal := ⟨_, _, F19, ok_lequal T WK QK F19⟩
    reason := ⟨_, _, F20, ok_lreason T henu F20⟩
    near := ⟨_, _, F21, ok_lnear T F13 F21⟩
    zw := ⟨_, _, F10, ok_zw T hG W F0 F2 F1 F6 F5 F4 F10⟩
    km := ⟨_, _, WK⟩
    kq := ⟨_, _, QK⟩
    zq := ⟨_, _, EQ, ok_eq T Z IZ MQ.F, MQ.b⟩
    pj := ⟨pp1, p1, pd1, hp1, PB1, ok_kjumps Y P1⟩
    pa := ⟨pp2, p2, pd2, hp2, PB2, ok_kapart Y P2⟩
    pm := ⟨pp3, p3, pd3, hp3, PB3, ok_kmost Y P3⟩
    cont := ⟨_, _, E1, ok_kcont T Y F0 E1.F⟩
    has := ⟨_, _, E2, ok_has Y GW E3 E2.F⟩
    why := ⟨_, _, E3, GW⟩ }
theorem all_g {l : PySem.W.OpenLaw} {w : World} {K : PySem.W.Frag} {h : Heap} {mg : Str → Option Value} {fa CZ CK : Addr} (X : K.In h) (G : h.Ns mainGlobals mg) (hfa : mg "law" = some (.ref fa)) (hGl : Gls K) (B : NoB K) (D : DfA K mg) (O : ObF K) (Q : ZC K CZ) (R : KC K CK) (J : InF K CZ) (N : KnF K CK) :
    ∃ fd : FuncData, (∀ (s : Shared) (v : Value), BindsTo s fd ⟨[v], []⟩ [("_law_script", v)]) ∧ ∀ base : Heap, K.In base → base.Ns mainGlobals mg → FnG l.prog w K mg base 8 fa fd ["_law_script"] (spLaw K) := by
  obtain ⟨f, fd, F⟩ := D.d22
  have e := hfa.symm.trans F.g
  injection e with e
  injection e with e
  subst e
  obtain ⟨oc, od, kV, dc, pm, an, cdv, ct, osl, rfl, _⟩ := F.F.ex
  exact ⟨_, fun s v => .of_eq rfl, fun base _ _ => ok_law (al_of X G hGl B D O Q R J N) F.F⟩
end Zn

set_option Elab.async false
open PySem PySem.W PyProof.Rows in
set_option maxRecDepth 100000 in
set_option maxHeartbeats 0 in
theorem PySem.Challenge.cw_everyzone_k08_zones_of_a_kind_holds : PySem.Challenge.rw_everyzone_k08_zones_of_a_kind.Holds := by
  w_on; o_law; k_head; (case hw => w_witness2)
  k_fill
  refine Zn.walk_g (l := PySem.Challenge.rw_everyzone_k08_zones_of_a_kind) rfl rfl (fun w h Y => PySem.W.kIn_of Y) ?F
  case F =>
    intro w mg fa h KX G hmg
    refine' Zn.all_g KX G hmg ⟨Zn.gi_mk ?gj, Zn.gi_mk ?gj2, Zn.gi_mk ?gj3⟩ ?B ?D ⟨?ohn, ?ohtk⟩ ?Q ?R ?J ?knn
    case Q =>
      refine' ⟨?aC, ?pg, ?hd, ?po, ?sa, ?ha, ?hm, ?bq, ?mks, ?kc, ?no, ?nB, ?nR, ?mC, ?mJ, ?mL, ?eq⟩
      (case aC => k_is)
      (case pg => k_is)
      (case hd => k_is)
      (case po => k_is)
      (case sa => k_is)
      (case ha => k_is)
      (case hm => k_is)
      (case bq => rfl)
      (case mks => k_is)
      (case kc => k_is)
      (case nB => k_is)
      (case nR => k_is)
      case no =>
        refine' Zn.kit_list ?h ?c ?t ?s
        (case h => rfl)
        (case c => k_is)
        (case t => k_is)
        (case s => k_is)
      case mC =>
        refine' Zn.mt_mk ?a ?i ?l ?c ?k ?b
        (case a => k_is)
        (case i => k_is)
        (case l => k_is)
        (case c => k_is)
        (case k => k_is)
        (case b => exact fun us hl => match us, hl with | [_], _ => rfl)
      case mJ =>
        refine' Zn.mt_mk ?a ?i ?l ?c ?k ?b
        (case a => k_is)
        (case i => k_is)
        (case l => k_is)
        (case c => k_is)
        (case k => k_is)
        (case b => exact fun us hl => match us, hl with | [_], _ => rfl)
      case mL =>
        refine' Zn.mt_mk ?a ?i ?l ?c ?k ?b
        (case a => k_is)
        (case i => k_is)
        (case l => k_is)
        (case c => k_is)
        (case k => k_is)
        (case b => exact fun us hl => match us, hl with | [_], _ => rfl)
      case eq =>
        refine' Zn.eq_mk ?m ?l ?n ?e ?z ?a ?lo ?t
        case m =>
          refine' Zn.mt_mk ?a1 ?i1 ?l1 ?c1 ?k1 ?b1
          (case a1 => k_is)
          (case i1 => k_is)
          (case l1 => k_is)
          (case c1 => k_is)
          (case k1 => k_is)
          (case b1 => exact fun us hl => match us, hl with | [_, _], _ => rfl)
        (case l => k_is)
        case n =>
          refine' Zn.nsOk_mk ?nl ?nh
          (case nl => k_is)
          (case nh => first | rfl | decide +kernel | simp [PySem.W.nsOkIn, List.lookup])
        (case e => k_is)
        (case z => k_is)
        (case a => k_is)
        (case lo => k_is)
        (case t => rfl)
    case R =>
      refine' ⟨?aC, ?pg, ?hd, ?po, ?sa, ?ha, ?hm, ?bq, ?mks, ?kc, ?nS, ?nD, ?nM, ?mK, ?mH, ?mW, ?pj, ?pa, ?pm, ?eq⟩
      (case aC => k_is)
      (case pg => k_is)
      (case hd => k_is)
      (case po => k_is)
      (case sa => k_is)
      (case ha => k_is)
      (case hm => k_is)
      (case bq => rfl)
      (case mks => k_is)
      (case kc => k_is)
      (case nS => k_is)
      (case nD => k_is)
      (case nM => k_is)
      case mK =>
        refine' Zn.mt_mk ?a ?i ?l ?c ?k ?b
        (case a => k_is)
        (case i => k_is)
        (case l => k_is)
        (case c => k_is)
        (case k => k_is)
        (case b => exact fun us hl => match us, hl with | [_, _], _ => rfl)
      case mH =>
        refine' Zn.mt_mk ?a ?i ?l ?c ?k ?b
        (case a => k_is)
        (case i => k_is)
        (case l => k_is)
        (case c => k_is)
        (case k => k_is)
        (case b => exact fun us hl => match us, hl with | [_, _], _ => rfl)
      case mW =>
        refine' Zn.mt_mk ?a ?i ?l ?c ?k ?b
        (case a => k_is)
        (case i => k_is)
        (case l => k_is)
        (case c => k_is)
        (case k => k_is)
        (case b => exact fun us hl => match us, hl with | [_, _], _ => rfl)
      case pj =>
        refine' Zn.prE_mk ?a ?b ?t ?r ?l ?c ?k ?hb
        (case a => k_is)
        (case b => k_is)
        (case t => k_is)
        (case r => k_is)
        (case l => k_is)
        (case c => k_is)
        (case k => k_is)
        (case hb => exact fun us hl => match us, hl with | [_], _ => rfl)
      case pa =>
        refine' Zn.prE_mk ?a ?b ?t ?r ?l ?c ?k ?hb
        (case a => k_is)
        (case b => k_is)
        (case t => k_is)
        (case r => k_is)
        (case l => k_is)
        (case c => k_is)
        (case k => k_is)
        (case hb => exact fun us hl => match us, hl with | [_], _ => rfl)
      case pm =>
        refine' Zn.prE_mk ?a ?b ?t ?r ?l ?c ?k ?hb
        (case a => k_is)
        (case b => k_is)
        (case t => k_is)
        (case r => k_is)
        (case l => k_is)
        (case c => k_is)
        (case k => k_is)
        (case hb => exact fun us hl => match us, hl with | [_], _ => rfl)
      case eq =>
        refine' Zn.eq_mk ?m ?l ?n ?e ?z ?a ?lo ?t
        case m =>
          refine' Zn.mt_mk ?a1 ?i1 ?l1 ?c1 ?k1 ?b1
          (case a1 => k_is)
          (case i1 => k_is)
          (case l1 => k_is)
          (case c1 => k_is)
          (case k1 => k_is)
          (case b1 => exact fun us hl => match us, hl with | [_, _], _ => rfl)
        (case l => k_is)
        case n =>
          refine' Zn.nsOk_mk ?nl ?nh
          (case nl => k_is)
          (case nh => first | rfl | decide +kernel | simp [PySem.W.nsOkIn, List.lookup])
        (case e => k_is)
        (case z => k_is)
        (case a => k_is)
        (case lo => k_is)
        (case t => rfl)
    case J =>
      refine' Zn.in_mk ?a ?i ?l ?c ?d ?dd ?e ?ec ?ed
      (case a => k_is)
      (case i => k_is)
      (case l => k_is)
      (case c => k_is)
      (case d => k_is)
      (case dd => rfl)
      (case e => k_is)
      (case ec => rfl)
      (case ed => rfl)
    case knn =>
      refine' Zn.kn_mk ?a ?i ?l ?c ?d ?dd
      (case a => k_is)
      (case i => k_is)
      (case l => k_is)
      (case c => k_is)
      (case d => k_is)
      (case dd => rfl)
    (case gj => k_is)
    (case gj2 => k_is)
    (case gj3 => k_is)
    (case ohn => k_is)
    (case ohtk => k_is)
    case B =>
      refine' ⟨?n0, ?n1, ?n2, ?n3, ?n4, ?n5, ?n6, ?n7, ?n8, ?n9, ?n10, ?n11, ?n12, ?n13⟩
      (case n0 => k_is)
      (case n1 => k_is)
      (case n2 => k_is)
      (case n3 => k_is)
      (case n4 => k_is)
      (case n5 => k_is)
      (case n6 => k_is)
      (case n7 => k_is)
      (case n8 => k_is)
      (case n9 => k_is)
      (case n10 => k_is)
      (case n11 => k_is)
      (case n12 => k_is)
      (case n13 => k_is)
    case D =>
      refine' ⟨?d0, ?d1, ?d2, ?d3, ?d4, ?d5, ?d6, ?d7, ?d8, ?d9, ?d10, ?d11, ?d12, ?d13, ?d14, ?d15, ?d16, ?d17, ?d18, ?d19, ?d20, ?d21, ?d22⟩
      case d0 =>
        refine' Zn.df_mk KX G ?a ?l ?c ?k ?b
        (case a => k_is)
        (case l => k_is)
        (case c => k_is)
        (case k => k_is)
        (case b => exact fun us hl => match us, hl with | [_], _ => rfl)
      case d1 =>
        refine' Zn.df_mk KX G ?a ?l ?c ?k ?b
        (case a => k_is)
        (case l => k_is)
        (case c => k_is)
        (case k => k_is)
        (case b => exact fun us hl => match us, hl with | [_], _ => rfl)
      case d2 =>
        refine' Zn.df_mk KX G ?a ?l ?c ?k ?b
        (case a => k_is)
        (case l => k_is)
        (case c => k_is)
        (case k => k_is)
        (case b => exact fun us hl => match us, hl with | [_], _ => rfl)
      case d3 =>
        refine' Zn.df_mk KX G ?a ?l ?c ?k ?b
        (case a => k_is)
        (case l => k_is)
        (case c => k_is)
        (case k => k_is)
        (case b => exact fun us hl => match us, hl with | [_, _], _ => rfl)
      case d4 =>
        refine' Zn.df_mk KX G ?a ?l ?c ?k ?b
        (case a => k_is)
        (case l => k_is)
        (case c => k_is)
        (case k => k_is)
        (case b => exact fun us hl => match us, hl with | [_, _], _ => rfl)
      case d5 =>
        refine' Zn.df_mk KX G ?a ?l ?c ?k ?b
        (case a => k_is)
        (case l => k_is)
        (case c => k_is)
        (case k => k_is)
        (case b => exact fun us hl => match us, hl with | [_], _ => rfl)
      case d6 =>
        refine' Zn.df_mk KX G ?a ?l ?c ?k ?b
        (case a => k_is)
        (case l => k_is)
        (case c => k_is)
        (case k => k_is)
        (case b => exact fun us hl => match us, hl with | [_], _ => rfl)
      case d7 =>
        refine' Zn.df_mk KX G ?a ?l ?c ?k ?b
        (case a => k_is)
        (case l => k_is)
        (case c => k_is)
        (case k => k_is)
        (case b => exact fun us hl => match us, hl with | [_, _, _], _ => rfl)
      case d8 =>
        refine' Zn.df_mk KX G ?a ?l ?c ?k ?b
        (case a => k_is)
        (case l => k_is)
        (case c => k_is)
        (case k => k_is)
        (case b => exact fun us hl => match us, hl with | [_], _ => rfl)
      case d9 =>
        refine' Zn.df_mk KX G ?a ?l ?c ?k ?b
        (case a => k_is)
        (case l => k_is)
        (case c => k_is)
        (case k => k_is)
        (case b => exact fun us hl => match us, hl with | [_], _ => rfl)
      case d10 =>
        refine' Zn.df_mk KX G ?a ?l ?c ?k ?b
        (case a => k_is)
        (case l => k_is)
        (case c => k_is)
        (case k => k_is)
        (case b => exact fun us hl => match us, hl with | [_, _], _ => rfl)
      case d11 =>
        refine' Zn.df_mk KX G ?a ?l ?c ?k ?b
        (case a => k_is)
        (case l => k_is)
        (case c => k_is)
        (case k => k_is)
        (case b => exact fun us hl => match us, hl with | [_, _], _ => rfl)
      case d12 =>
        refine' Zn.df_mk KX G ?a ?l ?c ?k ?b
        (case a => k_is)
        (case l => k_is)
        (case c => k_is)
        (case k => k_is)
        (case b => exact fun us hl => match us, hl with | [_], _ => rfl)
      case d13 =>
        refine' Zn.df_mk KX G ?a ?l ?c ?k ?b
        (case a => k_is)
        (case l => k_is)
        (case c => k_is)
        (case k => k_is)
        (case b => exact fun us hl => match us, hl with | [_, _], _ => rfl)
      case d14 =>
        refine' Zn.df_mk KX G ?a ?l ?c ?k ?b
        (case a => k_is)
        (case l => k_is)
        (case c => k_is)
        (case k => k_is)
        (case b => exact fun us hl => match us, hl with | [_], _ => rfl)
      case d15 =>
        refine' Zn.df_mk KX G ?a ?l ?c ?k ?b
        (case a => k_is)
        (case l => k_is)
        (case c => k_is)
        (case k => k_is)
        (case b => exact fun us hl => match us, hl with | [_, _, _], _ => rfl)
      case d16 =>
        refine' Zn.df_mk KX G ?a ?l ?c ?k ?b
        (case a => k_is)
        (case l => k_is)
        (case c => k_is)
        (case k => k_is)
        (case b => exact fun us hl => match us, hl with | [_, _], _ => rfl)
      case d17 =>
        refine' Zn.df_mk KX G ?a ?l ?c ?k ?b
        (case a => k_is)
        (case l => k_is)
        (case c => k_is)
        (case k => k_is)
        (case b => exact fun us hl => match us, hl with | [_], _ => rfl)
      case d18 =>
        refine' Zn.df_mk KX G ?a ?l ?c ?k ?b
        (case a => k_is)
        (case l => k_is)
        (case c => k_is)
        (case k => k_is)
        (case b => exact fun us hl => match us, hl with | [_], _ => rfl)
      case d19 =>
        refine' Zn.df_mk KX G ?a ?l ?c ?k ?b
        (case a => k_is)
        (case l => k_is)
        (case c => k_is)
        (case k => k_is)
        (case b => exact fun us hl => match us, hl with | [_, _, _], _ => rfl)
      case d20 =>
        refine' Zn.df_mk KX G ?a ?l ?c ?k ?b
        (case a => k_is)
        (case l => k_is)
        (case c => k_is)
        (case k => k_is)
        (case b => exact fun us hl => match us, hl with | [_, _], _ => rfl)
      case d21 =>
        refine' Zn.df_mk KX G ?a ?l ?c ?k ?b
        (case a => k_is)
        (case l => k_is)
        (case c => k_is)
        (case k => k_is)
        (case b => exact fun us hl => match us, hl with | [_, _, _], _ => rfl)
      case d22 =>
        refine' Zn.df_mk KX G ?a ?l ?c ?k ?b
        (case a => k_is)
        (case l => k_is)
        (case c => k_is)
        (case k => k_is)
        (case b => exact fun us hl => match us, hl with | [_], _ => rfl)
