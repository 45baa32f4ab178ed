import PyProof.Rows.All
import Wide.All
import OpenK.AllK
import Wide.FinOn
import PyProof.EqAt
import PyProof.EqKinds
import PyProof.TupleCall
import PyProof.ReprRoads
import HandS.ForMost
import HandS.IsInst
import HandS.Wide
import PyProof.InstNe
import HandS.Property
import HandS.SetBool
import HandS.Strs
import HandS.RaiseMore
import HandS.Dict
import KE.SortData
import PySem.Challenge.RW_everyzone_k31_each_day_at_one_time
set_option Elab.async false
set_option linter.all false
set_option maxRecDepth 100000
set_option maxHeartbeats 4000000
/-! Data layer: pure expressions by the data they come to. M: addresses that may change; what is known stands outside of M. -/
namespace Dl
open PySem PySem.Spec PyProof.Rows L2

/-! ### what is known -/
def hid (M : List Addr) (H : Hp) : Hp := fun a => if a ∈ M then none else H a
def Live (M : List Addr) (H : Hp) : Prop := ∀ a ∈ M, H a ≠ none
section
variable {M : List Addr} {H H' : Hp} {a p : Addr} {o : HO}
theorem hid_of (n : a ∉ M) : hid M H a = H a := if_neg n
theorem hid_le : Same (hid M H) H := fun b o e => by
  unfold hid at e
  split at e
  · cases e
  · exact e
theorem hid_mono (s : Same H H') : Same (hid M H) (hid M H') := fun b o e => by
  unfold hid at e ⊢
  split at e
  · cases e
  · rename_i n; rw [if_neg n]; exact s b o e
theorem hid_nil : hid [] H = H := by funext b; unfold hid; rw [if_neg (by simp)]
theorem hid_upd_mem (h : p ∈ M) : hid M (upd H p o) = hid M H := by
  funext b; unfold hid
  split
  · rfl
  · rename_i n; rw [upd_ne (fun z => n (by rw [z]; exact h))]
theorem Live.mono (L : Live M H) (s : Same H H') : Live M H' := fun b hb z => by
  cases e : H b with
  | none => exact L b hb e
  | some o => rw [s b o e] at z; cases z
theorem Live.fresh (L : Live M H) (hp : H p = none) : p ∉ M := fun h => L p h hp
theorem Live.nil : Live [] H := fun _ h => by simp at h
theorem hid_new (L : Live M H) (hp : H p = none) : hid M (upd H p o) = upd (hid M H) p o := by
  funext b; unfold hid upd
  by_cases hb : b = p
  · subst hb; rw [if_neg (L.fresh hp), if_pos rfl, if_pos rfl]
  · rw [if_neg hb, if_neg hb]
theorem hid_free (hp : H p = none) : hid M H p = none := by unfold hid; split <;> first | rfl | exact hp
theorem hid_cons (hp : H p = none) : hid (p :: M) (upd H p o) = hid M H := by
  funext b; unfold hid
  by_cases hb : b = p
  · subst hb
    rw [if_pos (List.mem_cons_self ..)]
    split <;> first | rfl | exact hp.symm
  · by_cases hm : b ∈ M
    · rw [if_pos (List.mem_cons_of_mem _ hm), if_pos hm]
    · rw [if_neg (by simp [hb, hm]), if_neg hm, upd_ne hb]
theorem Live.cons (L : Live M H) (hp : H p = none) : Live (p :: M) (upd H p o) := fun b hb => by
  rcases List.mem_cons.mp hb with e | hb
  · subst e; rw [upd_same]; simp
  · rw [upd_ne (fun z => L b hb (by rw [z]; exact hp))]; exact L b hb
theorem Live.upd (L : Live M H) : Live M (upd H p o) := fun b hb => by
  by_cases e : b = p
  · subst e; rw [upd_same]; simp
  · rw [upd_ne e]; exact L b hb
theorem same_new (hp : H p = none) : Same H (upd H p o) := fun b u e => by rw [upd_ne (ne_of_none e hp)]; exact e
theorem Live.to (L : Live M H) (s : Same (hid [] H) H') : Live M H' := L.mono (by rw [hid_nil] at s; exact s)
theorem hid_hid : hid M (hid M H) = hid M H := by
  funext b; unfold hid; split <;> rfl
end
theorem same_seqT {K : PySem.W.Frag} {H H' : Hp} {a : Addr} {xs : List V} (e : Same H H') (h : SqT K H a xs) : SqT K H' a xs := by
  rcases h with (h | ⟨o, h⟩) | h
  · exact .inl (.inl (e _ _ h))
  · exact .inl (.inr ⟨o, e _ _ h⟩)
  · exact .inr h
mutual
/-- a value is the data (every list is one that is tracked) -/
inductive Dq (K : PySem.W.Frag) (H : Hp) : V → PyData → Prop
  | non : Dq K H .non .none
  | bl (b : Bool) : Dq K H (.bl b) (.bool b)
  | int (i : Int) : Dq K H (.int i) (.int i)
  | str (x : Str) : Dq K H (.str x) (.str x)
  | lst {a : Addr} {xs : List V} {ds : List PyData} : H a = some (.lst xs) → DqAll K H xs ds → Dq K H (.ref a) (.list ds)
  | tup {a : Addr} {xs : List V} {ds : List PyData} : SqT K H a xs → DqAll K H xs ds → Dq K H (.ref a) (.tuple ds)
inductive DqAll (K : PySem.W.Frag) (H : Hp) : List V → List PyData → Prop
  | nil : DqAll K H [] []
  | cons {v : V} {vs : List V} {d : PyData} {ds : List PyData} : Dq K H v d → DqAll K H vs ds → DqAll K H (v :: vs) (d :: ds)
end
mutual
theorem Dq.dp {K : PySem.W.Frag} {H : Hp} : ∀ (d : PyData) (v : V), Dq K H v d → Dp K H v d
  | .none, _, h => by cases h; exact .non
  | .bool b, _, h => by cases h; exact .bl b
  | .int i, _, h => by cases h; exact .int i
  | .str x, _, h => by cases h; exact .str x
  | .list ds, _, h => by
    cases h with
    | lst hs ha => exact .lst (SqL.of hs) (DqAll.dp ds _ ha)
  | .tuple ds, _, h => by
    cases h with
    | tup hs ha => exact .tup hs (DqAll.dp ds _ ha)
  | .dict _, _, h => by cases h
theorem DqAll.dp {K : PySem.W.Frag} {H : Hp} : ∀ (ds : List PyData) (vs : List V), DqAll K H vs ds → DpAll K H vs ds
  | [], _, h => by cases h; exact .nil
  | d :: ds, _, h => by
    cases h with
    | cons h1 h2 => exact .cons (Dq.dp d _ h1) (DqAll.dp ds _ h2)
end
mutual
theorem dp_mono {K : PySem.W.Frag} {H H' : Hp} (e : Same H H') : ∀ (d : PyData) (v : V), Dq K H v d → Dq K H' v d
  | .none, _, h => by cases h; exact .non
  | .bool b, _, h => by cases h; exact .bl b
  | .int i, _, h => by cases h; exact .int i
  | .str x, _, h => by cases h; exact .str x
  | .list ds, _, h => by
    cases h with
    | lst hs ha => exact .lst (e _ _ hs) (dpa_mono e ds _ ha)
  | .tuple ds, _, h => by
    cases h with
    | tup hs ha => exact .tup (same_seqT e hs) (dpa_mono e ds _ ha)
  | .dict _, _, h => by cases h
theorem dpa_mono {K : PySem.W.Frag} {H H' : Hp} (e : Same H H') : ∀ (ds : List PyData) (vs : List V), DqAll K H vs ds → DqAll K H' vs ds
  | [], _, h => by cases h; exact .nil
  | d :: ds, _, h => by
    cases h with
    | cons h1 h2 => exact .cons (dp_mono e d _ h1) (dpa_mono e ds _ h2)
end
section
variable {K : PySem.W.Frag} {H H' : Hp} {v : V} {vs : List V} {ds es : List PyData} {d : PyData}
theorem Dq.up (h : Dq K H v d) (e : Same H H') : Dq K H' v d := dp_mono e d v h
theorem DqAll.up (h : DqAll K H vs ds) (e : Same H H') : DqAll K H' vs ds := dpa_mono e ds vs h
theorem dpa_len : ∀ {vs : List V} {ds : List PyData}, DqAll K H vs ds → vs.length = ds.length
  | _, _, .nil => rfl
  | _, _, .cons _ h => by rw [List.length_cons, List.length_cons, dpa_len h]
theorem dpa_app : ∀ {vs ws : List V} {ds es : List PyData}, DqAll K H vs ds → DqAll K H ws es → DqAll K H (vs ++ ws) (ds ++ es)
  | _, _, _, _, .nil, h => h
  | _, _, _, _, .cons a b, h => .cons a (dpa_app b h)
theorem dpa_get : ∀ {vs : List V} {ds : List PyData} {i : Nat} {d : PyData}, DqAll K H vs ds → ds[i]? = some d → ∃ v, vs[i]? = some v ∧ Dq K H v d
  | _, _, _, _, .nil, e => by simp at e
  | _, _, 0, _, .cons a _, e => by simp at e; subst e; exact ⟨_, rfl, a⟩
  | _, _, i + 1, d, .cons _ b, e => by
    obtain ⟨v, h1, h2⟩ := dpa_get (i := i) (d := d) b (by simpa using e)
    exact ⟨v, by simpa using h1, h2⟩
theorem dpa_get' : ∀ {vs : List V} {ds : List PyData} {i : Nat} {v : V}, DqAll K H vs ds → vs[i]? = some v → ∃ d, ds[i]? = some d ∧ Dq K H v d
  | _, _, _, _, .nil, e => by simp at e
  | _, _, 0, _, .cons a _, e => by simp at e; subst e; exact ⟨_, rfl, a⟩
  | _, _, i + 1, v, .cons _ b, e => by
    obtain ⟨d, h1, h2⟩ := dpa_get' (i := i) (v := v) b (by simpa using e)
    exact ⟨d, by simpa using h1, h2⟩
theorem dpa_drop : ∀ (n : Nat) {vs : List V} {ds : List PyData}, DqAll K H vs ds → DqAll K H (vs.drop n) (ds.drop n)
  | 0, _, _, h => h
  | _ + 1, _, _, .nil => .nil
  | n + 1, _, _, .cons _ b => dpa_drop n b
theorem dpa_take : ∀ (n : Nat) {vs : List V} {ds : List PyData}, DqAll K H vs ds → DqAll K H (vs.take n) (ds.take n)
  | 0, _, _, _ => .nil
  | _ + 1, _, _, .nil => .nil
  | n + 1, _, _, .cons a b => .cons a (dpa_take n b)
theorem dp_int {i : Int} (h : Dq K H v (.int i)) : v = .int i := by cases h; rfl
theorem dp_bl {b : Bool} (h : Dq K H v (.bool b)) : v = .bl b := by cases h; rfl
theorem dp_str {x : Str} (h : Dq K H v (.str x)) : v = .str x := by cases h; rfl
theorem dp_non (h : Dq K H v .none) : v = .non := by cases h; rfl
theorem dp_lst (h : Dq K H v (.list ds)) : ∃ a xs, v = .ref a ∧ H a = some (.lst xs) ∧ DqAll K H xs ds := by
  cases h with
  | lst h1 h2 => exact ⟨_, _, rfl, h1, h2⟩
theorem dp_tup (h : Dq K H v (.tuple ds)) : ∃ a xs, v = .ref a ∧ SqT K H a xs ∧ DqAll K H xs ds := by
  cases h with
  | tup h1 h2 => exact ⟨_, _, rfl, h1, h2⟩
end
/-! ### readings by themselves -/
def RE (X : Cx) (e : Expr) : TE := fun σ H Q => ∃ t, PE X e t ∧ t σ H Q
def RT (X : Cx) (e : Expr) : TT := fun σ H Q => ∃ t, PT X e t ∧ t σ H Q
def RW (X : Cx) (e : Expr) : TT := fun σ H Q => ∃ t, PW X e t ∧ t σ H Q
def RA (X : Cx) (es : List Expr) : TA := fun σ H Q => ∃ t, PA X es t ∧ t σ H Q
def RS (X : Cx) (st : Stmt) : TS := fun D σ H => ∃ t, PS X st t ∧ t D σ H
def RB (X : Cx) (st : List Stmt) : TS := fun D σ H => ∃ t, PSs X st t ∧ t D σ H
def RI (X : Cx) (tg e : Expr) : TI := fun σ H R => ∃ t, PI X tg e t ∧ t σ H R
section
variable {X : Cx} {e tg : Expr} {es : List Expr} {st : Stmt} {sts : List Stmt}
theorem re_ : PE X e (RE X e) := ⟨fun pins s σ H Q I ⟨_, h, q⟩ => h.run pins s σ H Q I q⟩
theorem rt_ : PT X e (RT X e) := ⟨fun pins s σ H Q I ⟨_, h, q⟩ => h.run pins s σ H Q I q⟩
theorem rw_ : PW X e (RW X e) := ⟨fun wh pins s σ H Q I ⟨_, h, q⟩ => h.run wh pins s σ H Q I q⟩
theorem ra_ : PA X es (RA X es) := ⟨fun pos pins s σ H Q I ⟨_, h, q⟩ => h.run pos pins s σ H Q I q⟩
theorem rs_ : PS X st (RS X st) := ⟨fun pins s σ H D I ⟨_, h, q⟩ => h.run pins s σ H D I q⟩
theorem rb_ : PSs X sts (RB X sts) := ⟨fun pins s σ H D I ⟨_, h, q⟩ => h.run pins s σ H D I q⟩
theorem ri_ : PI X tg e (RI X tg e) := ⟨fun pins s σ H R I ⟨_, h, q⟩ => h.run pins s σ H R I q⟩
end
/-! ### what an expression comes to -/
/-- the data d; an exact value v; a new list of the data ds; arguments; a test -/
def XD (X : Cx) (M : List Addr) (σ : L2.St) (H : Hp) (e : Expr) (d : PyData) : Prop := ∀ H1, Same H H1 → ∀ Q : VK, (∀ v H2, Same H1 H2 → Dq X.K (hid M H2) v d → Q v H2) → RE X e σ H1 Q
def XV (X : Cx) (σ : L2.St) (H : Hp) (e : Expr) (v : V) : Prop := ∀ H1, Same H H1 → ∀ Q : VK, (∀ H2, Same H1 H2 → Q v H2) → RE X e σ H1 Q
def XL (X : Cx) (M : List Addr) (σ : L2.St) (H : Hp) (e : Expr) (ds : List PyData) : Prop :=
  ∀ H1, Same H H1 → ∀ Q : VK, (∀ p xs H2, Same H1 H2 → H1 p = none → H2 p = some (.lst xs) → DqAll X.K (hid M H2) xs ds → Q (.ref p) H2) → RE X e σ H1 Q
def XA (X : Cx) (M : List Addr) (σ : L2.St) (H : Hp) (es : List Expr) (ds : List PyData) : Prop := ∀ H1, Same H H1 → ∀ Q : List V → Hp → Prop, (∀ vs H2, Same H1 H2 → DqAll X.K (hid M H2) vs ds → Q vs H2) → RA X es σ H1 Q
def XT (X : Cx) (σ : L2.St) (H : Hp) (e : Expr) (b : Bool) : Prop := ∀ H1, Same H H1 → ∀ Q : Bool → Hp → Prop, (∀ H2, Same H1 H2 → Q b H2) → RT X e σ H1 Q
def XW (X : Cx) (σ : L2.St) (H : Hp) (e : Expr) (b : Bool) : Prop := ∀ H1, Same H H1 → ∀ Q : Bool → Hp → Prop, (∀ H2, Same H1 H2 → Q b H2) → RW X e σ H1 Q
section
variable {X : Cx} {M : List Addr} {σ : L2.St} {H H' : Hp} {e a b c : Expr} {es : List Expr} {d d1 d2 : PyData} {ds es' : List PyData} {i : Nat} {x : Str} {v : V} {pos : Pos}
theorem XD.up (h : XD X M σ H e d) (s : Same H H') : XD X M σ H' e d := fun H1 q => h H1 (s.trans q)
theorem XV.up (h : XV X σ H e v) (s : Same H H') : XV X σ H' e v := fun H1 q => h H1 (s.trans q)
theorem XL.up (h : XL X M σ H e ds) (s : Same H H') : XL X M σ H' e ds := fun H1 q => h H1 (s.trans q)
theorem XA.up (h : XA X M σ H es ds) (s : Same H H') : XA X M σ H' es ds := fun H1 q => h H1 (s.trans q)
theorem XT.up {b : Bool} (h : XT X σ H e b) (s : Same H H') : XT X σ H' e b := fun H1 q => h H1 (s.trans q)
theorem XD.to {d' : PyData} (h : XD X M σ H e d) (q : d = d') : XD X M σ H e d' := q ▸ h
theorem XL.to {ds' : List PyData} (h : XL X M σ H e ds) (q : ds = ds') : XL X M σ H e ds' := q ▸ h
theorem XT.to {k k' : Bool} (h : XT X σ H e k) (q : k = k') : XT X σ H e k' := q ▸ h
theorem XV.dd (h : XV X σ H e v) (hd : Dq X.K (hid M H) v d) : XD X M σ H e d := fun H1 s Q q => h H1 s Q fun H2 s2 => q v H2 s2 (dp_mono (hid_mono (s.trans s2)) d v hd)
theorem XV.int {n : Int} (h : XV X σ H e (.int n)) : XD X M σ H e (.int n) := h.dd (.int n)
theorem XD.vint {n : Int} (h : XD X M σ H e (.int n)) : XV X σ H e (.int n) := fun H1 s Q q => h H1 s Q fun v H2 s2 hv => by rw [dp_int hv]; exact q H2 s2
theorem XD.vbl {k : Bool} (h : XD X M σ H e (.bool k)) : XV X σ H e (.bl k) := fun H1 s Q q => h H1 s Q fun v H2 s2 hv => by rw [dp_bl hv]; exact q H2 s2
theorem XD.vstr {z : Str} (h : XD X M σ H e (.str z)) : XV X σ H e (.str z) := fun H1 s Q q => h H1 s Q fun v H2 s2 hv => by rw [dp_str hv]; exact q H2 s2
theorem XL.dd (h : XL X M σ H e ds) (L : Live M H) : XD X M σ H e (.list ds) := fun H1 s Q q => h H1 s Q fun p xs H2 s2 hp h2 hd =>
  q _ H2 s2 (.lst (by rw [hid_of (fun z => (L.mono s) p z hp)]; exact h2) hd)
/-! names, constants -/
theorem xv_name (i : Nat) {x : Str} {v : V} {pos : Pos} (hv : σ[i]? = some (some v)) (hN : X.N[i]? = some x := by rfl) (hs : Vis X.env.scope x := by first | exact Or.inl rfl | exact Or.inr (Or.inl rfl) | exact Or.inr (Or.inr rfl))
    (hb : (x == ("__debug__" : Str)) = false := by decide) (hc : (x == ("__classdict__" : Str)) = false := by decide) : XV X σ H (.Name x pos) v := fun H1 _ Q q => ⟨_, pe_var hN hs hb hc, v, hv, q H1 (Same.refl _)⟩
theorem xd_name (i : Nat) {x : Str} {v : V} {pos : Pos} (hv : σ[i]? = some (some v)) (hd : Dq X.K (hid M H) v d) (hN : X.N[i]? = some x := by rfl) (hs : Vis X.env.scope x := by first | exact Or.inl rfl | exact Or.inr (Or.inl rfl) | exact Or.inr (Or.inr rfl))
    (hb : (x == ("__debug__" : Str)) = false := by decide) (hc : (x == ("__classdict__" : Str)) = false := by decide) : XD X M σ H (.Name x pos) d := (xv_name i hv hN hs hb hc).dd hd
theorem xv_int {n : Int} {j} : XV X σ H (.Constant (.int n) j pos) (.int n) := fun H1 _ Q q => ⟨_, pe_int, q H1 (Same.refl _)⟩
theorem xd_int {n : Int} {j} : XD X M σ H (.Constant (.int n) j pos) (.int n) := xv_int.int
theorem xv_str {z : Str} {j} : XV X σ H (.Constant (.str z) j pos) (.str z) := fun H1 _ Q q => ⟨_, pe_str, q H1 (Same.refl _)⟩
theorem xd_str {z : Str} {j} : XD X M σ H (.Constant (.str z) j pos) (.str z) := xv_str.dd (.str z)
theorem xd_bl {k : Bool} {j} : XD X M σ H (.Constant (.bool k) j pos) (.bool k) := fun H1 _ Q q => ⟨_, pe_bl, q _ H1 (Same.refl _) (.bl k)⟩
theorem xd_non {j} : XD X M σ H (.Constant .none j pos) .none := fun H1 _ Q q => ⟨_, pe_non, q _ H1 (Same.refl _) .non⟩
theorem xv_glob {u : Value} (hm : X.mg x = some u) (r : RelV v u) (hg : Gl X x := by rfl) (hd : (x == ("__debug__" : Str)) = false := by decide) : XV X σ H (.Name x pos) v := fun H1 _ Q q => ⟨_, pe_glob hg hm r hd, q H1 (Same.refl _)⟩
theorem xv_bltn {u : Value} (hm : X.mg x = none) (hv : bootBuiltins x = some u) (r : RelV v u) (hg : Gl X x := by rfl) (hn : x ≠ "__name__" := by decide) (hd : (x == ("__debug__" : Str)) = false := by decide) : XV X σ H (.Name x pos) v :=
  fun H1 _ Q q => ⟨_, pe_bltn hg hm hv r hn hd, q H1 (Same.refl _)⟩
/-! displays -/
theorem xa_nil : XA X M σ H [] [] := fun H1 _ Q q => ⟨_, pa_nil, q [] H1 (Same.refl _) .nil⟩
theorem xa_cons (ha : XD X M σ H e d) (hr : XA X M σ H es ds) (hs : starEach (e :: es) X.env = (false, eval e X.env) :: starEach es X.env := by rfl) : XA X M σ H (e :: es) (d :: ds) := fun H1 s Q q =>
  ⟨_, pa_cons re_ ra_ hs, ha H1 s _ fun v H2 s2 hv => hr H2 (s.trans s2) _ fun vs H3 s3 hvs => q _ H3 (s2.trans s3) (.cons (hv.up (hid_mono s3)) hvs)⟩
theorem small_sz {n : Nat} (h : n ≤ 100000) : n ≤ sizeLine := Nat.le_trans h (by decide)
theorem xd_tup {x1} (L : Live M H) (h : XA X M σ H es ds) (hl : ds.length ≤ 100000 := by simp) : XD X M σ H (.Tuple es x1 pos) (.tuple ds) := fun H1 s Q q =>
  ⟨_, pe_tup ra_, h H1 s _ fun vs H2 s2 hvs => ⟨by rw [dpa_len hvs]; exact small_sz hl, fun p hp => q _ _ (s2.trans (same_new hp)) (by
    rw [hid_new (L.mono (s.trans s2)) hp]
    exact .tup (SqT.of upd_same) (hvs.up (same_new (hid_free hp))))⟩⟩
theorem xl_lst (L : Live M H) (h : XA X M σ H es ds) (hl : ds.length ≤ 100000 := by simp) : XL X M σ H (.List es pos) ds := fun H1 s Q q =>
  ⟨_, pe_lst ra_, h H1 s _ fun vs H2 s2 hvs => ⟨by rw [dpa_len hvs]; exact small_sz hl, fun p hp => q p vs _ (s2.trans (same_new hp)) (s2.free hp) upd_same (by
    rw [hid_new (L.mono (s.trans s2)) hp]
    exact hvs.up (same_new (hid_free hp)))⟩⟩
theorem xd_lst (L : Live M H) (h : XA X M σ H es ds) (hl : ds.length ≤ 100000 := by simp) : XD X M σ H (.List es pos) (.list ds) := (xl_lst L h hl).dd L
/-! operators -/
theorem xd_bin {op : Operator} {r : R2} (ho : OpR X (binaryOp op) r) (ha : XD X M σ H a d1) (hb : XD X M σ H b d2)
    (hr : ∀ H1 v w, Same H H1 → Dq X.K (hid M H1) v d1 → Dq X.K (hid M H1) w d2 → ∀ Q : VK, (∀ u H2, Same H1 H2 → Dq X.K (hid M H2) u d → Q u H2) → r v w H1 Q) : XD X M σ H (.BinOp a op b pos) d := fun H1 s Q q =>
  ⟨_, pe_op ho re_ re_, ha H1 s _ fun v H2 s2 hv => hb H2 (s.trans s2) _ fun w H3 s3 hw => hr H3 v w ((s.trans s2).trans s3) (hv.up (hid_mono s3)) hw Q fun u H4 s4 hu => q u H4 ((s2.trans s3).trans s4) hu⟩
theorem xd_binI {op : Operator} {C : Int → Int → Prop} {g : Int → Int → Int} {m n : Int} (ho : OpR X (binaryOp op) (rI C fun i j => .int (g i j))) (ha : XD X M σ H a (.int m)) (hb : XD X M σ H b (.int n)) (hc : C m n) : XD X M σ H (.BinOp a op b pos) (.int (g m n)) :=
  xd_bin ho ha hb fun H1 v w s hv hw Q q => ⟨m, n, dp_int hv, dp_int hw, hc, q _ H1 (Same.refl _) (.int _)⟩
theorem xd_binI0 {op : Operator} {g : Int → Int → Int} {m n : Int} (ho : OpR X (binaryOp op) (rI0 fun i j => .int (g i j))) (ha : XD X M σ H a (.int m)) (hb : XD X M σ H b (.int n)) : XD X M σ H (.BinOp a op b pos) (.int (g m n)) :=
  xd_bin ho ha hb fun H1 v w s hv hw Q q => ⟨m, n, dp_int hv, dp_int hw, q _ H1 (Same.refl _) (.int _)⟩
theorem xd_add {m n : Int} (ha : XD X M σ H a (.int m)) (hb : XD X M σ H b (.int n)) : XD X M σ H (.BinOp a .Add b pos) (.int (m + n)) := xd_binI0 op_add ha hb
theorem xd_sub {m n : Int} (ha : XD X M σ H a (.int m)) (hb : XD X M σ H b (.int n)) : XD X M σ H (.BinOp a .Sub b pos) (.int (m - n)) := xd_binI0 op_sub ha hb
theorem xd_mul {m n : Int} (ha : XD X M σ H a (.int m)) (hb : XD X M σ H b (.int n)) (hc : (-(2 ^ 64) < m ∧ m < 2 ^ 64) ∨ (-(2 ^ 64) < n ∧ n < 2 ^ 64)) : XD X M σ H (.BinOp a .Mult b pos) (.int (m * n)) := xd_binI op_mul ha hb hc
theorem xd_neg {m : Int} (ha : XD X M σ H a (.int m)) : XD X M σ H (.UnaryOp .USub a pos) (.int (-m)) := fun H1 s Q q =>
  ⟨_, pe_un un_neg re_, ha H1 s _ fun v H2 s2 hv => ⟨m, dp_int hv, q _ H2 s2 (.int _)⟩⟩
/-! comparisons -/
theorem xd_cmp {op : CmpOp} {r : R2} (ho : OpR X (compareOp op) r) (ha : XD X M σ H a d1) (hb : XD X M σ H b d2)
    (hr : ∀ H1 v w, Same H H1 → Dq X.K (hid M H1) v d1 → Dq X.K (hid M H1) w d2 → ∀ Q : VK, (∀ u H2, Same H1 H2 → Dq X.K (hid M H2) u d → Q u H2) → r v w H1 Q)
    (hm : behindInMarks op b = false := by first | exact nomark _ | rfl) : XD X M σ H (.Compare a [op] [b] pos) d := fun H1 s Q q =>
  ⟨_, pe_cmpR ho re_ re_ hm, ha H1 s _ fun v H2 s2 hv => hb H2 (s.trans s2) _ fun w H3 s3 hw => hr H3 v w ((s.trans s2).trans s3) (hv.up (hid_mono s3)) hw Q fun u H4 s4 hu => q u H4 ((s2.trans s3).trans s4) hu⟩
theorem xt_cmp {k : Bool} {op : CmpOp} {r : R2} (ho : OpR X (compareOp op) r) (ha : XD X M σ H a d1) (hb : XD X M σ H b d2)
    (hr : ∀ H1 v w, Same H H1 → Dq X.K (hid M H1) v d1 → Dq X.K (hid M H1) w d2 → ∀ Q : VK, (∀ H2, Same H1 H2 → Q (.bl k) H2) → r v w H1 Q)
    (hm : behindInMarks op b = false := by first | exact nomark _ | rfl) : XT X σ H (.Compare a [op] [b] pos) k := fun H1 s Q q =>
  ⟨_, pt_cmpR ho re_ re_ hm, ha H1 s _ fun v H2 s2 hv => hb H2 (s.trans s2) _ fun w H3 s3 hw => hr H3 v w ((s.trans s2).trans s3) (hv.up (hid_mono s3)) hw _ fun H4 s4 => ⟨k, rfl, q H4 ((s2.trans s3).trans s4)⟩⟩
theorem xt_cmpI {op : CmpOp} {g : Int → Int → Bool} {m n : Int} (ho : OpR X (compareOp op) (rI0 fun i j => .bl (g i j))) (ha : XD X M σ H a (.int m)) (hb : XD X M σ H b (.int n)) (hm : behindInMarks op b = false := by exact nomark _) : XT X σ H (.Compare a [op] [b] pos) (g m n) :=
  xt_cmp ho ha hb (fun H1 v w s hv hw Q q => ⟨m, n, dp_int hv, dp_int hw, q H1 (Same.refl _)⟩) hm
theorem xd_cmpI {op : CmpOp} {g : Int → Int → Bool} {m n : Int} (ho : OpR X (compareOp op) (rI0 fun i j => .bl (g i j))) (ha : XD X M σ H a (.int m)) (hb : XD X M σ H b (.int n)) (hm : behindInMarks op b = false := by exact nomark _) : XD X M σ H (.Compare a [op] [b] pos) (.bool (g m n)) :=
  xd_cmp ho ha hb (fun H1 v w s hv hw Q q => ⟨m, n, dp_int hv, dp_int hw, q _ H1 (Same.refl _) (.bl _)⟩) hm
theorem dec_int {m n : Int} : decide (V.int m = V.int n) = decide (m = n) := by
  by_cases h : m = n
  · subst h; simp
  · rw [decide_eq_false h, decide_eq_false fun z => h (V.int.inj z)]
theorem xd_eqI {m n : Int} (ha : XD X M σ H a (.int m)) (hb : XD X M σ H b (.int n)) : XD X M σ H (.Compare a [.Eq] [b] pos) (.bool (decide (m = n))) :=
  xd_cmp op_eq ha hb fun H1 v w s hv hw Q q => by
    rw [dp_int hv, dp_int hw]
    exact ⟨rfl, by rw [dec_int]; exact q _ H1 (Same.refl _) (.bl _)⟩
theorem xd_neI {m n : Int} (ha : XD X M σ H a (.int m)) (hb : XD X M σ H b (.int n)) : XD X M σ H (.Compare a [.NotEq] [b] pos) (.bool (!decide (m = n))) :=
  xd_cmp op_ne ha hb fun H1 v w s hv hw Q q => by
    rw [dp_int hv, dp_int hw]
    exact ⟨rfl, by rw [dec_int]; exact q _ H1 (Same.refl _) (.bl _)⟩
theorem xt_eqI {m n : Int} (ha : XD X M σ H a (.int m)) (hb : XD X M σ H b (.int n)) : XT X σ H (.Compare a [.Eq] [b] pos) (decide (m = n)) :=
  xt_cmp op_eq ha hb fun H1 v w s hv hw Q q => by
    rw [dp_int hv, dp_int hw]
    exact ⟨rfl, by rw [dec_int]; exact q H1 (Same.refl _)⟩
theorem xt_neI {m n : Int} (ha : XD X M σ H a (.int m)) (hb : XD X M σ H b (.int n)) : XT X σ H (.Compare a [.NotEq] [b] pos) (!decide (m = n)) :=
  xt_cmp op_ne ha hb fun H1 v w s hv hw Q q => by
    rw [dp_int hv, dp_int hw]
    exact ⟨rfl, by rw [dec_int]; exact q H1 (Same.refl _)⟩
theorem xd_eqD (hu : X.A.units + 64 < cLine) (ha : XD X M σ H a d1) (hb : XD X M σ H b d2) (s1 : SeqAt.shaped d1 = true) (s2 : SeqAt.shaped d2 = true) : XD X M σ H (.Compare a [.Eq] [b] pos) (.bool (PyData.eqv d1 d2)) :=
  xd_cmp (op_eqD hu) ha hb fun H1 v w s hv hw Q q => ⟨d1, d2, (hv.up hid_le).dp, (hw.up hid_le).dp, s1, s2, q _ H1 (Same.refl _) (.bl _)⟩
theorem xd_neD (hu : X.A.units + 64 < cLine) (ha : XD X M σ H a d1) (hb : XD X M σ H b d2) (s1 : SeqAt.shaped d1 = true) (s2 : SeqAt.shaped d2 = true) : XD X M σ H (.Compare a [.NotEq] [b] pos) (.bool (!PyData.eqv d1 d2)) :=
  xd_cmp (op_neD hu) ha hb fun H1 v w s hv hw Q q => ⟨d1, d2, (hv.up hid_le).dp, (hw.up hid_le).dp, s1, s2, q _ H1 (Same.refl _) (.bl _)⟩
theorem xt_eqD (hu : X.A.units + 64 < cLine) (ha : XD X M σ H a d1) (hb : XD X M σ H b d2) (s1 : SeqAt.shaped d1 = true) (s2 : SeqAt.shaped d2 = true) : XT X σ H (.Compare a [.Eq] [b] pos) (PyData.eqv d1 d2) :=
  xt_cmp (op_eqD hu) ha hb fun H1 v w s hv hw Q q => ⟨d1, d2, (hv.up hid_le).dp, (hw.up hid_le).dp, s1, s2, q H1 (Same.refl _)⟩
theorem xt_neD (hu : X.A.units + 64 < cLine) (ha : XD X M σ H a d1) (hb : XD X M σ H b d2) (s1 : SeqAt.shaped d1 = true) (s2 : SeqAt.shaped d2 = true) : XT X σ H (.Compare a [.NotEq] [b] pos) (!PyData.eqv d1 d2) :=
  xt_cmp (op_neD hu) ha hb fun H1 v w s hv hw Q q => ⟨d1, d2, (hv.up hid_le).dp, (hw.up hid_le).dp, s1, s2, q H1 (Same.refl _)⟩
/-! not, and, or -/
theorem xd_not {k : Bool} (ha : XD X M σ H a (.bool k)) : XD X M σ H (.UnaryOp .Not a pos) (.bool (!k)) := fun H1 s Q q =>
  ⟨_, pe_not re_, ha H1 s _ fun v H2 s2 hv => ⟨k, dp_bl hv, q _ H2 s2 (.bl _)⟩⟩
theorem xd_one {op} (ha : XD X M σ H a d) : XD X M σ H (.BoolOp op [a] pos) d := fun H1 s Q q => ⟨_, pe_one re_, ha H1 s Q q⟩
theorem xd_andT {rest : List Expr} (ha : XD X M σ H a (.bool true)) (hb : XD X M σ H (.BoolOp .And (b :: rest) pos) d) : XD X M σ H (.BoolOp .And (a :: b :: rest) pos) d := fun H1 s Q q =>
  ⟨_, pe_and re_ re_, ha H1 s _ fun v H2 s2 hv => ⟨true, dp_bl hv, iteT (hb H2 (s.trans s2) Q fun u H3 s3 hu => q u H3 (s2.trans s3) hu)⟩⟩
theorem xd_andF {rest : List Expr} (ha : XD X M σ H a (.bool false)) : XD X M σ H (.BoolOp .And (a :: b :: rest) pos) (.bool false) := fun H1 s Q q =>
  ⟨_, pe_and re_ re_, ha H1 s _ fun v H2 s2 hv => ⟨false, dp_bl hv, iteF (q _ H2 s2 (.bl _))⟩⟩
theorem xd_and2 {k1 k2 : Bool} (ha : XD X M σ H a (.bool k1)) (hb : k1 = true → XD X M σ H b (.bool k2)) : XD X M σ H (.BoolOp .And [a, b] pos) (.bool (k1 && k2)) := by
  cases k1 with
  | true => exact xd_andT ha (xd_one (hb rfl))
  | false => exact xd_andF ha
theorem xd_orF {rest : List Expr} (ha : XD X M σ H a (.bool false)) (hb : XD X M σ H (.BoolOp .Or (b :: rest) pos) d) : XD X M σ H (.BoolOp .Or (a :: b :: rest) pos) d := fun H1 s Q q =>
  ⟨_, pe_or re_ re_, ha H1 s _ fun v H2 s2 hv => ⟨false, dp_bl hv, iteF (hb H2 (s.trans s2) Q fun u H3 s3 hu => q u H3 (s2.trans s3) hu)⟩⟩
theorem xd_orT {rest : List Expr} (ha : XD X M σ H a (.bool true)) : XD X M σ H (.BoolOp .Or (a :: b :: rest) pos) (.bool true) := fun H1 s Q q =>
  ⟨_, pe_or re_ re_, ha H1 s _ fun v H2 s2 hv => ⟨true, dp_bl hv, iteT (q _ H2 s2 (.bl _))⟩⟩
theorem xt_val {k : Bool} (h : XD X M σ H e (.bool k)) (he : ∀ whole, isTrue e X.env whole = (do let v ← whole; standAt e.pos; holding [v] (truthy v)) := by intro _; rfl) : XT X σ H e k := fun H1 s Q q =>
  ⟨_, pt_val re_ he, h H1 s _ fun v H2 s2 hv => ⟨k, dp_bl hv, q H2 s2⟩⟩
theorem xt_not {k : Bool} (ha : XT X σ H a k) : XT X σ H (.UnaryOp .Not a pos) (!k) := fun H1 s Q q => ⟨_, pt_not rt_, ha H1 s _ q⟩
theorem xw_and1 {k : Bool} (ha : XT X σ H a k) : XW X σ H (.BoolOp .And [a] pos) k := fun H1 s Q q => ⟨_, pw_and1 rt_, ha H1 s _ q⟩
theorem xw_or1 {k : Bool} (ha : XT X σ H a k) : XW X σ H (.BoolOp .Or [a] pos) k := fun H1 s Q q => ⟨_, pw_or1 rt_, ha H1 s _ q⟩
theorem xw_andT {k : Bool} {rest : List Expr} (ha : XT X σ H a true) (hb : XW X σ H (.BoolOp .And (b :: rest) pos) k) : XW X σ H (.BoolOp .And (a :: b :: rest) pos) k := fun H1 s Q q =>
  ⟨_, pw_and rt_ rw_, ha H1 s _ fun H2 s2 => iteT (hb H2 (s.trans s2) Q fun H3 s3 => q H3 (s2.trans s3))⟩
theorem xw_andF {rest : List Expr} (ha : XT X σ H a false) : XW X σ H (.BoolOp .And (a :: b :: rest) pos) false := fun H1 s Q q =>
  ⟨_, pw_and rt_ rw_, ha H1 s _ fun H2 s2 => iteF (q H2 s2)⟩
theorem xw_orF {k : Bool} {rest : List Expr} (ha : XT X σ H a false) (hb : XW X σ H (.BoolOp .Or (b :: rest) pos) k) : XW X σ H (.BoolOp .Or (a :: b :: rest) pos) k := fun H1 s Q q =>
  ⟨_, pw_or rt_ rw_, ha H1 s _ fun H2 s2 => iteF (hb H2 (s.trans s2) Q fun H3 s3 => q H3 (s2.trans s3))⟩
theorem xw_orT {rest : List Expr} (ha : XT X σ H a true) : XW X σ H (.BoolOp .Or (a :: b :: rest) pos) true := fun H1 s Q q =>
  ⟨_, pw_or rt_ rw_, ha H1 s _ fun H2 s2 => iteT (q H2 s2)⟩
theorem XW.t {k : Bool} (h : XW X σ H e k) : XT X σ H e k := fun H1 s Q q => ⟨_, PW.pt rw_, h H1 s Q q⟩
theorem xt_and2 {k1 k2 : Bool} (ha : XT X σ H a k1) (hb : k1 = true → XT X σ H b k2) : XT X σ H (.BoolOp .And [a, b] pos) (k1 && k2) := by
  cases k1 with
  | true => exact (xw_andT ha (xw_and1 (hb rfl))).t
  | false => exact (xw_andF ha).t
theorem xt_or2 {k1 k2 : Bool} (ha : XT X σ H a k1) (hb : k1 = false → XT X σ H b k2) : XT X σ H (.BoolOp .Or [a, b] pos) (k1 || k2) := by
  cases k1 with
  | false => exact (xw_orF ha (xw_or1 (hb rfl))).t
  | true => exact (xw_orT ha).t
theorem xd_ifT {k : Expr} (hc : XT X σ H k true) (ha : XD X M σ H a d) : XD X M σ H (.IfExp k a b pos) d := fun H1 s Q q =>
  ⟨_, pe_ifExp rt_ re_ re_, hc H1 s _ fun H2 s2 => iteT (ha H2 (s.trans s2) Q fun u H3 s3 hu => q u H3 (s2.trans s3) hu)⟩
theorem xd_ifF {k : Expr} (hc : XT X σ H k false) (hb : XD X M σ H b d) : XD X M σ H (.IfExp k a b pos) d := fun H1 s Q q =>
  ⟨_, pe_ifExp rt_ re_ re_, hc H1 s _ fun H2 s2 => iteF (hb H2 (s.trans s2) Q fun u H3 s3 hu => q u H3 (s2.trans s3) hu)⟩
end
end Dl

set_option Elab.async false
set_option linter.all false
set_option maxRecDepth 100000
set_option maxHeartbeats 4000000
/-! Data layer, part 2: statements, subscripts, built-ins, lists, comprehensions, loops. -/
namespace Dl
open PySem PySem.Spec PyProof.Rows L2
section
variable {X : Cx} {M : List Addr} {σ : L2.St} {H H' : Hp} {e a b c o : Expr} {es : List Expr} {d d1 d2 : PyData} {ds es' : List PyData} {i : Nat} {x : Str} {v : V} {pos p1 p2 p3 : Pos} {D : Ends} {rest sts : List Stmt} {st : Stmt}
theorem XD.go {Q : VK} (h : XD X M σ H e d) (k : ∀ v H2, Same H H2 → Dq X.K (hid M H2) v d → Q v H2) : RE X e σ H Q := h H (Same.refl H) Q k
theorem XL.go {Q : VK} (h : XL X M σ H e ds) (k : ∀ p xs H2, Same H H2 → H p = none → H2 p = some (.lst xs) → DqAll X.K (hid M H2) xs ds → Q (.ref p) H2) : RE X e σ H Q := h H (Same.refl H) Q k
theorem XV.go {Q : VK} (h : XV X σ H e v) (k : ∀ H2, Same H H2 → Q v H2) : RE X e σ H Q := h H (Same.refl H) Q k
theorem XA.go {Q : List V → Hp → Prop} (h : XA X M σ H es ds) (k : ∀ vs H2, Same H H2 → DqAll X.K (hid M H2) vs ds → Q vs H2) : RA X es σ H Q := h H (Same.refl H) Q k
/-! ### statements -/
theorem rb_nil (h : D.nx σ H) : RB X [] D σ H := ⟨_, pss_nil, h⟩
theorem rb_cons (h : RS X st { D with nx := RB X rest D } σ H) : RB X (st :: rest) D σ H := ⟨_, pss_cons rs_ rb_, h⟩
/-- x = e, by the raw reading -/
theorem rb_setR (i : Nat) {x : Str} {pos' : Pos} (h : RE X e σ H fun v H1 => RB X rest D (σ.set i (some v)) H1) (hN : X.N.Nodup) (hi : X.N[i]? = some x := by rfl) (hx : Loc X.env.scope x := by first | exact Or.inl rfl | exact Or.inr rfl)
    (hs : swapsWith e (some (.Name x pos')) pos.line X.env = pure false := by rfl) (hf : X.fn x = true ∨ X.env.scope.names.lookup x = some .local := by first | exact .inl rfl | exact .inr rfl) : RB X (.Assign [.Name x pos'] e pos :: rest) D σ H :=
  ⟨_, pss_cons (ps_set hN hi hx re_ hs hf) rb_, h⟩
theorem rb_set (i : Nat) {x : Str} {pos' : Pos} (h : XD X M σ H e d) (k : ∀ v H1, Same H H1 → Dq X.K (hid M H1) v d → RB X rest D (σ.set i (some v)) H1) (hN : X.N.Nodup) (hi : X.N[i]? = some x := by rfl) (hx : Loc X.env.scope x := by first | exact Or.inl rfl | exact Or.inr rfl)
    (hs : swapsWith e (some (.Name x pos')) pos.line X.env = pure false := by rfl) (hf : X.fn x = true ∨ X.env.scope.names.lookup x = some .local := by first | exact .inl rfl | exact .inr rfl) : RB X (.Assign [.Name x pos'] e pos :: rest) D σ H :=
  rb_setR i (h H (Same.refl H) _ fun v H1 s hv => k v H1 s hv) hN hi hx hs hf
theorem rb_setL (i : Nat) {x : Str} {pos' : Pos} (h : XL X M σ H e ds) (k : ∀ p xs H1, Same H H1 → H p = none → H1 p = some (.lst xs) → DqAll X.K (hid M H1) xs ds → RB X rest D (σ.set i (some (.ref p))) H1) (hN : X.N.Nodup) (hi : X.N[i]? = some x := by rfl) (hx : Loc X.env.scope x := by first | exact Or.inl rfl | exact Or.inr rfl)
    (hs : swapsWith e (some (.Name x pos')) pos.line X.env = pure false := by rfl) (hf : X.fn x = true ∨ X.env.scope.names.lookup x = some .local := by first | exact .inl rfl | exact .inr rfl) : RB X (.Assign [.Name x pos'] e pos :: rest) D σ H :=
  rb_setR i (h H (Same.refl H) _ fun p xs H1 s hp h1 hd => k p xs H1 s hp h1 hd) hN hi hx hs hf
theorem rb_setV (i : Nat) {x : Str} {pos' : Pos} (h : XV X σ H e v) (k : ∀ H1, Same H H1 → RB X rest D (σ.set i (some v)) H1) (hN : X.N.Nodup) (hi : X.N[i]? = some x := by rfl) (hx : Loc X.env.scope x := by first | exact Or.inl rfl | exact Or.inr rfl)
    (hs : swapsWith e (some (.Name x pos')) pos.line X.env = pure false := by rfl) (hf : X.fn x = true ∨ X.env.scope.names.lookup x = some .local := by first | exact .inl rfl | exact .inr rfl) : RB X (.Assign [.Name x pos'] e pos :: rest) D σ H :=
  rb_setR i (h H (Same.refl H) _ fun H1 s => k H1 s) hN hi hx hs hf
theorem rb_retR (h : RE X e σ H D.rt) : RB X (.Return (some e) pos :: rest) D σ H := ⟨_, pss_cons (ps_ret re_) rb_, h⟩
theorem rb_ret (h : XD X M σ H e d) (k : ∀ v H1, Same H H1 → Dq X.K (hid M H1) v d → D.rt v H1) : RB X (.Return (some e) pos :: rest) D σ H := rb_retR (h H (Same.refl H) _ fun v H1 s hv => k v H1 s hv)
theorem rb_exprR (h : RE X e σ H fun _ H1 => RB X rest D σ H1) (hs : swapsWith e none pos.line X.env = pure false := by rfl) : RB X (.Expr e pos :: rest) D σ H := ⟨_, pss_cons (ps_expr re_ hs) rb_, h⟩
theorem rb_expr (h : XD X M σ H e d) (k : ∀ H1, Same H H1 → RB X rest D σ H1) (hs : swapsWith e none pos.line X.env = pure false := by rfl) : RB X (.Expr e pos :: rest) D σ H := rb_exprR (h H (Same.refl H) _ fun _ H1 s _ => k H1 s) hs
theorem rb_ifR {t f : List Stmt} (h : RT X c σ H fun k H1 => if k = true then RB X t { D with nx := RB X rest D } σ H1 else RB X f { D with nx := RB X rest D } σ H1) : RB X (.If c t f pos :: rest) D σ H := ⟨_, pss_cons (ps_if rt_ rb_ rb_) rb_, h⟩
theorem rb_if {k : Bool} {t f : List Stmt} (h : XT X σ H c k) (hT : k = true → ∀ H1, Same H H1 → RB X t { D with nx := RB X rest D } σ H1) (hF : k = false → ∀ H1, Same H H1 → RB X f { D with nx := RB X rest D } σ H1) : RB X (.If c t f pos :: rest) D σ H :=
  rb_ifR (h H (Same.refl H) _ fun H1 s => by
    cases k with
    | true => exact iteT (hT rfl H1 s)
    | false => exact iteF (hF rfl H1 s))
/-- if c: .. (no else) with c false -/
theorem rb_ifF {t : List Stmt} (h : XT X σ H c false) (k : ∀ H1, Same H H1 → RB X rest D σ H1) : RB X (.If c t [] pos :: rest) D σ H := rb_if h (fun z => Bool.noConfusion z) fun _ H1 s => rb_nil (k H1 s)
theorem rb_ifT {t f : List Stmt} (h : XT X σ H c true) (k : ∀ H1, Same H H1 → RB X t { D with nx := RB X rest D } σ H1) : RB X (.If c t f pos :: rest) D σ H := rb_if h (fun _ => k) fun z => Bool.noConfusion z
theorem rb_par (i j : Nat) {x y : Str} {px py pt : Pos} {kt k2 pt2} (ha : XA X M σ H [a, b] [d1, d2]) (k : ∀ v w H1, Same H H1 → Dq X.K (hid M H1) v d1 → Dq X.K (hid M H1) w d2 → RB X rest D ((σ.set i (some v)).set j (some w)) H1) (hN : X.N.Nodup)
    (hw : swappedStores [.Tuple [.Name x px, .Name y py] kt pt] (.Tuple [a, b] k2 pt2) X.env = pure (some [x, y]) := by rfl) (hc : X.calm = true := by rfl) (hi : X.N[i]? = some x := by rfl) (hj : X.N[j]? = some y := by rfl) (hij : i ≠ j := by decide)
    (hx : X.env.scope.names.lookup x = some .local := by rfl) (hy : X.env.scope.names.lookup y = some .local := by rfl)
    (hs : swapsWithSole [.Tuple [.Name x px, .Name y py] kt pt] (.Tuple [a, b] k2 pt2) pos.line X.env = pure false := by rfl) : RB X (.Assign [.Tuple [.Name x px, .Name y py] kt pt] (.Tuple [a, b] k2 pt2) pos :: rest) D σ H :=
  ⟨_, pss_cons (ps_par hc hN hi hj hij hx hy ra_ hw hs) rb_, ha H (Same.refl H) _ fun vs H1 s hv => by
    cases hv with
    | cons h1 h2 => cases h2 with
      | cons h2 h3 => cases h3; exact ⟨_, _, rfl, k _ _ H1 s h1 h2⟩⟩
/-- targets: a name; names of a tuple -/
def RG (X : Cx) (tg : Expr) : TG := fun v σ H Q => ∃ g, PG X tg g ∧ g v σ H Q
theorem rg_ {tg : Expr} : PG X tg (RG X tg) := ⟨fun pins s σ H v u Q I r ⟨_, h, q⟩ => h.run pins s σ H v u Q I r q⟩
def RGs (X : Cx) (tg : List Expr) : TGs := fun v σ H Q => ∃ g, PGs X tg g ∧ g v σ H Q
theorem rgs_ {tg : List Expr} : PGs X tg (RGs X tg) := ⟨fun pins s σ H v u Q I r ⟨_, h, q⟩ => h.run pins s σ H v u Q I r q⟩
theorem rg_name (i : Nat) {x : Str} {Q : L2.St → Hp → Prop} (q : Q (σ.set i (some v)) H) (hN : X.N.Nodup) (hi : X.N[i]? = some x := by rfl) (hx : Loc X.env.scope x := by first | exact Or.inl rfl | exact Or.inr rfl) (hf : X.fn x = true ∨ X.env.scope.names.lookup x = some .local := by first | exact .inl rfl | exact .inr rfl) :
    RG X (.Name x pos) v σ H Q := ⟨_, pg_name hN hi hx hf, q⟩
theorem rgs_nil {Q : L2.St → Hp → Prop} (q : Q σ H) : RGs X [] [] σ H Q := ⟨_, pgs_nil, rfl, q⟩
theorem rgs_cons {tg : Expr} {tgs : List Expr} {vs : List V} {Q : L2.St → Hp → Prop} (h : RG X tg v σ H fun σ1 H1 => RGs X tgs vs σ1 H1 Q) (hs : (assignEach (tg :: tgs) X.env).map (·.2) = assign tg X.env :: (assignEach tgs X.env).map (·.2) := by rfl) : RGs X (tg :: tgs) (v :: vs) σ H Q :=
  ⟨_, pgs_cons rg_ rgs_ hs, v, vs, rfl, h⟩
theorem rg_tup {tgs : List Expr} {k : Nat} {xs : List V} {p : Addr} {Q : L2.St → Hp → Prop} (hT : SqT X.K H p xs) (h : RGs X tgs xs σ H Q) (hc : X.calm = true := by rfl)
    (hn : (assignEach tgs X.env).length = xs.length := by rfl) (hst : (assignEach tgs X.env).findIdx? (·.1) = none := by rfl) : RG X (.Tuple tgs k pos) (.ref p) σ H Q := ⟨_, pg_tup (n := xs.length) hc rgs_ hn hst, p, xs, rfl, hT, rfl, h⟩
theorem rb_asgR {tg : Expr} (h : RE X e σ H fun v H1 => RG X tg v σ H1 (RB X rest D)) (hs : swapsWithSole [tg] e pos.line X.env = pure false := by rfl) (hw : swappedStores [tg] e X.env = pure none := by rfl)
    (h1 : (assignEach [tg] X.env).map (·.2) = [assign tg X.env] := by rfl) : RB X (.Assign [tg] e pos :: rest) D σ H := ⟨_, pss_cons (ps_asg re_ rg_ hs hw h1) rb_, h⟩
/-! ### calls of built-ins -/
theorem re_B {id : String} {r : List V → Hp → VK → Prop} {Q : VK} (hc : CallR X (.builtin id) r) (h : RA X (e :: es) σ H fun vs H1 => r vs H1 Q) (hm : X.mg x = none) (hv : bootBuiltins x = some (.builtin id)) (hg : Gl X x := by rfl) (hn : x ≠ "__name__" := by decide) (hdb : (x == ("__debug__" : Str)) = false := by decide)
    (he : starEach (e :: es) X.env = (false, eval e X.env) :: starEach es X.env := by rfl) (hpl : (backTo pos (starEach es X.env)).any (·.1) = false := by rfl) : RE X (.Call (.Name x p1) (e :: es) [] pos) σ H Q := ⟨_, pe_callB hc hg hm hv ra_ hn hdb he hpl, h⟩
theorem re_Ty {T : String} {r : List V → Hp → VK → Prop} {Q : VK} (hc : CallR X (.type T) r) (h : RA X (e :: es) σ H fun vs H1 => r vs H1 Q) (hm : X.mg x = none) (hv : bootBuiltins x = some (.type T)) (hg : Gl X x := by rfl) (hn : x ≠ "__name__" := by decide) (hdb : (x == ("__debug__" : Str)) = false := by decide)
    (he : starEach (e :: es) X.env = (false, eval e X.env) :: starEach es X.env := by rfl) (hpl : (backTo pos (starEach es X.env)).any (·.1) = false := by rfl) : RE X (.Call (.Name x p1) (e :: es) [] pos) σ H Q := ⟨_, pe_callTy hc hg hm hv ra_ hn hdb he hpl, h⟩
theorem ra_nil {Q : List V → Hp → Prop} (q : Q [] H) : RA X [] σ H Q := ⟨_, pa_nil, q⟩
theorem ra_cons {Q : List V → Hp → Prop} (h : RE X e σ H fun v H1 => RA X es σ H1 fun vs H2 => Q (v :: vs) H2) (hs : starEach (e :: es) X.env = (false, eval e X.env) :: starEach es X.env := by rfl) : RA X (e :: es) σ H Q := ⟨_, pa_cons re_ ra_ hs, h⟩
end
end Dl

set_option Elab.async false
set_option linter.all false
set_option maxRecDepth 100000
set_option maxHeartbeats 4000000
/-! Data layer, part 3: built-ins, subscripts, lists, loops, comprehensions. -/
namespace Dl
open PySem PySem.Spec PyProof.Rows L2
section
variable {X : Cx} {M : List Addr} {σ : L2.St} {H H' : Hp} {e a b c o : Expr} {es : List Expr} {d d1 d2 : PyData} {ds ds2 es' : List PyData} {x : Str} {v : V} {pos p1 p2 p3 : Pos} {D : Ends} {rest sts : List Stmt} {st : Stmt}
theorem re_mono {Q Q' : VK} (h : RE X e σ H Q) (k : ∀ v H1, Q v H1 → Q' v H1) : RE X e σ H Q' := by
  obtain ⟨t, ht, q⟩ := h
  exact ⟨fun σ H Q' => ∃ Q, t σ H Q ∧ ∀ v H1, Q v H1 → Q' v H1, ⟨fun pins s σ H Q' I ⟨Q, q, k⟩ => thn (ht.run pins s σ H Q I q) fun u s' ⟨v, H1, I1, r1, q1⟩ => ⟨v, H1, I1, r1, k v H1 q1⟩⟩, Q, q, k⟩
theorem ra_mono {Q Q' : List V → Hp → Prop} (h : RA X es σ H Q) (k : ∀ v H1, Q v H1 → Q' v H1) : RA X es σ H Q' := by
  obtain ⟨t, ht, q⟩ := h
  exact ⟨fun σ H Q' => ∃ Q, t σ H Q ∧ ∀ v H1, Q v H1 → Q' v H1, ⟨fun pos pins s σ H Q' I ⟨Q, q, k⟩ => thn (ht.run pos pins s σ H Q I q) fun u s' ⟨v, H1, I1, r1, q1⟩ => ⟨v, H1, I1, r1, k v H1 q1⟩⟩, Q, q, k⟩
theorem rb_mono {D D' : Ends} (h : RB X sts D σ H) (h1 : ∀ σ H, D.nx σ H → D'.nx σ H) (h2 : ∀ v H, D.rt v H → D'.rt v H) (h3 : ∀ σ H, D.bk σ H → D'.bk σ H) (h4 : ∀ σ H, D.ct σ H → D'.ct σ H) : RB X sts D' σ H := by
  obtain ⟨t, ht, q⟩ := h
  refine ⟨fun D' σ H => ∃ D, t D σ H ∧ (∀ σ H, D.nx σ H → D'.nx σ H) ∧ (∀ v H, D.rt v H → D'.rt v H) ∧ (∀ σ H, D.bk σ H → D'.bk σ H) ∧ (∀ σ H, D.ct σ H → D'.ct σ H), ⟨fun pins s σ H D' I ⟨D, q, h1, h2, h3, h4⟩ => thn (ht.run pins s σ H D I q) fun f s' hs => ?_⟩, D, q, h1, h2, h3, h4⟩
  cases f with
  | next => obtain ⟨σ', H', I', q⟩ := hs; exact ⟨σ', H', I', h1 _ _ q⟩
  | brk => obtain ⟨σ', H', I', q⟩ := hs; exact ⟨σ', H', I', h3 _ _ q⟩
  | cont => obtain ⟨σ', H', I', q⟩ := hs; exact ⟨σ', H', I', h4 _ _ q⟩
  | ret u => obtain ⟨v, σ', H', I', r, q⟩ := hs; exact ⟨v, σ', H', I', r, h2 _ _ q⟩
theorem ra_1 {Q : List V → Hp → Prop} (h : RE X e σ H fun v H1 => Q [v] H1) (hs : starEach [e] X.env = (false, eval e X.env) :: starEach [] X.env := by rfl) : RA X [e] σ H Q := ra_cons (re_mono h fun v H1 q => ra_nil q) hs
/-- a call of a built-in whose reading asks nothing but data -/
theorem xd_B {id : String} {r : List V → Hp → VK → Prop} (hc : CallR X (.builtin id) r) (ha : XA X M σ H (e :: es) ds)
    (hr : ∀ H1 vs, Same H H1 → DqAll X.K (hid M H1) vs ds → ∀ Q : VK, (∀ u H2, Same H1 H2 → Dq X.K (hid M H2) u d → Q u H2) → r vs H1 Q) (hm : X.mg x = none) (hv : bootBuiltins x = some (.builtin id)) (hg : Gl X x := by rfl) (hn : x ≠ "__name__" := by decide) (hdb : (x == ("__debug__" : Str)) = false := by decide)
    (he : starEach (e :: es) X.env = (false, eval e X.env) :: starEach es X.env := by rfl) (hpl : (backTo pos (starEach es X.env)).any (·.1) = false := by rfl) : XD X M σ H (.Call (.Name x p1) (e :: es) [] pos) d := fun H1 s Q q =>
  re_B hc (ha H1 s _ fun vs H2 s2 hvs => hr H2 vs (s.trans s2) hvs Q fun u H3 s3 hu => q u H3 (s2.trans s3) hu) hm hv hg hn hdb he hpl
theorem xd_len (hm : X.mg "len" = none) (ha : XD X M σ H e (.list ds)) (hg : Gl X "len" := by rfl) (he : starEach [e] X.env = (false, eval e X.env) :: starEach [] X.env := by rfl) (hpl : (backTo pos (starEach [] X.env)).any (·.1) = false := by rfl) :
    XD X M σ H (.Call (.Name "len" p1) [e] [] pos) (.int ds.length) :=
  xd_B call_len_seq (xa_cons ha xa_nil he) (fun H1 vs s h Q q => by
    cases h with
    | cons h1 h2 =>
      cases h2
      obtain ⟨p, xs, rfl, hp, hx⟩ := dp_lst h1
      exact ⟨p, xs, rfl, .inl (SqL.of (hid_le _ _ hp)), by rw [dpa_len hx]; exact q _ _ (Same.refl _) (.int _)⟩) hm PySem.boot_len hg (by decide) (by decide) he hpl
theorem xd_lenT (hm : X.mg "len" = none) (ha : XD X M σ H e (.tuple ds)) (hg : Gl X "len" := by rfl) (he : starEach [e] X.env = (false, eval e X.env) :: starEach [] X.env := by rfl) (hpl : (backTo pos (starEach [] X.env)).any (·.1) = false := by rfl) :
    XD X M σ H (.Call (.Name "len" p1) [e] [] pos) (.int ds.length) :=
  xd_B call_len_seq (xa_cons ha xa_nil he) (fun H1 vs s h Q q => by
    cases h with
    | cons h1 h2 =>
      cases h2
      obtain ⟨p, xs, rfl, hp, hx⟩ := dp_tup h1
      exact ⟨p, xs, rfl, .inr (same_seqT hid_le hp), by rw [dpa_len hx]; exact q _ _ (Same.refl _) (.int _)⟩) hm PySem.boot_len hg (by decide) (by decide) he hpl
theorem xd_abs {n : Int} (hm : X.mg "abs" = none) (ha : XD X M σ H e (.int n)) (hg : Gl X "abs" := by rfl) (he : starEach [e] X.env = (false, eval e X.env) :: starEach [] X.env := by rfl) (hpl : (backTo pos (starEach [] X.env)).any (·.1) = false := by rfl) :
    XD X M σ H (.Call (.Name "abs" p1) [e] [] pos) (.int (if n < 0 then -n else n)) :=
  xd_B call_abs (xa_cons ha xa_nil he) (fun H1 vs s h Q q => by
    cases h with
    | cons h1 h2 => cases h2; exact ⟨n, by rw [dp_int h1], q _ _ (Same.refl _) (.int _)⟩) hm (by decide +kernel) hg (by decide) (by decide) he hpl
theorem xd_max {m n : Int} (hm : X.mg "max" = none) (ha : XA X M σ H [a, b] [.int m, .int n]) (hc : X.calm = true := by rfl) (hg : Gl X "max" := by rfl) (he : starEach [a, b] X.env = (false, eval a X.env) :: starEach [b] X.env := by rfl) (hpl : (backTo pos (starEach [b] X.env)).any (·.1) = false := by rfl) :
    XD X M σ H (.Call (.Name "max" p1) [a, b] [] pos) (.int (if n > m then n else m)) :=
  xd_B (call_max2 hc) ha (fun H1 vs s h Q q => by
    cases h with
    | cons h1 h2 => cases h2 with
      | cons h2 h3 => cases h3; exact ⟨m, n, by rw [dp_int h1, dp_int h2], q _ _ (Same.refl _) (.int _)⟩) hm (by decide +kernel) hg (by decide) (by decide) he hpl
theorem xd_min {m n : Int} (hm : X.mg "min" = none) (ha : XA X M σ H [a, b] [.int m, .int n]) (hc : X.calm = true := by rfl) (hg : Gl X "min" := by rfl) (he : starEach [a, b] X.env = (false, eval a X.env) :: starEach [b] X.env := by rfl) (hpl : (backTo pos (starEach [b] X.env)).any (·.1) = false := by rfl) :
    XD X M σ H (.Call (.Name "min" p1) [a, b] [] pos) (.int (if n < m then n else m)) :=
  xd_B (call_min2 hc) ha (fun H1 vs s h Q q => by
    cases h with
    | cons h1 h2 => cases h2 with
      | cons h2 h3 => cases h3; exact ⟨m, n, by rw [dp_int h1, dp_int h2], q _ _ (Same.refl _) (.int _)⟩) hm (by decide +kernel) hg (by decide) (by decide) he hpl
/-- list(x) of a list, of a tuple -/
theorem xl_listT (hm : X.mg "list" = none) (L : Live M H) (ha : XD X M σ H e (.tuple ds)) (hg : Gl X "list" := by rfl) (he : starEach [e] X.env = (false, eval e X.env) :: starEach [] X.env := by rfl) (hpl : (backTo pos (starEach [] X.env)).any (·.1) = false := by rfl) :
    XL X M σ H (.Call (.Name "list" p1) [e] [] pos) ds := fun H1 s Q q =>
  re_Ty call_list_of (ra_1 (ha H1 s _ fun v H2 s2 hv => by
    obtain ⟨p, xs, rfl, hp, hx⟩ := dp_tup hv
    refine ⟨p, xs, rfl, .inr (same_seqT hid_le hp), fun l hl => q l xs _ (s2.trans (same_new hl)) (s2.free hl) upd_same ?_⟩
    rw [hid_new (L.mono (s.trans s2)) hl]
    exact hx.up (same_new (hid_free hl))) he) hm (by decide +kernel) hg (by decide) (by decide) he hpl
theorem xl_listL (hm : X.mg "list" = none) (L : Live M H) (ha : XD X M σ H e (.list ds)) (hg : Gl X "list" := by rfl) (he : starEach [e] X.env = (false, eval e X.env) :: starEach [] X.env := by rfl) (hpl : (backTo pos (starEach [] X.env)).any (·.1) = false := by rfl) :
    XL X M σ H (.Call (.Name "list" p1) [e] [] pos) ds := fun H1 s Q q =>
  re_Ty call_list_of (ra_1 (ha H1 s _ fun v H2 s2 hv => by
    obtain ⟨p, xs, rfl, hp, hx⟩ := dp_lst hv
    refine ⟨p, xs, rfl, .inl (SqL.of (hid_le _ _ hp)), fun l hl => q l xs _ (s2.trans (same_new hl)) (s2.free hl) upd_same ?_⟩
    rw [hid_new (L.mono (s.trans s2)) hl]
    exact hx.up (same_new (hid_free hl))) he) hm (by decide +kernel) hg (by decide) (by decide) he hpl
/-- tuple(x) of a list -/
theorem xd_tupleL (hm : X.mg "tuple" = none) (L : Live M H) (ha : XD X M σ H e (.list ds)) (hg : Gl X "tuple" := by rfl) (he : starEach [e] X.env = (false, eval e X.env) :: starEach [] X.env := by rfl) (hpl : (backTo pos (starEach [] X.env)).any (·.1) = false := by rfl) :
    XD X M σ H (.Call (.Name "tuple" p1) [e] [] pos) (.tuple ds) := fun H1 s Q q =>
  re_Ty call_tuple_of (ra_1 (ha H1 s _ fun v H2 s2 hv => by
    obtain ⟨p, xs, rfl, hp, hx⟩ := dp_lst hv
    refine ⟨p, xs, rfl, .inl ⟨SqL.of (hid_le _ _ hp), fun l hl => q _ _ (s2.trans (same_new hl)) ?_⟩⟩
    rw [hid_new (L.mono (s.trans s2)) hl]
    exact .tup (SqT.of upd_same) (hx.up (same_new (hid_free hl)))) he) hm (by decide +kernel) hg (by decide) (by decide) he hpl
theorem xd_intB {k : Bool} (hm : X.mg "int" = none) (ha : XD X M σ H e (.bool k)) (hg : Gl X "int" := by rfl) (he : starEach [e] X.env = (false, eval e X.env) :: starEach [] X.env := by rfl) (hpl : (backTo pos (starEach [] X.env)).any (·.1) = false := by rfl) :
    XD X M σ H (.Call (.Name "int" p1) [e] [] pos) (.int (if k then 1 else 0)) := fun H1 s Q q =>
  re_Ty call_int1 (ra_1 (ha H1 s _ fun v H2 s2 hv => .inr ⟨k, by rw [dp_bl hv], q _ _ s2 (.int _)⟩) he) hm (by decide +kernel) hg (by decide) (by decide) he hpl
/-! ### subscripts -/
theorem atI_map {α β : Type} {xs : List α} {ys : List β} {P : α → β → Prop} (hl : xs.length = ys.length) (hg : ∀ (i : Nat) (y : β), ys[i]? = some y → ∃ x, xs[i]? = some x ∧ P x y) {n : Int} {y : β} (h : atI ys n = some y) : ∃ x, atI xs n = some x ∧ P x y := by
  unfold atI at h ⊢
  rw [hl]
  cases e : ixN ys.length n with
  | none => rw [e] at h; cases h
  | some j =>
    rw [e] at h
    exact hg j y h
theorem xd_ixL {n : Int} (hs : PlainIx b) (ha : XD X M σ H a (.list ds)) (hb : XD X M σ H b (.int n)) (h : atI ds n = some d) : XD X M σ H (.Subscript a b pos) d := fun H1 s Q q =>
  ⟨_, pe_ix ix_list re_ re_ hs, ha H1 s _ fun v H2 s2 hv => hb H2 (s.trans s2) _ fun w H3 s3 hw => by
    obtain ⟨p, xs, rfl, hp, hx⟩ := dp_lst (hv.up (hid_mono s3))
    obtain ⟨u, hu, hd⟩ := atI_map (dpa_len hx) (fun i y h => dpa_get hx h) h
    exact ⟨p, xs, n, u, rfl, dp_int hw, SqL.of (hid_le _ _ hp), hu, q u H3 (s2.trans s3) hd⟩⟩
theorem xd_ixT {n : Int} (hs : PlainIx b) (ha : XD X M σ H a (.tuple ds)) (hb : XD X M σ H b (.int n)) (h : atI ds n = some d) : XD X M σ H (.Subscript a b pos) d := fun H1 s Q q =>
  ⟨_, pe_ix ix_tup re_ re_ hs, ha H1 s _ fun v H2 s2 hv => hb H2 (s.trans s2) _ fun w H3 s3 hw => by
    obtain ⟨p, xs, rfl, hp, hx⟩ := dp_tup (hv.up (hid_mono s3))
    obtain ⟨u, hu, hd⟩ := atI_map (dpa_len hx) (fun i y h => dpa_get hx h) h
    exact ⟨p, xs, n, u, rfl, dp_int hw, same_seqT hid_le hp, hu, q u H3 (s2.trans s3) hd⟩⟩
/-- xs[lo:hi] of a list -/
def XO (X : Cx) (σ : L2.St) (H : Hp) (e : Option Expr) (n : Option Int) : Prop := ∀ H1, Same H H1 → ∀ Q : Option Int → Hp → Prop, (∀ H2, Same H1 H2 → Q n H2) → ∃ t, PO X e t ∧ t σ H1 Q
theorem xo_none : XO X σ H none none := fun H1 s Q q => ⟨_, po_none, q H1 (Same.refl _)⟩
theorem xo_some {n : Int} (h : XD X M σ H e (.int n)) : XO X σ H (some e) (some n) := fun H1 s Q q => ⟨_, po_some re_, h H1 s _ fun v H2 s2 hv => ⟨n, dp_int hv, q H2 s2⟩⟩
def cutD (xs : List PyData) (lo hi : Option Int) : List PyData := (xs.drop (HT.sIx xs.length 0 lo)).take (HT.sIx xs.length xs.length hi - HT.sIx xs.length 0 lo)
def RO (X : Cx) (e : Option Expr) : L2.St → Hp → (Option Int → Hp → Prop) → Prop := fun σ H Q => ∃ t, PO X e t ∧ t σ H Q
theorem ro_ {e : Option Expr} : PO X e (RO X e) := ⟨fun pins s σ H Q I ⟨_, h, q⟩ => h.run pins s σ H Q I q⟩
theorem xl_cut {lo hi : Option Expr} {m n : Option Int} (L : Live M H) (ha : XD X M σ H a (.list ds)) (hl : XO X σ H lo m) (hu : XO X σ H hi n) : XL X M σ H (.Subscript a (.Slice lo hi none p2) pos) (cutD ds m n) := fun H1 s Q q =>
  ⟨_, pe_slice sl_list re_ ro_ ro_, ha H1 s _ fun v H2 s2 hv => hl H2 (s.trans s2) _ fun H3 s3 => hu H3 ((s.trans s2).trans s3) _ fun H4 s4 => by
    obtain ⟨p, xs, rfl, hp, hx⟩ := dp_lst (hv.up (hid_mono (s3.trans s4)))
    refine ⟨p, xs, rfl, SqL.of (hid_le _ _ hp), fun l hl => q l _ _ ((s2.trans (s3.trans s4)).trans (same_new hl)) ((s2.trans (s3.trans s4)).free hl) upd_same ?_⟩
    rw [hid_new (L.mono (s.trans (s2.trans (s3.trans s4)))) hl]
    have hz := dpa_len hx
    unfold cutV cutD
    rw [hz]
    exact (dpa_take _ (dpa_drop _ hx)).up (same_new (hid_free hl))⟩
/-! ### lists -/
theorem xl_cat (L : Live M H) (ha : XD X M σ H a (.list ds)) (hb : XD X M σ H b (.list ds2)) (hz : ds.length + ds2.length ≤ 100000) : XL X M σ H (.BinOp a .Add b pos) (ds ++ ds2) := fun H1 s Q q =>
  ⟨_, pe_op op_cat re_ re_, ha H1 s _ fun v H2 s2 hv => hb H2 (s.trans s2) _ fun w H3 s3 hw => by
    obtain ⟨p, xs, rfl, hp, hx⟩ := dp_lst (hv.up (hid_mono s3))
    obtain ⟨p', ys, rfl, hp', hy⟩ := dp_lst hw
    refine ⟨p, p', xs, ys, rfl, rfl, hid_le _ _ hp, hid_le _ _ hp', by rw [dpa_len hx, dpa_len hy]; exact small_sz hz, fun l hl => q l _ _ ((s2.trans s3).trans (same_new hl)) ((s2.trans s3).free hl) upd_same ?_⟩
    rw [hid_new (L.mono ((s.trans s2).trans s3)) hl]
    exact (dpa_app hx hy).up (same_new (hid_free hl))⟩
/-- l.append(e), l one of M's lists -/
theorem rb_append {l : Addr} {xs : List V} (hl : l ∈ M) (ho : XV X σ H o (.ref l)) (h1 : H l = some (.lst xs)) (he : XD X M σ H e d) (hz : xs.length < 100000) (k : ∀ v H1, Same H H1 → Dq X.K (hid M H1) v d → RB X rest D σ (upd H1 l (.lst (xs ++ [v]))))
    (hbase : attributeBase o "append" X.env (eval o X.env) = eval o X.env := by rfl)
    (hfew : ((backTo p2 (starEach [e] X.env)).all (fun x => !x.1) && (backToKw p2 (keywordEach [] X.env)).all (fun x => x.1.isSome) && decide ([e].length + ([] : List Keyword).length + (if ([] : List Keyword).isEmpty then 0 else 1) < 30)) = true := by rfl)
    (hline : (p1.endLine == p2.line) = true := by rfl) (hs : starEach [e] X.env = (false, eval e X.env) :: starEach [] X.env := by rfl) (hplain : (backTo p2 (starEach [] X.env)).any (·.1) = false := by rfl)
    (hsw : swapsWith (.Call (.Attribute o "append" p1) [e] [] p2) none pos.line X.env = pure false := by rfl) : RB X (.Expr (.Call (.Attribute o "append" p1) [e] [] p2) pos :: rest) D σ H :=
  rb_exprR ⟨_, pe_bm PySem.F.plainAttrs_list PySem.F.slot_list_append PySem.F.type_list_append mt_append re_ ra_ hbase hfew hline hs hplain,
    ho H (Same.refl H) _ fun H1 s1 => ⟨.inl ⟨rfl, xs, SqL.of (s1 _ _ h1)⟩, ra_1 (he H1 s1 _ fun v H2 s2 hv => ⟨l, xs, v, rfl, rfl, (s1.trans s2) _ _ h1, Nat.lt_of_lt_of_le hz (by decide), k v H2 (s1.trans s2) hv⟩) hs⟩⟩ hsw
/-- l.extend(e) -/
theorem rb_extend {l : Addr} {xs : List V} (hl : l ∈ M) (ho : XV X σ H o (.ref l)) (h1 : H l = some (.lst xs)) (he : XD X M σ H e (.list ds)) (hz : xs.length + ds.length ≤ 100000) (k : ∀ vs H1, Same H H1 → DqAll X.K (hid M H1) vs ds → RB X rest D σ (upd H1 l (.lst (xs ++ vs))))
    (hbase : attributeBase o "extend" X.env (eval o X.env) = eval o X.env := by rfl)
    (hfew : ((backTo p2 (starEach [e] X.env)).all (fun x => !x.1) && (backToKw p2 (keywordEach [] X.env)).all (fun x => x.1.isSome) && decide ([e].length + ([] : List Keyword).length + (if ([] : List Keyword).isEmpty then 0 else 1) < 30)) = true := by rfl)
    (hline : (p1.endLine == p2.line) = true := by rfl) (hs : starEach [e] X.env = (false, eval e X.env) :: starEach [] X.env := by rfl) (hplain : (backTo p2 (starEach [] X.env)).any (·.1) = false := by rfl)
    (hsw : swapsWith (.Call (.Attribute o "extend" p1) [e] [] p2) none pos.line X.env = pure false := by rfl) : RB X (.Expr (.Call (.Attribute o "extend" p1) [e] [] p2) pos :: rest) D σ H :=
  rb_exprR ⟨_, pe_bm PySem.F.plainAttrs_list PySem.F.slot_list_extend PySem.F.type_list_extend mt_extend re_ ra_ hbase hfew hline hs hplain,
    ho H (Same.refl H) _ fun H1 s1 => ⟨.inl ⟨rfl, xs, SqL.of (s1 _ _ h1)⟩, ra_1 (he H1 s1 _ fun v H2 s2 hv => by
      obtain ⟨b, ys, rfl, hb, hy⟩ := dp_lst hv
      exact ⟨l, b, xs, ys, rfl, rfl, (s1.trans s2) _ _ h1, hid_le _ _ hb, by rw [dpa_len hy]; exact small_sz hz, k ys H2 (s1.trans s2) hy⟩) hs⟩⟩ hsw
/-! ### loops -/
/-- for tg in e: .., e a list; Pv: by the turn; the known part must stand -/
theorem rb_for {tg : Expr} {body : List Stmt} (hit : XD X M σ H e (.list ds))
    (h : ∀ H1, Same H H1 → ∃ Pv : Nat → L2.St → Hp → Prop, Pv 0 σ H1 ∧ (∀ k σ' H', Pv k σ' H' → Same (hid M H1) (hid M H')) ∧
      (∀ k d, ds[k]? = some d → ∀ σ' H' v, Pv k σ' H' → Dq X.K (hid M H') v d → RG X tg v σ' H' fun σ2 H2 => RB X body { D with nx := Pv (k + 1), ct := Pv (k + 1), bk := RB X rest D } σ2 H2) ∧ ∀ σ' H', Pv ds.length σ' H' → RB X rest D σ' H')
    (hp : PassesOwn (model X.prog X.w) X.A X.env X.xe := by exact PassesOwn.never) (hc : X.calm = true := by rfl) (hs : ∀ x, foldedSetIterable e X.env x = pure x := by intro _; rfl) : RB X (.For tg e body [] pos :: rest) D σ H :=
  ⟨_, pss_cons (ps_for hp hc (pi_list re_) rg_ rb_ hs) rb_, hit H (Same.refl H) _ fun v H1 s1 hv => by
    obtain ⟨a, xs, rfl, ha, hx⟩ := dp_lst hv
    obtain ⟨Pv, h0, hk, hst, hd⟩ := h H1 s1
    refine ⟨a, rfl, ⟨xs, SqL.of (hid_le _ _ ha)⟩, for_list (xs := xs) Pv h0 (fun i σ' H' _ p => SqL.of (hid_le _ _ (hk i σ' H' p _ _ ha))) (fun i x σ' H' hi p => ?_) (by rw [dpa_len hx]; exact hd)⟩
    obtain ⟨d, h1, h2⟩ := dpa_get' hx hi
    exact hst i d h1 σ' H' x p (h2.up (hk i σ' H' p))⟩
theorem rb_forT {tg : Expr} {body : List Stmt} (hit : XD X M σ H e (.tuple ds))
    (h : ∀ H1, Same H H1 → ∃ Pv : Nat → L2.St → Hp → Prop, Pv 0 σ H1 ∧ (∀ k σ' H', Pv k σ' H' → Same (hid M H1) (hid M H')) ∧
      (∀ k d, ds[k]? = some d → ∀ σ' H' v, Pv k σ' H' → Dq X.K (hid M H') v d → RG X tg v σ' H' fun σ2 H2 => RB X body { D with nx := Pv (k + 1), ct := Pv (k + 1), bk := RB X rest D } σ2 H2) ∧ ∀ σ' H', Pv ds.length σ' H' → RB X rest D σ' H')
    (hp : PassesOwn (model X.prog X.w) X.A X.env X.xe := by exact PassesOwn.never) (hc : X.calm = true := by rfl) (hs : ∀ x, foldedSetIterable e X.env x = pure x := by intro _; rfl) : RB X (.For tg e body [] pos :: rest) D σ H :=
  ⟨_, pss_cons (ps_for hp hc (pi_tup re_) rg_ rb_ hs) rb_, hit H (Same.refl H) _ fun v H1 s1 hv => by
    obtain ⟨a, xs, rfl, ha, hx⟩ := dp_tup hv
    obtain ⟨Pv, h0, hk, hst, hd⟩ := h H1 s1
    refine ⟨a, rfl, ⟨xs, same_seqT hid_le ha⟩, for_tup (xs := xs) Pv h0 (fun i σ' H' _ p => same_seqT hid_le (same_seqT (hk i σ' H' p) ha)) (fun i x σ' H' hi p => ?_) (by rw [dpa_len hx]; exact hd)⟩
    obtain ⟨d, h1, h2⟩ := dpa_get' hx hi
    exact hst i d h1 σ' H' x p (h2.up (hk i σ' H' p))⟩
/-- for tg in range(e): .. -/
theorem rb_range {tg : Expr} {body : List Stmt} (hm : X.mg "range" = none) (hit : RE X e σ H fun v H1 => ∃ n : Nat, v = .int (n : Int) ∧ n < 2 ^ 61 ∧ ∃ Pv : Nat → L2.St → Hp → Prop, Pv 0 σ H1 ∧
      (∀ k σ' H', k < n → Pv k σ' H' → RG X tg (.int (k : Int)) σ' H' fun σ2 H2 => RB X body { D with nx := Pv (k + 1), ct := Pv (k + 1), bk := RB X rest D } σ2 H2) ∧ ∀ σ' H', Pv n σ' H' → RB X rest D σ' H')
    (hg : Gl X "range" := by rfl) (he : starEach [e] X.env = [(false, eval e X.env)] := by rfl) (hp : PassesOwn (model X.prog X.w) X.A X.env X.xe := by exact PassesOwn.never) (hc : X.calm = true := by rfl)
    (hs : ∀ x, foldedSetIterable (.Call (.Name "range" p1) [e] [] p2) X.env x = pure x := by intro _; rfl) : RB X (.For tg (.Call (.Name "range" p1) [e] [] p2) body [] pos :: rest) D σ H :=
  ⟨_, pss_cons (ps_for hp hc (pi_range1 hg hm ra_ he) rg_ rb_ hs) rb_, ra_1 (re_mono hit fun v H1 ⟨n, ev, hn, Pv, h0, hst, hd⟩ => by
    refine ⟨(n : Int), by rw [ev], by omega, by omega, ?_⟩
    rw [Int.toNat_natCast]
    refine for_range Pv h0 (fun i σ' H' hi p => ?_) hd
    rw [Int.zero_add]
    exact hst i σ' H' hi p) he⟩
end
/-! ### comprehensions -/
/-- what is read within a comprehension -/
def BE (X : Cx) (scope : Scope) (e : Expr) : TE := fun σ H Q => ∀ (s : Shared) (H0 : Hp) (C : Addr) (cl : List (Str × Addr)) (fp : List Addr), RE (X.blk s H0 scope (compEnvC scope cl C X.env) fp) e σ H Q
def BG (X : Cx) (scope : Scope) (e : Expr) : TG := fun v σ H Q => ∀ (s : Shared) (H0 : Hp) (C : Addr) (cl : List (Str × Addr)) (fp : List Addr), RG (X.blk s H0 scope (compEnvC scope cl C X.env) fp) e v σ H Q
def BT (X : Cx) (scope : Scope) (es : List Expr) : TT := fun σ H Q => ∀ (s : Shared) (H0 : Hp) (C : Addr) (cl : List (Str × Addr)) (fp : List Addr), ∃ t, PTs (X.blk s H0 scope (compEnvC scope cl C X.env) fp) es t ∧ t σ H Q
section
variable {X : Cx} {M : List Addr} {σ : L2.St} {H H' : Hp} {e a b c o elt tg iter : Expr} {ifs : List Expr} {scope : Scope} {own : List (Str × Nat)} {es : List Expr} {d d1 d2 : PyData} {ds ds2 es' : List PyData} {x : Str} {v : V} {pos p1 p2 p3 : Pos}
theorem be_ {s : Shared} {H0 : Hp} {C : Addr} {cl : List (Str × Addr)} {fp : List Addr} : PE (X.blk s H0 scope (compEnvC scope cl C X.env) fp) e (BE X scope e) := ⟨fun pins s' σ H Q I h => by
  obtain ⟨_, ht, q⟩ := h s H0 C cl fp
  exact ht.run pins s' σ H Q I q⟩
theorem bg_ {s : Shared} {H0 : Hp} {C : Addr} {cl : List (Str × Addr)} {fp : List Addr} : PG (X.blk s H0 scope (compEnvC scope cl C X.env) fp) e (BG X scope e) := ⟨fun pins s' σ H v u Q I r h => by
  obtain ⟨_, ht, q⟩ := h s H0 C cl fp
  exact ht.run pins s' σ H v u Q I r q⟩
theorem bt_ {s : Shared} {H0 : Hp} {C : Addr} {cl : List (Str × Addr)} {fp : List Addr} : PTs (X.blk s H0 scope (compEnvC scope cl C X.env) fp) es (BT X scope es) := ⟨fun pins s' σ H Q I h => by
  obtain ⟨_, ht, q⟩ := h s H0 C cl fp
  exact ht.run pins s' σ H Q I q⟩
theorem bt_nil {Q : Bool → Hp → Prop} (q : Q true H) : BT X scope [] σ H Q := fun _ _ _ _ _ => ⟨_, pts_nil, q⟩
theorem bt_one {k : Bool} {Q : Bool → Hp → Prop} (h : ∀ (s : Shared) (H0 : Hp) (C : Addr) (cl : List (Str × Addr)) (fp : List Addr), XT (X.blk s H0 scope (compEnvC scope cl C X.env) fp) σ H c k) (q : ∀ H2, Same H H2 → Q k H2) : BT X scope [c] σ H Q := fun s H0 C cl fp =>
  ⟨_, pts_one rt_, h s H0 C cl fp H (Same.refl H) _ q⟩
theorem rg_mono {Q Q' : L2.St → Hp → Prop} (h : RG X tg v σ H Q) (k : ∀ σ1 H1, Q σ1 H1 → Q' σ1 H1) : RG X tg v σ H Q' := by
  obtain ⟨g, hg, q⟩ := h
  exact ⟨fun v σ H Q' => ∃ Q, g v σ H Q ∧ ∀ σ1 H1, Q σ1 H1 → Q' σ1 H1, ⟨fun pins s σ H v u Q' I r ⟨Q, q, k⟩ => thn (hg.run pins s σ H v u Q I r q) fun _ s' ⟨σ', H', I', q'⟩ => ⟨σ', H', I', k _ _ q'⟩⟩, Q, q, k⟩
theorem bg_mono {Q Q' : L2.St → Hp → Prop} (h : BG X scope tg v σ H Q) (k : ∀ σ1 H1, Q σ1 H1 → Q' σ1 H1) : BG X scope tg v σ H Q' := fun s H0 C cl fp => rg_mono (h s H0 C cl fp) k
theorem be_mono {Q Q' : VK} (h : BE X scope e σ H Q) (k : ∀ v H1, Q v H1 → Q' v H1) : BE X scope e σ H Q' := fun s H0 C cl fp => re_mono (h s H0 C cl fp) k
theorem bt_mono {Q Q' : Bool → Hp → Prop} (h : BT X scope es σ H Q) (k : ∀ v H1, Q v H1 → Q' v H1) : BT X scope es σ H Q' := fun s H0 C cl fp => by
  obtain ⟨t, ht, q⟩ := h s H0 C cl fp
  exact ⟨fun σ H Q' => ∃ Q, t σ H Q ∧ ∀ v H1, Q v H1 → Q' v H1, ⟨fun pins s σ H Q' I ⟨Q, q, k⟩ => thn (ht.run pins s σ H Q I q) fun u s' ⟨H1, I1, q1⟩ => ⟨H1, I1, k u H1 q1⟩⟩, Q, q, k⟩
theorem hid_step {p : Addr} {H1 : Hp} (hp : H p = none) (s : Same H H1) : Same (hid M H) (hid (p :: M) H1) := fun b o e => by
  have nM : b ∉ M := fun z => by unfold hid at e; rw [if_pos z] at e; cases e
  have e' := hid_le _ _ e
  have np : b ≠ p := ne_of_none e' hp
  rw [hid_of (by simp [np, nM])]
  exact s _ _ e'
theorem hid_upd_ne {p : Addr} {o : HO} {H1 : Hp} : hid (p :: M) (upd H1 p o) = hid (p :: M) H1 := hid_upd_mem (List.mem_cons_self ..)
/-- [elt for tg in iter if ..]: f gives what an item comes to, none where it is left out -/
theorem xl_comp (f : PyData → Option PyData) (L : Live M H) (hN : X.N.Nodup) (hit : XD X M σ H iter (.list ds)) (ok : BlkOk X.N X.env.scope scope own) (hz : ds.length ≤ 100000)
    (hst : ∀ p d v H1, d ∈ ds → H p = none → Same H H1 → Live (p :: M) H1 → Dq X.K (hid (p :: M) H1) v d → BG X scope tg v (wipe σ (own.map (·.2))) H1 fun σ2 H2 => wipe σ2 (own.map (·.2)) = wipe σ (own.map (·.2)) ∧ BT X scope ifs σ2 H2 fun k H3 =>
      Same H1 H3 ∧ ((k = true ∧ ∃ d', f d = some d' ∧ BE X scope elt σ2 H3 fun y H4 => Same H3 H4 ∧ Dq X.K (hid (p :: M) H4) y d') ∨ (k = false ∧ f d = none)))
    (hc : X.calm = true := by rfl) (hs : ∀ x, foldedSetIterable iter X.env x = pure x := by intro _; rfl) : XL X M σ H (.ListComp elt [⟨tg, iter, ifs, 0⟩] scope pos) (ds.filterMap f) := fun H1 s1 Q q =>
  ⟨_, pe_lc (own := own) hc hN (pi_list re_) ok (fun _ _ _ _ _ => bg_) (fun _ _ _ _ _ => bt_) (fun _ _ _ _ _ => be_) hs, hit H1 s1 _ fun v H2 s2 hv => by
    obtain ⟨a, xs, rfl, ha, hx⟩ := dp_lst hv
    have L2' : Live M H2 := L.mono (s1.trans s2)
    refine ⟨a, rfl, ⟨xs, SqL.of (hid_le _ _ ha)⟩, fun p hp => ?_⟩
    have hpM : p ∉ M := L2'.fresh hp
    have hp0 : H p = none := (s1.trans s2).free hp
    refine lc_list (xs := xs) (a := a) (fun i H' => Same H2 H' ∧ ∃ acc, H' p = some (.lst acc) ∧ DqAll X.K (hid (p :: M) H') acc ((ds.take i).filterMap f)) ⟨same_new hp, [], upd_same, by simpa using DqAll.nil⟩ (fun i H' _ w => SqL.of (w.1 _ _ (hid_le _ _ ha))) (fun i x H' hi w => ?_) (fun H' w => ?_)
    · obtain ⟨sH, acc, hacc, hda⟩ := w
      obtain ⟨d, hd1, hd2⟩ := dpa_get' hx hi
      have hdm : d ∈ ds := List.mem_of_getElem? hd1
      have etake : ds.take (i + 1) = ds.take i ++ [d] := by
        rw [List.take_add_one, hd1]; rfl
      have hlen : acc.length < sizeLine := by
        rw [dpa_len hda]
        have h1 : ((ds.take i).filterMap f).length ≤ (ds.take i).length := List.length_filterMap_le ..
        have h2 : (ds.take i).length ≤ i := by rw [List.length_take]; omega
        have h3 : i < ds.length := (List.getElem?_eq_some_iff.mp hd1).1
        have h4 : 100000 < sizeLine := by decide
        omega
      have Lp : Live (p :: M) H' := fun b hb => by
        rcases List.mem_cons.mp hb with z | hb
        · subst z; rw [hacc]; simp
        · exact L2'.mono sH b hb
      have kx : Dq X.K (hid (p :: M) H') x d := hd2.up (hid_step hp sH)
      refine bg_mono (hst p d x H' hdm hp0 ((s1.trans s2).trans sH) Lp kx) fun σ2 Ha ⟨hw, hbt⟩ => ⟨hw, bt_mono hbt fun k Hb ⟨sb, hk⟩ => ?_⟩
      have sH' : Same H' Hb := sb
      rcases hk with ⟨hk, d', hf, hbe⟩ | ⟨hk, hf⟩
      · subst hk
        refine iteT (be_mono hbe fun y Hc ⟨sc, hy⟩ => ?_)
        have sd := sH'.trans sc
        refine ⟨acc, sd _ _ hacc, hlen, fun b o e => ?_, acc ++ [y], upd_same, ?_⟩
        · have nb : b ≠ p := ne_of_none e hp
          rw [upd_ne nb]
          exact sd _ _ (sH _ _ e)
        · rw [hid_upd_ne, etake, List.filterMap_append]
          have e2 : [d].filterMap f = [d'] := by simp [hf]
          rw [e2]
          exact dpa_app (hda.up (hid_mono sd)) (.cons hy .nil)
      · subst hk
        refine iteF ⟨sH.trans sH', acc, sH' _ _ hacc, ?_⟩
        rw [etake, List.filterMap_append]
        have e2 : [d].filterMap f = [] := by simp [hf]
        rw [e2, List.append_nil]
        exact hda.up (hid_mono sH')
    · obtain ⟨sH, acc, hacc, hda⟩ := w
      have e1 : ds.take xs.length = ds := by rw [dpa_len hx]; exact List.take_length
      rw [e1] at hda
      refine q p acc H' (s2.trans sH) (s2.free hp) hacc (hda.up fun b o e => ?_)
      have n1 : b ∉ p :: M := fun z => by unfold hid at e; rw [if_pos z] at e; cases e
      rw [hid_of (fun z => n1 (List.mem_cons_of_mem _ z))]
      exact hid_le _ _ e⟩
end
end Dl

set_option Elab.async false
set_option linter.all false
set_option maxRecDepth 100000
set_option maxHeartbeats 4000000
/-! Data layer, part 4: own defs by data, calls where no repr is under way, repr, isinstance, instances. -/
namespace Dl
open PySem PySem.Spec PyProof.Rows L2
/-! ### a def by data -/
/-- arguments ds with R ds d: the data d comes back, all stands -/
def spR (K : PySem.W.Frag) (R : List PyData → PyData → Prop) : Sp := fun vs H Q _ => ∃ (M : List Addr) (ds : List PyData) (d : PyData), Live M H ∧ DqAll K (hid M H) vs ds ∧ R ds d ∧ ∀ v H1, Same H H1 → Dq K (hid M H1) v d → Q v H1
/-- .. a new list of the data es -/
def spL (K : PySem.W.Frag) (R : List PyData → List PyData → Prop) : Sp := fun vs H Q _ => ∃ (M : List Addr) (ds es : List PyData), Live M H ∧ DqAll K (hid M H) vs ds ∧ R ds es ∧ ∀ p xs H1, Same H H1 → H p = none → H1 p = some (.lst xs) → DqAll K (hid M H1) xs es → Q (.ref p) H1
section
variable {X : Cx} {M : List Addr} {σ : L2.St} {H H' : Hp} {e a b c o : Expr} {es : List Expr} {d d1 d2 : PyData} {ds ds2 es' : List PyData} {x : Str} {v : V} {pos p1 p2 p3 : Pos} {D : Ends} {rest sts : List Stmt} {st : Stmt} {k : Nat} {f C : Addr} {fd : FuncData} {ps : List Str}
theorem re_call {sp : Sp} {Q : VK} (F : FnOk X.prog X.w X.K X.mg X.base CX0 k f fd ps sp) (hr : Room k X.A) (hm : X.mg x = some (.ref f)) (hk : PySem.W.keepIn X.K (.ref f) = true) (hb : Binds X.K fd ps []) (ha : RA X (e :: es) σ H fun vs H1 => sp vs H1 Q E0) (hg : Gl X x := by rfl)
    (hdb : (x == ("__debug__" : Str)) = false := by decide) (he : starEach (e :: es) X.env = (false, eval e X.env) :: starEach es X.env := by rfl) (hpl : (backTo pos (starEach es X.env)).any (·.1) = false := by rfl) : RE X (.Call (.Name x p1) (e :: es) [] pos) σ H Q :=
  ⟨_, pe_call F hr hg hm hk hb .nil pass0 ra_ hdb he hpl, ra_mono ha fun vs H1 q => by rw [List.append_nil]; exact q⟩
theorem re_callD {sp : Sp} {Q : VK} {dvs : List V} {dl : List Value} (F : FnOk X.prog X.w X.K X.mg X.base CX0 k f fd ps sp) (hr : Room k X.A) (hm : X.mg x = some (.ref f)) (hk : PySem.W.keepIn X.K (.ref f) = true) (hb : Binds X.K fd ps dl) (hd : Vals dvs dl) (ha : RA X (e :: es) σ H fun vs H1 => sp (vs ++ dvs) H1 Q E0) (hg : Gl X x := by rfl)
    (hdb : (x == ("__debug__" : Str)) = false := by decide) (he : starEach (e :: es) X.env = (false, eval e X.env) :: starEach es X.env := by rfl) (hpl : (backTo pos (starEach es X.env)).any (·.1) = false := by rfl) : RE X (.Call (.Name x p1) (e :: es) [] pos) σ H Q :=
  ⟨_, pe_call F hr hg hm hk hb hd pass0 ra_ hdb he hpl, ha⟩
theorem xd_call {R : List PyData → PyData → Prop} (L : Live M H) (F : FnOk X.prog X.w X.K X.mg X.base CX0 k f fd ps (spR X.K R)) (hr : Room k X.A) (hm : X.mg x = some (.ref f)) (hk : PySem.W.keepIn X.K (.ref f) = true) (hb : Binds X.K fd ps []) (ha : XA X M σ H (e :: es) ds) (hR : R ds d) (hg : Gl X x := by rfl)
    (hdb : (x == ("__debug__" : Str)) = false := by decide) (he : starEach (e :: es) X.env = (false, eval e X.env) :: starEach es X.env := by rfl) (hpl : (backTo pos (starEach es X.env)).any (·.1) = false := by rfl) : XD X M σ H (.Call (.Name x p1) (e :: es) [] pos) d := fun H1 s Q q =>
  re_call F hr hm hk hb (ha H1 s _ fun vs H2 s2 hv => ⟨M, ds, d, L.mono (s.trans s2), hv, hR, fun v H3 s3 hd => q v H3 (s2.trans s3) hd⟩) hg hdb he hpl
theorem xl_call {R : List PyData → List PyData → Prop} (L : Live M H) (F : FnOk X.prog X.w X.K X.mg X.base CX0 k f fd ps (spL X.K R)) (hr : Room k X.A) (hm : X.mg x = some (.ref f)) (hk : PySem.W.keepIn X.K (.ref f) = true) (hb : Binds X.K fd ps []) (ha : XA X M σ H (e :: es) ds) (hR : R ds ds2) (hg : Gl X x := by rfl)
    (hdb : (x == ("__debug__" : Str)) = false := by decide) (he : starEach (e :: es) X.env = (false, eval e X.env) :: starEach es X.env := by rfl) (hpl : (backTo pos (starEach es X.env)).any (·.1) = false := by rfl) : XL X M σ H (.Call (.Name x p1) (e :: es) [] pos) ds2 := fun H1 s Q q =>
  re_call F hr hm hk hb (ha H1 s _ fun vs H2 s2 hv => ⟨M, ds, ds2, L.mono (s.trans s2), hv, hR, fun p xs H3 s3 hp h3 hd => q p xs H3 (s2.trans s3) (s2.free hp) h3 hd⟩) hg hdb he hpl
/-! ### a def, called where no repr is under way -/
structure FnG (P : Program) (w : World) (K : PySem.W.Frag) (mg : Str → Option Value) (base : Heap) (k : Nat) (f : Addr) (fd : FuncData) (ps : List Str) (sp : Sp) : Prop where
  len : ∀ vs H Q E, sp vs H Q E → vs.length = ps.length
  run : ∀ (A : Around), A.guards = some [] → Room k A → ∀ (outer : List Env) (s : Shared) (H : Hp) (args : Args) (us : List Value) (vs : List V) (Q : VK) (E : XK), Env0 P w K mg base A outer s H → BindsTo s fd args (ps.zip us) → Vals vs us → sp vs H Q E →
    codeAny (model P w) A (.call (.ref f) args) (CR CX0 outer P w H s Q E) s
theorem fn_g {P : Program} {w : World} {K : PySem.W.Frag} {mg : Str → Option Value} {base : Heap} {sp : Sp} {qual x : Str} {st : Stmt} {N : List Str} (F : Fun K x qual st f fd) (S : FnScope N ps (defScope st)) (len : ∀ vs H Q E, sp vs H Q E → vs.length = ps.length)
    (hbody : ∀ (cdv : Value) (A : Around) (outer : List Env) (s : Shared) (H : Hp) (vs : List V) (Q : VK) (E : XK), A.guards = some [] → Room k (A.deeper (envOfC qual (defScope st) s.heap.objs.size f cdv)) → sp vs H Q E →
      RB (cxOf CX0 P w K mg base N qual (defScope st) f cdv A outer s H E).nox (defBody st) { nx := fun _ H1 => Q .non H1, rt := Q } (start N vs) H) : FnG P w K mg base (k + 1) f fd ps sp where
  len := len
  run := fun A hA hr outer s H args us vs Q E e0 hb r hsp => by
    obtain ⟨oc, od, kV, doc, pm, an, cdv, ct, osl, hfd, lk, hcd⟩ := F.ex
    subst hfd
    have hz := len _ _ _ _ hsp
    have KX : K.In s.heap := e0.mod.kin.keeps (fun b o e => (e0.bs b o e).1)
    have nl : s.heap.NoLimit := e0.mod.nolimit.keeps (fun b o e => (e0.bs b o e).1)
    have kinds : ∀ y ∈ ps.zip us, (defScope st).names.lookup y.1 = some .local ∨ ((defScope st).names.lookup y.1 = some .cell ∧ ((cellsFrom (s.heap.objs.size + 1) (defScope st).names []).lookup y.1).isSome = true) := by
      intro y hy
      rcases S.par y.1 (List.of_mem_zip (show (y.1, y.2) ∈ ps.zip us from hy)).1 with z | z
      · exact .inl z
      · exact .inr ⟨z, PySem.W.cellsFrom_some _ _ _ (.inl z)⟩
    refine codeAny_call_function (Room.depth hr) (KX _ _ lk) rfl S.co S.gen rfl (PySem.W.codeRec_of KX hcd) (hb _ _ _ _ ?_)
    refine wpAny_newFunctionEnv_cells S.kind kinds (fun env henv s1 inc => ?_)
    subst henv
    refine ⟨nl.keeps inc.toInCall.keep, codeAny_func ?_⟩
    obtain ⟨t, ht, q⟩ := hbody cdv A outer s H vs Q E hA (hr.deeper _) hsp
    have I0 := inv_start (CX := CX0) (E := E) S hr.hd e0 hz r inc
    refine wpAny_mono (ht.nox.run [] s1 (start N vs) H _ I0 q) (fun fl s2 hs => ?_) (fun _ _ z => z)
    cases fl with
    | ret u =>
      obtain ⟨v, _, H2, J, rv, q2⟩ := hs
      exact ⟨v, H2, J.os, J.bare, J.base, J.hok, rv, q2⟩
    | next =>
      obtain ⟨_, H2, J, q2⟩ := hs
      exact ⟨.non, H2, J.os, J.bare, J.base, J.hok, rfl, q2⟩
    | brk => obtain ⟨_, _, _, q2⟩ := hs; exact q2.elim
    | cont => obtain ⟨_, _, _, q2⟩ := hs; exact q2.elim
/-- f(..), f such a def -/
theorem re_callG {sp : Sp} {Q : VK} (F : FnG X.prog X.w X.K X.mg X.base k f fd ps sp) (hA : X.A.guards = some []) (hr : Room k X.A) (hm : X.mg x = some (.ref f)) (hk : PySem.W.keepIn X.K (.ref f) = true) (hb : Binds X.K fd ps []) (ha : RA X (e :: es) σ H fun vs H1 => sp vs H1 Q E0) (hg : Gl X x := by rfl)
    (hdb : (x == ("__debug__" : Str)) = false := by decide) (he : starEach (e :: es) X.env = (false, eval e X.env) :: starEach es X.env := by rfl) (hpl : (backTo pos (starEach es X.env)).any (·.1) = false := by rfl) : RE X (.Call (.Name x p1) (e :: es) [] pos) σ H Q := by
  refine ⟨fun σ H Q => RA X (e :: es) σ H fun vs H1 => sp vs H1 Q E0, ⟨fun pins s σ H Q I h => ?_⟩, ha⟩
  refine wpAny_Call_Name_kw (ld_glob I hg hm ?_ hdb)
  refine PySem.W.callWith_K (h₀ := X.base) I.ok.mod.kin hk (thn (ra_.run pos pins s σ H _ I h) fun us s1 ⟨vs, H1, I1, r, q⟩ => ⟨I1.kIn, ?_⟩) he hpl
  have hz : us.length = ps.length := by rw [← r.length]; exact F.len _ _ _ _ q
  have hb' := hb s1 us I1.kIn (by rw [List.append_nil]; exact hz)
  rw [List.append_nil] at hb'
  refine wpAny_call (codeAny_mono (F.run X.A hA hr X.stack s1 H1 ⟨us, []⟩ us vs Q E0 I1.env0 hb' r q) fun r' s' hq => ?_)
  cases r' with
  | error e => exact hq.elim
  | ok fl =>
    cases fl with
    | ret u => exact I1.after hq
    | next => exact hq.elim
    | brk => exact hq.elim
    | cont => exact hq.elim
/-! ### repr of data -/
theorem call_reprD (hA : X.A.guards = some []) (hu : X.A.units + 64 < cLine) : CallR X (.builtin "repr") (fun xs H Q => ∃ (p : Addr) (d : PyData), xs = [.ref p] ∧ Dp X.K H (.ref p) d ∧ d.showable = true ∧ d.hasDict = false ∧ d.depth ≤ 60 ∧ d.shown.length ≤ sizeLine ∧ Q (.str d.shown) H) := by
  intro pins s σ H xs us Q I r h
  obtain ⟨p, d, rfl, hd, h1, h2, h3, h4, q⟩ := h
  obtain ⟨u, rfl, rx⟩ := vals1 r
  obtain ⟨as, rd⟩ := Dp.reads I d _ u hd rx
  cases rx
  exact repr_of_reads' rd h1 (fun z => by rw [h2] at z; cases z) hA (by omega) (fun _ _ z => z) (fun h' u tk hk => ⟨.str d.shown, H, I.kept (t' := tk) hk, ⟨u, rfl⟩, q⟩) h4
/-- repr(a) != repr(b) of the same data: False -/
theorem xt_reprNe {pa pb : Pos} (hA : X.A.guards = some []) (hu : X.A.units + 64 < cLine) (hm : X.mg "repr" = none) (ha : XD X M σ H a (.list ds)) (hb : XD X M σ H b (.list ds)) (h1 : (PyData.list ds).showable = true) (h2 : (PyData.list ds).hasDict = false) (h3 : (PyData.list ds).depth ≤ 60) (h4 : (PyData.list ds).shown.length ≤ sizeLine) (hg : Gl X "repr" := by rfl)
    (he : starEach [a] X.env = (false, eval a X.env) :: starEach [] X.env := by rfl) (hpl : (backTo pa (starEach [] X.env)).any (·.1) = false := by rfl) (he2 : starEach [b] X.env = (false, eval b X.env) :: starEach [] X.env := by rfl) (hpl2 : (backTo pb (starEach [] X.env)).any (·.1) = false := by rfl) :
    XT X σ H (.Compare (.Call (.Name "repr" p1) [a] [] pa) [.NotEq] [.Call (.Name "repr" p2) [b] [] pb] pos) false := by
  have key : ∀ {e : Expr} {pp qq : Pos}, XD X M σ H e (.list ds) → starEach [e] X.env = (false, eval e X.env) :: starEach [] X.env → (backTo qq (starEach [] X.env)).any (·.1) = false → XD X M σ H (.Call (.Name "repr" pp) [e] [] qq) (.str (PyData.list ds).shown) := fun {e pp qq} h z1 z2 H1 s Q q =>
    re_B (call_reprD hA hu) (ra_1 (h H1 s _ fun v H2 s2 hv => by
      obtain ⟨p, xs, rfl, hp, hx⟩ := dp_lst hv
      exact ⟨p, _, rfl, (hv.up hid_le).dp, h1, h2, h3, h4, q _ H2 s2 (.str _)⟩) z1) hm (by decide +kernel) hg (by decide) (by decide) z1 z2
  refine xt_cmp op_ne (key ha he hpl) (key hb he2 hpl2) fun H1 v w s hv hw Q q => ?_
  rw [dp_str hv, dp_str hw]
  exact ⟨rfl, by rw [decide_eq_true rfl]; exact q H1 (Same.refl _)⟩
theorem xd_reprEq {pa pb : Pos} (hA : X.A.guards = some []) (hu : X.A.units + 64 < cLine) (hm : X.mg "repr" = none) (ha : XD X M σ H a (.list ds)) (hb : XD X M σ H b (.list ds)) (h1 : (PyData.list ds).showable = true) (h2 : (PyData.list ds).hasDict = false) (h3 : (PyData.list ds).depth ≤ 60) (h4 : (PyData.list ds).shown.length ≤ sizeLine) (hg : Gl X "repr" := by rfl)
    (he : starEach [a] X.env = (false, eval a X.env) :: starEach [] X.env := by rfl) (hpl : (backTo pa (starEach [] X.env)).any (·.1) = false := by rfl) (he2 : starEach [b] X.env = (false, eval b X.env) :: starEach [] X.env := by rfl) (hpl2 : (backTo pb (starEach [] X.env)).any (·.1) = false := by rfl) :
    XD X M σ H (.Compare (.Call (.Name "repr" p1) [a] [] pa) [.Eq] [.Call (.Name "repr" p2) [b] [] pb] pos) (.bool true) := by
  have key : ∀ {e : Expr} {pp qq : Pos}, XD X M σ H e (.list ds) → starEach [e] X.env = (false, eval e X.env) :: starEach [] X.env → (backTo qq (starEach [] X.env)).any (·.1) = false → XD X M σ H (.Call (.Name "repr" pp) [e] [] qq) (.str (PyData.list ds).shown) := fun {e pp qq} h z1 z2 H1 s Q q =>
    re_B (call_reprD hA hu) (ra_1 (h H1 s _ fun v H2 s2 hv => by
      obtain ⟨p, xs, rfl, hp, hx⟩ := dp_lst hv
      exact ⟨p, _, rfl, (hv.up hid_le).dp, h1, h2, h3, h4, q _ H2 s2 (.str _)⟩) z1) hm (by decide +kernel) hg (by decide) (by decide) z1 z2
  refine xd_cmp op_eq (key ha he hpl) (key hb he2 hpl2) fun H1 v w s hv hw Q q => ?_
  rw [dp_str hv, dp_str hw]
  exact ⟨rfl, by rw [decide_eq_true rfl]; exact q _ H1 (Same.refl _) (.bl _)⟩
/-! ### isinstance -/
def tyN : PyData → String
  | .none => "NoneType"
  | .bool _ => "bool"
  | .int _ => "int"
  | .str _ => "str"
  | .list _ => "list"
  | .tuple _ => "tuple"
  | .dict _ => "dict"
theorem ty_dq {K : PySem.W.Frag} (h : Dq K H v d) : TyX K H v (.type (tyN d)) := by
  cases h with
  | non => exact .base .non
  | bl b => exact .base (.bl b)
  | int i => exact .base (.int i)
  | str z => exact .base (.str z)
  | lst h1 _ => exact .base (.lst h1)
  | tup h1 _ =>
    rcases h1 with (h1 | ⟨o, h1⟩) | ⟨o, its, n, h1, h2, _⟩
    · exact .base (.tup h1)
    · exact .fTuple h1
    · exact .kTuple h1 h2
/-- isinstance(a, T), T a built-in type by its name -/
theorem xd_is1 {T : String} {r : Bool} {nm : Str} (hk : kitB (tyN d) T = some r) (hm : X.mg "isinstance" = none) (hmT : X.mg nm = none) (hvT : bootBuiltins nm = some (.type T)) (ha : XD X M σ H a d) (hg : Gl X "isinstance" := by rfl) (hgT : Gl X nm := by rfl) (hnT : nm ≠ "__name__" := by decide) (hdT : (nm == ("__debug__" : Str)) = false := by decide)
    (he : starEach [a, .Name nm p2] X.env = (false, eval a X.env) :: starEach [.Name nm p2] X.env := by rfl) (he2 : starEach [.Name nm p2] X.env = (false, eval (.Name nm p2) X.env) :: starEach [] X.env := by rfl) (hpl : (backTo pos (starEach [.Name nm p2] X.env)).any (·.1) = false := by rfl) :
    XD X M σ H (.Call (.Name "isinstance" p1) [a, .Name nm p2] [] pos) (.bool r) := fun H1 s Q q =>
  re_B call_isi (ra_cons (ha H1 s _ fun v H2 s2 hv => ra_1 (xv_bltn (v := .ty T) hmT hvT rfl hgT hnT hdT H2 (Same.refl _) _ fun H3 s3 =>
    ⟨v, .ty T, _, _, r, rfl, .ty T, ty_dq ((hv.up hid_le).up s3), kit_ty hk, q _ H3 (s2.trans s3) (.bl _)⟩) he2) he) hm (by decide +kernel) hg (by decide) (by decide) he hpl
/-- isinstance(a, (T1, T2)) -/
theorem xd_is2 {T1 T2 : String} {r1 r2 : Bool} {n1 n2 : Str} {k3} (h1 : kitB (tyN d) T1 = some r1) (h2 : kitB (tyN d) T2 = some r2) (hm : X.mg "isinstance" = none) (hm1 : X.mg n1 = none) (hv1 : bootBuiltins n1 = some (.type T1)) (hm2 : X.mg n2 = none) (hv2 : bootBuiltins n2 = some (.type T2)) (ha : XD X M σ H a d)
    (hg : Gl X "isinstance" := by rfl) (hg1 : Gl X n1 := by rfl) (hg2 : Gl X n2 := by rfl) (hn1 : n1 ≠ "__name__" := by decide) (hn2 : n2 ≠ "__name__" := by decide) (hd1 : (n1 == ("__debug__" : Str)) = false := by decide) (hd2 : (n2 == ("__debug__" : Str)) = false := by decide) {q1 q2 q3 : Pos}
    (he : starEach [a, .Tuple [.Name n1 q1, .Name n2 q2] k3 q3] X.env = (false, eval a X.env) :: starEach [.Tuple [.Name n1 q1, .Name n2 q2] k3 q3] X.env := by rfl) (he2 : starEach [.Tuple [.Name n1 q1, .Name n2 q2] k3 q3] X.env = (false, eval (.Tuple [.Name n1 q1, .Name n2 q2] k3 q3) X.env) :: starEach [] X.env := by rfl)
    (hs1 : starEach [.Name n1 q1, .Name n2 q2] X.env = (false, eval (.Name n1 q1) X.env) :: starEach [.Name n2 q2] X.env := by rfl) (hs2 : starEach [.Name n2 q2] X.env = (false, eval (.Name n2 q2) X.env) :: starEach [] X.env := by rfl)
    (hpl : (backTo pos (starEach [.Tuple [.Name n1 q1, .Name n2 q2] k3 q3] X.env)).any (·.1) = false := by rfl) :
    XD X M σ H (.Call (.Name "isinstance" p1) [a, .Tuple [.Name n1 q1, .Name n2 q2] k3 q3] [] pos) (.bool (r1 || r2)) := fun H1 s Q q =>
  re_B call_isiT (ra_cons (ha H1 s _ fun v H2 s2 hv => ra_1 ⟨_, pe_tup ra_, ra_cons (xv_bltn (v := .ty T1) hm1 hv1 rfl hg1 hn1 hd1 H2 (Same.refl _) _ fun H3 s3 => ra_1 (xv_bltn (v := .ty T2) hm2 hv2 rfl hg2 hn2 hd2 H3 (Same.refl _) _ fun H4 s4 => by
    refine ⟨by show 2 ≤ sizeLine; decide, fun p hp => ?_⟩
    have s5 : Same H2 (upd H4 p (.tup [V.ty T1, V.ty T2])) := (s3.trans s4).trans (same_new hp)
    refine ⟨v, p, [.ty T1, .ty T2], _, _, r1 || r2, rfl, upd_same, .cons (.ty T1) (.cons (.ty T2) .nil), ty_dq ((hv.up hid_le).up s5), ?_, q _ _ (s2.trans s5) (.bl _)⟩
    refine kitAny_cons (kit_ty h1) (fun z => ?_) (fun z => by rw [z]; rfl)
    rw [z, Bool.false_or]
    exact kitAny_cons (kit_ty h2) (fun z2 => by rw [z2]; exact kitAny_nil) (fun z2 => z2)) hs2) hs1⟩ he2) he) hm (by decide +kernel) hg (by decide) (by decide) he hpl
/-! ### instances -/
theorem xv_fld {dx pa : Addr} {fs : List (Str × V)} {f : Str} (ho : XV X σ H o (.ref pa)) (h1 : H pa = some (.ins C dx fs)) (hc : Cls X.K C) (hn : NoAttr X.K C f) (hl : fs.lookup f = some v) (hb : attributeBase o f X.env (eval o X.env) = eval o X.env := by rfl) : XV X σ H (.Attribute o f pos) v := fun H1 s Q q =>
  ⟨_, pe_fld re_ hb, ho H1 s _ fun H2 s2 => ⟨pa, C, dx, fs, v, rfl, (s.trans s2) _ _ h1, hc, hn, hl, q H2 s2⟩⟩
theorem re_meth {dx pa : Addr} {fs : List (Str × V)} {m : Str} {sp : Sp} {Q : VK} {pl : Sem Bool} {apos : Pos} (ho : XV X σ H o (.ref pa)) (h1 : H pa = some (.ins C dx fs)) (hc : Cls X.K C) (hM : Meth X.K C m f) (hl : fs.lookup m = none) (F : FnOk X.prog X.w X.K X.mg X.base CX0 k f fd ps sp) (hr : Room k X.A) (hb : Binds X.K fd ps [])
    (ha : ∀ H1, Same H H1 → RA X (e :: es) σ H1 fun vs H2 => sp (.ref pa :: vs) H2 Q E0) (hst : starEach (e :: es) X.env = (false, eval e X.env) :: starEach es X.env := by rfl) (hpl : (backTo pos (starEach es X.env)).any (·.1) = false := by rfl)
    (ht : eval (.Call (.Attribute o m apos) (e :: es) [] pos) X.env = (do
      let ov ← eval o X.env
      standAt apos.atName
      let (f, first) ← holding [ov] (getMethod ov m pl)
      callWith pos f first (backTo pos (starEach (e :: es) X.env)) (backToKw pos (keywordEach [] X.env))) := by rfl) : RE X (.Call (.Attribute o m apos) (e :: es) [] pos) σ H Q :=
  ⟨_, pe_meth re_ hc hM F hr hb .nil pass0 ra_ hst hpl ht, ho H (Same.refl H) _ fun H1 s1 => ⟨pa, dx, fs, rfl, s1 _ _ h1, hl, ra_mono (ha H1 s1) fun vs H2 q => by rw [List.append_nil]; exact q⟩⟩
theorem re_meth0 {dx pa : Addr} {fs : List (Str × V)} {m : Str} {sp : Sp} {Q : VK} {pl : Sem Bool} {apos : Pos} (ho : XV X σ H o (.ref pa)) (h1 : H pa = some (.ins C dx fs)) (hc : Cls X.K C) (hM : Meth X.K C m f) (hl : fs.lookup m = none) (F : FnOk X.prog X.w X.K X.mg X.base CX0 k f fd ps sp) (hr : Room k X.A) (hb : Binds X.K fd ps [])
    (ha : ∀ H1, Same H H1 → sp [.ref pa] H1 Q E0)
    (ht : eval (.Call (.Attribute o m apos) [] [] pos) X.env = (do
      let ov ← eval o X.env
      standAt apos.atName
      let (f, first) ← holding [ov] (getMethod ov m pl)
      callWith pos f first (backTo pos (starEach [] X.env)) (backToKw pos (keywordEach [] X.env))) := by rfl) : RE X (.Call (.Attribute o m apos) [] [] pos) σ H Q :=
  ⟨_, pe_meth0 re_ hc hM F hr hb .nil pass0 ht, ho H (Same.refl H) _ fun H1 s1 => ⟨pa, dx, fs, rfl, s1 _ _ h1, hl, ha H1 s1⟩⟩
end
end Dl

set_option Elab.async false
set_option linter.all false
set_option maxRecDepth 100000
set_option maxHeartbeats 4000000
/-! Data layer, part 5: operators of an own class; the end. -/
namespace Dl
open PySem PySem.Spec PyProof.Rows L2
/-- a namespace of the written part -/
theorem ns_at {K : PySem.W.Frag} {h : Heap} {N : Addr} {mN : Str → Option Value} {n : Str} {v : Value} (X : K.In h) (G : h.Ns N mN) (e : PySem.W.nsIn K N n = some (some v)) : mN n = some v := by
  obtain ⟨o, es, ep, ho, hd, _, hf⟩ := G
  unfold PySem.W.nsIn at e
  split at e
  · rename_i cc dd es2 nn sl q
    have z := X _ _ q
    rw [ho] at z
    cases z
    cases hd
    split at e
    · rename_i en he
      cases e
      rw [← hf]
      unfold nsFind findBy
      rw [← Array.find?_toList, he]
      rfl
    · split at e <;> cases e
  · cases e
/-- what the written part says of a class with an own == and no != -/
structure ClsEq (K : PySem.W.Frag) (C f : Addr) : Prop where
  cls : ∃ nm q N bs hdct sn sub ab col dd k0 k1 k2 k3 k5 newId, K.lookup C = some (excClassObj nm q C N bs [.type "object"] hdct sn sub ab col dd k0 k1 k2 k3 k5 newId) ∧ PySem.W.nsOkIn K N = true ∧ PySem.W.nsIn K N "__eq__" = some (some (.ref f)) ∧ PySem.W.nsIn K N "__ne__" = some none
  at_ : PySem.W.findIn K (.ref C) "__eq__" = some (some (.ref f))
  fn : PySem.W.isFn K (.ref f) = true
  obj : ∃ o, K.lookup f = some o ∧ o.cls = .type "function"
section
variable {X : Cx} {M : List Addr} {σ : L2.St} {H H' : Hp} {e a b c o : Expr} {es : List Expr} {d d1 d2 : PyData} {ds ds2 es' : List PyData} {x : Str} {v : V} {pos p1 p2 p3 : Pos} {D : Ends} {rest sts : List Stmt} {st : Stmt} {k : Nat} {f C : Addr} {fd : FuncData} {ps : List Str} {sp : Sp}
/-- a bool comes back -/
def bk (Q : Bool → Hp → Prop) : VK := fun v H => ∃ b, v = .bl b ∧ Q b H
theorem run_bool {A : Around} {E : Value → Shared → Prop} {pins : List (Addr × Obj)} {s : Shared} {us : List Value} {vs : List V} {Q : Bool → Hp → Prop} {R : Value → Shared → Prop} (I : Inv X pins σ H s) (fr : A.frames = X.A.frames) (F : FnOk X.prog X.w X.K X.mg X.base CX0 k f fd ps sp) (hr : Room k A) (hb : Binds X.K fd ps []) (r : Vals vs us) (h : sp vs H (bk Q) E0)
    (q : ∀ b s' H', Inv X pins σ H' s' → Q b H' → R (.bool b) s') : wpAny (model X.prog X.w) A (call (.ref f) us) R E s := by
  have hz : us.length = ps.length := by rw [← r.length]; exact F.len _ _ _ _ h
  have hb' := hb s us I.kIn (by rw [List.append_nil]; exact hz)
  rw [List.append_nil] at hb'
  have e := I.env0
  have e0 : Env0 X.prog X.w X.K X.mg X.base A X.stack s H := ⟨by rw [fr]; exact e.frames, e.mod, e.bs, e.bsz, e.funs, e.frf, e.hok, e.bare⟩
  refine wpAny_call (codeAny_mono (F.run A X.stack s H ⟨us, []⟩ us vs (bk Q) E0 hr e0 hb' r h) fun r' s' hq => ?_)
  cases r' with
  | error e => exact hq.elim
  | ok fl =>
    cases fl with
    | ret u =>
      obtain ⟨z, H1, I1, rz, b, ez, q1⟩ := I.after hq
      subst ez
      cases rz
      exact q b s' H1 I1 q1
    | next => exact hq.elim
    | brk => exact hq.elim
    | cont => exact hq.elim
/-- a == b, a of an own class; the other one of that class, or of a type that is not below it -/
theorem op_eqO {tb : Value → Prop} (E : ClsEq X.K C f) (F : FnOk X.prog X.w X.K X.mg X.base CX0 k f fd ps sp) (hr : Room k X.A) (hb : Binds X.K fd ps []) :
    OpR X (compareOp .Eq) (fun x y H Q => ∃ pa dx fs, x = .ref pa ∧ H pa = some (.ins C dx fs) ∧ ((∃ pb dy gs, y = .ref pb ∧ H pb = some (.ins C dy gs)) ∨ (PySem.W.subIn X.K (.type "list") (.ref C) = some false ∧ ∃ pb xs, y = .ref pb ∧ H pb = some (.lst xs))) ∧ sp [x, y] H (bk fun b H1 => Q (.bl b) H1) E0) := by
  intro pins s σ H x y u v Q I rx ry h
  obtain ⟨pa, dx, fs, rfl, ha, hy, hsp⟩ := h
  cases rx
  obtain ⟨mA, J, _⟩ := ins_get I.hok ha
  obtain ⟨od, J, _⟩ := J.look
  obtain ⟨m, hF⟩ := I.fr
  show wpAny (model X.prog X.w) X.A (richCompare .Eq (.ref pa) v) (EP X pins σ Q) X.xe s
  have fin : wpAny (model X.prog X.w) X.A (call (.ref f) [.ref pa, v]) (PySem.W.CmpBack (EP X pins σ Q)) X.xe s :=
    run_bool (Q := fun b H1 => Q (.bl b) H1) I rfl F hr hb (.cons (show RelV (.ref pa) (.ref pa) from rfl) (.cons ry .nil)) hsp fun b s' H' I' q => ⟨.bl b, H', I', rfl, q⟩
  rcases hy with ⟨pb, dy, gs, rfl, hb2⟩ | ⟨hsub, pb, xs, rfl, hb2⟩
  · cases ry
    obtain ⟨mB, J2, _⟩ := ins_get I.hok hb2
    obtain ⟨od2, J2, _⟩ := J2.look
    exact PySem.W.cmp_K (op := .Eq) (tb := .ref C) hr.units0 hF I.ok.mod.kin J J2.type (by simp [PySem.W.notFirst]) E.at_ E.fn fin
  · cases ry
    obtain ⟨_, its, n, r, e⟩ := (show ObjOk X.prog X.w H s.heap pb (.lst xs) from I.hok pb _ hb2)
    have z : PySem.W.Looks (model X.prog X.w) s.heap (typeOf (.ref pb)) (.type "list") := (PySem.W.Looks.ld e).andThen .now
    exact PySem.W.cmp_K (op := .Eq) (tb := .type "list") hr.units0 hF I.ok.mod.kin J z (by unfold PySem.W.notFirst; rw [hsub]; simp) E.at_ E.fn fin
/-- a != b of one own class -/
theorem op_neO (E : ClsEq X.K C f) (F : FnOk X.prog X.w X.K X.mg X.base CX0 k f fd ps sp) (hr : Room (k + 1) X.A) (hb : Binds X.K fd ps []) :
    OpR X (compareOp .NotEq) (fun x y H Q => ∃ pa dx fs pb dy gs, x = .ref pa ∧ H pa = some (.ins C dx fs) ∧ y = .ref pb ∧ H pb = some (.ins C dy gs) ∧ sp [x, y] H (bk fun b H1 => Q (.bl (!b)) H1) E0) := by
  intro pins s σ H x y u v Q I rx ry h
  obtain ⟨pa, dx, fs, pb, dy, gs, rfl, ha, rfl, hb2, hsp⟩ := h
  cases rx
  cases ry
  obtain ⟨mA, J, _⟩ := ins_get I.hok ha
  obtain ⟨od, J, _⟩ := J.look
  obtain ⟨mB, J2, _⟩ := ins_get I.hok hb2
  obtain ⟨od2, J2, _⟩ := J2.look
  obtain ⟨hox, hoc, _⟩ := J
  obtain ⟨hoy, hoyc, _⟩ := J2
  obtain ⟨nm, q, N, bs, hdct, sn, sub, ab, col, dd, k0, k1, k2, k3, k5, newId, hC, hN, he, hne⟩ := E.cls
  obtain ⟨of, hfo, hfc⟩ := E.obj
  have KX := I.kIn
  have hns := Heap.Ns.of_isNs (PySem.W.isNs_of_in KX hN)
  have Y : s.heap.OwnEqNoNe pa C f "object" [.type "object"] :=
    ⟨_, of, nm, q, N, bs, hdct, sn, sub, ab, col, dd, k0, k1, k2, k3, k5, newId, _, _, hox, hoc, KX _ _ hC, hns, ns_at KX hns he, KX _ _ hfo, hfc, PySem.F.mro_object, PySem.F.cmp_object.eq.lookup, PySem.W.ns_none_of KX hns hne⟩
  have hu := hr.units0
  obtain ⟨hh, g, dr, tk, os⟩ := s
  refine compareOp_ne_ownEq PySem.F.cmp_object Y hoy hoyc (by have := hr.un; omega) ?_
  exact run_bool (A := X.A.in1) (Q := fun b H1 => Q (.bl (!b)) H1) I rfl F hr.in1 hb (.cons (show RelV (.ref pa) (.ref pa) from rfl) (.cons (show RelV (.ref pb) (.ref pb) from rfl) .nil)) hsp fun b s' H' I' q => ⟨b, rfl, ⟨.bl (!b), H', I', rfl, q⟩⟩
/-- x in o, o of an own class -/
theorem op_inO (hs : PySem.W.findIn X.K (.ref C) "__contains__" = some (some (.ref f))) (hf : PySem.W.isFn X.K (.ref f) = true) (F : FnOk X.prog X.w X.K X.mg X.base CX0 k f fd ps sp) (hr : Room k X.A) (hb : Binds X.K fd ps []) :
    OpR X (compareOp .In) (fun x y H Q => ∃ pa dx fs, y = .ref pa ∧ H pa = some (.ins C dx fs) ∧ sp [y, x] H (bk fun b H1 => Q (.bl b) H1) E0) := by
  intro pins s σ H x y u v Q I rx ry h
  obtain ⟨pa, dx, fs, rfl, ha, hsp⟩ := h
  cases ry
  obtain ⟨mA, J, _⟩ := ins_get I.hok ha
  obtain ⟨od, J, _⟩ := J.look
  obtain ⟨m, hF⟩ := I.fr
  exact PySem.W.in_K hF I.ok.mod.kin J hs hf (run_bool (Q := fun b H1 => Q (.bl b) H1) I rfl F hr hb (.cons (show RelV (.ref pa) (.ref pa) from rfl) (.cons rx .nil)) hsp fun b s' H' I' q => wpAny_truthy_bool ⟨.bl b, H', I', rfl, q⟩)
/-- len(o) -/
theorem call_lenO (hs : PySem.W.findIn X.K (.ref C) "__len__" = some (some (.ref f))) (hf : PySem.W.isFn X.K (.ref f) = true) (F : FnOk X.prog X.w X.K X.mg X.base CX0 k f fd ps sp) (hr : Room (k + 1) X.A) (hb : Binds X.K fd ps []) :
    CallR X (.builtin "len") (fun xs H Q => ∃ pa dx fs, xs = [.ref pa] ∧ H pa = some (.ins C dx fs) ∧ sp xs H (fun v H1 => ∃ n : Nat, v = .int n ∧ n < 2 ^ 62 ∧ Q (.int n) H1) E0) := by
  intro pins s σ H xs us Q I r h
  obtain ⟨pa, dx, fs, rfl, ha, hsp⟩ := h
  obtain ⟨u, rfl, rx⟩ := vals1 r
  cases rx
  obtain ⟨mA, J, _⟩ := ins_get I.hok ha
  obtain ⟨od, J, _⟩ := J.look
  obtain ⟨m, hF⟩ := I.fr
  refine PySem.W.len_K hF I.ok.mod.kin J hs hf ?_
  have hz : [Value.ref pa].length = ps.length := F.len _ _ _ _ hsp
  have hb' := hb s [.ref pa] I.kIn (by rw [List.append_nil]; exact hz)
  rw [List.append_nil] at hb'
  have e := I.env0.in1
  refine wpAny_call (codeAny_mono (F.run X.A.in1 X.stack s H ⟨[.ref pa], []⟩ [.ref pa] [.ref pa] _ E0 hr.in1 e hb' (.cons rfl .nil) hsp) fun r' s' hq => ?_)
  cases r' with
  | error e => exact hq.elim
  | ok fl =>
    cases fl with
    | ret u =>
      obtain ⟨z, H1, I1, rz, n, ez, hn, q1⟩ := I.after hq
      subst ez
      obtain ⟨t, rfl⟩ := rz
      exact ⟨⟨by omega, by omega⟩, ⟨.int n, H1, I1.tok _, ⟨_, rfl⟩, q1⟩⟩
    | next => exact hq.elim
    | brk => exact hq.elim
    | cont => exact hq.elim
/-- o.p, a property -/
theorem re_prop {dx pa pp : Addr} {fs : List (Str × V)} {m : Str} {Q : VK} (ho : XV X σ H o (.ref pa)) (h1 : H pa = some (.ins C dx fs)) (hc : Cls X.K C) (hp : PropOf X.K C m pp f) (F : FnOk X.prog X.w X.K X.mg X.base CX0 k f fd ps sp) (hr : Room (k + 1) X.A) (hb : Binds X.K fd ps []) (ha : ∀ H1, Same H H1 → sp [.ref pa] H1 Q E0)
    (hab : attributeBase o m X.env (eval o X.env) = eval o X.env := by rfl) : RE X (.Attribute o m pos) σ H Q :=
  ⟨_, pe_prop re_ hc hp F hr hb .nil pass0 hab, ho H (Same.refl H) _ fun H1 s1 => ⟨pa, dx, fs, rfl, s1 _ _ h1, ha H1 s1⟩⟩
/-- C(e, ..) -/
theorem re_make {Q : VK} {dvs : List V} {dl : List Value} (Mm : Mk X.K C f) (F : FnOk X.prog X.w X.K X.mg X.base CX0 k f fd ps sp) (hr : Room (k + 1) X.A) (hm : X.mg x = some (.ref C)) (hb : Binds X.K fd ps dl) (hd : Vals dvs dl)
    (ha : RA X (e :: es) σ H fun vs H1 => ∀ y dx, H1 y = none → H1 dx = none → dx ≠ y → sp (.ref y :: (vs ++ dvs)) (upd (upd H1 dx (.own y)) y (.ins C dx [])) (fun v H2 => v = .non ∧ Q (.ref y) H2) E0) (hg : Gl X x := by rfl)
    (hdb : (x == ("__debug__" : Str)) = false := by decide) (he : starEach (e :: es) X.env = (false, eval e X.env) :: starEach es X.env := by rfl) (hpl : (backTo pos (starEach es X.env)).any (·.1) = false := by rfl) : RE X (.Call (.Name x p1) (e :: es) [] pos) σ H Q :=
  ⟨_, pe_make Mm F hr hg hm hb hd pass0 ra_ hdb he hpl, ha⟩
/-- o.f = e -/
theorem rb_fld {m : Str} {dx pa : Addr} {fs : List (Str × V)} {ap : Pos} (he : RE X e σ H fun v H1 => H1 pa = some (.ins C dx fs) ∧ fs.length < 1000 ∧ XV X σ H1 o (.ref pa) ∧ ∀ H2, Same H1 H2 → RB X rest D σ (upd H2 pa (.ins C dx (putF m v fs)))) (hc : Cls X.K C) (hn : NoAttr X.K C m) (hs : swapsWith e (some (.Attribute o m ap)) pos.line X.env = pure false := by rfl) :
    RB X (.Assign [.Attribute o m ap] e pos :: rest) D σ H :=
  ⟨_, pss_cons (ps_fld re_ re_ hs) rb_, re_mono he fun v H1 ⟨h1, hl, ho, q⟩ => ho H1 (Same.refl _) _ fun H2 s2 => ⟨pa, C, dx, fs, rfl, s2 _ _ h1, hc, hn, hl, q H2 s2⟩⟩
end
end Dl

set_option Elab.async false
set_option linter.all false
set_option maxRecDepth 100000
set_option maxHeartbeats 4000000
/-! Data layer, part 6: sets of whole numbers by a comprehension, sorted; repr of one value; sums; dicts by texts. -/
namespace Dl
open PySem PySem.Spec PyProof.Rows L2
section
variable {X : Cx}
/-- {e for t in it if ..}, e a whole number; p: the set -/
def tSetI (w : World) (wi : TI) (g : TG) (tt : TT) (te : TE) (vs : List Nat) : TE := fun σ H Q => wi σ H fun J Ha => ∀ p, Ha p = none → ∃ Z : Nat → Nat → Hp → Prop,
  (∃ k, Z 0 k (upd Ha p (SetO w p (fun _ => false) 0))) ∧ ∀ i k Hb, Z i k Hb → (J.stop i Hb ∧ Q (.ref p) Hb) ∨ (J.go i Hb ∧ ∃ Nx : Hp → Prop, (∀ Hc, Nx Hc → ∃ j, j < k ∧ Z (i + 1) j Hc) ∧
    ∀ x Hc, J.yld i Hb x Hc → g x (wipe σ vs) Hc fun τ Hd => wipe τ vs = wipe σ vs ∧ tt τ Hd fun b He =>
      if b = true then te τ He fun y Hf => ∃ (n : Int) (S : Int → Bool) (c : Nat), y = .int n ∧ Hf p = some (SetO w p S c) ∧ c + 1 < scanBound ∧ Nx (upd Hf p (SetO w p (fun j => S j || decide (j = n)) (if S n = true then c else c + 1))) else Nx He)
theorem setI_run {ps : List (Addr × Obj)} {z : Shared} {σ : L2.St} {H : Hp} {Q : VK} {elt tg iter : Expr} {ifs : List Expr} {scope : Scope} {own : List (PySem.Str × Nat)} {pos pf : Pos} {wi : TI} {g : TG} {tt : TT} {te : TE} {Qf : Value → Shared → Prop}
    (hc : X.calm = true) (hN : X.N.Nodup) (inv : Inv X ps σ H z) (hi : PI X tg iter wi) (ok : BlkOk X.N X.env.scope scope own)
    (Pg : ∀ (y : Shared) (Hy : Hp) (c : Addr) (l : List (PySem.Str × Addr)) (q : List Addr), PG (X.blk y Hy scope (compEnvC scope l c X.env) q) tg g)
    (Pt : ∀ (y : Shared) (Hy : Hp) (c : Addr) (l : List (PySem.Str × Addr)) (q : List Addr), PTs (X.blk y Hy scope (compEnvC scope l c X.env) q) ifs tt)
    (Pe : ∀ (y : Shared) (Hy : Hp) (c : Addr) (l : List (PySem.Str × Addr)) (q : List Addr), PE (X.blk y Hy scope (compEnvC scope l c X.env) q) elt te)
    (hs : ∀ x, foldedSetIterable iter X.env x = pure x) (owed : tSetI X.w wi g tt te (own.map (·.2)) σ H Q)
    (back : ∀ p c y m Hy, Inv X ps σ Hy y → Q (.ref p) Hy → y.heap.Ns c m → FpOk X ps Hy c → compPost (model X.prog X.w) X.A X.xe none Qf (.ref p) c (.ok .next) y) :
    wpAny (model X.prog X.w) X.A (comprehension (.SetComp elt [⟨tg, iter, ifs, 0⟩] scope pos) scope X.env pf (newSet (.type "set")) false (eval iter X.env) none) Qf X.xe z := by
  have cells : ∀ y ∈ scope.names, y.2 = .free → ∃ c, X.env.cells.lookup y.1 = some c := fun y hy e => (ok.free y hy e).elim (fun k => inv.ok.has _ (.inl k)) (fun k => inv.ok.has _ (.inr k))
  have names : ∀ y ∈ scope.names, y.2 = .local → scope.names.lookup y.1 = some .local := fun y hy e => by
    have u := ok.uniq y hy
    rw [e] at u
    exact u
  refine wpAny_comprehension_free (use := none) rfl hs (closure_ok cells) ok.kind names (thn (hi.run ps z σ H _ inv owed) fun _ za ha => thn ha fun _ zb hb => ?_)
  obtain ⟨it, fp, tn, J, Hb, rfl, invB, T, t0, fB, body⟩ := hb
  refine PpSet.newSet_ok (newEnv_comp ?_)
  generalize hp : zb.heap.objs.size = p
  have free : Hb p = none := invB.hok.fresh (Nat.le_of_eq hp)
  obtain ⟨Z, ⟨k0, start⟩, turn⟩ := body p free
  generalize hcz : ({ zb with heap := zb.heap.push { cls := .type "set", dict := none, data := .set #[] 0 (.fresh 0 0 (!X.w.params.followText "set-order")) } } : Shared) = zc
  have eqz : zc.heap = zb.heap.push { cls := .type "set", dict := none, data := .set #[] 0 (.fresh 0 0 (!X.w.params.followText "set-order")) } := by rw [← hcz]
  generalize hHc : upd Hb p (SetO X.w p (fun _ => false) 0) = Hc at start
  have invC : Inv X ps σ Hc zc := by
    subst hHc
    subst hcz
    refine invB.laid (t' := zb.toks) (fun _ _ e => Heap.get?_push_of_some _ e) (Nat.le_of_eq hp) ?_
    subst hp
    exact setO_new (setR_fresh X.w)
  have inB : ∀ b ∈ fp, b < zb.heap.objs.size := fun b hb => let ⟨_, e, _⟩ := T.obj _ _ t0 b hb; Heap.lt_size e
  have fC : ∀ b ∈ fp, FpOk X ps Hc b ∧ b < zc.heap.objs.size := fun b hb => by
    have lt := inB b hb
    have ne : b ≠ p := by rw [← hp]; exact Nat.ne_of_lt lt
    have e : Hc b = none := by rw [← hHc, upd_ne ne]; exact (fB b hb).1
    exact ⟨⟨e, (fB b hb).2⟩, by rw [eqz, Heap.size_push]; exact Nat.lt_succ_of_lt lt⟩
  have t1 : tn 0 zc.heap := T.keep _ _ _ t0 fun _ _ _ e => by rw [eqz]; exact Heap.get?_push_of_some _ e
  have invD := block_start invC ok hN fC
  have rg := Pg zc Hc zc.heap.objs.size (cellsFrom (zc.heap.objs.size + 1) scope.names (cloFrom X.env.cells scope.names [])) fp
  have rt := Pt zc Hc zc.heap.objs.size (cellsFrom (zc.heap.objs.size + 1) scope.names (cloFrom X.env.cells scope.names [])) fp
  have re := Pe zc Hc zc.heap.objs.size (cellsFrom (zc.heap.objs.size + 1) scope.names (cloFrom X.env.cells scope.names [])) fp
  show codeAny _ _ (.compStart (.SetComp elt [⟨tg, iter, ifs, 0⟩] scope pos) 0 (.ref it) (.ref p) (compEnvC scope (cellsFrom (zc.heap.objs.size + 1) scope.names (cloFrom X.env.cells scope.names [])) zc.heap.objs.size X.env))
    (compPost (model X.prog X.w) X.A X.xe none Qf (.ref p) zc.heap.objs.size) { zc with heap := pushCells (zc.heap.push { cls := .type "dict", data := .dict #[] }) scope.names }
  have none0 : ∀ b ∈ fp, Hc b = none := fun b hb => (fC b hb).1.1
  generalize hen : compEnvC scope (cellsFrom (zc.heap.objs.size + 1) scope.names (cloFrom X.env.cells scope.names [])) zc.heap.objs.size X.env = en at invD rg rt re ⊢
  have enl : en.locals = zc.heap.objs.size := by subst hen; rfl
  generalize hzd : ({ zc with heap := pushCells (zc.heap.push { cls := .type "dict", data := .dict #[] }) scope.names } : Shared) = zd at invD ⊢
  have t2 : tn 0 zd.heap := T.keep _ _ _ t1 fun _ _ _ e => by rw [← hzd]; exact pushCells_keeps _ _ _ _ (Heap.get?_push_of_some _ e)
  have still : ∀ {τ : L2.St} {Hx : Hp} {zx : Shared}, Inv (X.blk zc Hc scope en fp) [] τ Hx zx → (∀ b ∈ fp, Hx b = none) → ∀ b ∈ fp, FpOk (X.blk zc Hc scope en fp) [] Hx b := fun i n b hb =>
    ⟨n b hb, (i.ok.exf b hb).1, i.ok.exfs b hb, .inl hb, fun x c e => (i.ok.exf b hb).2 x c e, fun q hq => by
      have hq : q ∈ ([] : List (Addr × Obj)) ++ [] := hq
      simp at hq⟩
  have laps : codeAny (model X.prog X.w) X.A (.compLoop (.SetComp elt [⟨tg, iter, ifs, 0⟩] scope pos) 0 (.ref it) (.ref p) en) (compPost (model X.prog X.w) X.A X.xe none Qf (.ref p) zc.heap.objs.size) zd := by
    refine PpSet.compLoopS_any (fun k zx => ∃ i Hx, Inv (X.blk zc Hc scope en fp) [] (wipe σ (own.map (·.2))) Hx zx ∧ tn i zx.heap ∧ (∀ b ∈ fp, Hx b = none) ∧ Z i k Hx) (fun k zx hx => ?_) k0 ⟨0, Hc, invD, t2, none0, start⟩
    obtain ⟨i, Hx, ix, tx, nx, zk⟩ := hx
    rcases turn i k Hx zk with ⟨st, done⟩ | ⟨go, Nx, toN, step⟩
    · refine thnF (T.done (X.blk zc Hc scope en fp) rfl rfl rfl hc i [] zx _ Hx (fun _ _ => False) ix (still ix nx) tx st) fun r zy hy => ?_
      obtain ⟨rfl, iy⟩ := hy
      have iz : Inv X ps σ Hx zy := invC.call' (ch := fp) iy.os iy.base iy.hok iy.bare fun b hb => ⟨(fC b hb).1.2.2.2.1, (fC b hb).1.2.1, (fC b hb).1.2.2.2.2.1, (fC b hb).1.2.2.2.2.2⟩
      have nC : Hx zc.heap.objs.size = none := by
        have q : Hx en.locals = none := iy.free
        rwa [enl] at q
      obtain ⟨m, hm, _⟩ := iy.loc
      have hm : zy.heap.Ns en.locals m := hm
      rw [enl] at hm
      exact back p _ zy m Hx iz done hm (invC.fpOk (Nat.le_refl _) nC)
    · refine thnF (T.item (X.blk zc Hc scope en fp) rfl rfl rfl hc i [] zx _ Hx (fun _ _ => False) ix (still ix nx) tx go) fun r zy hy => ?_
      obtain ⟨u, rfl, hy⟩ := hy
      refine thnF hy fun _ zz hz => ?_
      obtain ⟨x, Hz, iz, rz, yz, tz, nz⟩ := hz
      refine thnF (rg.run _ zz _ Hz x u _ (iz.pinned (still iz nz) (T.obj _ _ tz)) rz (step x Hz yz)) fun _ z1 h1 => ?_
      obtain ⟨τ, H1, i1, w1, q1⟩ := h1
      refine thnF (rt.run _ z1 τ H1 _ i1 q1) fun b z2 h2 => ?_
      obtain ⟨H2, i2, q2⟩ := h2
      have fin : ∀ {zf : Shared} {Hf : Hp}, Inv (X.blk zc Hc scope en fp) ([] ++ pinsAt fp zz.heap) τ Hf zf → Nx Hf → ∃ j, j < k ∧ ∃ i Hx, Inv (X.blk zc Hc scope en fp) [] (wipe σ (own.map (·.2))) Hx zf ∧ tn i zf.heap ∧ (∀ b ∈ fp, Hx b = none) ∧ Z i j Hx := fun {zf Hf} i' n' => by
        obtain ⟨j, hj, zj⟩ := toN Hf n'
        have kept : ∀ b ∈ fp, ∀ o, zz.heap.get? b = some o → zf.heap.get? b = some o ∧ Hf b = none := fun b hb o e => by
          have q := i'.pin (b, o) (List.mem_append_right _ (List.mem_append_right _ (mem_pinsAt hb e)))
          exact ⟨q.1, q.2.1⟩
        have len : (wipe σ (own.map (·.2))).length = τ.length := by rw [← w1, wipe_length]
        refine ⟨j, hj, i + 1, Hf, (i'.unpinned (pins := [])).weak len (fun a v e => by rw [← w1] at e; exact (wipe_some e).1), T.keep _ _ _ tz fun b hb o e => (kept b hb o e).1, fun b hb => ?_, zj⟩
        obtain ⟨o, e, _⟩ := T.obj _ _ tz b hb
        exact (kept b hb o e).2
      cases b with
      | false =>
        rw [if_neg Bool.false_ne_true] at q2 ⊢
        exact fin i2 q2
      | true =>
        rw [if_pos rfl] at q2 ⊢
        refine thnF (re.run _ z2 τ H2 _ i2 q2) fun v z3 h3 => ?_
        obtain ⟨yv, H3, i3, r3, n, S, c, rfl, hD, room, nx3⟩ := h3
        have hv : ∃ t, v = Value.int n t := r3
        obtain ⟨t, rfl⟩ := hv
        exact setR_add (setO_get (X := X.blk zc Hc scope en fp) i3 hD) room fun h' sb new => by
          have ex : ∃ o, h'.get? p = some o := let ⟨o, _, _, _, ho, _⟩ := new; ⟨o, ho⟩
          exact fin (i3.write (e := p) (t' := z3.toks + 1) (by rw [hD]; trivial) (.inl rfl) (fun b o hb ho => (sb.2 b hb).trans ho) ex (setO_new new)) nx3
  exact PpSet.codeAny_compStart_set laps (T.self X.A 0 _ _ _ t2 laps)
theorem pe_setI {elt tg iter : Expr} {ifs : List Expr} {scope : Scope} {own : List (PySem.Str × Nat)} {pos : Pos} {wi : TI} {g : TG} {tt : TT} {te : TE} (hc : X.calm = true) (hN : X.N.Nodup) (hi : PI X tg iter wi) (ok : BlkOk X.N X.env.scope scope own)
    (Pg : ∀ (y : Shared) (Hy : Hp) (c : Addr) (l : List (PySem.Str × Addr)) (q : List Addr), PG (X.blk y Hy scope (compEnvC scope l c X.env) q) tg g)
    (Pt : ∀ (y : Shared) (Hy : Hp) (c : Addr) (l : List (PySem.Str × Addr)) (q : List Addr), PTs (X.blk y Hy scope (compEnvC scope l c X.env) q) ifs tt)
    (Pe : ∀ (y : Shared) (Hy : Hp) (c : Addr) (l : List (PySem.Str × Addr)) (q : List Addr), PE (X.blk y Hy scope (compEnvC scope l c X.env) q) elt te)
    (hs : ∀ x, foldedSetIterable iter X.env x = pure x) : PE X (.SetComp elt [⟨tg, iter, ifs, 0⟩] scope pos) (tSetI X.w wi g tt te (own.map (·.2))) := by
  refine ⟨fun ps z σ H Q inv h => ?_⟩
  rw [PpSet.eval_SetComp]
  refine setI_run hc hN inv hi ok Pg Pt Pe hs h fun p c y m Hy iy q hm fp => ?_
  obtain ⟨a0, a1, a2, a3, a4, a5⟩ := fp
  exact ⟨m, hm, fun _ sb => ⟨.ref p, Hy, iy.turned (t' := y.toks) (fun b o hb e => (sb.2 b hb).trans e) a0 a1 a3 a4 a5, rfl, q⟩⟩
end
end Dl

set_option Elab.async false
set_option linter.all false
set_option maxRecDepth 100000
set_option maxHeartbeats 4000000
/-! Data layer, part 7: sorted({..}), sorted, sum, repr of one value, a chain of comparisons, {..}.get(..), comprehensions over range. -/
namespace Dl
open PySem PySem.Spec PyProof.Rows L2
/-- two strictly ascending lists with the same members -/
theorem asc_eq : ∀ {xs ys : List Int}, xs.Pairwise (· < ·) → ys.Pairwise (· < ·) → (∀ k, k ∈ xs ↔ k ∈ ys) → xs = ys
  | [], [], _, _, _ => rfl
  | [], y :: ys, _, _, h => by have := (h y).mpr (List.mem_cons_self ..); simp at this
  | x :: xs, [], _, _, h => by have := (h x).mp (List.mem_cons_self ..); simp at this
  | x :: xs, y :: ys, hx, hy, h => by
    obtain ⟨hx1, hx2⟩ := List.pairwise_cons.mp hx
    obtain ⟨hy1, hy2⟩ := List.pairwise_cons.mp hy
    have e : x = y := by
      have a := (h x).mp (List.mem_cons_self ..)
      have b := (h y).mpr (List.mem_cons_self ..)
      rcases List.mem_cons.mp a with a | a
      · exact a
      · rcases List.mem_cons.mp b with b | b
        · exact b.symm
        · have := hx1 y b; have := hy1 x a; omega
    subst e
    rw [asc_eq hx2 hy2 fun k => ?_]
    constructor
    · intro q
      rcases List.mem_cons.mp ((h k).mp (List.mem_cons_of_mem _ q)) with z | z
      · have := hx1 k q; omega
      · exact z
    · intro q
      rcases List.mem_cons.mp ((h k).mpr (List.mem_cons_of_mem _ q)) with z | z
      · have := hy1 k q; omega
      · exact z
theorem asc_of_le : ∀ {xs : List Int}, xs.Pairwise (· ≤ ·) → xs.Nodup → xs.Pairwise (· < ·)
  | [], _, _ => .nil
  | x :: xs, h, n => by
    obtain ⟨h1, h2⟩ := List.pairwise_cons.mp h
    obtain ⟨n1, n2⟩ := List.nodup_cons.mp n
    refine List.pairwise_cons.mpr ⟨fun y hy => ?_, asc_of_le h2 n2⟩
    have := h1 y hy
    have : x ≠ y := fun z => n1 (z ▸ hy)
    omega
theorem ints_dq {K : PySem.W.Frag} {H : Hp} : ∀ ns : List Int, DqAll K H (ns.map V.int) (ns.map PyData.int)
  | [] => .nil
  | n :: ns => .cons (.int n) (ints_dq ns)
theorem ints_v {K : PySem.W.Frag} {H : Hp} : ∀ {ns : List Int} {xs : List V}, DqAll K H xs (ns.map PyData.int) → xs = ns.map V.int
  | [], _, h => by cases h; rfl
  | n :: ns, _, h => by
    cases h with
    | cons a b => rw [dp_int a, ints_v b]; rfl
section
variable {X : Cx} {M : List Addr} {σ : L2.St} {H H' : Hp} {e a b c o elt tg iter : Expr} {ifs : List Expr} {scope : Scope} {own : List (Str × Nat)} {es : List Expr} {d d1 d2 : PyData} {ds ds2 : List PyData} {x : Str} {v : V} {pos p1 p2 p3 : Pos}
theorem set_list {w : World} {K : PySem.W.Frag} {a : Addr} {xs : List V} {g : TG} {tt : TT} {te : TE} {vs : List Nat} {Ha : Hp} {p : Addr} {Qd : Hp → Prop} (Pv : Nat → Hp → Prop) (h0 : Pv 0 (upd Ha p (SetO w p (fun _ => false) 0)))
    (hl : ∀ i Hb, i ≤ xs.length → Pv i Hb → SqL K Hb a xs)
    (hs : ∀ i x Hc, xs[i]? = some x → Pv i Hc → g x (wipe σ vs) Hc fun τ Hd => wipe τ vs = wipe σ vs ∧ tt τ Hd fun b He =>
      if b = true then te τ He fun y Hf => ∃ (n : Int) (S : Int → Bool) (c : Nat), y = .int n ∧ Hf p = some (SetO w p S c) ∧ c + 1 < scanBound ∧ Pv (i + 1) (upd Hf p (SetO w p (fun j => S j || decide (j = n)) (if S n = true then c else c + 1))) else Pv (i + 1) He)
    (hd : ∀ Hb, Pv xs.length Hb → Qd Hb) :
    ∃ Z : Nat → Nat → Hp → Prop, (∃ k, Z 0 k (upd Ha p (SetO w p (fun _ => false) 0))) ∧ ∀ i k Hb, Z i k Hb → ((Itl K a).stop i Hb ∧ Qd Hb) ∨ ((Itl K a).go i Hb ∧ ∃ Nx : Hp → Prop, (∀ Hc, Nx Hc → ∃ j, j < k ∧ Z (i + 1) j Hc) ∧
      ∀ x Hc, (Itl K a).yld i Hb x Hc → g x (wipe σ vs) Hc fun τ Hd => wipe τ vs = wipe σ vs ∧ tt τ Hd fun b He =>
        if b = true then te τ He fun y Hf => ∃ (n : Int) (S : Int → Bool) (c : Nat), y = .int n ∧ Hf p = some (SetO w p S c) ∧ c + 1 < scanBound ∧ Nx (upd Hf p (SetO w p (fun j => S j || decide (j = n)) (if S n = true then c else c + 1))) else Nx He) := by
  refine ⟨fun i k Hb => k + i = xs.length ∧ Pv i Hb, ⟨xs.length, rfl, h0⟩, fun i k Hb hz => ?_⟩
  obtain ⟨hk, hp⟩ := hz
  have here := hl i Hb (by omega) hp
  cases e : xs[i]? with
  | none =>
    have hge : xs.length ≤ i := List.getElem?_eq_none_iff.mp e
    have ei : i = xs.length := by omega
    subst ei
    exact .inl ⟨⟨xs, here, hge⟩, hd Hb hp⟩
  | some x0 =>
    have hlt := (List.getElem?_eq_some_iff.mp e).1
    refine .inr ⟨⟨xs, x0, here, e⟩, Pv (i + 1), fun Hc hc => ⟨k - 1, by omega, by omega, hc⟩, fun x Hc hy => ?_⟩
    obtain ⟨rfl, hy⟩ := hy
    exact hs i x _ (hy xs here) hp
/-- sorted({elt for tg in iter if ..}) -/
theorem xl_sortedSet (f : PyData → Option Int) (ns : List Int) (hm : X.mg "sorted" = none) (L : Live M H) (hN : X.N.Nodup) (hit : XD X M σ H iter (.list ds)) (ok : BlkOk X.N X.env.scope scope own) (hz : ds.length ≤ 60)
    (hst : ∀ p d v H1, d ∈ ds → H p = none → Same H H1 → Live (p :: M) H1 → Dq X.K (hid (p :: M) H1) v d → BG X scope tg v (wipe σ (own.map (·.2))) H1 fun τ H2 => wipe τ (own.map (·.2)) = wipe σ (own.map (·.2)) ∧ BT X scope ifs τ H2 fun k H3 =>
      Same H1 H3 ∧ ((k = true ∧ ∃ n, f d = some n ∧ BE X scope elt τ H3 fun y H4 => Same H3 H4 ∧ y = .int n) ∨ (k = false ∧ f d = none)))
    (hasc : ns.Pairwise (· < ·)) (hmem : ∀ k, k ∈ ns ↔ ∃ d ∈ ds, f d = some k) (hc : X.calm = true := by rfl) (hs : ∀ x, foldedSetIterable iter X.env x = pure x := by intro _; rfl) (hg : Gl X "sorted" := by rfl)
    (he : starEach [.SetComp elt [⟨tg, iter, ifs, 0⟩] scope pos] X.env = (false, eval (.SetComp elt [⟨tg, iter, ifs, 0⟩] scope pos) X.env) :: starEach [] X.env := by rfl) (hpl : (backTo p2 (starEach [] X.env)).any (·.1) = false := by rfl) :
    XL X M σ H (.Call (.Name "sorted" p1) [.SetComp elt [⟨tg, iter, ifs, 0⟩] scope pos] [] p2) (ns.map PyData.int) := fun H1 s1 Q q => by
  refine re_B (cr_sortedSet hc) (ra_1 ⟨_, pe_setI (own := own) hc hN (pi_list re_) ok (fun _ _ _ _ _ => bg_) (fun _ _ _ _ _ => bt_) (fun _ _ _ _ _ => be_) hs, hit H1 s1 _ fun v H2 s2 hv => ?_⟩ he) hm (by decide +kernel) hg (by decide) (by decide) he hpl
  obtain ⟨a, xs, rfl, ha, hx⟩ := dp_lst hv
  have L2' : Live M H2 := L.mono (s1.trans s2)
  refine ⟨a, rfl, ⟨xs, SqL.of (hid_le _ _ ha)⟩, fun p hp => ?_⟩
  have hp0 : H p = none := (s1.trans s2).free hp
  refine set_list (xs := xs) (a := a) (fun i H' => Same H2 H' ∧ ∃ S c, H' p = some (SetO X.w p S c) ∧ c ≤ i ∧ ∀ k, S k = true ↔ ∃ d ∈ ds.take i, f d = some k)
    ⟨same_new hp, fun _ => false, 0, upd_same, Nat.le_refl _, fun k => by simp⟩ (fun i H' _ z => SqL.of (z.1 _ _ (hid_le _ _ ha))) (fun i x H' hi z => ?_) (fun H' z => ?_)
  · obtain ⟨sH, S, n, hS, hn, hk⟩ := z
    obtain ⟨d, hd1, hd2⟩ := dpa_get' hx hi
    have hdm : d ∈ ds := List.mem_of_getElem? hd1
    have hi60 : i < 60 := by have := (List.getElem?_eq_some_iff.mp hd1).1; omega
    have etake : ds.take (i + 1) = ds.take i ++ [d] := by rw [List.take_add_one, hd1]; rfl
    have Lp : Live (p :: M) H' := fun b hb => by
      rcases List.mem_cons.mp hb with z | hb
      · subst z; rw [hS]; simp
      · exact L2'.mono sH b hb
    refine bg_mono (hst p d x H' hdm hp0 ((s1.trans s2).trans sH) Lp (hd2.up (hid_step hp sH))) fun τ Ha ⟨hw, hbt⟩ => ⟨hw, bt_mono hbt fun k Hb ⟨sb, hk'⟩ => ?_⟩
    rcases hk' with ⟨hk1, m, hf, hbe⟩ | ⟨hk1, hf⟩
    · subst hk1
      refine iteT (be_mono hbe fun y Hc ⟨sc, hy⟩ => ?_)
      have sd := sb.trans sc
      refine ⟨m, S, n, hy, sd _ _ hS, Nat.lt_of_lt_of_le (by omega : n + 1 < 4096) (Nat.le_refl _), fun b o e => ?_, fun j => S j || decide (j = m), (if S m = true then n else n + 1), upd_same, by split <;> omega, fun j => ?_⟩
      · rw [upd_ne (ne_of_none e hp)]
        exact sd _ _ (sH _ _ e)
      · rw [Bool.or_eq_true, decide_eq_true_eq, hk j, etake]
        constructor
        · rintro (⟨d', h1, h2⟩ | h)
          · exact ⟨d', List.mem_append_left _ h1, h2⟩
          · exact ⟨d, List.mem_append_right _ (List.mem_singleton.mpr rfl), by rw [hf, h]⟩
        · rintro ⟨d', h1, h2⟩
          rcases List.mem_append.mp h1 with h1 | h1
          · exact .inl ⟨d', h1, h2⟩
          · rw [List.mem_singleton.mp h1, hf] at h2
            exact .inr (Option.some.inj h2).symm
    · subst hk1
      refine iteF ⟨sH.trans sb, S, n, sb _ _ hS, by omega, fun j => ?_⟩
      rw [hk j, etake]
      constructor
      · rintro ⟨d', h1, h2⟩
        exact ⟨d', List.mem_append_left _ h1, h2⟩
      · rintro ⟨d', h1, h2⟩
        rcases List.mem_append.mp h1 with h1 | h1
        · exact ⟨d', h1, h2⟩
        · rw [List.mem_singleton.mp h1, hf] at h2
          cases h2
  · obtain ⟨sH, S, n, hS, hn, hk⟩ := z
    have hlen := dpa_len hx
    rw [hlen, List.take_length] at hk
    refine ⟨p, S, n, rfl, hS, by omega, fun ks l h1 h2 _ hl => ?_⟩
    have e : ks = ns := asc_eq h1 hasc fun k => (h2 k).trans ((hk k).trans (hmem k).symm)
    subst e
    refine q l _ _ ((s2.trans sH).trans (same_new hl)) ((s2.trans sH).free hl) upd_same ?_
    rw [hid_new (L2'.mono sH) hl]
    exact ints_dq ks
/-- sorted(l), l a list of different whole numbers -/
theorem xl_sortedI {ms : List Int} (ns : List Int) (hm : X.mg "sorted" = none) (L : Live M H) (ha : XD X M σ H e (.list (ms.map PyData.int))) (hz : ms.length < 64) (hnd : ms.Nodup) (hasc : ns.Pairwise (· < ·)) (hmem : ∀ k, k ∈ ns ↔ k ∈ ms) (hg : Gl X "sorted" := by rfl)
    (he : starEach [e] X.env = (false, eval e X.env) :: starEach [] X.env := by rfl) (hpl : (backTo p2 (starEach [] X.env)).any (·.1) = false := by rfl) : XL X M σ H (.Call (.Name "sorted" p1) [e] [] p2) (ns.map PyData.int) := fun H1 s1 Q q =>
  re_B cr_sorted (ra_1 (ha H1 s1 _ fun v H2 s2 hv => by
    obtain ⟨a, xs, rfl, ha, hx⟩ := dp_lst hv
    have ex := ints_v hx
    subst ex
    refine ⟨a, ms, rfl, SqL.of (hid_le _ _ ha), hz, fun ks l h1 h2 hl => ?_⟩
    have e : ks = ns := asc_eq (asc_of_le h2 (h1.nodup_iff.mpr hnd)) hasc fun k => h1.mem_iff.trans (hmem k).symm
    subst e
    refine q l _ _ (s2.trans (same_new hl)) (s2.free hl) upd_same ?_
    rw [hid_new (L.mono (s1.trans s2)) hl]
    exact ints_dq ks) he) hm (by decide +kernel) hg (by decide) (by decide) he hpl
/-- sum(l) -/
theorem xd_sum {ns : List Int} (hm : X.mg "sum" = none) (ha : XD X M σ H e (.list (ns.map PyData.int))) (hc : X.calm = true := by rfl) (hg : Gl X "sum" := by rfl)
    (he : starEach [e] X.env = (false, eval e X.env) :: starEach [] X.env := by rfl) (hpl : (backTo p2 (starEach [] X.env)).any (·.1) = false := by rfl) : XD X M σ H (.Call (.Name "sum" p1) [e] [] p2) (.int ns.sum) := fun H1 s1 Q q =>
  re_B (cr_sum hc) (ra_1 (ha H1 s1 _ fun v H2 s2 hv => by
    obtain ⟨a, xs, rfl, ha, hx⟩ := dp_lst hv
    have ex := ints_v hx
    subst ex
    exact ⟨a, ns, rfl, SqL.of (hid_le _ _ ha), q _ H2 s2 (.int _)⟩) he) hm (by decide +kernel) hg (by decide) (by decide) he hpl
/-! ### repr of one value -/
/-- a whole number of few digits, or None -/
def Plain (d : PyData) : Prop := d = .none ∨ ∃ i : Int, d = .int i ∧ i.natAbs.log2 < 1920
def txt : PyData → Str
  | .int i => Str.ofString (toString i)
  | _ => "None"
theorem call_reprN : CallR X (.builtin "repr") (fun xs H Q => xs = [.non] ∧ Q (.str "None") H) := by
  intro pins s σ H xs us Q I r h
  obtain ⟨rfl, q⟩ := h
  obtain ⟨u, rfl, rx⟩ := vals1 r
  cases rx
  exact PySem.P.repr_of_none ⟨.str _, H, I.tok _, ⟨_, rfl⟩, q⟩
theorem xd_reprP (hm : X.mg "repr" = none) (h : Plain d) (ha : XD X M σ H e d) (hg : Gl X "repr" := by rfl)
    (he : starEach [e] X.env = (false, eval e X.env) :: starEach [] X.env := by rfl) (hpl : (backTo p2 (starEach [] X.env)).any (·.1) = false := by rfl) : XD X M σ H (.Call (.Name "repr" p1) [e] [] p2) (.str (txt d)) := fun H1 s1 Q q => by
  rcases h with rfl | ⟨i, rfl, hi⟩
  · exact re_B call_reprN (ra_1 (ha H1 s1 _ fun v H2 s2 hv => ⟨by rw [dp_non hv], q _ H2 s2 (.str _)⟩) he) hm (by decide +kernel) hg (by decide) (by decide) he hpl
  · exact re_B SkE.call_repr_int (ra_1 (ha H1 s1 _ fun v H2 s2 hv => ⟨i, by rw [dp_int hv], hi, q _ H2 s2 (.str _)⟩) he) hm (by decide +kernel) hg (by decide) (by decide) he hpl
theorem xt_reprNeP {pa pb : Pos} (hm : X.mg "repr" = none) (h : Plain d) (ha : XD X M σ H a d) (hb : XD X M σ H b d) (hg : Gl X "repr" := by rfl)
    (he : starEach [a] X.env = (false, eval a X.env) :: starEach [] X.env := by rfl) (hpl : (backTo pa (starEach [] X.env)).any (·.1) = false := by rfl) (he2 : starEach [b] X.env = (false, eval b X.env) :: starEach [] X.env := by rfl) (hpl2 : (backTo pb (starEach [] X.env)).any (·.1) = false := by rfl) :
    XT X σ H (.Compare (.Call (.Name "repr" p1) [a] [] pa) [.NotEq] [.Call (.Name "repr" p2) [b] [] pb] pos) false :=
  xt_cmp op_ne (xd_reprP hm h ha hg he hpl) (xd_reprP hm h hb hg he2 hpl2) fun H1 v w s hv hw Q q => by
    rw [dp_str hv, dp_str hw]
    exact ⟨rfl, by rw [decide_eq_true rfl]; exact q H1 (Same.refl _)⟩
/-! ### l <= x < h -/
theorem xt_chainI {op op' : CmpOp} {g g' : Int → Int → Bool} {l m n : Int} (ho : OpR X (compareOp op) (rI0 fun i j => .bl (g i j))) (ho' : OpR X (compareOp op') (rI0 fun i j => .bl (g' i j))) (ha : XD X M σ H a (.int l)) (hb : XD X M σ H b (.int m)) (hc : XD X M σ H c (.int n))
    (hm : lastMarks [op, op'] [b, c] = false := by with_unfolding_all rfl) : XT X σ H (.Compare a [op, op'] [b, c] pos) (g l m && g' m n) := fun H1 s Q q =>
  ⟨_, pt_chain ho ho' re_ re_ re_ hm, ha H1 s _ fun v H2 s2 hv => hb H2 (s.trans s2) _ fun u H3 s3 hu => ⟨l, m, dp_int hv, dp_int hu, g l m, rfl, by
    cases e : g l m with
    | false =>
      rw [e] at q
      exact iteF ⟨false, rfl, q H3 (s2.trans s3)⟩
    | true =>
      rw [e] at q
      exact iteT (hc H3 ((s.trans s2).trans s3) _ fun y H4 s4 hy => ⟨m, n, dp_int hu, dp_int hy, g' m n, rfl, q H4 ((s2.trans s3).trans s4)⟩)⟩⟩
/-! ### {k1: a, k2: b}.get(c) -/
theorem xd_get2 {k1 k2 k : Str} {i1 i2 : Int} {j1 j2 : _} {q1 q2 : Pos} (hu : X.A.units + 1 < cLine) (ha : XD X M σ H a (.int i1)) (hb : XD X M σ H b (.int i2)) (hk : XD X M σ H c (.str k)) (hne : k1 ≠ k2)
    (mm : M1 X (.Dict [some (.Constant (.str k1) j1 q1), some (.Constant (.str k2) j2 q2)] [a, b] pos) "get" p1 c p2) :
    XD X M σ H (.Call (.Attribute (.Dict [some (.Constant (.str k1) j1 q1), some (.Constant (.str k2) j2 q2)] [a, b] pos) "get" p1) [c] [] p2) (if k = k1 then .int i1 else if k = k2 then .int i2 else .none) := fun H1 s1 Q q =>
  ⟨_, pe_dget1 hu (pe_disp (pps_cons pe_str re_ (pps_cons pe_str re_ pps_nil)) rfl rfl (by simp) (by simp)) re_ mm, fun p hp => ha _ (s1.trans (same_new hp)) _ fun v H2 s2 hv => hb H2 ((s1.trans (same_new hp)).trans s2) _ fun u H3 s3 hu => by
    have s13 : Same H1 H3 := ((same_new hp).trans s2).trans s3
    have h3p : H3 p = some (.dK []) := s3 _ _ (s2 _ _ upd_same)
    refine ⟨h3p, [(.inr k1, .int i1), (.inr k2, .int i2)], by rw [dp_int hv, dp_int hu]; rfl, by simp, p, rfl, .inl ⟨_, .inl upd_same⟩, ?_⟩
    have sx : Same H1 (upd H3 p (.dK (mergeK [] [(.inr k1, .int i1), (.inr k2, .int i2)]))) := fun b o e => by
      rw [upd_ne (ne_of_none e hp)]
      exact s13 b o e
    refine hk _ (s1.trans sx) _ fun y H4 s4 hy => ?_
    rw [dp_str hy]
    have e : mergeK [] [((Sum.inr k1 : L2.Key), V.int i1), (.inr k2, .int i2)] = [(.inr k1, .int i1), (.inr k2, .int i2)] := by
      have n : (Sum.inr k1 : L2.Key) ≠ .inr k2 := fun z => hne (Sum.inr.inj z)
      show putK (putK [] (Sum.inr k1 : L2.Key) (V.int i1)) (.inr k2) (.int i2) = _
      have e1 : putK [] (Sum.inr k1 : L2.Key) (V.int i1) = [(.inr k1, .int i1)] := rfl
      rw [e1]
      unfold putK
      rw [if_neg (by simp [hne])]
      rfl
    rw [e] at s4
    refine ⟨_, DGet.k (k := .inr k) (s4 _ _ upd_same), q _ H4 ?_ ?_⟩
    · rw [e] at sx; exact sx.trans s4
    · by_cases h1 : k = k1
      · subst h1
        rw [valV_pos rfl, if_pos rfl]
        exact .int _
      · rw [valV_neg (fun z => h1 (Sum.inr.inj z).symm), if_neg h1]
        by_cases h2 : k = k2
        · subst h2
          rw [valV_pos rfl, if_pos rfl]
          exact .int _
        · rw [valV_neg (fun z => h2 (Sum.inr.inj z).symm), if_neg h2, valV_nil]
          exact .non⟩
/-! ### [.. for x in range(a, b)], whole numbers -/
theorem xl_range2 {lo hi : Int} (g : Int → Int) (hm : X.mg "range" = none) (L : Live M H) (hN : X.N.Nodup) (ha : XD X M σ H a (.int lo)) (hb : XD X M σ H b (.int hi)) (ok : BlkOk X.N X.env.scope scope own) (hz : (-(1000 : Int) ≤ lo ∧ lo ≤ 1000) ∧ (-(1000 : Int) ≤ hi ∧ hi ≤ 1000))
    (hst : ∀ i H1, Same H H1 → BG X scope tg (.int i) (wipe σ (own.map (·.2))) H1 fun τ H2 => wipe τ (own.map (·.2)) = wipe σ (own.map (·.2)) ∧ Same H1 H2 ∧ BE X scope elt τ H2 fun y H3 => Same H2 H3 ∧ y = .int (g i))
    (hc : X.calm = true := by rfl) (hs : ∀ x, foldedSetIterable (.Call (.Name "range" p1) [a, b] [] p2) X.env x = pure x := by intro _; rfl) (hg : Gl X "range" := by rfl)
    (he : starEach [a, b] X.env = (false, eval a X.env) :: starEach [b] X.env := by rfl) (he2 : starEach [b] X.env = (false, eval b X.env) :: starEach [] X.env := by rfl)
    (he3 : starEach [b] X.env = [(false, eval b X.env)] := by rfl) : XL X M σ H (.ListComp elt [⟨tg, .Call (.Name "range" p1) [a, b] [] p2, [], 0⟩] scope pos) ((List.range (hi - lo).toNat).map fun i : Nat => PyData.int (g (lo + i))) := fun H1 s1 Q q =>
  ⟨_, pe_lc (own := own) hc hN (pi_range2 hg hm ra_ (by rw [he, he3]) he3) ok (fun _ _ _ _ _ => bg_) (fun _ _ _ _ _ => bt_) (fun _ _ _ _ _ => be_) hs, ra_cons (ha H1 s1 _ fun v H2 s2 hv => ra_1 (hb H2 (s1.trans s2) _ fun u H3 s3 hu => by
    have b1 : (1000 : Int) < 2 ^ 62 := by decide
    refine ⟨lo, hi, by rw [dp_int hv, dp_int hu], ⟨by omega, by omega, by omega, by omega⟩, fun p hp => ?_⟩
    have s13 := s2.trans s3
    have L3 := L.mono (s1.trans s13)
    refine lc_range (fun i H' => Same H3 H' ∧ ∃ acc, H' p = some (.lst acc) ∧ acc = ((List.range i).map fun i : Nat => V.int (g (lo + i)))) ⟨same_new hp, [], upd_same, rfl⟩ (fun i H' hi' z => ?_) (fun H' z => ?_)
    · obtain ⟨sH, acc, hacc, ea⟩ := z
      refine bg_mono (hst (lo + i) H' ((s1.trans s13).trans sH)) fun τ Ha ⟨hw, sa, hbe⟩ => ⟨hw, bt_nil (iteT (be_mono hbe fun y Hb ⟨sb, ey⟩ => ?_))⟩
      have sd := sa.trans sb
      refine ⟨acc, sd _ _ hacc, ?_, fun b o e => ?_, _, upd_same, ?_⟩
      · have h4 : 100000 < sizeLine := by decide
        rw [ea, List.length_map, List.length_range]
        omega
      · rw [upd_ne (ne_of_none e hp)]
        exact sd _ _ (sH _ _ e)
      · rw [ea, ey, List.range_succ, List.map_append]
        rfl
    · obtain ⟨sH, acc, hacc, ea⟩ := z
      refine q p acc H' (s13.trans sH) (s13.free hp) hacc ?_
      rw [ea]
      have e := ints_dq (K := X.K) (H := hid M H') ((List.range (hi - lo).toNat).map fun i : Nat => g (lo + i))
      rw [List.map_map, List.map_map] at e
      exact e) he2) he⟩
end
end Dl

set_option Elab.async false
set_option linter.all false
set_option maxRecDepth 100000
set_option maxHeartbeats 4000000
/-! Data layer, part 8: x = [..] on one line. -/
namespace Dl
open PySem PySem.Spec PyProof.Rows L2
section
variable {X : Cx} {M : List Addr} {σ : L2.St} {H H' : Hp} {e a b c o elt tg iter : Expr} {ifs : List Expr} {scope : Scope} {own : List (Str × Nat)} {es : List Expr} {d : PyData} {ds : List PyData} {x : Str} {v : V} {pos p0 p1 p2 p3 p4 : Pos} {D : Ends} {rest : List Stmt}
/-- a comprehension; Pv: what more is known of each item -/
theorem lc_P (f : PyData → Option PyData) (Pv : Addr → V → Hp → Prop) (mono : ∀ p v H1 H2, (∀ b o, b ≠ p → H1 b = some o → H2 b = some o) → Pv p v H1 → Pv p v H2) (L : Live M H) (hN : X.N.Nodup) (hit : XD X M σ H iter (.list ds)) (ok : BlkOk X.N X.env.scope scope own) (hz : ds.length ≤ 100000)
    (hst : ∀ p d v H1, d ∈ ds → H p = none → Same H H1 → Live (p :: M) H1 → Dq X.K (hid (p :: M) H1) v d → BG X scope tg v (wipe σ (own.map (·.2))) H1 fun σ2 H2 => wipe σ2 (own.map (·.2)) = wipe σ (own.map (·.2)) ∧ BT X scope ifs σ2 H2 fun k H3 =>
      Same H1 H3 ∧ ((k = true ∧ ∃ d', f d = some d' ∧ BE X scope elt σ2 H3 fun y H4 => Same H3 H4 ∧ Dq X.K (hid (p :: M) H4) y d' ∧ Pv p y H4) ∨ (k = false ∧ f d = none)))
    {Q : VK} (q : ∀ p xs H2, Same H H2 → H p = none → H2 p = some (.lst xs) → DqAll X.K (hid (p :: M) H2) xs (ds.filterMap f) → (∀ v ∈ xs, Pv p v H2) → Q (.ref p) H2)
    : ∃ wi, PI X tg iter wi ∧ tLc wi (BG X scope tg) (BT X scope ifs) (BE X scope elt) (own.map (·.2)) σ H Q :=
  ⟨_, pi_list re_, hit H (Same.refl H) _ fun v H2 s2 hv => by
    obtain ⟨a, xs, rfl, ha, hx⟩ := dp_lst hv
    have L2' : Live M H2 := L.mono s2
    refine ⟨a, rfl, ⟨xs, SqL.of (hid_le _ _ ha)⟩, fun p hp => ?_⟩
    have hpM : p ∉ M := L2'.fresh hp
    have hp0 : H p = none := s2.free hp
    refine lc_list (xs := xs) (a := a) (fun i H' => Same H2 H' ∧ ∃ acc, H' p = some (.lst acc) ∧ DqAll X.K (hid (p :: M) H') acc ((ds.take i).filterMap f) ∧ ∀ v ∈ acc, Pv p v H') ⟨same_new hp, [], upd_same, by simpa using DqAll.nil, fun v hv => by simp at hv⟩ (fun i H' _ w => SqL.of (w.1 _ _ (hid_le _ _ ha))) (fun i x H' hi w => ?_) (fun H' w => ?_)
    · obtain ⟨sH, acc, hacc, hda, hpv⟩ := w
      obtain ⟨d, hd1, hd2⟩ := dpa_get' hx hi
      have hdm : d ∈ ds := List.mem_of_getElem? hd1
      have etake : ds.take (i + 1) = ds.take i ++ [d] := by
        rw [List.take_add_one, hd1]; rfl
      have hlen : acc.length < sizeLine := by
        rw [dpa_len hda]
        have h1 : ((ds.take i).filterMap f).length ≤ (ds.take i).length := List.length_filterMap_le ..
        have h2 : (ds.take i).length ≤ i := by rw [List.length_take]; omega
        have h3 : i < ds.length := (List.getElem?_eq_some_iff.mp hd1).1
        have h4 : 100000 < sizeLine := by decide
        omega
      have Lp : Live (p :: M) H' := fun b hb => by
        rcases List.mem_cons.mp hb with z | hb
        · subst z; rw [hacc]; simp
        · exact L2'.mono sH b hb
      have kx : Dq X.K (hid (p :: M) H') x d := hd2.up (hid_step hp sH)
      refine bg_mono (hst p d x H' hdm hp0 (s2.trans sH) Lp kx) fun σ2 Ha ⟨hw, hbt⟩ => ⟨hw, bt_mono hbt fun k Hb ⟨sb, hk⟩ => ?_⟩
      have sH' : Same H' Hb := sb
      rcases hk with ⟨hk, d', hf, hbe⟩ | ⟨hk, hf⟩
      · subst hk
        refine iteT (be_mono hbe fun y Hc ⟨sc, hy, hpy⟩ => ?_)
        have sd := sH'.trans sc
        refine ⟨acc, sd _ _ hacc, hlen, fun b o e => ?_, acc ++ [y], upd_same, ?_, fun v hv => ?_⟩
        · have nb : b ≠ p := ne_of_none e hp
          rw [upd_ne nb]
          exact sd _ _ (sH _ _ e)
        · rw [hid_upd_ne, etake, List.filterMap_append]
          have e2 : [d].filterMap f = [d'] := by simp [hf]
          rw [e2]
          exact dpa_app (hda.up (hid_mono sd)) (.cons hy .nil)
        · rcases List.mem_append.mp hv with z | z
          · exact mono p v H' _ (fun b o nb e => by rw [upd_ne nb]; exact sd _ _ e) (hpv v z)
          · rw [List.mem_singleton.mp z]
            exact mono p y Hc _ (fun b o nb e => by rw [upd_ne nb]; exact e) hpy
      · subst hk
        refine iteF ⟨sH.trans sH', acc, sH' _ _ hacc, ?_, fun v hv => mono p v H' _ (fun b o _ e => sH' _ _ e) (hpv v hv)⟩
        rw [etake, List.filterMap_append]
        have e2 : [d].filterMap f = [] := by simp [hf]
        rw [e2, List.append_nil]
        exact hda.up (hid_mono sH')
    · obtain ⟨sH, acc, hacc, hda, hpv⟩ := w
      have e1 : ds.take xs.length = ds := by rw [dpa_len hx]; exact List.take_length
      rw [e1] at hda
      exact q p acc H' (s2.trans sH) hp0 hacc hda hpv⟩
theorem re_compP (f : PyData → Option PyData) (Pv : Addr → V → Hp → Prop) (mono : ∀ p v H1 H2, (∀ b o, b ≠ p → H1 b = some o → H2 b = some o) → Pv p v H1 → Pv p v H2) (L : Live M H) (hN : X.N.Nodup) (hit : XD X M σ H iter (.list ds)) (ok : BlkOk X.N X.env.scope scope own) (hz : ds.length ≤ 100000)
    (hst : ∀ p d v H1, d ∈ ds → H p = none → Same H H1 → Live (p :: M) H1 → Dq X.K (hid (p :: M) H1) v d → BG X scope tg v (wipe σ (own.map (·.2))) H1 fun σ2 H2 => wipe σ2 (own.map (·.2)) = wipe σ (own.map (·.2)) ∧ BT X scope ifs σ2 H2 fun k H3 =>
      Same H1 H3 ∧ ((k = true ∧ ∃ d', f d = some d' ∧ BE X scope elt σ2 H3 fun y H4 => Same H3 H4 ∧ Dq X.K (hid (p :: M) H4) y d' ∧ Pv p y H4) ∨ (k = false ∧ f d = none)))
    {Q : VK} (q : ∀ p xs H2, Same H H2 → H p = none → H2 p = some (.lst xs) → DqAll X.K (hid (p :: M) H2) xs (ds.filterMap f) → (∀ v ∈ xs, Pv p v H2) → Q (.ref p) H2)
    (hc : X.calm = true := by rfl) (hs : ∀ x, foldedSetIterable iter X.env x = pure x := by intro _; rfl) : RE X (.ListComp elt [⟨tg, iter, ifs, 0⟩] scope pos) σ H Q := by
  obtain ⟨wi, h1, h2⟩ := lc_P f Pv mono L hN hit ok hz hst q
  exact ⟨_, pe_lc (own := own) hc hN h1 ok (fun _ _ _ _ _ => bg_) (fun _ _ _ _ _ => bt_) (fun _ _ _ _ _ => be_) hs, h2⟩
/-- x = [..], on one line -/
theorem rb_setC (i : Nat) {py : Pos} {spos : Pos} (f : PyData → Option PyData) (Pv : Addr → V → Hp → Prop) (mono : ∀ p v H1 H2, (∀ b o, b ≠ p → H1 b = some o → H2 b = some o) → Pv p v H1 → Pv p v H2) (L : Live M H) (hN : X.N.Nodup) (hit : XD X M σ H iter (.list ds)) (ok : BlkOk X.N X.env.scope scope own) (hz : ds.length ≤ 100000)
    (hst : ∀ p d v H1, d ∈ ds → H p = none → Same H H1 → Live (p :: M) H1 → Dq X.K (hid (p :: M) H1) v d → BG X scope tg v (wipe σ (own.map (·.2))) H1 fun σ2 H2 => wipe σ2 (own.map (·.2)) = wipe σ (own.map (·.2)) ∧ BT X scope ifs σ2 H2 fun k H3 =>
      Same H1 H3 ∧ ((k = true ∧ ∃ d', f d = some d' ∧ BE X scope elt σ2 H3 fun y H4 => Same H3 H4 ∧ Dq X.K (hid (p :: M) H4) y d' ∧ Pv p y H4) ∨ (k = false ∧ f d = none)))
    (q : ∀ p xs H2, Same H H2 → H p = none → H2 p = some (.lst xs) → DqAll X.K (hid (p :: M) H2) xs (ds.filterMap f) → (∀ v ∈ xs, Pv p v H2) → RB X rest D (σ.set i (some (.ref p))) H2)
    (hi : X.N[i]? = some x := by rfl) (hx : X.env.scope.names.lookup x = some .local := by rfl) (hsw : swapsWith (.ListComp elt [⟨tg, iter, ifs, 0⟩] scope pos) (some (.Name x py)) spos.line X.env = pure true := by exact sw_true rfl rfl rfl rfl)
    (hc : X.calm = true := by rfl) (hs : ∀ x, foldedSetIterable iter X.env x = pure x := by intro _; rfl) : RB X (.Assign [.Name x py] (.ListComp elt [⟨tg, iter, ifs, 0⟩] scope pos) spos :: rest) D σ H := by
  obtain ⟨wi, h1, h2⟩ := lc_P (Q := fun v H1 => RB X rest D (σ.set i (some v)) H1) f Pv mono L hN hit ok hz hst q
  exact ⟨_, pss_cons (ps_setLc (own := own) hc hN hi hx hsw h1 ok (fun _ _ _ _ _ => bg_) (fun _ _ _ _ _ => bt_) (fun _ _ _ _ _ => be_) hs) rb_, h2⟩
/-- x = [..], on one line; nothing more of the items -/
theorem rb_setC0 (i : Nat) {py : Pos} {spos : Pos} (f : PyData → Option PyData) (L : Live M H) (hN : X.N.Nodup) (hit : XD X M σ H iter (.list ds)) (ok : BlkOk X.N X.env.scope scope own) (hz : ds.length ≤ 100000)
    (hst : ∀ p d v H1, d ∈ ds → H p = none → Same H H1 → Live (p :: M) H1 → Dq X.K (hid (p :: M) H1) v d → BG X scope tg v (wipe σ (own.map (·.2))) H1 fun σ2 H2 => wipe σ2 (own.map (·.2)) = wipe σ (own.map (·.2)) ∧ BT X scope ifs σ2 H2 fun k H3 =>
      Same H1 H3 ∧ ((k = true ∧ ∃ d', f d = some d' ∧ BE X scope elt σ2 H3 fun y H4 => Same H3 H4 ∧ Dq X.K (hid (p :: M) H4) y d') ∨ (k = false ∧ f d = none)))
    (q : ∀ p xs H2, Same H H2 → H p = none → H2 p = some (.lst xs) → DqAll X.K (hid M H2) xs (ds.filterMap f) → RB X rest D (σ.set i (some (.ref p))) H2)
    (hi : X.N[i]? = some x := by rfl) (hx : X.env.scope.names.lookup x = some .local := by rfl) (hsw : swapsWith (.ListComp elt [⟨tg, iter, ifs, 0⟩] scope pos) (some (.Name x py)) spos.line X.env = pure true := by exact sw_true rfl rfl rfl rfl)
    (hc : X.calm = true := by rfl) (hs : ∀ x, foldedSetIterable iter X.env x = pure x := by intro _; rfl) : RB X (.Assign [.Name x py] (.ListComp elt [⟨tg, iter, ifs, 0⟩] scope pos) spos :: rest) D σ H :=
  rb_setC i f (fun _ _ _ => True) (fun _ _ _ _ _ _ => trivial) L hN hit ok hz (fun p d v H1 hd hp s Lp hv => bg_mono (hst p d v H1 hd hp s Lp hv) fun σ2 H2 ⟨hw, hbt⟩ => ⟨hw, bt_mono hbt fun k H3 ⟨sk, hk⟩ => ⟨sk, hk.elim (fun ⟨a, d', b, c⟩ => .inl ⟨a, d', b, be_mono c fun y H4 ⟨s4, h4⟩ => ⟨s4, h4, trivial⟩⟩) .inr⟩⟩)
    (fun p xs H2 s hp h2 hx _ => q p xs H2 s hp h2 (hx.up fun b o e => by
      have n1 : b ∉ p :: M := fun z => by unfold hid at e; rw [if_pos z] at e; cases e
      rw [hid_of (fun z => n1 (List.mem_cons_of_mem _ z))]
      exact hid_le _ _ e)) hi hx hsw hc hs
end
end Dl

set_option Elab.async false
set_option linter.all false
set_option maxRecDepth 100000
set_option maxHeartbeats 8000000
/-! sorted of a list of tuples of a whole number and a text; comprehensions over range(e), any data -/
namespace Dl
open PySem PySem.Spec PyProof.Rows L2
def encIS (b : Int × Str) : PyData := .tuple [.int b.1, .str b.2]
theorem each_of {K : PySem.W.Frag} {H : Hp} : ∀ {xs : List V} {us : List Value} (bs : List (Int × Str)), Vals xs us → DqAll K H xs (bs.map encIS) → PySem.W.EachIs (fun (u : Value) b => ∃ x, RelV x u ∧ Dq K H x (encIS b)) us bs
  | _, _, [], r, h => by
    cases h
    cases r
    exact .nil
  | _, _, b :: bs, r, h => by
    cases h with
    | cons h1 h2 =>
      cases r with
      | cons r1 r2 => exact .cons ⟨_, r1, h1⟩ (each_of bs r2 h2)
theorem each_back {K : PySem.W.Frag} {H : Hp} : ∀ {us : List Value} {bs : List (Int × Str)}, PySem.W.EachIs (fun (u : Value) b => ∃ x, RelV x u ∧ Dq K H x (encIS b)) us bs → ∃ ys, Vals ys us ∧ DqAll K H ys (bs.map encIS)
  | _, _, .nil => ⟨[], .nil, .nil⟩
  | _, _, .cons ⟨x, r, d⟩ t => by
    obtain ⟨ys, h1, h2⟩ := each_back t
    exact ⟨x :: ys, .cons r h1, .cons d h2⟩
theorem perm_asc : ∀ {xs ys : List (Int × Str)}, ys.Perm xs → xs.Pairwise (fun a b => a.1 < b.1) → ys.Pairwise (fun a b => a.1 ≤ b.1) → ys = xs
  | [], ys, p, _, _ => List.Perm.eq_nil p
  | x :: xs, [], p, _, _ => absurd p.length_eq (by simp)
  | x :: xs, y :: ys, p, hx, hy => by
    obtain ⟨hx1, hx2⟩ := List.pairwise_cons.mp hx
    obtain ⟨hy1, hy2⟩ := List.pairwise_cons.mp hy
    have e : y = x := by
      rcases List.mem_cons.mp (p.mem_iff.mp (List.mem_cons_self (a := y) (l := ys))) with e | m
      · exact e
      · rcases List.mem_cons.mp (p.mem_iff.mpr (List.mem_cons_self (a := x) (l := xs))) with e | m2
        · exact e.symm
        · have a := hx1 y m
          have b := hy1 x m2
          omega
    subst e
    rw [perm_asc p.cons_inv hx2 hy2]
theorem le_first {a b : Int × Str} (h : PySem.W.dataLe false encIS a b = true) : a.1 ≤ b.1 := by
  have h' : (!PySem.W.dataLt (encIS b) (encIS a)) = true := h
  refine Classical.byContradiction fun n => ?_
  have e : PySem.W.dataLt (encIS b) (encIS a) = true := by
    show PySem.W.dataLt (.tuple [.int b.1, .str b.2]) (.tuple [.int a.1, .str a.2]) = true
    rw [PySem.W.dataLt_pair (by simp [PySem.W.alike]) (by simp [PySem.W.alike]), PySem.W.dataLt_int]
    have z : PyData.eqv (.int b.1) (.int a.1) = false := by
      simp only [PyData.eqv, beq_eq_false_iff_ne]
      omega
    rw [z, if_neg Bool.false_ne_true]
    exact decide_eq_true (by omega)
  rw [e] at h'
  cases h'
/-- sorted in this order: the ascending list of the same -/
theorem sort_is {xs ys : List (Int × Str)} (p : ys.Perm xs) (h : xs.Pairwise fun a b => a.1 < b.1) : ys.mergeSort (PySem.W.dataLe false encIS) = xs := by
  refine perm_asc ((List.mergeSort_perm _ _).trans p) h ?_
  exact (PySem.W.sort_pairwise (PySem.W.sortLe_total _ false _) ys).imp fun h => le_first h
section
variable {X : Cx} {M : List Addr} {σ : L2.St} {H : Hp} {e a elt tg : Expr} {p1 p2 pos : Pos} {scope : Scope} {own : List (Str × Nat)} {D : Ends} {rest : List Stmt} {x : Str}
theorem alike_is (b b' : Int × Str) : PySem.W.alike (encIS b) (encIS b') = true := by simp [encIS, PySem.W.alike, PySem.W.alikeAll]
theorem cr_sortedIS (hu : X.A.units + 64 < cLine) : CallR X (.builtin "sorted") (fun vs H Q => ∃ (a : Addr) (xs : List V) (bs : List (Int × Str)) (M : List Addr), vs = [V.ref a] ∧ SqL X.K H a xs ∧ DqAll X.K (hid M H) xs (bs.map encIS) ∧ bs.length ≤ 1000 ∧
    ∀ ys p, DqAll X.K (hid M H) ys ((bs.mergeSort (PySem.W.dataLe false encIS)).map encIS) → H p = none → Q (.ref p) (upd H p (.lst ys))) := by
  intro pins s σ H vs us Q I r h
  obtain ⟨a, xs, bs, M, rfl, hs, hx, hlen, q⟩ := h
  obtain ⟨its, rv, hl, hz⟩ := I.list hs
  obtain ⟨u, rfl, ru⟩ := vals1 r
  obtain rfl : u = Value.ref a := ru
  have e1 := each_of bs rv hx
  refine PySem.W.sorted_data hl.isList e1 (e1.mono fun v b ⟨x, rx, hd⟩ => Dp.reads I (encIS b) x v ((hd.up hid_le).dp) rx) (.of alike_is) (.tuples fun b => ⟨_, _, rfl⟩) (Nat.le_trans hlen (by decide)) (fun b _ => ?_) fun out ho h2 => ?_
  · have z : (encIS b).depth = 1 := by simp [encIS, PyData.depth, PyData.depthAll]
    rw [z]
    omega
  · obtain ⟨ys, y1, y2⟩ := each_back h2
    obtain ⟨n, hn⟩ := sortedAll_at s.heap its out.toArray
    have hyl : ys.length ≤ sizeLine := by
      rw [y1.length, ho]
      exact Nat.le_trans hlen (by decide)
    exact ⟨.ref (s.heap.objs.size + 1), upd H (s.heap.objs.size + 1) (.lst ys), I.laid (t' := s.toks) (fun b o k => sortedAll_old k) (Nat.le_succ _) ⟨hyl, out, n, y1, hn⟩, rfl, q ys _ y2 (I.hok.fresh (Nat.le_succ _))⟩
/-- sorted(l) -/
theorem xl_sortedIS {bs cs : List (Int × Str)} (hu : X.A.units + 64 < cLine) (hm : X.mg "sorted" = none) (L : Live M H) (ha : XD X M σ H e (.list (bs.map encIS))) (hlen : bs.length ≤ 1000) (hp : bs.Perm cs) (hc : cs.Pairwise fun a b => a.1 < b.1) (hg : Gl X "sorted" := by rfl)
    (he : starEach [e] X.env = (false, eval e X.env) :: starEach [] X.env := by rfl) (hpl : (backTo p2 (starEach [] X.env)).any (·.1) = false := by rfl) : XL X M σ H (.Call (.Name "sorted" p1) [e] [] p2) (cs.map encIS) := fun H1 s1 Q q =>
  re_B (cr_sortedIS hu) (ra_1 (ha H1 s1 _ fun v H2 s2 hv => by
    obtain ⟨a, xs, rfl, ha, hx⟩ := dp_lst hv
    refine ⟨a, xs, bs, M, rfl, SqL.of (hid_le _ _ ha), hx, hlen, fun ys l h1 hl => ?_⟩
    rw [sort_is hp hc] at h1
    refine q l ys _ (s2.trans (same_new hl)) (s2.free hl) upd_same ?_
    rw [hid_new (L.mono (s1.trans s2)) hl]
    exact h1.up (same_new (hid_free hl))) he) hm (by decide +kernel) hg (by decide) (by decide) he hpl
/-! comprehensions over range(e) -/
theorem lc_rngD (n : Nat) (hn : n ≤ 1000) (g : Nat → PyData) (L : Live M H) (ha : XD X M σ H a (.int (n : Int)))
    (hst : ∀ p (i : Nat) H1, i < n → H p = none → Same H H1 → Live (p :: M) H1 → BG X scope tg (.int (i : Int)) (wipe σ (own.map (·.2))) H1 fun τ H2 => wipe τ (own.map (·.2)) = wipe σ (own.map (·.2)) ∧ Same H1 H2 ∧ BE X scope elt τ H2 fun y H3 => Same H2 H3 ∧ Dq X.K (hid (p :: M) H3) y (g i))
    {Q : VK} (q : ∀ p xs H2, Same H H2 → H p = none → H2 p = some (.lst xs) → DqAll X.K (hid M H2) xs ((List.range n).map g) → Q (.ref p) H2) (he : starEach [a] X.env = (false, eval a X.env) :: starEach [] X.env := by rfl) :
    tLc (iRng1 (RA X [a])) (BG X scope tg) (BT X scope []) (BE X scope elt) (own.map (·.2)) σ H Q :=
  ra_1 (ha H (Same.refl H) _ fun v H2 s2 hv => by
    refine ⟨(n : Int), by rw [dp_int hv], by omega, by omega, fun p hp => ?_⟩
    have hp0 : H p = none := s2.free hp
    have L2' : Live M H2 := L.mono s2
    refine lc_range (lo := 0) (n := (n : Int).toNat) (fun i H' => Same H2 H' ∧ ∃ acc, H' p = some (.lst acc) ∧ DqAll X.K (hid (p :: M) H') acc ((List.range i).map g)) ⟨same_new hp, [], upd_same, .nil⟩ (fun i H' hi z => ?_) (fun H' z => ?_)
    · obtain ⟨sH, acc, hacc, ea⟩ := z
      have hi' : i < n := by omega
      have Lp : Live (p :: M) H' := fun b hb => by
        rcases List.mem_cons.mp hb with z | hb
        · subst z; rw [hacc]; simp
        · exact L2'.mono sH b hb
      have e0 : (0 : Int) + (i : Int) = (i : Int) := Int.zero_add _
      rw [e0]
      refine bg_mono (hst p i H' hi' hp0 (s2.trans sH) Lp) fun τ Ha ⟨hw, sa, hbe⟩ => ⟨hw, bt_nil (iteT (be_mono hbe fun y Hb ⟨sb, ey⟩ => ?_))⟩
      have sd := sa.trans sb
      refine ⟨acc, sd _ _ hacc, ?_, fun b o e => ?_, acc ++ [y], upd_same, ?_⟩
      · have h4 : 100000 < sizeLine := by decide
        rw [dpa_len ea, List.length_map, List.length_range]
        omega
      · rw [upd_ne (ne_of_none e hp)]
        exact sd _ _ (sH _ _ e)
      · rw [hid_upd_ne, List.range_succ, List.map_append]
        exact dpa_app (ea.up (hid_mono sd)) (.cons ey .nil)
    · obtain ⟨sH, acc, hacc, ea⟩ := z
      rw [Int.toNat_natCast] at ea
      refine q p acc H' (s2.trans sH) hp0 hacc (ea.up fun b o e => ?_)
      have n1 : b ∉ p :: M := fun z => by unfold hid at e; rw [if_pos z] at e; cases e
      rw [hid_of (fun z => n1 (List.mem_cons_of_mem _ z))]
      exact hid_le _ _ e) he
/-- [.. for tg in range(a)] -/
theorem xl_rngD (n : Nat) (hn : n ≤ 1000) (g : Nat → PyData) (hm : X.mg "range" = none) (L : Live M H) (hN : X.N.Nodup) (ha : XD X M σ H a (.int (n : Int))) (ok : BlkOk X.N X.env.scope scope own)
    (hst : ∀ p (i : Nat) H1, i < n → H p = none → Same H H1 → Live (p :: M) H1 → BG X scope tg (.int (i : Int)) (wipe σ (own.map (·.2))) H1 fun τ H2 => wipe τ (own.map (·.2)) = wipe σ (own.map (·.2)) ∧ Same H1 H2 ∧ BE X scope elt τ H2 fun y H3 => Same H2 H3 ∧ Dq X.K (hid (p :: M) H3) y (g i))
    (hc : X.calm = true := by rfl) (hg : Gl X "range" := by rfl) (he : starEach [a] X.env = (false, eval a X.env) :: starEach [] X.env := by rfl) (he1 : starEach [a] X.env = [(false, eval a X.env)] := by rfl) (hs : ∀ x, foldedSetIterable (.Call (.Name "range" p1) [a] [] p2) X.env x = pure x := by intro _; rfl) :
    XL X M σ H (.ListComp elt [⟨tg, .Call (.Name "range" p1) [a] [] p2, [], 0⟩] scope pos) ((List.range n).map g) := fun H1 s1 Q q =>
  ⟨_, pe_lc (own := own) hc hN (pi_range1 hg hm ra_ he1) ok (fun _ _ _ _ _ => bg_) (fun _ _ _ _ _ => bt_) (fun _ _ _ _ _ => be_) hs,
    lc_rngD (own := own) n hn g (L.mono s1) (ha.up s1) (fun p i H2 hi hp s2 Lp => hst p i H2 hi (s1.free hp) (s1.trans s2) Lp) (fun p xs H2 s2 hp h2 hx => q p xs H2 s2 hp h2 hx) he⟩
/-- x = [.. for tg in range(a)], on one line -/
theorem rb_setRD (i : Nat) {py spos : Pos} (n : Nat) (hn : n ≤ 1000) (g : Nat → PyData) (hm : X.mg "range" = none) (L : Live M H) (hN : X.N.Nodup) (ha : XD X M σ H a (.int (n : Int))) (ok : BlkOk X.N X.env.scope scope own)
    (hst : ∀ p (i : Nat) H1, i < n → H p = none → Same H H1 → Live (p :: M) H1 → BG X scope tg (.int (i : Int)) (wipe σ (own.map (·.2))) H1 fun τ H2 => wipe τ (own.map (·.2)) = wipe σ (own.map (·.2)) ∧ Same H1 H2 ∧ BE X scope elt τ H2 fun y H3 => Same H2 H3 ∧ Dq X.K (hid (p :: M) H3) y (g i))
    (q : ∀ p xs H2, Same H H2 → H p = none → H2 p = some (.lst xs) → DqAll X.K (hid M H2) xs ((List.range n).map g) → RB X rest D (σ.set i (some (.ref p))) H2)
    (hi : X.N[i]? = some x := by rfl) (hx : X.env.scope.names.lookup x = some .local := by rfl) (hsw : swapsWith (.ListComp elt [⟨tg, .Call (.Name "range" p1) [a] [] p2, [], 0⟩] scope pos) (some (.Name x py)) spos.line X.env = pure true := by exact sw_true rfl rfl rfl rfl)
    (hc : X.calm = true := by rfl) (hg : Gl X "range" := by rfl) (he : starEach [a] X.env = (false, eval a X.env) :: starEach [] X.env := by rfl) (he1 : starEach [a] X.env = [(false, eval a X.env)] := by rfl) (hs : ∀ x, foldedSetIterable (.Call (.Name "range" p1) [a] [] p2) X.env x = pure x := by intro _; rfl) :
    RB X (.Assign [.Name x py] (.ListComp elt [⟨tg, .Call (.Name "range" p1) [a] [] p2, [], 0⟩] scope pos) spos :: rest) D σ H :=
  ⟨_, pss_cons (ps_setLc (own := own) hc hN hi hx hsw (pi_range1 hg hm ra_ he1) ok (fun _ _ _ _ _ => bg_) (fun _ _ _ _ _ => bt_) (fun _ _ _ _ _ => be_) hs) rb_,
    lc_rngD (own := own) (Q := fun v H1 => RB X rest D (σ.set i (some v)) H1) n hn g L ha hst q he⟩
/-- for tg in range(a, b): .. -/
theorem rb_range2 {tg b : Expr} {body : List Stmt} {lo : Int} {n : Nat} (hm : X.mg "range" = none) (hlo : -(2 ^ 61) < lo ∧ lo < 2 ^ 61) (hn : n < 2 ^ 60) (ha : XD X M σ H a (.int lo)) (hb : XD X M σ H b (.int (lo + n)))
    (h : ∀ H1, Same H H1 → ∃ Pv : Nat → L2.St → Hp → Prop, Pv 0 σ H1 ∧
      (∀ k σ' H', k < n → Pv k σ' H' → RG X tg (.int (lo + (k : Int))) σ' H' fun σ2 H2 => RB X body { D with nx := Pv (k + 1), ct := Pv (k + 1), bk := RB X rest D } σ2 H2) ∧ ∀ σ' H', Pv n σ' H' → RB X rest D σ' H')
    (hg : Gl X "range" := by rfl) (he : starEach [a, b] X.env = (false, eval a X.env) :: starEach [b] X.env := by rfl) (he2 : starEach [b] X.env = (false, eval b X.env) :: starEach [] X.env := by rfl) (he3 : starEach [b] X.env = [(false, eval b X.env)] := by rfl)
    (hp : PassesOwn (model X.prog X.w) X.A X.env X.xe := by exact PassesOwn.never) (hc : X.calm = true := by rfl)
    (hs : ∀ x, foldedSetIterable (.Call (.Name "range" p1) [a, b] [] p2) X.env x = pure x := by intro _; rfl) : RB X (.For tg (.Call (.Name "range" p1) [a, b] [] p2) body [] pos :: rest) D σ H :=
  ⟨_, pss_cons (ps_for hp hc (pi_range2 hg hm ra_ (by rw [he, he3]) he3) rg_ rb_ hs) rb_, ra_cons (ha H (Same.refl H) _ fun v H1 s1 hv => ra_1 (hb H1 s1 _ fun u H2 s2 hu => by
    obtain ⟨Pv, h0, hst, hd⟩ := h H2 (s1.trans s2)
    refine ⟨lo, lo + n, by rw [dp_int hv, dp_int hu], ⟨by omega, by omega, by omega, by omega⟩, ?_⟩
    have e : (lo + (n : Int) - lo).toNat = n := by omega
    rw [e]
    exact for_range Pv h0 hst hd) he2) he⟩
end
end Dl

set_option Elab.async false
set_option linter.all false
set_option maxRecDepth 100000
set_option maxHeartbeats 4000000
namespace Zn
open PySem PySem.Spec PyProof.Rows L2 Dl
def top (i : Nat) : Stmt := PySem.Challenge.pw_everyzone_k31_each_day_at_one_time.main.body.getD i (.Pass ⟨0, 0, 0, 0⟩)
abbrev sWhole : Stmt := top 11
abbrev sPair : Stmt := top 12
abbrev sNeed : Stmt := top 15
abbrev sRows : Stmt := top 23
abbrev sFollow : Stmt := top 24
abbrev sIsJump : Stmt := top 25
abbrev sJump : Stmt := top 26
abbrev sTorn : Stmt := top 27
/-- built-in names that the module leaves alone -/
structure Nm (mg : Str → Option Value) : Prop where
  isi : mg "isinstance" = none
  int : mg "int" = none
  bool : mg "bool" = none
  lst : mg "list" = none
  tup : mg "tuple" = none
  len : mg "len" = none
  abs : mg "abs" = none
  min : mg "min" = none
  max : mg "max" = none
  rep : mg "repr" = none
  rng : mg "range" = none
/-- a def of the module -/
structure Df (K : PySem.W.Frag) (mg : Str → Option Value) (x : Str) (st : Stmt) (ps : List Str) (f : Addr) (fd : FuncData) : Prop where
  F : Fun K x x st f fd
  g : mg x = some (.ref f)
  b : Binds K fd ps []
section
variable {P : Program} {w : World} {K : PySem.W.Frag} {mg : Str → Option Value} {base : Heap}
/-! ### is_whole -/
def isI : PyData → Bool
  | .int _ => true
  | .bool _ => true
  | _ => false
def isBl : PyData → Bool
  | .bool _ => true
  | _ => false
def whole : PyData → Bool
  | .int _ => true
  | _ => false
theorem k_int (d : PyData) : kitB (tyN d) "int" = some (isI d) := by
  cases d with
  | none => exact (by decide +kernel : kitB "NoneType" "int" = some false)
  | bool b => exact (by decide +kernel : kitB "bool" "int" = some true)
  | int i => exact (by decide +kernel : kitB "int" "int" = some true)
  | str z => exact (by decide +kernel : kitB "str" "int" = some false)
  | list l => exact (by decide +kernel : kitB "list" "int" = some false)
  | tuple l => exact (by decide +kernel : kitB "tuple" "int" = some false)
  | dict l => exact (by decide +kernel : kitB "dict" "int" = some false)
theorem k_bool (d : PyData) : kitB (tyN d) "bool" = some (isBl d) := by
  cases d with
  | none => exact (by decide +kernel : kitB "NoneType" "bool" = some false)
  | bool b => exact (by decide +kernel : kitB "bool" "bool" = some true)
  | int i => exact (by decide +kernel : kitB "int" "bool" = some false)
  | str z => exact (by decide +kernel : kitB "str" "bool" = some false)
  | list l => exact (by decide +kernel : kitB "list" "bool" = some false)
  | tuple l => exact (by decide +kernel : kitB "tuple" "bool" = some false)
  | dict l => exact (by decide +kernel : kitB "dict" "bool" = some false)
theorem whole_eq (d : PyData) : (isI d && !isBl d) = whole d := by cases d <;> rfl
def RWhole (ds : List PyData) (d : PyData) : Prop := ∃ x, ds = [x] ∧ d = .bool (whole x)
theorem scWhole : FnScope ["value"] ["value"] (defScope sWhole) := ⟨rfl, rfl, rfl, by decide +kernel, rfl, by decide +kernel, by decide +kernel⟩
theorem ok_whole {f : Addr} {fd : FuncData} (T : Nm mg) (F : Df K mg "is_whole" sWhole ["value"] f fd) : FnOk P w K mg base CX0 1 f fd ["value"] (spR K RWhole) := by
  refine F.F.ok scWhole (fun vs H Q E h => ?_) (fun cdv A outer s H vs Q E hr h => ?_)
  · obtain ⟨M, ds, d, L, hd, ⟨x, rfl, rfl⟩, q⟩ := h
    exact dpa_len hd
  · obtain ⟨M, ds, d, L, hd, ⟨x, rfl, rfl⟩, q⟩ := h
    cases hd with
    | cons h1 h2 =>
      cases h2
      refine rb_ret (M := M) (xd_and2 (xd_is1 (k_int x) T.isi T.int (by decide +kernel) (xd_name 0 rfl h1)) fun _ => xd_not (xd_is1 (k_bool x) T.isi T.bool (by decide +kernel) (xd_name 0 rfl h1))) fun v H1 s hv => q v H1 s ?_
      rw [whole_eq] at hv
      exact hv

/-! ### need_integer -/
def RNeed (ds : List PyData) (d : PyData) : Prop := ∃ i : Int, ds = [.int i] ∧ d = .none
theorem scNeed : FnScope ["value"] ["value"] (defScope sNeed) := ⟨rfl, rfl, rfl, by decide +kernel, rfl, by decide +kernel, by decide +kernel⟩
theorem ok_need {f fW : Addr} {fd fdW : FuncData} (T : Nm mg) (FW : Df K mg "is_whole" sWhole ["value"] fW fdW) (F : Df K mg "need_integer" sNeed ["value"] f fd) : FnOk P w K mg base CX0 2 f fd ["value"] (spR K RNeed) := by
  have GW : FnOk P w K mg base CX0 1 fW fdW ["value"] (spR K RWhole) := ok_whole T FW
  refine F.F.ok scNeed (fun vs H Q E h => ?_) (fun cdv A outer s H vs Q E hr h => ?_)
  · obtain ⟨M, ds, d, L, hd, ⟨x, rfl, rfl⟩, q⟩ := h
    exact dpa_len hd
  · obtain ⟨M, ds, d, L, hd, ⟨x, rfl, rfl⟩, q⟩ := h
    cases hd with
    | cons h1 h2 =>
      cases h2
      refine rb_ifF ((xt_not (xt_val (M := M) (xd_call L GW hr FW.g FW.F.kp FW.b (xa_cons (xd_name 0 rfl h1) xa_nil) ⟨_, rfl, rfl⟩))).to rfl) fun H1 s => rb_nil (q _ H1 s .non)
/-! ### rows -/
abbrev Row := Int × Int × Int
def rowD (r : Row) : PyData := .tuple [.int r.1, .int r.2.1, .int r.2.2]
def jmp (r : Row) : Int := r.2.2 - r.2.1
def ab (n : Int) : Int := if n < 0 then -n else n
theorem pix {X : Cx} {n : Int} {j pos} : PlainIx (.Constant (.int n) j pos) := fun _ _ => rfl
def RJump (ds : List PyData) (d : PyData) : Prop := ∃ r : Row, ds = [rowD r] ∧ d = .int (jmp r)
theorem scJump : FnScope ["row"] ["row"] (defScope sJump) := ⟨rfl, rfl, rfl, by decide +kernel, rfl, by decide +kernel, by decide +kernel⟩
theorem ok_jump {f : Addr} {fd : FuncData} (F : Df K mg "jump_of" sJump ["row"] f fd) : FnOk P w K mg base CX0 1 f fd ["row"] (spR K RJump) := by
  refine F.F.ok scJump (fun vs H Q E h => ?_) (fun cdv A outer s H vs Q E hr h => ?_)
  · obtain ⟨M, ds, d, L, hd, ⟨x, rfl, rfl⟩, q⟩ := h
    exact dpa_len hd
  · obtain ⟨M, ds, d, L, hd, ⟨r, rfl, rfl⟩, q⟩ := h
    cases hd with
    | cons h1 h2 =>
      cases h2
      exact rb_ret (M := M) (xd_sub (xd_ixT (fun _ _ => rfl) (xd_name 0 rfl h1) xd_int rfl) (xd_ixT (fun _ _ => rfl) (xd_name 0 rfl h1) xd_int rfl)) q
def isJumpB (j : Int) : Bool := !decide (j = 0) && decide (ab j ≤ 720)
def RIsJump (ds : List PyData) (d : PyData) : Prop := ∃ j : Int, ds = [.int j] ∧ d = .bool (isJumpB j)
theorem scIsJump : FnScope ["value"] ["value"] (defScope sIsJump) := ⟨rfl, rfl, rfl, by decide +kernel, rfl, by decide +kernel, by decide +kernel⟩
theorem ok_isJump {f : Addr} {fd : FuncData} (T : Nm mg) (hG : ∃ t, mg "GREATEST_JUMP" = some (.int 720 t)) (F : Df K mg "is_jump" sIsJump ["value"] f fd) : FnOk P w K mg base CX0 1 f fd ["value"] (spR K RIsJump) := by
  obtain ⟨t, hG⟩ := hG
  refine F.F.ok scIsJump (fun vs H Q E h => ?_) (fun cdv A outer s H vs Q E hr h => ?_)
  · obtain ⟨M, ds, d, L, hd, ⟨x, rfl, rfl⟩, q⟩ := h
    exact dpa_len hd
  · obtain ⟨M, ds, d, L, hd, ⟨j, rfl, rfl⟩, q⟩ := h
    cases hd with
    | cons h1 h2 =>
      cases h2
      exact rb_ret (M := M) (xd_and2 (xd_neI (xd_name 0 rfl h1) xd_int) fun _ => xd_cmpI op_le (xd_abs T.abs (xd_name 0 rfl h1)) (xv_glob (v := .int 720) hG ⟨t, rfl⟩).int) q
def followB (rs : List Row) (r : Row) : Bool := match rs.getLast? with
  | none => true
  | some l => decide (ab (jmp l) + ab (jmp r) < r.1 - l.1)
def RFollow (ds : List PyData) (d : PyData) : Prop := ∃ (rs : List Row) (r : Row), ds = [.list (rs.map rowD), rowD r] ∧ d = .bool (isJumpB (jmp r) && followB rs r)
theorem scFollow : FnScope ["rows", "row", "last"] ["rows", "row"] (defScope sFollow) := ⟨rfl, rfl, rfl, by decide +kernel, rfl, by decide +kernel, by decide +kernel⟩
theorem at_last {rs : List Row} {l : Row} (h : rs.getLast? = some l) : atI (rs.map rowD) (-1) = some (rowD l) := by
  obtain ⟨ys, rfl⟩ := List.getLast?_eq_some_iff.mp h
  rw [List.map_append]
  exact atI_last _ _
theorem ok_follow {f fJ fI : Addr} {fd fdJ fdI : FuncData} (T : Nm mg) (hG : ∃ t, mg "GREATEST_JUMP" = some (.int 720 t)) (FJ : Df K mg "jump_of" sJump ["row"] fJ fdJ) (FI : Df K mg "is_jump" sIsJump ["value"] fI fdI) (F : Df K mg "can_follow" sFollow ["rows", "row"] f fd) : FnOk P w K mg base CX0 2 f fd ["rows", "row"] (spR K RFollow) := by
  have GJ : FnOk P w K mg base CX0 1 fJ fdJ ["row"] (spR K RJump) := ok_jump FJ
  have GI : FnOk P w K mg base CX0 1 fI fdI ["value"] (spR K RIsJump) := ok_isJump T hG FI
  refine F.F.ok scFollow (fun vs H Q E h => ?_) (fun cdv A outer s H vs Q E hr h => ?_)
  · obtain ⟨M, ds, d, L, hd, ⟨x, y, rfl, rfl⟩, q⟩ := h
    exact dpa_len hd
  · obtain ⟨M, ds, d, L, hd, ⟨rs, r, rfl, rfl⟩, q⟩ := h
    cases hd with
    | cons h1 h2 =>
      cases h2 with
      | cons h2 h3 =>
        cases h3
        refine rb_if (xt_not (xt_val (M := M) (xd_call L GI hr FI.g FI.F.kp FI.b (xa_cons (xd_call L GJ hr FJ.g FJ.F.kp FJ.b (xa_cons (xd_name 1 rfl h2) xa_nil) ⟨r, rfl, rfl⟩) xa_nil) ⟨_, rfl, rfl⟩))) (fun e H1 s => ?_) (fun e0 H0 s0 => rb_nil ?_)
        · refine rb_ret (M := M) xd_bl fun v H2 s2 hv => q v H2 (s.trans s2) ?_
          have ej : isJumpB (jmp r) = false := by
            cases z : isJumpB (jmp r)
            · rfl
            · rw [z] at e; exact absurd e Bool.false_ne_true
          rw [ej]
          exact hv
        have ej : isJumpB (jmp r) = true := by
          cases z : isJumpB (jmp r)
          · rw [z] at e0; exact absurd e0.symm Bool.false_ne_true
          · rfl
        have L := L.mono s0
        have h1 := h1.up (hid_mono (M := M) s0)
        have h2 := h2.up (hid_mono (M := M) s0)
        rw [ej] at q
        refine rb_if (xt_eqI (M := M) (xd_len T.len (xd_name 0 rfl h1)) xd_int) (fun e H1 s => ?_) (fun e H1 s => rb_nil ?_)
        · have e0 : rs = [] := by
            have z := of_decide_eq_true e
            rw [List.length_map] at z
            exact List.length_eq_zero_iff.mp (by omega)
          subst e0
          exact rb_ret (M := M) xd_bl fun v H2 s2 hv => q v H2 ((s0.trans s).trans s2) hv
        · have e0 : rs ≠ [] := fun z => by
            subst z
            simp at e
          obtain ⟨l, hl⟩ : ∃ l, rs.getLast? = some l := ⟨_, List.getLast?_eq_some_getLast e0⟩
          have g1 := h1.up (hid_mono (M := M) s)
          have g2 := h2.up (hid_mono (M := M) s)
          refine rb_set 2 (M := M) (xd_ixL (fun _ _ => rfl) (xd_name 0 rfl g1) (xd_neg xd_int) (at_last hl)) (fun v H2 s2 hv => ?_) scFollow.nd
          have g3 := g2.up (hid_mono (M := M) s2)
          have L2' := (L.mono s).mono s2
          refine rb_ret (M := M) (xd_cmpI op_gt (xd_sub (xd_ixT (fun _ _ => rfl) (xd_name 1 rfl g3) xd_int rfl) (xd_ixT (fun _ _ => rfl) (xd_name 2 rfl hv) xd_int rfl))
            (xd_add (xd_abs T.abs (xd_call L2' GJ hr FJ.g FJ.F.kp FJ.b (xa_cons (xd_name 2 rfl hv) xa_nil) ⟨l, rfl, rfl⟩)) (xd_abs T.abs (xd_call L2' GJ hr FJ.g FJ.F.kp FJ.b (xa_cons (xd_name 1 rfl g3) xa_nil) ⟨r, rfl, rfl⟩)))) fun v' H3 s3 hv' => q v' H3 (((s0.trans s).trans s2).trans s3) ?_
          unfold followB
          rw [hl, Bool.true_and]
          exact hv'
def tornD (r : Row) : PyData := .tuple [.int (r.1 + (if r.2.2 < r.2.1 then r.2.2 else r.2.1)), .int (r.1 + (if r.2.2 > r.2.1 then r.2.2 else r.2.1))]
def RTorn (ds : List PyData) (d : PyData) : Prop := ∃ r : Row, ds = [rowD r] ∧ d = tornD r
theorem scTorn : FnScope ["row", "moment", "before", "after"] ["row"] (defScope sTorn) := ⟨rfl, rfl, rfl, by decide +kernel, rfl, by decide +kernel, by decide +kernel⟩
theorem ok_torn {f : Addr} {fd : FuncData} (T : Nm mg) (F : Df K mg "torn_readings" sTorn ["row"] f fd) : FnOk P w K mg base CX0 1 f fd ["row"] (spR K RTorn) := by
  refine F.F.ok scTorn (fun vs H Q E h => ?_) (fun cdv A outer s H vs Q E hr h => ?_)
  · obtain ⟨M, ds, d, L, hd, ⟨x, rfl, rfl⟩, q⟩ := h
    exact dpa_len hd
  · obtain ⟨M, ds, d, L, hd, ⟨r, rfl, rfl⟩, q⟩ := h
    cases hd with
    | cons h1 h2 =>
      cases h2
      refine rb_asgR (XD.go (M := M) (xd_name 0 rfl h1) fun v H1 s1 hv => ?_)
      obtain ⟨p, xs, rfl, hp, hx⟩ := dp_tup hv
      cases hx with
      | cons a1 hx => cases hx with
        | cons a2 hx => cases hx with
          | cons a3 hx =>
            cases hx
            rw [dp_int a1, dp_int a2, dp_int a3] at hp
            refine rg_tup (same_seqT hid_le hp) (rgs_cons (rg_name 1 (rgs_cons (rg_name 2 (rgs_cons (rg_name 3 (rgs_nil ?_) scTorn.nd)) scTorn.nd)) scTorn.nd))
            exact rb_ret (M := M) (xd_tup (L.mono s1) (xa_cons (xd_add (xd_name 1 rfl (.int r.1)) (xd_min T.min (xa_cons (xd_name 2 rfl (.int r.2.1)) (xa_cons (xd_name 3 rfl (.int r.2.2)) xa_nil))))
              (xa_cons (xd_add (xd_name 1 rfl (.int r.1)) (xd_max T.max (xa_cons (xd_name 2 rfl (.int r.2.1)) (xa_cons (xd_name 3 rfl (.int r.2.2)) xa_nil)))) xa_nil))) fun v' H2 s2 hv' => q v' H2 (s1.trans s2) hv'
end
end Zn

set_option Elab.async false
set_option linter.all false
set_option maxRecDepth 100000
set_option maxHeartbeats 4000000
namespace Zn
open PySem PySem.Spec PyProof.Rows L2 Dl
/-! ### rows of changes: the mathematics -/
def rowsOf : Int → List (Int × Int) → List Row
  | _, [] => []
  | b, c :: cs => (c.1, b, c.2) :: rowsOf c.2 cs
def lastOff : Int → List (Int × Int) → Int
  | b, [] => b
  | _, c :: cs => lastOff c.2 cs
theorem rows_len : ∀ (b : Int) (cs : List (Int × Int)), (rowsOf b cs).length = cs.length
  | _, [] => rfl
  | _, c :: cs => by unfold rowsOf; rw [List.length_cons, List.length_cons, rows_len c.2 cs]
theorem rows_take : ∀ (b : Int) (cs : List (Int × Int)) (k : Nat), (rowsOf b cs).take k = rowsOf b (cs.take k)
  | _, [], k => by unfold rowsOf; cases k <;> rfl
  | _, c :: cs, 0 => rfl
  | _, c :: cs, k + 1 => by unfold rowsOf; rw [List.take_succ_cons, List.take_succ_cons, rows_take c.2 cs k]
theorem rows_get : ∀ (b : Int) (cs : List (Int × Int)) (k : Nat) (c : Int × Int), cs[k]? = some c → (rowsOf b cs)[k]? = some (c.1, lastOff b (cs.take k), c.2)
  | _, [], k, c, h => by simp at h
  | _, c' :: cs, 0, c, h => by simp at h; subst h; rfl
  | _, c' :: cs, k + 1, c, h => by
    have q := rows_get c'.2 cs k c (by simpa using h)
    unfold rowsOf lastOff
    rw [List.take_succ_cons]
    simpa using q
theorem last_snoc : ∀ (b : Int) (cs : List (Int × Int)) (c : Int × Int), lastOff b (cs ++ [c]) = c.2
  | _, [], c => rfl
  | _, c' :: cs, c => last_snoc c'.2 cs c
theorem rows_snoc : ∀ (b : Int) (cs : List (Int × Int)) (c : Int × Int), rowsOf b (cs ++ [c]) = rowsOf b cs ++ [(c.1, lastOff b cs, c.2)]
  | _, [], c => rfl
  | _, c' :: cs, c => by
    show (c'.1, _, c'.2) :: rowsOf c'.2 (cs ++ [c]) = _
    rw [rows_snoc c'.2 cs c]
    rfl
/-- each row passes the checks behind the ones ahead of it -/
def okR (rs : List Row) : Prop := ∀ (k : Nat) (r : Row), rs[k]? = some r → isJumpB (jmp r) = true ∧ followB (rs.take k) r = true
def IsPr (it : PyData) (c : Int × Int) : Prop := it = .tuple [.int c.1, .int c.2] ∨ it = .list [.int c.1, .int c.2]
def Items (items : List PyData) (cs : List (Int × Int)) : Prop := items.length = cs.length ∧ ∀ (i : Nat) (it : PyData), items[i]? = some it → ∃ c, cs[i]? = some c ∧ IsPr it c
def RPair (ds : List PyData) (d : PyData) : Prop := ∃ it c, ds = [it] ∧ IsPr it c ∧ d = .bool true
def RRows (ds es : List PyData) : Prop := ∃ (off : Int) (sq : PyData) (items : List PyData) (cs : List (Int × Int)), ds = [.int off, sq] ∧ (sq = .list items ∨ sq = .tuple items) ∧ Items items cs ∧ okR (rowsOf off cs) ∧ cs.length ≤ 1000 ∧ es = (rowsOf off cs).map rowD
theorem hid_weak {p : Addr} {M : List Addr} {H : Hp} : Same (hid (p :: M) H) (hid M H) := fun b o e => by
  have n : b ∉ p :: M := fun z => by unfold hid at e; rw [if_pos z] at e; cases e
  rw [hid_of (fun z => n (List.mem_cons_of_mem _ z))]
  exact hid_le _ _ e
theorem hid_cons_upd {p : Addr} {M : List Addr} {H : Hp} {o : HO} : hid (p :: M) (upd H p o) = hid (p :: M) H := hid_upd_mem (List.mem_cons_self ..)
theorem Live.tail {p : Addr} {M : List Addr} {H : Hp} (L : Live (p :: M) H) : Live M H := fun b hb => L b (List.mem_cons_of_mem _ hb)
theorem same_upd {H H' : Hp} {p : Addr} {o : HO} (s : Same H H') (hp : H p = none) : Same H (upd H' p o) := fun b u e => by rw [upd_ne (ne_of_none e hp)]; exact s b u e
theorem take_snoc {α : Type} {l : List α} {k : Nat} {x : α} (h : l[k]? = some x) : l.take (k + 1) = l.take k ++ [x] := by rw [List.take_add_one, h]; rfl
theorem k_tl : kitB "tuple" "list" = some false := by decide +kernel
theorem k_tt : kitB "tuple" "tuple" = some true := by decide +kernel
theorem k_ll : kitB "list" "list" = some true := by decide +kernel
theorem k_lt : kitB "list" "tuple" = some false := by decide +kernel
section
variable {P : Program} {w : World} {K : PySem.W.Frag} {mg : Str → Option Value} {base : Heap}
theorem scPair : FnScope ["value"] ["value"] (defScope sPair) := ⟨rfl, rfl, rfl, by decide +kernel, rfl, by decide +kernel, by decide +kernel⟩
theorem ok_pair {f fW : Addr} {fd fdW : FuncData} (T : Nm mg) (FW : Df K mg "is_whole" sWhole ["value"] fW fdW) (F : Df K mg "is_whole_pair" sPair ["value"] f fd) : FnOk P w K mg base CX0 2 f fd ["value"] (spR K RPair) := by
  have GW : FnOk P w K mg base CX0 1 fW fdW ["value"] (spR K RWhole) := ok_whole T FW
  refine F.F.ok scPair (fun vs H Q E h => ?_) (fun cdv A outer s H vs Q E hr h => ?_)
  · obtain ⟨M, ds, d, L, hd, ⟨x, c, rfl, _, rfl⟩, q⟩ := h
    exact dpa_len hd
  · obtain ⟨M, ds, d, L, hd, ⟨x, c, rfl, hx, rfl⟩, q⟩ := h
    cases hd with
    | cons h1 h2 =>
      cases h2
      rcases hx with rfl | rfl
      · refine rb_ret (M := M) (xd_andT ((xd_is2 (d := .tuple [.int c.1, .int c.2]) (r1 := false) (r2 := true) (T1 := "list") (T2 := "tuple") k_tl k_tt T.isi T.lst (by decide +kernel) T.tup (by decide +kernel) (xd_name 0 rfl h1)).to rfl)
          (xd_andT ((xd_eqI (xd_lenT T.len (xd_name 0 rfl h1)) xd_int).to rfl) (xd_andT (xd_call L GW hr FW.g FW.F.kp FW.b (xa_cons (xd_ixT (fun _ _ => rfl) (xd_name 0 rfl h1) xd_int rfl) xa_nil) ⟨.int c.1, rfl, rfl⟩)
            (xd_one (xd_call L GW hr FW.g FW.F.kp FW.b (xa_cons (xd_ixT (fun _ _ => rfl) (xd_name 0 rfl h1) xd_int rfl) xa_nil) ⟨.int c.2, rfl, rfl⟩))))) q
      · refine rb_ret (M := M) (xd_andT ((xd_is2 (d := .list [.int c.1, .int c.2]) (r1 := true) (r2 := false) (T1 := "list") (T2 := "tuple") k_ll k_lt T.isi T.lst (by decide +kernel) T.tup (by decide +kernel) (xd_name 0 rfl h1)).to rfl)
          (xd_andT ((xd_eqI (xd_len T.len (xd_name 0 rfl h1)) xd_int).to rfl) (xd_andT (xd_call L GW hr FW.g FW.F.kp FW.b (xa_cons (xd_ixL (fun _ _ => rfl) (xd_name 0 rfl h1) xd_int rfl) xa_nil) ⟨.int c.1, rfl, rfl⟩)
            (xd_one (xd_call L GW hr FW.g FW.F.kp FW.b (xa_cons (xd_ixL (fun _ _ => rfl) (xd_name 0 rfl h1) xd_int rfl) xa_nil) ⟨.int c.2, rfl, rfl⟩))))) q
/-- item[0], item[1] -/
theorem pr_ix {X : Cx} {M : List Addr} {σ : L2.St} {H : Hp} {a : Expr} {it : PyData} {c : Int × Int} {j : Nat} {p1 pos : Pos} (h : IsPr it c) (ha : XD X M σ H a it) {n : Int} {y : Int} (hn : atI [PyData.int c.1, PyData.int c.2] n = some (.int y)) : XD X M σ H (.Subscript a (.Constant (.int n) j p1) pos) (.int y) := by
  rcases h with rfl | rfl
  · exact xd_ixT (fun _ _ => rfl) ha xd_int hn
  · exact xd_ixL (fun _ _ => rfl) ha xd_int hn
theorem scRows : FnScope ["offset", "changes", "rows", "before", "item", "row"] ["offset", "changes"] (defScope sRows) := ⟨rfl, rfl, rfl, by decide +kernel, rfl, by decide +kernel, by decide +kernel⟩
theorem ok_rows {f fW fP fJ fI fF : Addr} {fd fdW fdP fdJ fdI fdF : FuncData} (T : Nm mg) (hG : ∃ t, mg "GREATEST_JUMP" = some (.int 720 t)) (FW : Df K mg "is_whole" sWhole ["value"] fW fdW) (FP : Df K mg "is_whole_pair" sPair ["value"] fP fdP)
    (FJ : Df K mg "jump_of" sJump ["row"] fJ fdJ) (FI : Df K mg "is_jump" sIsJump ["value"] fI fdI) (FF : Df K mg "can_follow" sFollow ["rows", "row"] fF fdF) (F : Df K mg "rows_of" sRows ["offset", "changes"] f fd) : FnOk P w K mg base CX0 3 f fd ["offset", "changes"] (spL K RRows) := by
  have GP : FnOk P w K mg base CX0 2 fP fdP ["value"] (spR K RPair) := ok_pair T FW FP
  have GF : FnOk P w K mg base CX0 2 fF fdF ["rows", "row"] (spR K RFollow) := ok_follow T hG FJ FI FF
  refine F.F.ok scRows (fun vs H Q E h => ?_) (fun cdv A outer s H vs Q E hr h => ?_)
  · obtain ⟨M, ds, es, L, hd, ⟨off, sq, items, cs, rfl, _⟩, q⟩ := h
    exact dpa_len hd
  · obtain ⟨M, ds, es, L, hd, ⟨off, sq, items, cs, rfl, hsq, hit, hok, hlen, rfl⟩, q⟩ := h
    cases hd with
    | cons h1 h2 =>
      cases h2 with
      | cons h2 h3 =>
        cases h3
        rename_i v0 v1
        have e0 := dp_int h1
        subst e0
        refine rb_setL 2 (xl_lst L xa_nil) (fun p xs H1 s1 hp h1p hxs => ?_) scRows.nd
        cases hxs
        have g0 : Same (hid M H) (hid (p :: M) H1) := hid_step hp s1
        have Lp : Live (p :: M) H1 := fun b hb => by
          rcases List.mem_cons.mp hb with z | hb
          · subst z; rw [h1p]; simp
          · exact L.mono s1 b hb
        have k2 := h2.up g0
        refine rb_set 3 (M := p :: M) (xd_name 0 rfl (.int off)) (fun v H2 s2 hv => ?_) scRows.nd
        have e3 := dp_int hv
        subst e3
        have k3 := k2.up (hid_mono (M := p :: M) s2)
        have Lp2 := Lp.mono s2
        rcases hsq with rfl | rfl
        · refine rb_for (M := p :: M) (xd_name 1 rfl k3) fun H3 s3 => ⟨fun k σ' H' => Same (hid (p :: M) H3) (hid (p :: M) H') ∧ Live (p :: M) H' ∧ Same H H' ∧ ∃ (xs : List V) (a4 a5 : Option V), σ' = [some (.int off), some v1, some (.ref p), some (.int (lastOff off (cs.take k))), a4, a5] ∧ H' p = some (.lst xs) ∧ DqAll K (hid (p :: M) H') xs ((rowsOf off (cs.take k)).map rowD),
            ⟨Same.refl _, Lp2.mono s3, (s1.trans s2).trans s3, [], none, none, rfl, s3 _ _ (s2 _ _ h1p), .nil⟩, fun k σ' H' w => w.1, fun k it hk σ' H' v hw hv => ?_, fun σ' H' hw => ?_⟩
          · obtain ⟨z1, L4, z2, xs, a4, a5, rfl, hp4, hx4⟩ := hw
            obtain ⟨c, hc, hpr⟩ := hit.2 k it hk
            have hklt : k < cs.length := (List.getElem?_eq_some_iff.mp hc).1
            have hrow := rows_get off cs k c hc
            obtain ⟨c1, c2⟩ := hok k _ hrow
            rw [rows_take] at c2
            have hxl : xs.length < 100000 := by
              rw [dpa_len hx4, List.length_map, rows_len, List.length_take]
              omega
            refine rg_name 4 ?_ scRows.nd
            refine rb_ifF ((xt_not (xt_val (M := p :: M) (xd_call L4 GP hr FP.g FP.F.kp FP.b (xa_cons (xd_name 4 rfl hv) xa_nil) ⟨it, c, rfl, hpr, rfl⟩))).to rfl) fun H5 s5 => ?_
            have hv5 := hv.up (hid_mono (M := p :: M) s5)
            have L5 := L4.mono s5
            refine rb_set 5 (M := p :: M) (xd_tup L5 (xa_cons (pr_ix hpr (xd_name 4 rfl hv5) rfl) (xa_cons (xd_name 3 rfl (.int _)) (xa_cons (pr_ix hpr (xd_name 4 rfl hv5) rfl) xa_nil)))) (fun v6 H6 s6 hv6 => ?_) scRows.nd
            have L6 := L5.mono s6
            have s46 := s5.trans s6
            have hx6 := hx4.up (hid_mono (M := p :: M) s46)
            have LM := Live.tail L6
            have hp6 : H6 p = some (.lst xs) := s46 _ _ hp4
            have kp : Dq K (hid M H6) (.ref p) (.list ((rowsOf off (cs.take k)).map rowD)) := .lst (by rw [hid_of (fun z => (L.fresh hp) z)]; exact hp6) (hx6.up hid_weak)
            refine rb_ifF ((xt_not (xt_val (M := M) (xd_call LM GF hr FF.g FF.F.kp FF.b (xa_cons (xd_name 2 rfl kp) (xa_cons (xd_name 5 rfl (hv6.up hid_weak)) xa_nil)) ⟨_, (c.1, lastOff off (cs.take k), c.2), rfl, rfl⟩))).to (by rw [c1, c2]; rfl)) fun H7 s7 => ?_
            refine rb_append (M := p :: M) (xs := xs) (List.mem_cons_self ..) (xv_name 2 rfl) (s7 _ _ (s46 _ _ hp4)) (xd_name 5 rfl (hv6.up (hid_mono s7))) hxl fun v8 H8 s8 hv8 => ?_
            have s68 := s7.trans s8
            have s48 := s46.trans s68
            have hv9 : Dq K (hid (p :: M) (upd H8 p (.lst (xs ++ [v8])))) v it := by rw [hid_cons_upd]; exact hv5.up (hid_mono (s6.trans s68))
            refine rb_set 3 (M := p :: M) (pr_ix hpr (xd_name 4 rfl hv9) rfl) (fun v10 H10 s10 hv10 => rb_nil ?_) scRows.nd
            have e10 := dp_int hv10
            subst e10
            have s4x : Same (hid (p :: M) H') (hid (p :: M) H10) := by
              refine (hid_mono (M := p :: M) s48).trans ?_
              have z := hid_mono (M := p :: M) s10
              rw [hid_cons_upd] at z
              exact z
            refine ⟨z1.trans s4x, (Live.upd (L6.mono s68)).mono s10, (same_upd (z2.trans s48) hp).trans s10, xs ++ [v8], some v, some v6, ?_, s10 _ _ upd_same, ?_⟩
            · rw [take_snoc hc, last_snoc]
              rfl
            · rw [take_snoc hc, rows_snoc, List.map_append]
              refine dpa_app (hx4.up s4x) (.cons (hv8.up ?_) .nil)
              have z := hid_mono (M := p :: M) s10
              rw [hid_cons_upd] at z
              exact z
          · obtain ⟨z1, L4, z2, xs, a4, a5, rfl, hp4, hx4⟩ := hw
            refine rb_retR (XV.go (xv_name 2 rfl) fun H5 s5 => q p xs H5 (z2.trans s5) hp (s5 _ _ hp4) ?_)
            rw [hit.1, List.take_length] at hx4
            exact (hx4.up (hid_mono (M := p :: M) s5)).up hid_weak
        · refine rb_forT (M := p :: M) (xd_name 1 rfl k3) fun H3 s3 => ⟨fun k σ' H' => Same (hid (p :: M) H3) (hid (p :: M) H') ∧ Live (p :: M) H' ∧ Same H H' ∧ ∃ (xs : List V) (a4 a5 : Option V), σ' = [some (.int off), some v1, some (.ref p), some (.int (lastOff off (cs.take k))), a4, a5] ∧ H' p = some (.lst xs) ∧ DqAll K (hid (p :: M) H') xs ((rowsOf off (cs.take k)).map rowD),
            ⟨Same.refl _, Lp2.mono s3, (s1.trans s2).trans s3, [], none, none, rfl, s3 _ _ (s2 _ _ h1p), .nil⟩, fun k σ' H' w => w.1, fun k it hk σ' H' v hw hv => ?_, fun σ' H' hw => ?_⟩
          · obtain ⟨z1, L4, z2, xs, a4, a5, rfl, hp4, hx4⟩ := hw
            obtain ⟨c, hc, hpr⟩ := hit.2 k it hk
            have hklt : k < cs.length := (List.getElem?_eq_some_iff.mp hc).1
            have hrow := rows_get off cs k c hc
            obtain ⟨c1, c2⟩ := hok k _ hrow
            rw [rows_take] at c2
            have hxl : xs.length < 100000 := by
              rw [dpa_len hx4, List.length_map, rows_len, List.length_take]
              omega
            refine rg_name 4 ?_ scRows.nd
            refine rb_ifF ((xt_not (xt_val (M := p :: M) (xd_call L4 GP hr FP.g FP.F.kp FP.b (xa_cons (xd_name 4 rfl hv) xa_nil) ⟨it, c, rfl, hpr, rfl⟩))).to rfl) fun H5 s5 => ?_
            have hv5 := hv.up (hid_mono (M := p :: M) s5)
            have L5 := L4.mono s5
            refine rb_set 5 (M := p :: M) (xd_tup L5 (xa_cons (pr_ix hpr (xd_name 4 rfl hv5) rfl) (xa_cons (xd_name 3 rfl (.int _)) (xa_cons (pr_ix hpr (xd_name 4 rfl hv5) rfl) xa_nil)))) (fun v6 H6 s6 hv6 => ?_) scRows.nd
            have L6 := L5.mono s6
            have s46 := s5.trans s6
            have hx6 := hx4.up (hid_mono (M := p :: M) s46)
            have LM := Live.tail L6
            have hp6 : H6 p = some (.lst xs) := s46 _ _ hp4
            have kp : Dq K (hid M H6) (.ref p) (.list ((rowsOf off (cs.take k)).map rowD)) := .lst (by rw [hid_of (fun z => (L.fresh hp) z)]; exact hp6) (hx6.up hid_weak)
            refine rb_ifF ((xt_not (xt_val (M := M) (xd_call LM GF hr FF.g FF.F.kp FF.b (xa_cons (xd_name 2 rfl kp) (xa_cons (xd_name 5 rfl (hv6.up hid_weak)) xa_nil)) ⟨_, (c.1, lastOff off (cs.take k), c.2), rfl, rfl⟩))).to (by rw [c1, c2]; rfl)) fun H7 s7 => ?_
            refine rb_append (M := p :: M) (xs := xs) (List.mem_cons_self ..) (xv_name 2 rfl) (s7 _ _ (s46 _ _ hp4)) (xd_name 5 rfl (hv6.up (hid_mono s7))) hxl fun v8 H8 s8 hv8 => ?_
            have s68 := s7.trans s8
            have s48 := s46.trans s68
            have hv9 : Dq K (hid (p :: M) (upd H8 p (.lst (xs ++ [v8])))) v it := by rw [hid_cons_upd]; exact hv5.up (hid_mono (s6.trans s68))
            refine rb_set 3 (M := p :: M) (pr_ix hpr (xd_name 4 rfl hv9) rfl) (fun v10 H10 s10 hv10 => rb_nil ?_) scRows.nd
            have e10 := dp_int hv10
            subst e10
            have s4x : Same (hid (p :: M) H') (hid (p :: M) H10) := by
              refine (hid_mono (M := p :: M) s48).trans ?_
              have z := hid_mono (M := p :: M) s10
              rw [hid_cons_upd] at z
              exact z
            refine ⟨z1.trans s4x, (Live.upd (L6.mono s68)).mono s10, (same_upd (z2.trans s48) hp).trans s10, xs ++ [v8], some v, some v6, ?_, s10 _ _ upd_same, ?_⟩
            · rw [take_snoc hc, last_snoc]
              rfl
            · rw [take_snoc hc, rows_snoc, List.map_append]
              refine dpa_app (hx4.up s4x) (.cons (hv8.up ?_) .nil)
              have z := hid_mono (M := p :: M) s10
              rw [hid_cons_upd] at z
              exact z
          · obtain ⟨z1, L4, z2, xs, a4, a5, rfl, hp4, hx4⟩ := hw
            refine rb_retR (XV.go (xv_name 2 rfl) fun H5 s5 => q p xs H5 (z2.trans s5) hp (s5 _ _ hp4) ?_)
            rw [hit.1, List.take_length] at hx4
            exact (hx4.up (hid_mono (M := p :: M) s5)).up hid_weak
end
end Zn

set_option Elab.async false
set_option linter.all false
set_option maxRecDepth 100000
set_option maxHeartbeats 4000000
namespace Zn
open PySem PySem.Spec PyProof.Rows L2 Dl
abbrev sInit : Stmt := inClass (top 22) 0
abbrev sFirst : Stmt := inClass (top 22) 1
abbrev sChanges : Stmt := inClass (top 22) 2
abbrev sJumps : Stmt := inClass (top 22) 3
abbrev sLen : Stmt := inClass (top 22) 4
abbrev sCont : Stmt := inClass (top 22) 5
abbrev sEq : Stmt := inClass (top 22) 6
abbrev sGaps : Stmt := inClass (top 22) 10
abbrev sFolds : Stmt := inClass (top 22) 11
/-! ### a zone -/
def zf (off : Int) (r : Addr) : List (Str × V) := [("base", .int off), ("rows", .ref r)]
theorem zf_base (off : Int) (r : Addr) : (zf off r).lookup ("base" : Str) = some (.int off) := by
  unfold zf
  simp [List.lookup]
theorem zf_rows (off : Int) (r : Addr) : (zf off r).lookup ("rows" : Str) = some (.ref r) := by
  unfold zf
  simp [List.lookup, show (("rows" : Str) == ("base" : Str)) = false by decide +kernel]
theorem zf_put (off : Int) (r : Addr) : putF "rows" (.ref r) [(("base" : Str), V.int off)] = zf off r := by
  show (if ("base" : Str) = "rows" then _ else (("base" : Str), V.int off) :: [(("rows" : Str), V.ref r)]) = _
  rw [if_neg (by decide +kernel)]
  rfl
theorem zf_none {m : Str} (off : Int) (r : Addr) (h1 : (m == ("base" : Str)) = false) (h2 : (m == ("rows" : Str)) = false) : (zf off r).lookup m = none := by
  unfold zf
  simp [List.lookup, h1, h2]
/-- at a a zone of the class at C: first offset off, rows rs -/
def ZAt (K : PySem.W.Frag) (C : Addr) (H : Hp) (a : Addr) (off : Int) (rs : List Row) : Prop := ∃ dx r, H a = some (.ins C dx (zf off r)) ∧ Dq K H (.ref r) (.list (rs.map rowD))
theorem ZAt.up {K : PySem.W.Frag} {C : Addr} {H H' : Hp} {a : Addr} {off : Int} {rs : List Row} (h : ZAt K C H a off rs) (s : Same H H') : ZAt K C H' a off rs := by
  obtain ⟨dx, r, h1, h2⟩ := h
  exact ⟨dx, r, s _ _ h1, h2.up s⟩
/-- what the written part says of the class -/
structure ZT (K : PySem.W.Frag) (mg : Str → Option Value) (C : Addr) : Prop where
  cl : Cls K C
  nB : NoAttr K C "base"
  nR : NoAttr K C "rows"
  mgC : mg "Zone" = some (.ref C)
/-- a method of the class -/
structure Mt (K : PySem.W.Frag) (C : Addr) (x q : Str) (st : Stmt) (ps : List Str) (f : Addr) (fd : FuncData) : Prop where
  F : Fun K x q st f fd
  b : Binds K fd ps []
  m : Meth K C x f
section
variable {X : Cx} {M : List Addr} {σ : L2.St} {H H' : Hp} {o : Expr} {pos : Pos} {K : PySem.W.Frag} {C pa : Addr} {off : Int} {rs : List Row}
/-- self.base, self.rows -/
theorem xv_base (hZ : ∃ mg, ZT X.K mg C) (h : ZAt X.K C (hid M H) pa off rs) (ho : XV X σ H o (.ref pa)) (hb : attributeBase o "base" X.env (eval o X.env) = eval o X.env := by rfl) : XV X σ H (.Attribute o "base" pos) (.int off) := by
  obtain ⟨dx, r, h1, h2⟩ := h
  obtain ⟨_, Z⟩ := hZ
  exact xv_fld ho (hid_le _ _ h1) Z.cl Z.nB (zf_base off r) hb
theorem xd_rows (hZ : ∃ mg, ZT X.K mg C) (h : ZAt X.K C (hid M H) pa off rs) (ho : XV X σ H o (.ref pa)) (hb : attributeBase o "rows" X.env (eval o X.env) = eval o X.env := by rfl) : XD X M σ H (.Attribute o "rows" pos) (.list (rs.map rowD)) := by
  obtain ⟨dx, r, h1, h2⟩ := h
  obtain ⟨_, Z⟩ := hZ
  exact (xv_fld ho (hid_le _ _ h1) Z.cl Z.nR (zf_rows off r) hb).dd h2
end
/-- a method without further arguments on a zone: a new list of the data f off rs; any data -/
def spML (K : PySem.W.Frag) (C : Addr) (f : Int → List Row → List PyData) : Sp := fun vs H Q _ => ∃ (M : List Addr) (a : Addr) (off : Int) (rs : List Row), vs = [.ref a] ∧ Live M H ∧ ZAt K C (hid M H) a off rs ∧ rs.length ≤ 1000 ∧
  ∀ p xs H1, Same H H1 → H p = none → H1 p = some (.lst xs) → DqAll K (hid M H1) xs (f off rs) → Q (.ref p) H1
def spMD (K : PySem.W.Frag) (C : Addr) (f : Int → List Row → PyData) : Sp := fun vs H Q _ => ∃ (M : List Addr) (a : Addr) (off : Int) (rs : List Row), vs = [.ref a] ∧ Live M H ∧ ZAt K C (hid M H) a off rs ∧ rs.length ≤ 1000 ∧
  ∀ v H1, Same H H1 → Dq K (hid M H1) v (f off rs) → Q v H1
section
variable {P : Program} {w : World} {K : PySem.W.Frag} {mg : Str → Option Value} {base : Heap} {C : Addr}
theorem fm_map {α : Type} (g : α → PyData) (f : PyData → Option PyData) (h : α → PyData) (e : ∀ r, f (g r) = some (h r)) : ∀ rs : List α, (rs.map g).filterMap f = rs.map h
  | [] => rfl
  | r :: rs => by rw [List.map_cons, List.filterMap_cons, e r, List.map_cons, fm_map g f h e rs]
theorem row_at {K : PySem.W.Frag} {H : Hp} {v : V} {r : Row} (h : Dq K H v (rowD r)) : ∃ p, v = .ref p ∧ SqT K H p [.int r.1, .int r.2.1, .int r.2.2] := by
  obtain ⟨p, xs, rfl, hp, hx⟩ := dp_tup h
  cases hx with
  | cons a1 hx => cases hx with
    | cons a2 hx => cases hx with
      | cons a3 hx => cases hx; rw [dp_int a1, dp_int a2, dp_int a3] at hp; exact ⟨p, rfl, hp⟩
/-- the row of an item -/
theorem mem_row {rs : List Row} {d : PyData} (h : d ∈ rs.map rowD) : ∃ r ∈ rs, d = rowD r := by
  obtain ⟨r, h1, h2⟩ := List.mem_map.mp h
  exact ⟨r, h1, h2.symm⟩
/-! first, len -/
theorem scFirst : FnScope ["self"] ["self"] (defScope sFirst) := ⟨rfl, rfl, rfl, by decide +kernel, rfl, by decide +kernel, by decide +kernel⟩
theorem ok_first {f : Addr} {fd : FuncData} (Z : ZT K mg C) (F : Fun K "first" "Zone.first" sFirst f fd) : FnOk P w K mg base CX0 1 f fd ["self"] (spMD K C fun off _ => .int off) := by
  refine F.ok scFirst (fun vs H Q E h => ?_) (fun cdv A outer s H vs Q E hr h => ?_)
  · obtain ⟨M, a, off, rs, rfl, _⟩ := h; rfl
  · obtain ⟨M, a, off, rs, rfl, L, hz, _, q⟩ := h
    exact rb_retR (XV.go (xv_base ⟨_, Z⟩ hz (xv_name 0 rfl)) fun H1 s => q _ H1 s (.int off))
theorem scLen : FnScope ["self"] ["self"] (defScope sLen) := ⟨rfl, rfl, rfl, by decide +kernel, rfl, by decide +kernel, by decide +kernel⟩
theorem ok_len {f : Addr} {fd : FuncData} (T : Nm mg) (Z : ZT K mg C) (F : Fun K "__len__" "Zone.__len__" sLen f fd) : FnOk P w K mg base CX0 1 f fd ["self"] (spMD K C fun _ rs => .int rs.length) := by
  refine F.ok scLen (fun vs H Q E h => ?_) (fun cdv A outer s H vs Q E hr h => ?_)
  · obtain ⟨M, a, off, rs, rfl, _⟩ := h; rfl
  · obtain ⟨M, a, off, rs, rfl, L, hz, _, q⟩ := h
    exact rb_ret (M := M) ((xd_len T.len (xd_rows ⟨_, Z⟩ hz (xv_name 0 rfl))).to (by rw [List.length_map])) q
/-! changes -/
def chD (r : Row) : PyData := .tuple [.int r.1, .int r.2.2]
theorem scChanges : FnScope ["self", "moment", "before", "after"] ["self"] (defScope sChanges) := ⟨rfl, rfl, rfl, by decide +kernel, rfl, by decide +kernel, by decide +kernel⟩
theorem ok_changes {f : Addr} {fd : FuncData} (Z : ZT K mg C) (F : Fun K "changes" "Zone.changes" sChanges f fd) : FnOk P w K mg base CX0 1 f fd ["self"] (spML K C fun _ rs => rs.map chD) := by
  refine F.ok scChanges (fun vs H Q E h => ?_) (fun cdv A outer s H vs Q E hr h => ?_)
  · obtain ⟨M, a, off, rs, rfl, _⟩ := h; rfl
  · obtain ⟨M, a, off, rs, rfl, L, hz, hlen, q⟩ := h
    refine rb_retR (XL.go (M := M) ((xl_comp (own := [("moment", 1), ("before", 2), ("after", 3)]) (fun d => match d with | .tuple [x, _, z] => some (.tuple [x, z]) | _ => none) L scChanges.nd (xd_rows ⟨_, Z⟩ hz (xv_name 0 rfl))
      (blkOk_by (own := [("moment", 1), ("before", 2), ("after", 3)]) (N := ["self", "moment", "before", "after"]) (sc := defScope sChanges) (by decide +kernel)) (by rw [List.length_map]; omega) (fun p d v H1 hd hp s1 Lp hv => ?_)).to (fm_map rowD _ chD (fun _ => rfl) rs)) q)
    obtain ⟨r, _, rfl⟩ := mem_row hd
    obtain ⟨t, rfl, ht⟩ := row_at hv
    intro s0 H0 C0 cl fp
    refine rg_tup (same_seqT hid_le ht) (rgs_cons (rg_name 1 (rgs_cons (rg_name 2 (rgs_cons (rg_name 3 (rgs_nil ?_) scChanges.nd)) scChanges.nd)) scChanges.nd))
    refine ⟨rfl, bt_nil ⟨Same.refl _, .inl ⟨rfl, _, rfl, fun s0 H0 C0 cl fp => ?_⟩⟩⟩
    exact XD.go (xd_tup Lp (xa_cons (xd_name 1 rfl (.int r.1)) (xa_cons (xd_name 3 rfl (.int r.2.2)) xa_nil))) fun v H2 s2 hv2 => ⟨s2, hv2⟩
/-! jump_list, gaps, folds -/
end
end Zn

set_option Elab.async false
set_option linter.all false
set_option maxRecDepth 100000
set_option maxHeartbeats 4000000
namespace Zn
open PySem PySem.Spec PyProof.Rows L2 Dl
/-! ### data of rows compared -/
theorem eqv_row (r r' : Row) : PyData.eqv (rowD r) (rowD r') = decide (r = r') := by
  obtain ⟨a, b, c⟩ := r
  obtain ⟨a', b', c'⟩ := r'
  by_cases h : ((a, b, c) : Row) = (a', b', c')
  · cases h
    simp [rowD, PyData.eqv, PyData.eqvAll]
  · rw [decide_eq_false h]
    simp only [rowD, PyData.eqv, PyData.eqvAll, Bool.and_true]
    by_cases h1 : a = a'
    · by_cases h2 : b = b'
      · by_cases h3 : c = c'
        · subst h1; subst h2; subst h3; exact absurd rfl h
        · simp [h3]
      · simp [h2]
    · simp [h1]
theorem eqv_rows : ∀ (rs rs' : List Row), PyData.eqvAll (rs.map rowD) (rs'.map rowD) = decide (rs = rs')
  | [], [] => by simp [PyData.eqvAll]
  | [], r' :: rs' => by simp [PyData.eqvAll]
  | r :: rs, [] => by simp [PyData.eqvAll]
  | r :: rs, r' :: rs' => by
    rw [List.map_cons, List.map_cons]
    show (PyData.eqv (rowD r) (rowD r') && PyData.eqvAll (rs.map rowD) (rs'.map rowD)) = _
    rw [eqv_row, eqv_rows rs rs']
    by_cases h1 : r = r'
    · by_cases h2 : rs = rs'
      · simp [h1, h2]
      · simp [h1, h2]
    · simp [h1]
theorem lay_rows : ∀ rs : List Row, PyData.canLayAll0 (rs.map rowD) = true
  | [] => by simp [PyData.canLayAll0]
  | r :: rs => by
    rw [List.map_cons]
    show (PyData.canLay0 (rowD r) && PyData.canLayAll0 (rs.map rowD)) = true
    rw [lay_rows rs]
    simp [rowD, PyData.canLay0, PyData.canLayAll0]
theorem depth_rows : ∀ rs : List Row, PyData.depthAll (rs.map rowD) ≤ 1
  | [] => by simp [PyData.depthAll]
  | r :: rs => by
    rw [List.map_cons]
    show max (PyData.depth (rowD r)) (PyData.depthAll (rs.map rowD)) ≤ 1
    have := depth_rows rs
    have e : PyData.depth (rowD r) = 1 := by simp [rowD, PyData.depth, PyData.depthAll]
    omega
theorem shaped_rows (rs : List Row) : SeqAt.shaped (.list (rs.map rowD)) = true := by
  unfold SeqAt.shaped
  have h := depth_rows rs
  have e : PyData.depth (.list (rs.map rowD)) = PyData.depthAll (rs.map rowD) + 1 := by simp [PyData.depth]
  rw [show PyData.canLay0 (.list (rs.map rowD)) = PyData.canLayAll0 (rs.map rowD) by simp [PyData.canLay0], lay_rows, e]
  simp
  omega
/-! ### gaps, folds -/
def gapsOf (rs : List Row) : List PyData := rs.filterMap fun r => if 0 < jmp r then some (tornD r) else none
def foldsOf (rs : List Row) : List PyData := rs.filterMap fun r => if jmp r < 0 then some (tornD r) else none
theorem fm_fm {α : Type} (g : α → PyData) (f : PyData → Option PyData) (h : α → Option PyData) (e : ∀ r, f (g r) = h r) : ∀ rs : List α, (rs.map g).filterMap f = rs.filterMap h
  | [] => rfl
  | r :: rs => by rw [List.map_cons, List.filterMap_cons, List.filterMap_cons, e r, fm_fm g f h e rs]
theorem int_all {K : PySem.W.Frag} {H : Hp} : ∀ {ns : List Int} {xs : List V}, DqAll K H xs (ns.map PyData.int) → xs = ns.map V.int
  | [], _, h => by cases h; rfl
  | n :: ns, _, h => by
    cases h with
    | cons a b => rw [dp_int a, int_all b]; rfl
theorem inV_int (n : Int) : ∀ ns : List Int, inV (.int n) (ns.map V.int) = ns.any (fun m => m == n)
  | [] => rfl
  | m :: ns => by
    show (eqV (.int m) (.int n) || inV (.int n) (ns.map V.int)) = _
    rw [inV_int n ns]
    rfl
theorem flat_int : ∀ ns : List Int, (ns.map V.int).all flatV = true
  | [] => rfl
  | n :: ns => flat_int ns
section
variable {X : Cx} {M : List Addr} {σ : L2.St} {H H' : Hp} {a b : Expr} {pos : Pos}
theorem xd_inI {n : Int} {ns : List Int} (ha : XD X M σ H a (.int n)) (hb : XD X M σ H b (.list (ns.map PyData.int))) (hm : behindInMarks .In b = false := by rfl) : XD X M σ H (.Compare a [.In] [b] pos) (.bool (ns.any fun m => m == n)) :=
  xd_cmp op_in_seq ha hb (fun H1 v w s hv hw Q q => by
    obtain ⟨p, xs, rfl, hp, hx⟩ := dp_lst hw
    have e := int_all hx
    subst e
    rw [dp_int hv]
    exact ⟨p, _, rfl, .inl (SqL.of (hid_le _ _ hp)), rfl, flat_int ns, by rw [inV_int]; exact q _ H1 (Same.refl _) (.bl _)⟩) hm
end
section
variable {P : Program} {w : World} {K : PySem.W.Frag} {mg : Str → Option Value} {base : Heap} {C : Addr}
theorem scGaps : FnScope ["self", "row"] ["self"] (defScope sGaps) := ⟨rfl, rfl, rfl, by decide +kernel, rfl, by decide +kernel, by decide +kernel⟩
theorem ok_gaps {f fJ fT : Addr} {fd fdJ fdT : FuncData} (T : Nm mg) (Z : ZT K mg C) (FJ : Df K mg "jump_of" sJump ["row"] fJ fdJ) (FT : Df K mg "torn_readings" sTorn ["row"] fT fdT) (F : Fun K "gaps" "Zone.gaps" sGaps f fd) : FnOk P w K mg base CX0 2 f fd ["self"] (spML K C fun _ rs => gapsOf rs) := by
  have GJ : FnOk P w K mg base CX0 1 fJ fdJ ["row"] (spR K RJump) := ok_jump FJ
  have GT : FnOk P w K mg base CX0 1 fT fdT ["row"] (spR K RTorn) := ok_torn T FT
  refine F.ok scGaps (fun vs H Q E h => ?_) (fun cdv A outer s H vs Q E hr h => ?_)
  · obtain ⟨M, a, off, rs, rfl, _⟩ := h; rfl
  · obtain ⟨M, a, off, rs, rfl, L, hz, hlen, q⟩ := h
    refine rb_retR (XL.go (M := M) ((xl_comp (own := [("row", 1)]) (fun d => match d with | .tuple [.int x, .int y, .int z] => if 0 < z - y then some (tornD (x, y, z)) else none | _ => none) L scGaps.nd (xd_rows ⟨_, Z⟩ hz (xv_name 0 rfl))
      (blkOk_by (own := [("row", 1)]) (N := ["self", "row"]) (sc := defScope sGaps) (by decide +kernel)) (by rw [List.length_map]; omega) (fun p d v H1 hd hp s1 Lp hv => ?_)).to (fm_fm rowD _ (fun r => if 0 < jmp r then some (tornD r) else none) (fun _ => rfl) rs)) q)
    obtain ⟨r, _, rfl⟩ := mem_row hd
    intro s0 H0 C0 cl fp
    refine rg_name 1 ?_ scGaps.nd
    refine ⟨rfl, bt_one (k := decide (0 < jmp r)) (fun s0 H0 C0 cl fp => xt_cmpI (M := p :: M) op_gt (xd_call Lp GJ hr FJ.g FJ.F.kp FJ.b (xa_cons (xd_name 1 rfl hv) xa_nil) ⟨r, rfl, rfl⟩) xd_int) fun H2 s2 => ⟨s2, ?_⟩⟩
    by_cases hj : 0 < jmp r
    · refine .inl ⟨decide_eq_true hj, tornD r, if_pos hj, fun s0 H0 C0 cl fp => ?_⟩
      exact XD.go (xd_call (Lp.mono s2) GT hr FT.g FT.F.kp FT.b (xa_cons (xd_name 1 rfl (hv.up (hid_mono s2))) xa_nil) ⟨r, rfl, rfl⟩) fun v H2 s2 hv2 => ⟨s2, hv2⟩
    · exact .inr ⟨decide_eq_false hj, if_neg hj⟩
theorem scFolds : FnScope ["self", "row"] ["self"] (defScope sFolds) := ⟨rfl, rfl, rfl, by decide +kernel, rfl, by decide +kernel, by decide +kernel⟩
theorem ok_folds {f fJ fT : Addr} {fd fdJ fdT : FuncData} (T : Nm mg) (Z : ZT K mg C) (FJ : Df K mg "jump_of" sJump ["row"] fJ fdJ) (FT : Df K mg "torn_readings" sTorn ["row"] fT fdT) (F : Fun K "folds" "Zone.folds" sFolds f fd) : FnOk P w K mg base CX0 2 f fd ["self"] (spML K C fun _ rs => foldsOf rs) := by
  have GJ : FnOk P w K mg base CX0 1 fJ fdJ ["row"] (spR K RJump) := ok_jump FJ
  have GT : FnOk P w K mg base CX0 1 fT fdT ["row"] (spR K RTorn) := ok_torn T FT
  refine F.ok scFolds (fun vs H Q E h => ?_) (fun cdv A outer s H vs Q E hr h => ?_)
  · obtain ⟨M, a, off, rs, rfl, _⟩ := h; rfl
  · obtain ⟨M, a, off, rs, rfl, L, hz, hlen, q⟩ := h
    refine rb_retR (XL.go (M := M) ((xl_comp (own := [("row", 1)]) (fun d => match d with | .tuple [.int x, .int y, .int z] => if z - y < 0 then some (tornD (x, y, z)) else none | _ => none) L scFolds.nd (xd_rows ⟨_, Z⟩ hz (xv_name 0 rfl))
      (blkOk_by (own := [("row", 1)]) (N := ["self", "row"]) (sc := defScope sFolds) (by decide +kernel)) (by rw [List.length_map]; omega) (fun p d v H1 hd hp s1 Lp hv => ?_)).to (fm_fm rowD _ (fun r => if jmp r < 0 then some (tornD r) else none) (fun _ => rfl) rs)) q)
    obtain ⟨r, _, rfl⟩ := mem_row hd
    intro s0 H0 C0 cl fp
    refine rg_name 1 ?_ scFolds.nd
    refine ⟨rfl, bt_one (k := decide (jmp r < 0)) (fun s0 H0 C0 cl fp => xt_cmpI (M := p :: M) op_lt (xd_call Lp GJ hr FJ.g FJ.F.kp FJ.b (xa_cons (xd_name 1 rfl hv) xa_nil) ⟨r, rfl, rfl⟩) xd_int) fun H2 s2 => ⟨s2, ?_⟩⟩
    by_cases hj : jmp r < 0
    · refine .inl ⟨decide_eq_true hj, tornD r, if_pos hj, fun s0 H0 C0 cl fp => ?_⟩
      exact XD.go (xd_call (Lp.mono s2) GT hr FT.g FT.F.kp FT.b (xa_cons (xd_name 1 rfl (hv.up (hid_mono s2))) xa_nil) ⟨r, rfl, rfl⟩) fun v H2 s2 hv2 => ⟨s2, hv2⟩
    · exact .inr ⟨decide_eq_false hj, if_neg hj⟩
/-! ### in -/
def inB (rs : List Row) : PyData → Bool
  | .int n => (rs.map (·.1)).any fun m => m == n
  | _ => false
def spCont (K : PySem.W.Frag) (C : Addr) : Sp := fun vs H Q _ => ∃ (M : List Addr) (a : Addr) (off : Int) (rs : List Row) (v : V) (d : PyData), vs = [.ref a, v] ∧ Live M H ∧ ZAt K C (hid M H) a off rs ∧ rs.length ≤ 1000 ∧ Dq K (hid M H) v d ∧
  ∀ H1, Same H H1 → Q (.bl (inB rs d)) H1
theorem scCont : FnScope ["self", "x", "row"] ["self", "x"] (defScope sCont) := ⟨rfl, rfl, rfl, by decide +kernel, rfl, by decide +kernel, by decide +kernel⟩
theorem ok_cont {f fW : Addr} {fd fdW : FuncData} (T : Nm mg) (Z : ZT K mg C) (FW : Df K mg "is_whole" sWhole ["value"] fW fdW) (F : Fun K "__contains__" "Zone.__contains__" sCont f fd) : FnOk P w K mg base CX0 2 f fd ["self", "x"] (spCont K C) := by
  have GW : FnOk P w K mg base CX0 1 fW fdW ["value"] (spR K RWhole) := ok_whole T FW
  refine F.ok scCont (fun vs H Q E h => ?_) (fun cdv A outer s H vs Q E hr h => ?_)
  · obtain ⟨M, a, off, rs, v, d, rfl, _⟩ := h; rfl
  · obtain ⟨M, a, off, rs, v, d, rfl, L, hz, hlen, hd, q⟩ := h
    by_cases hwh : whole d = true
    · obtain ⟨n, rfl⟩ : ∃ n, d = .int n := by
        cases d <;> first | exact ⟨_, rfl⟩ | exact absurd hwh Bool.false_ne_true
      refine rb_ret (M := M) (xd_andT (xd_call L GW hr FW.g FW.F.kp FW.b (xa_cons (xd_name 1 rfl hd) xa_nil) ⟨.int n, rfl, rfl⟩) (xd_one (xd_inI (ns := rs.map (·.1)) (xd_name 1 rfl hd) (((xl_comp (own := [("row", 2)]) (fun d => match d with | .tuple [x, _, _] => some x | _ => none) L scCont.nd (xd_rows ⟨_, Z⟩ hz (xv_name 0 rfl))
        (blkOk_by (own := [("row", 2)]) (N := ["self", "x", "row"]) (sc := defScope sCont) (by decide +kernel)) (by rw [List.length_map]; omega) (fun p d v H1 hd hp s1 Lp hv => ?_)).to ((fm_map rowD _ (fun r => .int r.1) (fun _ => rfl) rs).trans (by rw [List.map_map]; rfl))).dd L)))) fun v H1 s1 hv => by
        rw [dp_bl hv]
        exact q H1 s1
      obtain ⟨r, _, rfl⟩ := mem_row hd
      intro s0 H0 C0 cl fp
      refine rg_name 2 ?_ scCont.nd
      refine ⟨rfl, bt_nil ⟨Same.refl _, .inl ⟨rfl, _, rfl, fun s0 H0 C0 cl fp => ?_⟩⟩⟩
      exact XD.go (xd_ixT (fun _ _ => rfl) (xd_name 2 rfl hv) xd_int rfl) fun v H2 s2 hv2 => ⟨s2, hv2⟩
    · have e : whole d = false := by cases h : whole d <;> simp_all
      refine rb_ret (M := M) (xd_andF ((xd_call L GW hr FW.g FW.F.kp FW.b (xa_cons (xd_name 1 rfl hd) xa_nil) ⟨d, rfl, rfl⟩).to (by rw [e]))) fun v H1 s1 hv => ?_
      rw [dp_bl hv]
      have e2 : inB rs d = false := by cases d <;> first | rfl | exact absurd rfl hwh
      rw [← e2]
      exact q H1 s1
end
end Zn

set_option Elab.async false
set_option linter.all false
set_option maxRecDepth 100000
set_option maxHeartbeats 4000000
namespace Zn
open PySem PySem.Spec PyProof.Rows L2 Dl
/-! ### == -/
/-- what the written part says of isinstance(.., Zone) -/
structure ZI (K : PySem.W.Frag) (C : Addr) : Prop where
  ha : PySem.W.findIn K (.ref C) "__class__" = some (some (.builtin "object.__class__"))
  hn : PySem.W.specialIn K (.builtin "object.__class__") "__get__" = some (some (.builtin "getset_descriptor.__get__"))
  htk : PySem.W.takesIn K (.builtin "object.__class__") = some true
  hm : PySem.W.mroIn K C (.type "object") = some true
  yes : PySem.W.kitOne K (.ref C) (.ref C) = some true
  no : PySem.W.kitOne K (.type "list") (.ref C) = some false
def spEqZ (K : PySem.W.Frag) (C : Addr) : Sp := fun vs H Q _ => ∃ (M : List Addr) (a b : Addr) (off : Int) (rs : List Row), vs = [.ref a, .ref b] ∧ Live M H ∧ ZAt K C (hid M H) a off rs ∧
  ((∃ off' rs', ZAt K C (hid M H) b off' rs' ∧ ∀ H1, Same H H1 → Q (.bl (decide (off = off' ∧ rs = rs'))) H1) ∨ (∃ xs, H b = some (.lst xs) ∧ ∀ H1, Same H H1 → Q (.bl false) H1))
section
variable {P : Program} {w : World} {K : PySem.W.Frag} {mg : Str → Option Value} {base : Heap} {C : Addr}
/-- isinstance(o, Zone) -/
theorem xd_isZ {X : Cx} {M : List Addr} {σ : L2.St} {H : Hp} {o : Expr} {pos p1 p2 : Pos} {t : Value} {r : Bool} {v : V} (hm : X.mg "isinstance" = none) (hC : X.mg "Zone" = some (.ref C)) (ho : XV X σ H o v) (hty : TyX X.K H v t) (hup : ∀ H1, Same H H1 → TyX X.K H1 v t) (hk : PySem.W.kitOne X.K t (.ref C) = some r) (hg : Gl X "isinstance" := by rfl) (hgZ : Gl X "Zone" := by rfl)
    (he : starEach [o, .Name "Zone" p2] X.env = (false, eval o X.env) :: starEach [.Name "Zone" p2] X.env := by rfl) (he2 : starEach [.Name "Zone" p2] X.env = (false, eval (.Name "Zone" p2) X.env) :: starEach [] X.env := by rfl) (hpl : (backTo pos (starEach [.Name "Zone" p2] X.env)).any (·.1) = false := by rfl) :
    XD X M σ H (.Call (.Name "isinstance" p1) [o, .Name "Zone" p2] [] pos) (.bool r) := fun H1 s Q q =>
  re_B call_isi (ra_cons (ho H1 s _ fun H2 s2 => ra_1 (xv_glob (v := .ref C) hC rfl hgZ (by decide) H2 (Same.refl _) _ fun H3 s3 => ⟨v, .ref C, t, .ref C, r, rfl, .own C, hup H3 ((s.trans s2).trans s3), hk, q _ H3 (s2.trans s3) (.bl _)⟩) he2) he) hm (by decide +kernel) hg (by decide) (by decide) he hpl
theorem scEq : FnScope ["self", "other"] ["self", "other"] (defScope sEq) := ⟨rfl, rfl, rfl, by decide +kernel, rfl, by decide +kernel, by decide +kernel⟩
theorem ok_eq {f : Addr} {fd : FuncData} (T : Nm mg) (Z : ZT K mg C) (I : ZI K C) (F : Fun K "__eq__" "Zone.__eq__" sEq f fd) : FnOk P w K mg base CX0 1 f fd ["self", "other"] (spEqZ K C) := by
  refine F.ok scEq (fun vs H Q E h => ?_) (fun cdv A outer s H vs Q E hr h => ?_)
  · obtain ⟨M, a, b, off, rs, rfl, _⟩ := h; rfl
  · obtain ⟨M, a, b, off, rs, rfl, L, hz, h⟩ := h
    rcases h with ⟨off', rs', hz', q⟩ | ⟨xs, hb, q⟩
    · have hty : ∀ H1, Same H H1 → TyX K H1 (.ref b) (.ref C) := fun H1 s1 => by
        obtain ⟨dx, r, e1, _⟩ := hz'
        exact .base (.ins (s1 _ _ (hid_le _ _ e1)) Z.cl I.ha I.hn I.htk I.hm)
      have e : (decide (off = off') && decide (rs = rs')) = decide (off = off' ∧ rs = rs') := by rw [Bool.decide_and]
      refine rb_ret (M := M) (xd_andT (xd_isZ T.isi Z.mgC (xv_name 1 rfl) (hty H (Same.refl H)) hty I.yes) (xd_and2 (xd_eqI (xv_base ⟨_, Z⟩ hz (xv_name 0 rfl)).int (xv_base ⟨_, Z⟩ hz' (xv_name 1 rfl)).int) fun _ =>
        ((xd_eqD hr.units (xd_rows ⟨_, Z⟩ hz (xv_name 0 rfl)) (xd_rows ⟨_, Z⟩ hz' (xv_name 1 rfl)) (shaped_rows rs) (shaped_rows rs')).to (by rw [show PyData.eqv (.list (rs.map rowD)) (.list (rs'.map rowD)) = PyData.eqvAll (rs.map rowD) (rs'.map rowD) by simp [PyData.eqv], eqv_rows])))) fun v H1 s1 hv => ?_
      rw [dp_bl hv, e]
      exact q H1 s1
    · have hty : ∀ H1, Same H H1 → TyX K H1 (.ref b) (.type "list") := fun H1 s1 => .base (.lst (s1 _ _ hb))
      refine rb_ret (M := M) (xd_andF (xd_isZ T.isi Z.mgC (xv_name 1 rfl) (hty H (Same.refl H)) hty I.no)) fun v H1 s1 hv => ?_
      rw [dp_bl hv]
      exact q H1 s1
/-! ### Zone(..) -/
/-- a zone just made: neither it nor its list of rows was there before -/
def ZNew (K : PySem.W.Frag) (C : Addr) (H0 : Hp) (M : List Addr) (H1 : Hp) (y : Addr) (off : Int) (rs : List Row) : Prop := H0 y = none ∧ ∃ dx r, H0 r = none ∧ hid M H1 y = some (.ins C dx (zf off r)) ∧ Dq K (hid M H1) (.ref r) (.list (rs.map rowD))
theorem ZNew.at {K : PySem.W.Frag} {C : Addr} {H0 : Hp} {M : List Addr} {H1 : Hp} {y : Addr} {off : Int} {rs : List Row} (h : ZNew K C H0 M H1 y off rs) : ZAt K C (hid M H1) y off rs := by
  obtain ⟨_, dx, r, _, h1, h2⟩ := h
  exact ⟨dx, r, h1, h2⟩
def spInit (K : PySem.W.Frag) (C : Addr) : Sp := fun vs H Q _ => ∃ (M : List Addr) (H0 : Hp) (y dx : Addr) (off : Int) (vq : V) (sq : PyData) (items : List PyData) (cs : List (Int × Int)), vs = [.ref y, .int off, vq] ∧ H = upd (upd H0 dx (.own y)) y (.ins C dx []) ∧ H0 y = none ∧ H0 dx = none ∧ dx ≠ y ∧ Live M H0 ∧
  Dq K (hid M H0) vq sq ∧ (sq = .list items ∨ sq = .tuple items) ∧ Items items cs ∧ okR (rowsOf off cs) ∧ cs.length ≤ 1000 ∧ ∀ H1, Same H0 H1 → ZNew K C H0 M H1 y off (rowsOf off cs) → Q .non H1
theorem scInit : FnScope ["self", "offset", "changes"] ["self", "offset", "changes"] (defScope sInit) := ⟨rfl, rfl, rfl, by decide +kernel, rfl, by decide +kernel, by decide +kernel⟩
theorem ok_init {f fN fR fW fP fJ fI fF : Addr} {fd fdN fdR fdW fdP fdJ fdI fdF : FuncData} (T : Nm mg) (Z : ZT K mg C) (hG : ∃ t, mg "GREATEST_JUMP" = some (.int 720 t)) (FW : Df K mg "is_whole" sWhole ["value"] fW fdW) (FP : Df K mg "is_whole_pair" sPair ["value"] fP fdP)
    (FJ : Df K mg "jump_of" sJump ["row"] fJ fdJ) (FI : Df K mg "is_jump" sIsJump ["value"] fI fdI) (FF : Df K mg "can_follow" sFollow ["rows", "row"] fF fdF) (FR : Df K mg "rows_of" sRows ["offset", "changes"] fR fdR) (FN : Df K mg "need_integer" sNeed ["value"] fN fdN)
    {kV dc pm cd ct oc dV : Value} {od an : Option Addr} {osl : Array (Option Value)} (lk : K.lookup f = some ⟨oc, od, .func (PySem.W.fnOf "__init__" "Zone.__init__" (defArgs sInit) (defBody sInit) (defScope sInit) dV kV dc pm an cd ct), osl⟩) (hcd : PySem.W.codeIn K cd "Zone.__init__" = true) :
    FnOk P w K mg base CX0 4 f (PySem.W.fnOf "__init__" "Zone.__init__" (defArgs sInit) (defBody sInit) (defScope sInit) dV kV dc pm an cd ct) ["self", "offset", "changes"] (spInit K C) := by
  have GN : FnOk P w K mg base CX0 3 fN fdN ["value"] (spR K RNeed) := (ok_need T FW FN).mono (by decide)
  have GR : FnOk P w K mg base CX0 3 fR fdR ["offset", "changes"] (spL K RRows) := ok_rows T hG FW FP FJ FI FF FR
  refine fn_of lk hcd scInit (fun vs H Q E h => ?_) (fun A outer s H vs Q E hr h => ?_)
  · obtain ⟨M, H0, y, dx, off, vq, sq, items, cs, rfl, _⟩ := h; rfl
  · obtain ⟨M, H0, y, dx, off, vq, sq, items, cs, rfl, rfl, hy, hdx, hne, L, hq, hsq, hit, hok, hlen, q⟩ := h
    suffices h : RB (cxOf CX0 P w K mg base ["self", "offset", "changes"] "Zone.__init__" (defScope sInit) f cd A outer s (upd (upd H0 dx (.own y)) y (.ins C dx [])) E).nox (defBody sInit) { nx := fun _ H' => Q .non H', rt := Q } (start ["self", "offset", "changes"] [V.ref y, V.int off, vq]) (upd (upd H0 dx (.own y)) y (.ins C dx [])) by
      obtain ⟨t, h1, h2⟩ := h
      exact ⟨t, h1.nox, h2⟩
    have hy1 : upd H0 dx (.own y) y = none := by rw [upd_ne (Ne.symm hne)]; exact hy
    have s0 : Same H0 (upd (upd H0 dx (.own y)) y (.ins C dx [])) := (same_new hdx).trans (same_new hy1)
    have eh : hid (y :: M) (upd (upd H0 dx (.own y)) y (.ins C dx [])) = hid M (upd H0 dx (.own y)) := hid_cons hy1
    have Ly : Live (y :: M) (upd (upd H0 dx (.own y)) y (.ins C dx [])) := (L.mono (same_new hdx)).cons hy1
    have hq1 : Dq K (hid (y :: M) (upd (upd H0 dx (.own y)) y (.ins C dx []))) vq sq := by rw [eh]; exact hq.up (hid_mono (same_new hdx))
    generalize hH : upd (upd H0 dx (.own y)) y (.ins C dx []) = H at s0 Ly hq1
    have hyH : H y = some (.ins C dx []) := by rw [← hH]; exact upd_same
    -- need_integer(offset)
    refine rb_expr (M := y :: M) (d := .none) (xd_call Ly GN hr FN.g FN.F.kp FN.b (xa_cons (xd_name 1 rfl (.int off)) xa_nil) ⟨off, rfl, rfl⟩) fun H1 s1 => ?_
    have hq2 := hq1.up (hid_mono (M := y :: M) s1)
    have Ly1 := Ly.mono s1
    -- isinstance(changes, (list, tuple))
    have ist : ∀ {p1 p2 p3 p4 p5 p6 : Pos} {k3}, XD (cxOf CX0 P w K mg base ["self", "offset", "changes"] "Zone.__init__" (defScope sInit) f cd A outer s H E).nox (y :: M) (start ["self", "offset", "changes"] [V.ref y, V.int off, vq]) H1 (.Call (.Name "isinstance" p1) [.Name "changes" p2, .Tuple [.Name "list" p3, .Name "tuple" p4] k3 p5] [] p6) (.bool true) := fun {p1 p2 p3 p4 p5 p6 k3} => by
      rcases hsq with rfl | rfl
      · exact (xd_is2 (d := .list items) (r1 := true) (r2 := false) (T1 := "list") (T2 := "tuple") k_ll k_lt T.isi T.lst (by decide +kernel) T.tup (by decide +kernel) (xd_name 2 rfl hq2)).to rfl
      · exact (xd_is2 (d := .tuple items) (r1 := false) (r2 := true) (T1 := "list") (T2 := "tuple") k_tl k_tt T.isi T.lst (by decide +kernel) T.tup (by decide +kernel) (xd_name 2 rfl hq2)).to rfl
    refine rb_ifF ((xt_not (xt_val (M := y :: M) ist)).to rfl) fun H2 s2 => ?_
    -- self.base = offset
    refine rb_fld (pa := y) (dx := dx) (fs := []) (XV.go (xv_name 1 rfl) fun H3 s3 => ⟨s3 _ _ (s2 _ _ (s1 _ _ hyH)), (by decide), xv_name 0 rfl, fun H4 s4 => ?_⟩) Z.cl Z.nB
    have s24 := (s2.trans s3).trans s4
    have hq5 : Dq K (hid (y :: M) (upd H4 y (.ins C dx (putF "base" (.int off) [])))) vq sq := by rw [hid_cons_upd]; exact hq2.up (hid_mono s24)
    have L5 : Live (y :: M) (upd H4 y (.ins C dx (putF "base" (.int off) []))) := (Ly1.mono s24).upd
    have s05 : Same H0 (upd H4 y (.ins C dx (putF "base" (.int off) []))) := same_upd ((s0.trans s1).trans s24) hy
    have h5y : upd H4 y (.ins C dx (putF "base" (.int off) [])) y = some (.ins C dx [("base", .int off)]) := upd_same
    generalize upd H4 y (.ins C dx (putF "base" (.int off) [])) = H5 at hq5 L5 s05 h5y
    -- self.rows = rows_of(offset, changes)
    refine rb_fld (pa := y) (dx := dx) (fs := [("base", .int off)]) (XL.go (M := y :: M) (xl_call L5 GR hr FR.g FR.F.kp FR.b (xa_cons (xd_name 1 rfl (.int off)) (xa_cons (xd_name 2 rfl hq5) xa_nil)) ⟨off, sq, items, cs, rfl, hsq, hit, hok, hlen, rfl⟩) fun p xs H6 s6 hp6 h6 hx6 =>
      ⟨s6 _ _ h5y, (by show 1 < 1000; decide), xv_name 0 rfl, fun H7 s7 => rb_nil (q _ (same_upd ((s05.trans s6).trans s7) hy) ?_)⟩) Z.cl Z.nR
    rw [zf_put]
    have npy : p ≠ y := fun z => by rw [z, h5y] at hp6; cases hp6
    have npM : p ∉ M := fun z => (Live.tail L5) p z hp6
    refine ⟨hy, dx, p, s05.free hp6, by rw [hid_of (L.fresh hy)]; exact upd_same, .lst (xs := xs) ?_ (hx6.up ?_)⟩
    · rw [hid_of npM, upd_ne npy]
      exact s7 _ _ h6
    · have z := (hid_mono (M := y :: M) s7)
      have z2 : Same (hid (y :: M) (upd H7 y (.ins C dx (zf off p)))) (hid M (upd H7 y (.ins C dx (zf off p)))) := hid_weak
      rw [hid_cons_upd] at z2
      exact z.trans z2
/-! ### a zone is made -/
/-- the expression makes a new zone -/
def XZ (C : Addr) (X : Cx) (M : List Addr) (σ : L2.St) (H : Hp) (e : Expr) (off : Int) (rs : List Row) : Prop := ∀ H1, Same H H1 → ∀ Q : VK, (∀ y H2, Same H1 H2 → ZAt X.K C (hid M H2) y off rs → Q (.ref y) H2) → RE X e σ H1 Q
theorem XZ.go {X : Cx} {M : List Addr} {σ : L2.St} {H : Hp} {e : Expr} {off : Int} {rs : List Row} {Q : VK} (h : XZ C X M σ H e off rs) (k : ∀ y H2, Same H H2 → ZAt X.K C (hid M H2) y off rs → Q (.ref y) H2) : RE X e σ H Q := h H (Same.refl H) Q k
/-- all that making a zone wants -/
structure ZMk (P : Program) (w : World) (K : PySem.W.Frag) (mg : Str → Option Value) (base : Heap) (C f : Addr) (fd : FuncData) (et : Addr) : Prop where
  Z : ZT K mg C
  mkk : Mk K C f
  G : FnOk P w K mg base CX0 4 f fd ["self", "offset", "changes"] (spInit K C)
  b2 : Binds K fd ["self", "offset", "changes"] []
  b1 : Binds K fd ["self", "offset", "changes"] [.ref et]
  et : SqT K (fun _ => none) et []
theorem xzn_make {X : Cx} {M : List Addr} {σ : L2.St} {H : Hp} {a b : Expr} {pos p1 : Pos} {off : Int} {sq : PyData} {items : List PyData} {cs : List (Int × Int)} {f et : Addr} {fd : FuncData} (L : Live M H) (W : ZMk X.prog X.w X.K X.mg X.base C f fd et) (hr : Room 5 X.A)
    (ha : XD X M σ H a (.int off)) (hb : XD X M σ H b sq) (hsq : sq = .list items ∨ sq = .tuple items) (hit : Items items cs) (hok : okR (rowsOf off cs)) (hlen : cs.length ≤ 1000) (hg : Gl X "Zone" := by rfl)
    (he : starEach [a, b] X.env = (false, eval a X.env) :: starEach [b] X.env := by rfl) (he2 : starEach [b] X.env = (false, eval b X.env) :: starEach [] X.env := by rfl) (hpl : (backTo pos (starEach [b] X.env)).any (·.1) = false := by rfl) : ∀ H1, Same H H1 → ∀ Q : VK, (∀ y H0 H2, Same H1 H0 → Same H0 H2 → ZNew X.K C H0 M H2 y off (rowsOf off cs) → Q (.ref y) H2) → RE X (.Call (.Name "Zone" p1) [a, b] [] pos) σ H1 Q := fun H1 s Q q =>
  re_make W.mkk W.G hr W.Z.mgC W.b2 .nil (ra_cons (ha H1 s _ fun v H2 s2 hv => ra_1 (hb H2 (s.trans s2) _ fun u H3 s3 hu y dx hy hdx hne => by
    rw [dp_int hv]
    refine ⟨M, H3, y, dx, off, u, sq, items, cs, rfl, rfl, hy, hdx, hne, L.mono ((s.trans s2).trans s3), hu, hsq, hit, hok, hlen, fun H4 s4 hz => ⟨rfl, q y H3 H4 (s2.trans s3) s4 hz⟩⟩) he2) he) hg (by decide) he hpl
theorem xz_make {X : Cx} {M : List Addr} {σ : L2.St} {H : Hp} {a b : Expr} {pos p1 : Pos} {off : Int} {sq : PyData} {items : List PyData} {cs : List (Int × Int)} {f et : Addr} {fd : FuncData} (L : Live M H) (W : ZMk X.prog X.w X.K X.mg X.base C f fd et) (hr : Room 5 X.A)
    (ha : XD X M σ H a (.int off)) (hb : XD X M σ H b sq) (hsq : sq = .list items ∨ sq = .tuple items) (hit : Items items cs) (hok : okR (rowsOf off cs)) (hlen : cs.length ≤ 1000) (hg : Gl X "Zone" := by rfl)
    (he : starEach [a, b] X.env = (false, eval a X.env) :: starEach [b] X.env := by rfl) (he2 : starEach [b] X.env = (false, eval b X.env) :: starEach [] X.env := by rfl) (hpl : (backTo pos (starEach [b] X.env)).any (·.1) = false := by rfl) : XZ C X M σ H (.Call (.Name "Zone" p1) [a, b] [] pos) off (rowsOf off cs) := fun H1 s Q q =>
  xzn_make L W hr ha hb hsq hit hok hlen hg he he2 hpl H1 s Q fun y H0 H2 s1 s2 hz => q y H2 (s1.trans s2) hz.at
theorem xz_make1 {X : Cx} {M : List Addr} {σ : L2.St} {H : Hp} {a : Expr} {pos p1 : Pos} {off : Int} {f et : Addr} {fd : FuncData} (L : Live M H) (W : ZMk X.prog X.w X.K X.mg X.base C f fd et) (hr : Room 5 X.A)
    (ha : XD X M σ H a (.int off)) (hg : Gl X "Zone" := by rfl) (he : starEach [a] X.env = (false, eval a X.env) :: starEach [] X.env := by rfl) (hpl : (backTo pos (starEach [] X.env)).any (·.1) = false := by rfl) : XZ C X M σ H (.Call (.Name "Zone" p1) [a] [] pos) off [] := fun H1 s Q q =>
  re_make (dvs := [.ref et]) W.mkk W.G hr W.Z.mgC W.b1 (.cons rfl .nil) (ra_1 (ha H1 s _ fun v H2 s2 hv y dx hy hdx hne => by
    rw [dp_int hv]
    refine ⟨M, H2, y, dx, off, .ref et, .tuple [], [], [], rfl, rfl, hy, hdx, hne, L.mono (s.trans s2), .tup (same_seqT (fun _ _ z => by cases z) W.et) .nil, .inr rfl, ⟨rfl, fun i it z => by simp at z⟩, fun k r z => by simp [rowsOf] at z, Nat.zero_le _, fun H4 s4 hz => ⟨rfl, q y H4 (s2.trans s4) hz.at⟩⟩) he) hg (by decide) he hpl
end
end Zn

set_option Elab.async false
set_option linter.all false
set_option maxRecDepth 100000
set_option maxHeartbeats 4000000
namespace Zn
open PySem PySem.Spec PyProof.Rows L2 Dl
section
variable {X : Cx} {M : List Addr} {σ : L2.St} {H H' : Hp} {e a b o ie : Expr} {d : PyData} {ds : List PyData} {pos p1 p2 p3 : Pos} {D : Ends} {rest : List Stmt} {v : V} {xs : List V}
/-! ### lists by the values themselves -/
theorem xv_lenS {p : Addr} (hm : X.mg "len" = none) (ha : XV X σ H e (.ref p)) (hS : SqL X.K H p xs) (hg : Gl X "len" := by rfl) (he : starEach [e] X.env = (false, eval e X.env) :: starEach [] X.env := by rfl) (hpl : (backTo pos (starEach [] X.env)).any (·.1) = false := by rfl) :
    XV X σ H (.Call (.Name "len" p1) [e] [] pos) (.int xs.length) := fun H1 s Q q =>
  re_B call_len_seq (ra_1 (ha H1 s _ fun H2 s2 => ⟨p, xs, rfl, .inl ((s.trans s2).seq hS), q H2 s2⟩) he) hm PySem.boot_len hg (by decide) (by decide) he hpl
theorem xv_ixS {p : Addr} {n : Int} (hs : PlainIx b) (ha : XV X σ H a (.ref p)) (hS : SqL X.K H p xs) (hb : XV X σ H b (.int n)) (h : atI xs n = some v) : XV X σ H (.Subscript a b pos) v := fun H1 s Q q =>
  ⟨_, pe_ix ix_list re_ re_ hs, ha H1 s _ fun H2 s2 => hb H2 (s.trans s2) _ fun H3 s3 => ⟨p, xs, n, v, rfl, rfl, ((s.trans s2).trans s3).seq hS, h, q H3 (s2.trans s3)⟩⟩
/-- o[i] = e -/
theorem rb_setIx {l : Addr} {n : Int} {j : Nat} (hl : H l = some (.lst xs)) (he : XD X M σ H e d) (ho : XV X σ H o (.ref l)) (hi : XV X σ H ie (.int n)) (hj : ixN xs.length n = some j) (k : ∀ v H1, Same H H1 → Dq X.K (hid M H1) v d → RB X rest D σ (upd H1 l (.lst (xs.set j v))))
    (hs : swapsWithSole [.Subscript o ie p1] e pos.line X.env = pure false := by rfl) (hw : swappedStores [.Subscript o ie p1] e X.env = pure none := by rfl) (h1 : (assignEach [.Subscript o ie p1] X.env).map (·.2) = [assign (.Subscript o ie p1) X.env] := by rfl)
    (hg : PG X (.Subscript o ie p1) (gSub (RE X o) (RE X ie) rSetL) := by exact pg_sub re_ re_ set_list) : RB X (.Assign [.Subscript o ie p1] e pos :: rest) D σ H :=
  rb_asgR (he.go fun v H1 s1 hv => ⟨_, hg, ho H1 s1 _ fun H2 s2 => hi H2 (s1.trans s2) _ fun H3 s3 => ⟨l, xs, n, j, rfl, rfl, ((s1.trans s2).trans s3) _ _ hl, hj, k v H3 ((s1.trans s2).trans s3) (hv.up (hid_mono (s2.trans s3)))⟩⟩) hs hw h1
theorem xd_pow {m n : Int} (ha : XD X M σ H a (.int m)) (hb : XD X M σ H b (.int n)) (hc : CPow m n) : XD X M σ H (.BinOp a .Pow b pos) (.int (m ^ n.toNat)) := xd_binI op_pow ha hb hc
theorem xd_mod {m n : Int} (ha : XD X M σ H a (.int m)) (hb : XD X M σ H b (.int n)) (hc : 0 < n) : XD X M σ H (.BinOp a .Mod b pos) (.int (m % n)) := xd_binI op_mod ha hb hc
theorem xd_div {m n : Int} (ha : XD X M σ H a (.int m)) (hb : XD X M σ H b (.int n)) (hc : CDivW m n) : XD X M σ H (.BinOp a .FloorDiv b pos) (.int (m / n)) := xd_binI op_fdivW ha hb hc
end
abbrev sCell : Stmt := top 39
abbrev sBag : Stmt := top 40
abbrev sTake : Stmt := top 41
/-- the bag: a great rest, a seed, a count up to n -/
def BagAt (H : Hp) (b : Addr) (n : Nat) : Prop := ∃ (g m c : Int), H b = some (.lst [.int g, .int m, .int c]) ∧ 0 ≤ m ∧ m < 2147483648 ∧ 0 ≤ c ∧ c ≤ n
theorem BagAt.up {H H' : Hp} {b : Addr} {n n' : Nat} (h : BagAt H b n) (s : Same H H') (hn : n ≤ n') : BagAt H' b n' := by
  obtain ⟨g, m, c, h1, h2, h3, h4, h5⟩ := h
  exact ⟨g, m, c, s _ _ h1, h2, h3, h4, by omega⟩
/-- all but b stands -/
def SameB (b : Addr) (H H' : Hp) : Prop := ∀ a o, a ≠ b → H a = some o → H' a = some o
theorem SameB.of {b : Addr} {H H' : Hp} (s : Same H H') : SameB b H H' := fun a o _ e => s a o e
theorem SameB.trans {b : Addr} {H H1 H2 : Hp} (s : SameB b H H1) (t : SameB b H1 H2) : SameB b H H2 := fun a o n e => t a o n (s a o n e)
theorem SameB.upd {b : Addr} {H H' : Hp} {o : HO} (s : SameB b H H') : SameB b H (upd H' b o) := fun a u n e => by rw [upd_ne n]; exact s a u n e
theorem SameB.hid {b : Addr} {M : List Addr} {H H' : Hp} (s : SameB b H H') (h : b ∈ M) : Same (hid M H) (hid M H') := fun a o e => by
  have n : a ∉ M := fun z => by unfold Dl.hid at e; rw [if_pos z] at e; cases e
  have nb : a ≠ b := fun z => n (z ▸ h)
  rw [hid_of n]
  exact s a o nb (hid_le _ _ e)
theorem SameB.live {b : Addr} {M : List Addr} {H H' : Hp} (s : SameB b H H') (L : Live M H) (hb : H' b ≠ none) : Live M H' := fun a ha z => by
  by_cases e : a = b
  · subst e; exact hb z
  · cases q : H a with
    | none => exact L a ha q
    | some o => rw [s a o e q] at z; cases z
theorem BagAt.some {H : Hp} {b : Addr} {n : Nat} (h : BagAt H b n) : H b ≠ none := by
  obtain ⟨g, m, c, h1, _⟩ := h
  rw [h1]; simp
def spCell (K : PySem.W.Frag) : Sp := fun vs H Q _ => ∃ (a : Addr) (ns : List Int) (j : Nat), vs = [.ref a, .int j] ∧ SqL K H a (ns.map V.int) ∧ ∀ (n : Int) H1, Same H H1 → Q (.int n) H1
def spBag : Sp := fun vs H Q _ => ∃ (n : Int), vs = [.int n] ∧ ∀ b H1, Same H H1 → H b = none → BagAt H1 b 0 → Q (.ref b) H1
def spTake : Sp := fun vs H Q _ => ∃ (b : Addr) (many : Int) (n : Nat), vs = [.ref b, .int many] ∧ 0 < many ∧ many.natAbs < 2 ^ 200 ∧ n ≤ 1000000 ∧ BagAt H b n ∧
  ∀ (r : Int) H1, 0 ≤ r → r < many → SameB b H H1 → BagAt H1 b (n + 1) → Q (.int r) H1
section
variable {P : Program} {w : World} {K : PySem.W.Frag} {mg : Str → Option Value} {base : Heap}
theorem scCell : FnScope ["_law_script", "_law_index"] ["_law_script", "_law_index"] (defScope sCell) := ⟨rfl, rfl, rfl, by decide +kernel, rfl, by decide +kernel, by decide +kernel⟩
theorem ok_cell {f : Addr} {fd : FuncData} (T : Nm mg) (F : Df K mg "_law_cell" sCell ["_law_script", "_law_index"] f fd) : FnOk P w K mg base CX0 1 f fd ["_law_script", "_law_index"] (spCell K) := by
  refine F.F.ok scCell (fun vs H Q E h => ?_) (fun cdv A outer s H vs Q E hr h => ?_)
  · obtain ⟨a, ns, j, rfl, _⟩ := h; rfl
  · obtain ⟨a, ns, j, rfl, hS, q⟩ := h
    refine rb_if (xt_cmpI (M := []) op_lt (xv_name 1 rfl).int (xv_lenS T.len (xv_name 0 rfl) hS).int) (fun e H1 s1 => ?_) (fun e H1 s1 => rb_nil ?_)
    · have hj : j < ns.length := by
        have z := of_decide_eq_true e
        rw [List.length_map] at z
        omega
      have ha : atI (ns.map V.int) ((j : Nat) : Int) = some (V.int ns[j]) := atI_nat (by rw [List.getElem?_map, List.getElem?_eq_getElem hj]; rfl)
      exact rb_retR (XV.go (xv_ixS (fun _ _ => rfl) (xv_name 0 rfl) (s1.seq hS) (xv_name 1 rfl) ha) fun H2 s2 => q _ H2 (s1.trans s2))
    · exact rb_ret (M := []) (xd_add (xd_mul xd_int (xv_name 1 rfl).int (.inl ⟨by decide, by decide⟩)) xd_int) fun v H2 s2 hv => by
        rw [dp_int hv]
        exact q _ H2 (s1.trans s2)
theorem scBag : FnScope ["_law_cell_here"] ["_law_cell_here"] (defScope sBag) := ⟨rfl, rfl, rfl, by decide +kernel, rfl, by decide +kernel, by decide +kernel⟩
theorem ok_bag {f : Addr} {fd : FuncData} (T : Nm mg) (F : Df K mg "_law_bag" sBag ["_law_cell_here"] f fd) : FnOk P w K mg base CX0 1 f fd ["_law_cell_here"] spBag := by
  refine F.F.ok scBag (fun vs H Q E h => ?_) (fun cdv A outer s H vs Q E hr h => ?_)
  · obtain ⟨n, rfl, _⟩ := h; rfl
  · obtain ⟨n, rfl, q⟩ := h
    refine rb_retR (XL.go (M := []) (xl_lst Live.nil (xa_cons (xd_max T.max (xa_cons xd_int (xa_cons (xd_sub (xv_name 0 rfl).int (xd_pow xd_int xd_int ⟨by decide, by decide, by decide⟩)) xa_nil))) (xa_cons (xd_mod (xv_name 0 rfl).int xd_int (by decide)) (xa_cons xd_int xa_nil)))) fun p xs H1 s1 hp h1 hx => ?_)
    cases hx with
    | cons a1 hx => cases hx with
      | cons a2 hx => cases hx with
        | cons a3 hx =>
          cases hx
          rw [dp_int a1, dp_int a2, dp_int a3] at h1
          exact q p H1 s1 hp ⟨_, _, _, h1, by omega, by omega, by decide, by decide⟩
theorem scTake : FnScope ["_law_bag_here", "_law_many", "_law_digit", "_law_mixed"] ["_law_bag_here", "_law_many"] (defScope sTake) := ⟨rfl, rfl, rfl, by decide +kernel, rfl, by decide +kernel, by decide +kernel⟩
theorem cdiv {m n : Int} (h : 0 < n) (h2 : n.natAbs < 2 ^ 200) : CDivW m n := wide_div h h2 (by decide) (by decide)
theorem ok_take {f : Addr} {fd : FuncData} (F : Df K mg "_law_take" sTake ["_law_bag_here", "_law_many"] f fd) : FnOk P w K mg base CX0 1 f fd ["_law_bag_here", "_law_many"] spTake := by
  refine F.F.ok scTake (fun vs H Q E h => ?_) (fun cdv A outer s H vs Q E hr h => ?_)
  · obtain ⟨b, many, n, rfl, _⟩ := h; rfl
  · obtain ⟨b, many, n, rfl, hm, hm2, hn, ⟨g, m, c, hb, m0, m1, c0, c1⟩, q⟩ := h
    have at0 : ∀ {x y z : V}, atI [x, y, z] 0 = some x := fun {x y z} => rfl
    have at1 : ∀ {x y z : V}, atI [x, y, z] 1 = some y := fun {x y z} => rfl
    have at2 : ∀ {x y z : V}, atI [x, y, z] 2 = some z := fun {x y z} => rfl
    refine rb_if (xt_cmpI (M := []) op_gt (xv_ixS (fun _ _ => rfl) (xv_name 0 rfl) (SqL.of hb) xv_int at0).int xd_int) (fun e H1 s1 => ?_) (fun e H1 s1 => rb_nil ?_)
    · have hb1 := s1 _ _ hb
      refine rb_set 2 (M := []) (xd_mod (xv_ixS (fun _ _ => rfl) (xv_name 0 rfl) (SqL.of hb1) xv_int at0).int (xv_name 1 rfl).int hm) (fun v H2 s2 hv => ?_) scTake.nd
      have ev := dp_int hv
      subst ev
      have hb2 := s2 _ _ hb1
      refine rb_setIx (M := []) (n := 0) (j := 0) hb2 (xd_div (xv_ixS (fun _ _ => rfl) (xv_name 0 rfl) (SqL.of hb2) xv_int at0).int (xv_name 1 rfl).int (cdiv hm hm2)) (xv_name 0 rfl) xv_int rfl fun v H3 s3 hv => ?_
      have ev := dp_int hv
      subst ev
      refine rb_retR (XV.go (xv_name 2 rfl) fun H4 s4 => q _ H4 (Int.emod_nonneg _ (by omega)) (Int.emod_lt_of_pos _ hm) ((((SameB.of s1).trans (.of s2)).trans (.of s3)).upd.trans (.of s4)) ⟨g / many, m, c, s4 _ _ upd_same, m0, m1, c0, by omega⟩)
    · have hb1 := s1 _ _ hb
      refine rb_setIx (M := []) (n := 2) (j := 2) hb1 (xd_add (xv_ixS (fun _ _ => rfl) (xv_name 0 rfl) (SqL.of hb1) xv_int at2).int xd_int) (xv_name 0 rfl) xv_int rfl fun v H2 s2 hv => ?_
      have ev := dp_int hv
      subst ev
      have hb3 : upd H2 b (.lst [V.int g, V.int m, V.int (c + 1)]) b = some (.lst [V.int g, V.int m, V.int (c + 1)]) := upd_same
      have sB : SameB b H (upd H2 b (.lst [V.int g, V.int m, V.int (c + 1)])) := ((SameB.of s1).trans (.of s2)).upd
      show RB _ _ _ _ (upd H2 b (.lst [V.int g, V.int m, V.int (c + 1)]))
      generalize upd H2 b (.lst [V.int g, V.int m, V.int (c + 1)]) = H3 at hb3 sB
      refine rb_set 3 (M := []) (xd_mod (xd_pow (xd_add (xd_add (xv_ixS (fun _ _ => rfl) (xv_name 0 rfl) (SqL.of hb3) xv_int at1).int (xd_mul xd_int (xv_ixS (fun _ _ => rfl) (xv_name 0 rfl) (SqL.of hb3) xv_int at2).int (.inl ⟨by decide, by decide⟩))) xd_int) xd_int ⟨by decide, by decide, by omega⟩) xd_int (by decide)) (fun v H4 s4 hv => ?_) scTake.nd
      have ev := dp_int hv
      subst ev
      generalize hx : ((m + 179424691 * (c + 1) + 563) ^ (5 : Int).toNat % 2147483647 : Int) = x1
      have x0 : 0 ≤ x1 := by rw [← hx]; exact Int.emod_nonneg _ (by decide)
      have x2 : x1 < 2147483647 := by rw [← hx]; exact Int.emod_lt_of_pos _ (by decide)
      have hb4 := s4 _ _ hb3
      refine rb_set 3 (M := []) (xd_mod (xd_pow (xd_add (xv_name 3 rfl).int (xd_mul xd_int (xv_ixS (fun _ _ => rfl) (xv_name 0 rfl) (SqL.of hb4) xv_int at2).int (.inl ⟨by decide, by decide⟩))) xd_int ⟨by decide, by decide, by omega⟩) xd_int (by decide)) (fun v H5 s5 hv => ?_) scTake.nd
      have ev := dp_int hv
      subst ev
      refine rb_ret (M := []) (xd_mod (xd_div (xv_name 3 rfl).int xd_int (cdiv (by decide) (by decide))) (xv_name 1 rfl).int hm) fun v H6 s6 hv => ?_
      rw [dp_int hv]
      exact q _ H6 (Int.emod_nonneg _ (by omega)) (Int.emod_lt_of_pos _ hm) (((sB.trans (.of s4)).trans (.of s5)).trans (.of s6)) ⟨g, m, c + 1, s6 _ _ (s5 _ _ hb4), m0, m1, by omega, by omega⟩
end
end Zn

set_option Elab.async false
set_option linter.all false
set_option maxRecDepth 100000
set_option maxHeartbeats 8000000
namespace Zn
open PySem PySem.Spec PyProof.Rows L2 Dl
/-! ### plans -/
abbrev Step := Int × Int
def stepD (s : Step) : PyData := .tuple [.int s.1, .int s.2]
def planD (f : Int) (st : List Step) : PyData := .tuple [.int f, .list (st.map stepD)]
def okJ (j : Int) : Prop := j ≠ 0 ∧ -720 ≤ j ∧ j ≤ 720
def gapJ (s t : Step) : Prop := ab s.2 + ab t.2 < t.1 - s.1
def okS (st : List Step) : Prop := (∀ s ∈ st, okJ s.2) ∧ ∀ (k : Nat) (s t : Step), st[k]? = some s → st[k + 1]? = some t → gapJ s t
def bigS (n : Int) (st : List Step) : Prop := ∀ s ∈ st, -n ≤ s.1 ∧ s.1 ≤ n
structure PlanOk (f : Int) (st : List Step) : Prop where
  len : st.length ≤ 19
  ok : okS st
  f0 : -850 ≤ f
  f1 : f ≤ 850
  big : bigS 2000000000000 st
theorem okS_nil : okS [] := ⟨fun _ h => by simp at h, fun k s t h => by simp at h⟩
theorem okS_one {t : Step} (h : okJ t.2) : okS [t] := ⟨fun s hs => by rw [List.mem_singleton.mp hs]; exact h, fun k s u h1 h2 => by simp at h2⟩
theorem okS_snoc {st : List Step} {l t : Step} (h : okS st) (hl : st.getLast? = some l) (hj : okJ t.2) (hg : gapJ l t) : okS (st ++ [t]) := by
  refine ⟨fun s hs => ?_, fun k s u h1 h2 => ?_⟩
  · rcases List.mem_append.mp hs with z | z
    · exact h.1 s z
    · rw [List.mem_singleton.mp z]; exact hj
  · have hk : k + 1 < (st ++ [t]).length := (List.getElem?_eq_some_iff.mp h2).1
    rw [List.length_append, List.length_singleton] at hk
    by_cases e : k + 1 < st.length
    · rw [List.getElem?_append_left (by omega)] at h1
      rw [List.getElem?_append_left e] at h2
      exact h.2 k s u h1 h2
    · have ek : k + 1 = st.length := by omega
      rw [List.getElem?_append_left (by omega)] at h1
      rw [List.getElem?_append_right (by omega), ek, Nat.sub_self] at h2
      cases h2
      have e2 : st.getLast? = st[k]? := by rw [List.getLast?_eq_getElem?, ← ek]; rfl
      rw [e2, h1] at hl
      cases hl
      exact hg
theorem bigS_snoc {n n' : Int} {st : List Step} {t : Step} (h : bigS n st) (hn : n ≤ n') (h0 : -n' ≤ t.1) (h1 : t.1 ≤ n') : bigS n' (st ++ [t]) := fun s hs => by
  rcases List.mem_append.mp hs with z | z
  · have := h s z; omega
  · rw [List.mem_singleton.mp z]; omega
section
variable {X : Cx} {M : List Addr} {σ : L2.St} {H H' : Hp} {e a b o ie : Expr} {es : List Expr} {d : PyData} {ds : List PyData} {pos p1 p2 p3 : Pos} {D : Ends} {rest : List Stmt} {v : V} {xs : List V} {Q : VK}
theorem re_bin {op : Operator} {r : R2} (ho : OpR X (binaryOp op) r) (h : RE X a σ H fun x H1 => RE X b σ H1 fun y H2 => r x y H2 Q) : RE X (.BinOp a op b pos) σ H Q := ⟨_, pe_op ho re_ re_, h⟩
theorem re_addI (h : RE X a σ H fun x H1 => ∃ i, x = .int i ∧ RE X b σ H1 fun y H2 => ∃ j, y = .int j ∧ Q (.int (i + j)) H2) : RE X (.BinOp a .Add b pos) σ H Q :=
  re_bin op_add (re_mono h fun x H1 ⟨i, ei, h1⟩ => re_mono h1 fun y H2 ⟨j, ej, q⟩ => ⟨i, j, ei, ej, q⟩)
theorem re_subI (h : RE X a σ H fun x H1 => ∃ i, x = .int i ∧ RE X b σ H1 fun y H2 => ∃ j, y = .int j ∧ Q (.int (i - j)) H2) : RE X (.BinOp a .Sub b pos) σ H Q :=
  re_bin op_sub (re_mono h fun x H1 ⟨i, ei, h1⟩ => re_mono h1 fun y H2 ⟨j, ej, q⟩ => ⟨i, j, ei, ej, q⟩)
theorem re_mulI (h : RE X a σ H fun x H1 => ∃ i, x = .int i ∧ (-(2 ^ 64) < i ∧ i < 2 ^ 64) ∧ RE X b σ H1 fun y H2 => ∃ j, y = .int j ∧ Q (.int (i * j)) H2) : RE X (.BinOp a .Mult b pos) σ H Q :=
  re_bin op_mul (re_mono h fun x H1 ⟨i, ei, hi, h1⟩ => re_mono h1 fun y H2 ⟨j, ej, q⟩ => ⟨i, j, ei, ej, .inl hi, q⟩)
theorem at_menu {ms : List Int} {r : Int} (h0 : 0 ≤ r) (h1 : r.toNat < ms.length) : atI (ms.map V.int) r = some (V.int (ms[r.toNat])) := by
  have h : atI (ms.map V.int) ((r.toNat : Nat) : Int) = some (V.int (ms[r.toNat])) := atI_nat (by rw [List.getElem?_map, List.getElem?_eq_getElem h1]; rfl)
  rw [Int.toNat_of_nonneg h0] at h
  exact h
/-- [ints][e] -/
theorem re_menu {esl : List Expr} {n : Nat} (hs : PlainIx b) (hn : n ≤ 1000) (h : RA X esl σ H fun vs H1 => ∃ ms : List Int, vs = ms.map V.int ∧ ms.length = n ∧ ∀ l, H1 l = none → RE X b σ (upd H1 l (.lst vs)) fun y H3 => ∃ r : Int, y = .int r ∧ 0 ≤ r ∧ r < n ∧ H3 l = some (.lst vs) ∧ ∀ z, z ∈ ms → Q (.int z) H3) :
    RE X (.Subscript (.List esl p1) b pos) σ H Q :=
  ⟨_, pe_ix ix_list (pe_lst ra_) re_ hs, ra_mono h fun vs H1 ⟨ms, e1, e2, k⟩ => ⟨by rw [e1, List.length_map, e2]; exact Nat.le_trans hn (by decide), fun l hl => re_mono (k l hl) fun y H3 ⟨r, ey, r0, r1, h3, q⟩ => by
    subst ey
    have hlt : r.toNat < ms.length := by omega
    exact ⟨l, vs, r, .int (ms[r.toNat]), rfl, rfl, SqL.of h3, by rw [e1]; exact at_menu r0 hlt, q _ (List.getElem_mem hlt)⟩⟩⟩
theorem ra_int {n : Int} {Q : List V → Hp → Prop} (h : XV X σ H e (.int n)) (k : ∀ H1, Same H H1 → RA X es σ H1 fun vs H2 => Q (.int n :: vs) H2) (hs : starEach (e :: es) X.env = (false, eval e X.env) :: starEach es X.env := by rfl) : RA X (e :: es) σ H Q := ra_cons (h.go fun H1 s => k H1 s) hs
theorem re_int {n : Int} (h : XV X σ H e (.int n)) (k : ∀ H1, Same H H1 → Q (.int n) H1) : RE X e σ H Q := h.go k
end
/-- a draw -/
theorem re_take {X : Cx} {σ : L2.St} {H : Hp} {o e : Expr} {pos p1 : Pos} {Q : VK} {k n : Nat} {f b : Addr} {fd : FuncData} {many : Int} (G : FnOk X.prog X.w X.K X.mg X.base CX0 k f fd ["_law_bag_here", "_law_many"] spTake) (F : Df X.K X.mg "_law_take" sTake ["_law_bag_here", "_law_many"] f fd) (hr : Room k X.A)
    (ho : XV X σ H o (.ref b)) (he : XV X σ H e (.int many)) (hB : BagAt H b n) (q : ∀ (r : Int) H1, 0 ≤ r → r < many → SameB b H H1 → BagAt H1 b (n + 1) → Q (.int r) H1) (h0 : 0 < many := by decide) (h1 : many.natAbs < 2 ^ 200 := by decide) (hn : n ≤ 1000000 := by omega) (hg : Gl X "_law_take" := by rfl)
    (hs : starEach [o, e] X.env = (false, eval o X.env) :: starEach [e] X.env := by rfl) (hs2 : starEach [e] X.env = (false, eval e X.env) :: starEach [] X.env := by rfl) (hpl : (backTo pos (starEach [e] X.env)).any (·.1) = false := by rfl) : RE X (.Call (.Name "_law_take" p1) [o, e] [] pos) σ H Q :=
  re_call G hr F.g F.F.kp F.b (ra_cons (ho.go fun H1 s1 => ra_1 ((he.up s1).go fun H2 s2 => ⟨b, many, n, rfl, h0, h1, hn, hB.up (s1.trans s2) (Nat.le_refl _), fun r H3 r0 r1 sB hB3 => q r H3 r0 r1 ((SameB.of (s1.trans s2)).trans sB) hB3⟩) hs2) hs) hg (by decide) hs hpl
theorem sameB_new {b l : Addr} {H : Hp} {o : HO} (h : H l = none) : SameB b H (upd H l o) := SameB.of (same_new h)
theorem bag_new {H : Hp} {b l : Addr} {n : Nat} {o : HO} (h : BagAt H b n) (hl : H l = none) : BagAt (upd H l o) b n := h.up (same_new hl) (Nat.le_refl _)
theorem bag_sameB {H H' : Hp} {b : Addr} {n : Nat} (h : BagAt H b n) (s : Same H H') : BagAt H' b n := h.up s (Nat.le_refl _)
end Zn

set_option Elab.async false
set_option linter.all false
set_option maxRecDepth 100000
set_option maxHeartbeats 8000000
namespace Zn
open PySem PySem.Spec PyProof.Rows L2 Dl
abbrev sZone : Stmt := top 42
def spZone (K : PySem.W.Frag) : Sp := fun vs H Q _ => ∃ (M : List Addr) (b : Addr) (most : Int) (n : Nat), vs = [.ref b, .int most] ∧ 0 ≤ most ∧ most ≤ 18 ∧ Live M H ∧ BagAt H b n ∧ n ≤ 10000 ∧
  ∀ (f : Int) (st : List Step) v H1, PlanOk f st → SameB b H H1 → BagAt H1 b (n + 300) → Dq K (hid (b :: M) H1) v (planD f st) → Q v H1
theorem mem4 {z a b c d : Int} (h : z ∈ [a, b, c, d]) : z = a ∨ z = b ∨ z = c ∨ z = d := by simpa using h
section
variable {P : Program} {w : World} {K : PySem.W.Frag} {mg : Str → Option Value} {base : Heap}
theorem scZone : FnScope ["_law_bag_here", "_law_most", "_law_found", "_law_moment", "_law_lap", "_law_drawn", "_law_jump", "_law_near"] ["_law_bag_here", "_law_most"] (defScope sZone) := ⟨rfl, rfl, rfl, by decide +kernel, rfl, by decide +kernel, by decide +kernel⟩
theorem eqv_steps (st : List Step) : PyData.eqv (.list (st.map stepD)) (.list []) = decide (st = []) := by
  cases st with
  | nil => simp [PyData.eqv, PyData.eqvAll]
  | cons s st => simp [PyData.eqv, PyData.eqvAll]
theorem lay_steps : ∀ st : List Step, PyData.canLayAll0 (st.map stepD) = true
  | [] => by simp [PyData.canLayAll0]
  | r :: rs => by
    rw [List.map_cons]
    show (PyData.canLay0 (stepD r) && PyData.canLayAll0 (rs.map stepD)) = true
    rw [lay_steps rs]
    simp [stepD, PyData.canLay0, PyData.canLayAll0]
theorem depth_steps : ∀ st : List Step, PyData.depthAll (st.map stepD) ≤ 1
  | [] => by simp [PyData.depthAll]
  | r :: rs => by
    rw [List.map_cons]
    show max (PyData.depth (stepD r)) (PyData.depthAll (rs.map stepD)) ≤ 1
    have := depth_steps rs
    have e : PyData.depth (stepD r) = 1 := by simp [stepD, PyData.depth, PyData.depthAll]
    omega
theorem shaped_steps (st : List Step) : SeqAt.shaped (.list (st.map stepD)) = true := by
  unfold SeqAt.shaped
  have h := depth_steps st
  have e : PyData.depth (.list (st.map stepD)) = PyData.depthAll (st.map stepD) + 1 := by simp [PyData.depth]
  rw [show PyData.canLay0 (.list (st.map stepD)) = PyData.canLayAll0 (st.map stepD) by simp [PyData.canLay0], lay_steps, e]
  simp
  omega
theorem shaped_nil : SeqAt.shaped (.list []) = true := by decide +kernel
theorem mem5 {z a b c d e : Int} (h : z ∈ [a, b, c, d, e]) : z = a ∨ z = b ∨ z = c ∨ z = d ∨ z = e := by simpa using h
theorem mem10 {z a b c d e f g h i j : Int} (q : z ∈ [a, b, c, d, e, f, g, h, i, j]) : z = a ∨ z = b ∨ z = c ∨ z = d ∨ z = e ∨ z = f ∨ z = g ∨ z = h ∨ z = i ∨ z = j := by simpa using q
theorem last_step {st : List Step} {l : Step} (h : st.getLast? = some l) : atI (st.map stepD) (-1) = some (stepD l) := by
  obtain ⟨ys, rfl⟩ := List.getLast?_eq_some_iff.mp h
  rw [List.map_append]
  exact atI_last _ _
theorem ab_eq (n : Int) : ab n = (if n < 0 then -n else n) := rfl
theorem ok_zone {f fT : Addr} {fd fdT : FuncData} (T : Nm mg) (FT : Df K mg "_law_take" sTake ["_law_bag_here", "_law_many"] fT fdT) (F : Df K mg "_law_zone" sZone ["_law_bag_here", "_law_most"] f fd) : FnOk P w K mg base CX0 2 f fd ["_law_bag_here", "_law_most"] (spZone K) := by
  have GT : FnOk P w K mg base CX0 1 fT fdT ["_law_bag_here", "_law_many"] spTake := ok_take FT
  refine F.F.ok scZone (fun vs H Q E h => ?_) (fun cdv A outer s H vs Q E hr h => ?_)
  · obtain ⟨M, b, most, n, rfl, _⟩ := h; rfl
  · obtain ⟨M, b, most, n, rfl, hm0, hm1, L, hB, hn, q⟩ := h
    refine rb_setL 2 (M := []) (xl_lst Live.nil xa_nil) (fun p xs0 H1 s1 hp h1p hx0 => ?_) scZone.nd
    cases hx0
    have hB1 := bag_sameB hB s1
    have npb : p ≠ b := fun z => by subst z; exact hB.some hp
    -- the first moment
    refine rb_setR 3 ?_ scZone.nd
    refine re_addI (re_menu (n := 4) (fun _ _ => rfl) (by decide) ?_)
    refine ra_int xv_int fun H2 s2 => ?_
    refine ra_int (xd_neg (M := []) xd_int).vint fun H3 s3 => ?_
    refine ra_int (xd_pow (M := []) xd_int xd_int ⟨by decide, by decide, by decide⟩).vint fun H4 s4 => ?_
    refine ra_1 (re_mulI (re_int xv_int fun H5 s5 => ⟨1440, rfl, ⟨by decide, by decide⟩, ?_⟩))
    have s15 := ((s2.trans s3).trans s4).trans s5
    refine re_take GT FT hr (xv_name 0 rfl) xv_int (bag_sameB hB1 s15) fun r1 H6 r10 r11 sB6 hB6 => ⟨r1, rfl, [0, -5000, 10 ^ 12, 1440 * r1], rfl, rfl, fun l hl => ?_⟩
    refine re_take GT FT hr (xv_name 0 rfl) xv_int (bag_new hB6 hl) fun r2 H7 r20 r21 sB7 hB7 => ⟨r2, rfl, r20, r21, sB7 _ _ (fun z => by subst z; exact hB6.some hl) upd_same, fun z hz => ⟨z, rfl, ?_⟩⟩
    refine re_take GT FT hr (xv_name 0 rfl) xv_int hB7 fun r3 H8 r30 r31 sB8 hB8 => ⟨r3, rfl, ?_⟩
    have sB18 : SameB b H1 H8 := ((((SameB.of s15).trans sB6).trans (sameB_new hl)).trans sB7).trans sB8
    have hz1 : -5000 ≤ z ∧ z ≤ 1000000000000 := by
      rcases mem4 hz with e | e | e | e
      · omega
      · omega
      · rw [e]; decide
      · omega
    have sB08 : SameB b H H8 := (SameB.of s1).trans sB18
    have h8p : H8 p = some (.lst []) := sB18 _ _ npb h1p
    have hB8' : BagAt H8 b (n + 10) := hB8.up (Same.refl _) (by omega)
    clear hB8
    generalize hmo : z + r3 = mo
    have hm : -5000 ≤ mo ∧ mo ≤ 1000000001500 := by omega
    -- the laps
    have Lp : Live (p :: b :: M) H8 := fun a ha => by
      rcases List.mem_cons.mp ha with e | ha
      · subst e; rw [h8p]; simp
      · rcases List.mem_cons.mp ha with e | ha
        · subst e; exact hB8'.some
        · by_cases e : a = b
          · subst e; exact hB8'.some
          · intro q0
            cases q1 : H a with
            | none => exact L a ha q1
            | some o => rw [sB08 a o e q1] at q0; cases q0
    refine rb_range T.rng ?_
    -- range(take(bag, [..][take(bag, 4)]))
    refine re_call GT hr FT.g FT.F.kp FT.b (ra_cons ((xv_name 0 rfl).go fun H9 s9 => ?_))
    refine ra_1 (re_menu (n := 4) (fun _ _ => rfl) (by decide) ?_)
    refine ra_int (xd_add (M := []) (xv_name 1 rfl).int xd_int).vint fun H10 s10 => ?_
    refine ra_int (xd_add (M := []) (xv_name 1 rfl).int xd_int).vint fun H11 s11 => ?_
    refine ra_int (xd_add (M := []) (xv_name 1 rfl).int xd_int).vint fun H12 s12 => ?_
    have s812 := ((s9.trans s10).trans s11).trans s12
    refine ra_1 (re_int xv_int fun H13 s13 => ⟨[most + 1, most + 1, most + 1, 20], rfl, rfl, fun l hl => ?_⟩)
    refine re_take GT FT hr (xv_name 0 rfl) xv_int (bag_new (bag_sameB hB8' (s812.trans s13)) hl) fun r4 H14 r40 r41 sB14 hB14 => ⟨r4, rfl, r40, r41, sB14 _ _ (fun z => by subst z; exact (bag_sameB hB8' (s812.trans s13)).some hl) upd_same, fun z2 hz2 => ?_⟩
    have hz3 : 0 < z2 ∧ z2 ≤ 20 := by
      rcases mem4 hz2 with e | e | e | e <;> omega
    refine ⟨b, z2, n + 11, rfl, hz3.1, by omega, by omega, hB14, fun r5 H15 r50 r51 sB15 hB15 => ?_⟩
    have sB815 : SameB b H8 H15 := (((SameB.of (s812.trans s13)).trans (sameB_new hl)).trans sB14).trans sB15
    have h15p : H15 p = some (.lst []) := sB815 _ _ npb h8p
    have sB015 : SameB b H H15 := sB08.trans sB815
    refine ⟨r5.toNat, by rw [Int.toNat_of_nonneg r50], by omega, fun k σ' H' => ∃ (mm : Int) (st : List Step) (xs : List V) (a4 a5 a6 a7 : Option V), σ' = [some (.ref b), some (.int most), some (.ref p), some (.int mm), a4, a5, a6, a7] ∧ SameB b H H' ∧ H' p = some (.lst xs) ∧ BagAt H' b (n + 20 + 10 * k) ∧
        DqAll K (hid (p :: b :: M) H') xs (st.map stepD) ∧ st.length = k ∧ okS st ∧ bigS (1000000010000 + 500000 * (k : Int)) st ∧ (-(1000000010000 + 500000 * (k : Int)) ≤ mm ∧ mm ≤ 1000000010000 + 500000 * (k : Int)) ∧ ∀ l, st.getLast? = some l → mm = l.1, ?_, ?_, ?_⟩
    · exact ⟨mo, [], [], none, none, none, none, rfl, sB015, h15p, hB15.up (Same.refl _) (by omega), .nil, rfl, okS_nil, fun s hs => by simp at hs, by omega, fun l hl => by simp at hl⟩
    · intro k σ' H' hkn hw
      obtain ⟨mm, st, xs, a4, a5, a6, a7, rfl, sB, hpx, hBk, hx, hk, hok, hbig, hmm, hlast⟩ := hw
      have hxl : xs.length < 100000 := by rw [dpa_len hx, List.length_map]; omega
      have hk19 : k ≤ 19 := by omega
      refine rg_name 4 ?_ scZone.nd
      -- drawn
      refine rb_setR 5 ?_ scZone.nd
      refine re_addI (re_int xv_int fun Ha sa => ⟨1, rfl, ?_⟩)
      refine re_take GT FT hr (xv_name 0 rfl) xv_int (bag_sameB hBk sa) fun t1 Hb t10 t11 sBb hBb => ⟨t1, rfl, ?_⟩
      generalize hdr : 1 + t1 = dr
      have hdr1 : 1 ≤ dr ∧ dr ≤ 300 := by omega
      -- jump
      refine rb_setR 6 ?_ scZone.nd
      refine re_menu (n := 10) (fun _ _ => rfl) (by decide) ?_
      refine ra_int xv_int fun Hc sc => ra_int (xd_neg (M := []) xd_int).vint fun Hd sd => ra_int xv_int fun He se => ra_int (xd_neg (M := []) xd_int).vint fun Hf sf => ?_
      refine ra_int xv_int fun Hg sg => ra_int (xd_neg (M := []) xd_int).vint fun Hh sh => ra_int xv_int fun Hi si => ra_int (xd_neg (M := []) xd_int).vint fun Hj sj => ?_
      refine ra_int (xv_name 5 rfl) fun Hk sk => ra_1 (re_int (xd_neg (M := []) (xv_name 5 rfl).int).vint fun Hl sl => ⟨[60, -60, 30, -30, 1, -1, 720, -720, dr, -dr], rfl, rfl, fun l hl => ?_⟩)
      have sbl := ((((((((sc.trans sd).trans se).trans sf).trans sg).trans sh).trans si).trans sj).trans sk).trans sl
      have hBl := bag_sameB hBb sbl
      refine re_take GT FT hr (xv_name 0 rfl) xv_int (bag_new hBl hl) fun t2 Hm t20 t21 sBm hBm => ⟨t2, rfl, t20, t21, sBm _ _ (fun z => by subst z; exact hBl.some hl) upd_same, fun j hj => ?_⟩
      have hj1 : okJ j := by
        unfold okJ
        rcases mem10 hj with e | e | e | e | e | e | e | e | e | e <;> omega
      have sB1 : SameB b H' Hm := ((((SameB.of sa).trans sBb).trans (.of sbl)).trans (sameB_new hl)).trans sBm
      clear sBm sBb
      have hpm := sB1 _ _ npb hpx
      have Lm : Live (p :: b :: M) Hm := fun a ha => by
        rcases List.mem_cons.mp ha with e | ha
        · subst e; rw [hpm]; simp
        · rcases List.mem_cons.mp ha with e | ha
          · subst e; exact hBm.some
          · by_cases e : a = b
            · subst e; exact hBm.some
            · intro q0
              cases q1 : H a with
              | none => exact L a ha q1
              | some o => rw [sB1 a o e (sB a o e q1)] at q0; cases q0
      have npM : p ∉ b :: M := fun z => by
        rcases List.mem_cons.mp z with e | e
        · exact npb e
        · exact L p e hp
      have hxm := hx.up (sB1.hid (M := p :: b :: M) (List.mem_cons_of_mem _ (List.mem_cons_self ..)))
      have kp : Dq K (hid (b :: M) Hm) (.ref p) (.list (st.map stepD)) := .lst (by rw [hid_of npM]; exact hpm) (hxm.up hid_weak)
      -- if found != []
      refine rb_if (xt_neD (M := b :: M) hr.units (xd_name 2 rfl kp) (xd_lst (Live.tail Lm) xa_nil) (shaped_steps st) shaped_nil) (fun e0 Hn sn => ?_) (fun e0 Hn sn => rb_nil ?_)
      · rw [eqv_steps] at e0
        have hne : st ≠ [] := fun z => by rw [decide_eq_true z] at e0; cases e0
        obtain ⟨ls, hls⟩ : ∃ ls, st.getLast? = some ls := ⟨_, List.getLast?_eq_some_getLast hne⟩
        have kpn := kp.up (hid_mono (M := b :: M) sn)
        refine rb_set 7 (M := b :: M) (xd_add (xd_add (xd_abs T.abs (xv_name 6 rfl).int) (xd_abs T.abs (xd_ixT (fun _ _ => rfl) (xd_ixL (fun _ _ => rfl) (xd_name 2 rfl kpn) (xd_neg xd_int) (last_step hls)) xd_int (show atI [PyData.int ls.1, PyData.int ls.2] 1 = some (.int ls.2) from rfl)))) xd_int) (fun vn Ho so hvn => ?_) scZone.nd
        have ev := dp_int hvn
        subst ev
        rw [← ab_eq, ← ab_eq]
        have hab1 : 0 ≤ ab j ∧ ab j ≤ 720 := by unfold ab; unfold okJ at hj1; split <;> omega
        have hls2 := hok.1 ls (List.mem_of_getLast? hls)
        have hab2 : 0 ≤ ab ls.2 ∧ ab ls.2 ≤ 720 := by unfold ab; unfold okJ at hls2; split <;> omega
        have hmm1 := hlast ls hls
        -- moment
        refine rb_setR 3 ?_ scZone.nd
        refine re_addI (re_int (xd_add (M := []) (xv_name 3 rfl).int (xv_name 7 rfl).int).vint fun Hp sp => ⟨_, rfl, ?_⟩)
        refine re_menu (n := 5) (fun _ _ => rfl) (by decide) ?_
        refine ra_int xv_int fun Hq sq => ra_int xv_int fun Hr2 sr => ra_cons (re_take GT FT hr (xv_name 0 rfl) xv_int (bag_sameB hBm ((((sn.trans so).trans sp).trans sq).trans sr)) fun t3 Hs t30 t31 sBs hBs => ?_)
        refine ra_int xv_int fun Ht st' => ra_1 (re_take GT FT hr (xv_name 0 rfl) xv_int (bag_sameB hBs st') fun t4 Hu t40 t41 sBu hBu => ⟨[0, 1, t3, 1440, t4], rfl, rfl, fun l2 hl2 => ?_⟩)
        refine re_take GT FT hr (xv_name 0 rfl) xv_int (bag_new hBu hl2) fun t5 Hv t50 t51 sBv hBv => ⟨t5, rfl, t50, t51, sBv _ _ (fun z => by subst z; exact hBu.some hl2) upd_same, fun ex hex => ⟨ex, rfl, rb_nil ?_⟩⟩
        have hex1 : 0 ≤ ex ∧ ex ≤ 400000 := by
          rcases mem5 hex with e | e | e | e | e <;> omega
        have sB2 : SameB b H' Hv := (((((sB1.trans (.of ((((sn.trans so).trans sp).trans sq).trans sr))).trans sBs).trans (.of st')).trans sBu).trans (sameB_new hl2)).trans sBv
        have hpv := sB2 _ _ npb hpx
        have Lv : Live (p :: b :: M) Hv := (((((SameB.of ((((sn.trans so).trans sp).trans sq).trans sr)).trans sBs).trans (.of st')).trans sBu).trans (sameB_new hl2)).trans sBv |>.live Lm hBv.some
        have hgap : gapJ ls (mm + (ab j + ab ls.2 + 1) + ex, j) := by
          show ab ls.2 + ab j < mm + (ab j + ab ls.2 + 1) + ex - ls.1
          omega
        generalize hm3 : mm + (ab j + ab ls.2 + 1) + ex = m3 at hgap
        have hm3b : -(1000000010000 + 500000 * ((k + 1 : Nat) : Int)) ≤ m3 ∧ m3 ≤ 1000000010000 + 500000 * ((k + 1 : Nat) : Int) := by omega
        refine rb_append (M := p :: b :: M) (xs := xs) (List.mem_cons_self ..) (xv_name 2 rfl) hpv (xd_tup Lv (xa_cons (xv_name 3 rfl).int (xa_cons (xv_name 6 rfl).int xa_nil))) hxl fun v9 H9 s9 hv9 => rb_nil ?_
        have sBx : SameB b H' H9 := sB2.trans (SameB.of s9)
        have hx9 := hx.up (sBx.hid (M := p :: b :: M) (List.mem_cons_of_mem _ (List.mem_cons_self ..)))
        refine ⟨m3, st ++ [(m3, j)], xs ++ [v9], _, _, _, _, rfl, fun a o n e => ?_, upd_same, ?_, ?_, ?_, ?_, ?_, ?_, ?_⟩
        · have nap : a ≠ p := ne_of_none e hp
          rw [upd_ne nap]
          exact sBx a o n (sB a o n e)
        · have hBz := (hBv).up s9 (Nat.le_refl _)
          obtain ⟨g1, m1, c1, e1, e2⟩ := hBz
          exact ⟨g1, m1, c1, by rw [upd_ne (Ne.symm npb)]; exact e1, e2.1, e2.2.1, e2.2.2.1, by omega⟩
        · rw [hid_cons_upd, List.map_append]
          exact dpa_app hx9 (.cons hv9 .nil)
        · rw [List.length_append, hk]; rfl
        · exact okS_snoc hok hls hj1 hgap
        · refine bigS_snoc hbig (by omega) ?_ ?_ <;> (show _ ≤ _) <;> omega
        · omega
        · intro l0 hl0
          rw [List.getLast?_append] at hl0
          simp at hl0
          rw [← hl0]
      · rw [eqv_steps] at e0
        have hst : st = [] := by
          by_cases z : st = []
          · exact z
          · rw [decide_eq_false z] at e0; cases e0
        subst hst
        have sB2 : SameB b H' Hn := sB1.trans (.of sn)
        have hm3b : -(1000000010000 + 500000 * ((k + 1 : Nat) : Int)) ≤ mm ∧ mm ≤ 1000000010000 + 500000 * ((k + 1 : Nat) : Int) := by omega
        refine rb_append (M := p :: b :: M) (xs := xs) (List.mem_cons_self ..) (xv_name 2 rfl) (sn _ _ hpm) (xd_tup (Lm.mono sn) (xa_cons (xv_name 3 rfl).int (xa_cons (xv_name 6 rfl).int xa_nil))) hxl fun v9 H9 s9 hv9 => rb_nil ?_
        have sBx : SameB b H' H9 := sB2.trans (SameB.of s9)
        have hx9 := hx.up (sBx.hid (M := p :: b :: M) (List.mem_cons_of_mem _ (List.mem_cons_self ..)))
        refine ⟨mm, [] ++ [(mm, j)], xs ++ [v9], _, _, _, _, rfl, fun a o n e => ?_, upd_same, ?_, ?_, ?_, ?_, ?_, ?_, ?_⟩
        · have nap : a ≠ p := ne_of_none e hp
          rw [upd_ne nap]
          exact sBx a o n (sB a o n e)
        · have hBz := (bag_sameB hBm sn).up s9 (Nat.le_refl _)
          obtain ⟨g1, m1, c1, e1, e2⟩ := hBz
          exact ⟨g1, m1, c1, by rw [upd_ne (Ne.symm npb)]; exact e1, e2.1, e2.2.1, e2.2.2.1, by omega⟩
        · rw [hid_cons_upd, List.map_append]
          exact dpa_app hx9 (.cons hv9 .nil)
        · rw [List.length_append, hk]; rfl
        · exact okS_one hj1
        · refine bigS_snoc hbig (by omega) ?_ ?_ <;> (show _ ≤ _) <;> omega
        · omega
        · intro l0 hl0
          rw [List.getLast?_append] at hl0
          simp at hl0
          rw [← hl0]
    · intro σ' H' hw
      obtain ⟨mm, st, xs, a4, a5, a6, a7, rfl, sB, hpx, hBk, hx, hk, hok, hbig, hmm, hlast⟩ := hw
      refine rb_retR ⟨_, pe_tup ra_, ra_cons ?_⟩
      refine re_subI (re_take GT FT hr (xv_name 0 rfl) xv_int hBk fun r Ha r0 r1 sBa hBa => ⟨r, rfl, re_int xv_int fun Hb sb => ⟨850, rfl, ra_1 ((xv_name 2 rfl).go fun Hc sc => ⟨by show 2 ≤ sizeLine; decide, fun t ht => ?_⟩)⟩⟩)
      have sB1 : SameB b H' Hc := (sBa.trans (.of sb)).trans (.of sc)
      have sB2 : SameB b H Hc := sB.trans sB1
      have hBc := bag_sameB hBa (sb.trans sc)
      have hpc := sB1 _ _ npb hpx
      have hxc := hx.up (sB1.hid (M := p :: b :: M) (List.mem_cons_of_mem _ (List.mem_cons_self ..)))
      have npM : p ∉ b :: M := fun z => by
        rcases List.mem_cons.mp z with e | e
        · exact npb e
        · exact L p e hp
      have Lc : Live (b :: M) Hc := fun a ha => by
        rcases List.mem_cons.mp ha with e | ha
        · subst e; exact hBc.some
        · by_cases e : a = b
          · subst e; exact hBc.some
          · intro q0
            cases q1 : H a with
            | none => exact L a ha q1
            | some o => rw [sB2 a o e q1] at q0; cases q0
      refine q (r - 850) st _ _ ⟨by omega, hok, by omega, by omega, fun s hs => ?_⟩ (sB2.trans (sameB_new ht)) ((bag_new hBc ht).up (Same.refl _) (by omega)) ?_
      · have z := hbig s hs
        omega
      · rw [hid_new Lc ht]
        refine .tup (SqT.of upd_same) (DqAll.up (.cons (.int _) (.cons (.lst (xs := xs) (by rw [hid_of npM]; exact hpc) (hxc.up hid_weak)) .nil)) (same_new (hid_free ht)))
end
end Zn

set_option Elab.async false
set_option linter.all false
set_option maxRecDepth 100000
set_option maxHeartbeats 8000000
namespace Zn
open PySem PySem.Spec PyProof.Rows L2 Dl
abbrev sLChanges : Stmt := top 43
abbrev sLMade : Stmt := top 44
abbrev sLSpans : Stmt := top 0 /- not in this text -/
/-! ### the mathematics of plans -/
def chOf : Int → List Step → List (Int × Int)
  | _, [] => []
  | o, s :: st => (s.1, o + s.2) :: chOf (o + s.2) st
def offS : Int → List Step → Int
  | o, [] => o
  | o, s :: st => offS (o + s.2) st
/-- the rows of a plan -/
def rowsP (f : Int) (st : List Step) : List Row := rowsOf f (chOf f st)
theorem ch_len : ∀ (o : Int) (st : List Step), (chOf o st).length = st.length
  | _, [] => rfl
  | o, s :: st => by unfold chOf; rw [List.length_cons, List.length_cons, ch_len]
theorem ch_snoc : ∀ (o : Int) (st : List Step) (s : Step), chOf o (st ++ [s]) = chOf o st ++ [(s.1, offS o st + s.2)]
  | _, [], s => rfl
  | o, t :: st, s => by
    show (t.1, o + t.2) :: chOf (o + t.2) (st ++ [s]) = _
    rw [ch_snoc (o + t.2) st s]
    rfl
theorem off_snoc : ∀ (o : Int) (st : List Step) (s : Step), offS o (st ++ [s]) = offS o st + s.2
  | _, [], s => rfl
  | o, t :: st, s => off_snoc (o + t.2) st s
theorem last_ch : ∀ (o : Int) (st : List Step), lastOff o (chOf o st) = offS o st
  | _, [] => rfl
  | o, s :: st => last_ch (o + s.2) st
theorem rowsP_snoc (f : Int) (st : List Step) (s : Step) : rowsP f (st ++ [s]) = rowsP f st ++ [(s.1, offS f st, offS f st + s.2)] := by
  unfold rowsP
  rw [ch_snoc, rows_snoc, last_ch]
theorem rowsP_len (f : Int) (st : List Step) : (rowsP f st).length = st.length := by unfold rowsP; rw [rows_len, ch_len]
theorem rowsP_cons (f : Int) (s : Step) (st : List Step) : rowsP f (s :: st) = (s.1, f, f + s.2) :: rowsP (f + s.2) st := rfl
theorem rowsP_get : ∀ (f : Int) (st : List Step) (k : Nat) (s : Step), st[k]? = some s → ∃ o, (rowsP f st)[k]? = some (s.1, o, o + s.2)
  | _, [], k, s, h => by simp at h
  | f, t :: st, 0, s, h => by simp at h; subst h; exact ⟨f, rfl⟩
  | f, t :: st, k + 1, s, h => by
    obtain ⟨o, ho⟩ := rowsP_get (f + t.2) st k s (by simpa using h)
    exact ⟨o, by rw [rowsP_cons]; simpa using ho⟩
theorem ab_le {j : Int} (h : okJ j) : isJumpB j = true := by
  unfold isJumpB ab
  unfold okJ at h
  simp
  refine ⟨h.1, ?_⟩
  split <;> omega
/-- a plan's rows pass all checks -/
theorem okR_of {f : Int} {st : List Step} (h : okS st) : okR (rowsP f st) := by
  intro k r hr
  have hk : k < st.length := by rw [← rowsP_len f st]; exact (List.getElem?_eq_some_iff.mp hr).1
  obtain ⟨o, ho⟩ := rowsP_get f st k st[k] (List.getElem?_eq_getElem hk)
  rw [hr] at ho
  cases ho
  have ej : jmp (st[k].1, o, o + st[k].2) = st[k].2 := by show o + st[k].2 - o = _; omega
  refine ⟨by rw [ej]; exact ab_le (h.1 _ (List.getElem_mem hk)), ?_⟩
  unfold followB
  cases k with
  | zero => rfl
  | succ k =>
    have hk2 : k < st.length := by omega
    obtain ⟨o2, ho2⟩ := rowsP_get f st k st[k] (List.getElem?_eq_getElem hk2)
    have hl : ((rowsP f st).take (k + 1)).getLast? = some (st[k].1, o2, o2 + st[k].2) := by
      rw [take_snoc ho2, List.getLast?_append]
      simp
    rw [hl]
    have ej2 : jmp (st[k].1, o2, o2 + st[k].2) = st[k].2 := by show o2 + st[k].2 - o2 = _; omega
    show decide (ab (jmp (st[k].1, o2, o2 + st[k].2)) + ab (jmp (st[k + 1].1, o, o + st[k + 1].2)) < st[k + 1].1 - st[k].1) = true
    rw [ej, ej2]
    exact decide_eq_true (h.2 k _ _ (List.getElem?_eq_getElem hk2) (List.getElem?_eq_getElem hk))
def RLChanges (ds es : List PyData) : Prop := ∃ (f : Int) (st : List Step), ds = [planD f st] ∧ st.length ≤ 1000 ∧ es = (chOf f st).map stepD
theorem items_ch : ∀ cs : List (Int × Int), Items (cs.map stepD) cs := fun cs => ⟨by rw [List.length_map], fun i it h => by
  rw [List.getElem?_map] at h
  cases e : cs[i]? with
  | none => rw [e] at h; cases h
  | some c => rw [e] at h; cases h; exact ⟨c, rfl, .inl rfl⟩⟩
theorem step_at {K : PySem.W.Frag} {H : Hp} {v : V} {s : Step} (h : Dq K H v (stepD s)) : ∃ p, v = .ref p ∧ SqT K H p [.int s.1, .int s.2] := by
  obtain ⟨p, xs, rfl, hp, hx⟩ := dp_tup h
  cases hx with
  | cons a1 hx => cases hx with
    | cons a2 hx => cases hx; rw [dp_int a1, dp_int a2] at hp; exact ⟨p, rfl, hp⟩
theorem map_get {α : Type} {g : α → PyData} {xs : List α} {k : Nat} {d : PyData} (h : (xs.map g)[k]? = some d) : ∃ x, xs[k]? = some x ∧ d = g x := by
  rw [List.getElem?_map] at h
  cases e : xs[k]? with
  | none => rw [e] at h; cases h
  | some x => rw [e] at h; cases h; exact ⟨x, rfl, rfl⟩
section
variable {X : Cx} {M : List Addr} {σ : L2.St} {H H' : Hp} {e a b o ie : Expr} {pos p1 p2 p3 : Pos} {D : Ends} {rest : List Stmt}
theorem rb_parR (i j : Nat) {x y : Str} {px py pt : Pos} {kt k2 pt2} (ha : RA X [a, b] σ H fun vs H1 => ∃ v w, vs = [v, w] ∧ RB X rest D ((σ.set i (some v)).set j (some w)) H1) (hN : X.N.Nodup)
    (hw : swappedStores [.Tuple [.Name x px, .Name y py] kt pt] (.Tuple [a, b] k2 pt2) X.env = pure (some [x, y]) := by rfl) (hc : X.calm = true := by rfl) (hi : X.N[i]? = some x := by rfl) (hj : X.N[j]? = some y := by rfl) (hij : i ≠ j := by decide)
    (hx : X.env.scope.names.lookup x = some .local := by rfl) (hy : X.env.scope.names.lookup y = some .local := by rfl)
    (hs : swapsWithSole [.Tuple [.Name x px, .Name y py] kt pt] (.Tuple [a, b] k2 pt2) pos.line X.env = pure false := by rfl) : RB X (.Assign [.Tuple [.Name x px, .Name y py] kt pt] (.Tuple [a, b] k2 pt2) pos :: rest) D σ H :=
  ⟨_, pss_cons (ps_par hc hN hi hj hij hx hy ra_ hw hs) rb_, ha⟩
end
section
variable {P : Program} {w : World} {K : PySem.W.Frag} {mg : Str → Option Value} {base : Heap} {C : Addr}
theorem scLChanges : FnScope ["_law_plan", "_law_found", "_law_offset_here", "_law_moment", "_law_jump"] ["_law_plan"] (defScope sLChanges) := ⟨rfl, rfl, rfl, by decide +kernel, rfl, by decide +kernel, by decide +kernel⟩
theorem ok_lchanges {f : Addr} {fd : FuncData} (F : Df K mg "_law_changes" sLChanges ["_law_plan"] f fd) : FnOk P w K mg base CX0 1 f fd ["_law_plan"] (spL K RLChanges) := by
  refine F.F.ok scLChanges (fun vs H Q E h => ?_) (fun cdv A outer s H vs Q E hr h => ?_)
  · obtain ⟨M, ds, es, L, hd, ⟨f, st, rfl, _⟩, q⟩ := h
    exact dpa_len hd
  · obtain ⟨M, ds, es, L, hd, ⟨f, st, rfl, hlen, rfl⟩, q⟩ := h
    cases hd with
    | cons h1 h2 =>
      cases h2
      rename_i v0
      refine rb_parR 1 2 (ra_cons (XL.go (xl_lst L xa_nil) fun p xs H1 s1 hp h1p hxs => ra_1 (XD.go (xd_ixT (fun _ _ => rfl) (xd_name 0 rfl (h1.up (hid_mono s1))) xd_int (show atI [PyData.int f, .list (st.map stepD)] 0 = some (.int f) from rfl)) fun v2 H2 s2 hv2 => ⟨_, _, rfl, ?_⟩))) scLChanges.nd
      cases hxs
      have e2 := dp_int hv2
      subst e2
      have s12 := s1.trans s2
      have g0 : Same (hid M H) (hid (p :: M) H2) := hid_step hp s12
      have Lp : Live (p :: M) H2 := fun b hb => by
        rcases List.mem_cons.mp hb with z | hb
        · subst z; rw [s2 _ _ h1p]; simp
        · exact L.mono s12 b hb
      have k1 := h1.up g0
      refine rb_for (M := p :: M) (xd_ixT (fun _ _ => rfl) (xd_name 0 rfl k1) xd_int (show atI [PyData.int f, .list (st.map stepD)] 1 = some (.list (st.map stepD)) from rfl)) fun H3 s3 => ⟨fun k σ' H' => Same (hid (p :: M) H3) (hid (p :: M) H') ∧ Live (p :: M) H' ∧ Same H H' ∧ ∃ (xs : List V) (a3 a4 : Option V), σ' = [some v0, some (.ref p), some (.int (offS f (st.take k))), a3, a4] ∧ H' p = some (.lst xs) ∧ DqAll K (hid (p :: M) H') xs ((chOf f (st.take k)).map stepD),
        ⟨Same.refl _, Lp.mono s3, s12.trans s3, [], none, none, rfl, s3 _ _ (s2 _ _ h1p), .nil⟩, fun k σ' H' w => w.1, fun k it hk σ' H' v hw hv => ?_, fun σ' H' hw => ?_⟩
      · obtain ⟨z1, L4, z2, xs, a3, a4, rfl, hp4, hx4⟩ := hw
        obtain ⟨sx, hsx, rfl⟩ := map_get hk
        have hklt : k < st.length := (List.getElem?_eq_some_iff.mp hsx).1
        have hxl : xs.length < 100000 := by
          rw [dpa_len hx4, List.length_map, ch_len, List.length_take]
          omega
        obtain ⟨t, rfl, ht⟩ := step_at hv
        refine rg_tup (same_seqT hid_le ht) (rgs_cons (rg_name 3 (rgs_cons (rg_name 4 (rgs_nil ?_) scLChanges.nd)) scLChanges.nd))
        refine rb_set 2 (M := p :: M) (xd_add (xv_name 2 rfl).int (xv_name 4 rfl).int) (fun v5 H5 s5 hv5 => ?_) scLChanges.nd
        have e5 := dp_int hv5
        subst e5
        refine rb_append (M := p :: M) (xs := xs) (List.mem_cons_self ..) (xv_name 1 rfl) (s5 _ _ hp4) (xd_tup (L4.mono s5) (xa_cons (xv_name 3 rfl).int (xa_cons (xv_name 2 rfl).int xa_nil))) hxl fun v6 H6 s6 hv6 => rb_nil ?_
        have s46 := s5.trans s6
        refine ⟨?_, (L4.mono s46).upd, same_upd (z2.trans s46) hp, xs ++ [v6], some (.int sx.1), some (.int sx.2), ?_, upd_same, ?_⟩
        · rw [hid_cons_upd]; exact z1.trans (hid_mono s46)
        · rw [take_snoc hsx, off_snoc]; rfl
        · rw [hid_cons_upd, take_snoc hsx, ch_snoc, List.map_append]
          exact dpa_app (hx4.up (hid_mono s46)) (.cons hv6 .nil)
      · obtain ⟨z1, L4, z2, xs, a3, a4, rfl, hp4, hx4⟩ := hw
        refine rb_retR (XV.go (xv_name 1 rfl) fun H5 s5 => q p xs H5 (z2.trans s5) hp (s5 _ _ hp4) ?_)
        rw [List.length_map, List.take_length] at hx4
        exact (hx4.up (hid_mono (M := p :: M) s5)).up hid_weak
/-! made -/
def spMade (K : PySem.W.Frag) (C : Addr) : Sp := fun vs H Q _ => ∃ (M : List Addr) (v : V) (f : Int) (st : List Step), vs = [v] ∧ Live M H ∧ Dq K (hid M H) v (planD f st) ∧ st.length ≤ 1000 ∧ okS st ∧ ∀ y H1, Same H H1 → ZAt K C (hid M H1) y f (rowsP f st) → Q (.ref y) H1
theorem scLMade : FnScope ["_law_plan"] ["_law_plan"] (defScope sLMade) := ⟨rfl, rfl, rfl, by decide +kernel, rfl, by decide +kernel, by decide +kernel⟩
theorem ok_lmade {f fC fZ et : Addr} {fd fdC fdZ : FuncData} (W : ZMk P w K mg base C fZ fdZ et) (FC : Df K mg "_law_changes" sLChanges ["_law_plan"] fC fdC) (F : Df K mg "_law_made" sLMade ["_law_plan"] f fd) : FnOk P w K mg base CX0 6 f fd ["_law_plan"] (spMade K C) := by
  have GC : FnOk P w K mg base CX0 5 fC fdC ["_law_plan"] (spL K RLChanges) := (ok_lchanges FC).mono (by decide)
  refine F.F.ok scLMade (fun vs H Q E h => ?_) (fun cdv A outer s H vs Q E hr h => ?_)
  · obtain ⟨M, v, f, st, rfl, _⟩ := h; rfl
  · obtain ⟨M, v, f, st, rfl, L, h1, hlen, hok, q⟩ := h
    refine rb_retR ((xz_make (items := (chOf f st).map stepD) (cs := chOf f st) L W hr (xd_ixT (fun _ _ => rfl) (xd_name 0 rfl h1) xd_int (show atI [PyData.int f, .list (st.map stepD)] 0 = some (.int f) from rfl))
      (XL.dd (xl_call L GC hr FC.g FC.F.kp FC.b (xa_cons (xd_name 0 rfl h1) xa_nil) ⟨f, st, rfl, hlen, rfl⟩) L) (.inl rfl) (items_ch _) (okR_of hok) (by rw [ch_len]; exact hlen)).go q)
/-! spans -/
end
end Zn

set_option Elab.async false
set_option linter.all false
set_option maxRecDepth 100000
set_option maxHeartbeats 8000000
namespace Zn
open PySem PySem.Spec PyProof.Rows L2 Dl
/-! k05: the row is everyzone_k05_readings_and_placing (texts by retarget.py) -/
abbrev sOffAt : Stmt := inClass (top 22) 7
abbrev sRead : Stmt := inClass (top 22) 8
def offAt (m : Int) : Int → List Row → Int
  | o, [] => o
  | o, r :: rs => offAt m (if r.1 ≤ m then r.2.2 else o) rs
theorem offAt_snoc (m : Int) : ∀ (o : Int) (rs : List Row) (r : Row), offAt m o (rs ++ [r]) = if r.1 ≤ m then r.2.2 else offAt m o rs
  | o, [], r => rfl
  | o, s :: rs, r => offAt_snoc m _ rs r
def spMI (K : PySem.W.Frag) (C : Addr) (f : Int → List Row → Int → Int) : Sp := fun vs H Q _ => ∃ (M : List Addr) (a : Addr) (off : Int) (rs : List Row) (m : Int), vs = [.ref a, .int m] ∧ Live M H ∧ ZAt K C (hid M H) a off rs ∧ rs.length ≤ 1000 ∧ ∀ H1, Same H H1 → Q (.int (f off rs m)) H1
section
variable {P : Program} {w : World} {K : PySem.W.Frag} {mg : Str → Option Value} {base : Heap} {C : Addr}
theorem scOffAt : FnScope ["self", "moment", "offset", "change", "before", "after"] ["self", "moment"] (defScope sOffAt) := ⟨rfl, rfl, rfl, by decide +kernel, rfl, by decide +kernel, by decide +kernel⟩
theorem ok_offsetAt {f fN fW : Addr} {fd fdN fdW : FuncData} (T : Nm mg) (Z : ZT K mg C) (FW : Df K mg "is_whole" sWhole ["value"] fW fdW) (FN : Df K mg "need_integer" sNeed ["value"] fN fdN) (F : Fun K "offset_at" "Zone.offset_at" sOffAt f fd) : FnOk P w K mg base CX0 3 f fd ["self", "moment"] (spMI K C fun off rs m => offAt m off rs) := by
  have GN : FnOk P w K mg base CX0 2 fN fdN ["value"] (spR K RNeed) := ok_need T FW FN
  refine F.ok scOffAt (fun vs H Q E h => ?_) (fun cdv A outer s H vs Q E hr h => ?_)
  · obtain ⟨M, a, off, rs, m, rfl, _⟩ := h; rfl
  · obtain ⟨M, a, off, rs, m, rfl, L, hz, hlen, q⟩ := h
    refine rb_expr (M := M) (d := .none) (xd_call L GN hr FN.g FN.F.kp FN.b (xa_cons (xv_name 1 rfl).int xa_nil) ⟨m, rfl, rfl⟩) fun H1 s1 => ?_
    have hz1 := hz.up (hid_mono (M := M) s1)
    refine rb_setV 2 (xv_base ⟨_, Z⟩ hz1 (xv_name 0 rfl)) (fun H2 s2 => ?_) scOffAt.nd
    have hz2 := hz1.up (hid_mono (M := M) s2)
    refine rb_for (M := M) (xd_rows ⟨_, Z⟩ hz2 (xv_name 0 rfl)) fun H3 s3 => ⟨fun k σ' H' => Same H3 H' ∧ ∃ a3 a4 a5, σ' = [some (.ref a), some (.int m), some (.int (offAt m off (rs.take k))), a3, a4, a5], ⟨Same.refl _, none, none, none, rfl⟩, fun k σ' H' w => hid_mono w.1, fun k it hk σ' H' v w hv => ?_, fun σ' H' w => ?_⟩
    · obtain ⟨z1, a3, a4, a5, rfl⟩ := w
      obtain ⟨r, hr1, rfl⟩ := map_get hk
      obtain ⟨t, rfl, ht⟩ := row_at hv
      refine rg_tup (same_seqT hid_le ht) (rgs_cons (rg_name 3 (rgs_cons (rg_name 4 (rgs_cons (rg_name 5 (rgs_nil ?_) scOffAt.nd)) scOffAt.nd)) scOffAt.nd))
      refine rb_if (xt_cmpI (M := []) op_le (xv_name 3 rfl).int (xv_name 1 rfl).int) (fun e H4 s4 => ?_) (fun e H4 s4 => rb_nil (rb_nil ?_))
      · refine rb_setV 2 (xv_name 5 rfl) (fun H5 s5 => rb_nil (rb_nil ?_)) scOffAt.nd
        refine ⟨(z1.trans s4).trans s5, some (.int r.1), some (.int r.2.1), some (.int r.2.2), ?_⟩
        rw [take_snoc hr1, offAt_snoc, if_pos (of_decide_eq_true e)]
        rfl
      · refine ⟨z1.trans s4, some (.int r.1), some (.int r.2.1), some (.int r.2.2), ?_⟩
        rw [take_snoc hr1, offAt_snoc, if_neg (of_decide_eq_false e)]
        rfl
    · obtain ⟨z1, a3, a4, a5, rfl⟩ := w
      rw [List.length_map, List.take_length]
      exact rb_retR (XV.go (xv_name 2 rfl) fun H5 s5 => q H5 ((((s1.trans s2).trans s3).trans z1).trans s5))
theorem scRead : FnScope ["self", "moment"] ["self", "moment"] (defScope sRead) := ⟨rfl, rfl, rfl, by decide +kernel, rfl, by decide +kernel, by decide +kernel⟩
theorem ok_read {f fO : Addr} {fd fdO : FuncData} (Z : ZT K mg C) (GO : FnOk P w K mg base CX0 3 fO fdO ["self", "moment"] (spMI K C fun off rs m => offAt m off rs)) (MO : Mt K C "offset_at" "Zone.offset_at" sOffAt ["self", "moment"] fO fdO) (F : Fun K "read" "Zone.read" sRead f fd) : FnOk P w K mg base CX0 4 f fd ["self", "moment"] (spMI K C fun off rs m => m + offAt m off rs) := by
  refine F.ok scRead (fun vs H Q E h => ?_) (fun cdv A outer s H vs Q E hr h => ?_)
  · obtain ⟨M, a, off, rs, m, rfl, _⟩ := h; rfl
  · obtain ⟨M, a, off, rs, m, rfl, L, hz, hlen, q⟩ := h
    have hz0 := hz
    obtain ⟨dx, r, e1, e2⟩ := hz
    have off1 : ∀ {H1 : Hp} {Q' : VK}, Same H H1 → (∀ H2, Same H1 H2 → Q' (.int (offAt m off rs)) H2) → spMI K C (fun off rs m => offAt m off rs) [.ref a, .int m] H1 Q' E0 := fun {H1 Q'} s1 k => ⟨M, a, off, rs, m, rfl, L.mono s1, hz0.up (hid_mono s1), hlen, k⟩
    refine rb_retR (re_addI (re_int (xv_name 1 rfl) fun H1 s1 => ⟨m, rfl, ?_⟩))
    refine re_meth (xv_name 0 rfl) (s1 _ _ (hid_le _ _ e1)) Z.cl MO.m (zf_none off r (by decide +kernel) (by decide +kernel)) GO hr MO.b (fun H2 s2 => ra_1 (XV.go (xv_name 1 rfl) fun H3 s3 => off1 ((s1.trans s2).trans s3) fun H4 s4 => ⟨_, rfl, q H4 (((s1.trans s2).trans s3).trans s4)⟩))
end
end Zn

set_option Elab.async false
set_option linter.all false
set_option maxRecDepth 100000
set_option maxHeartbeats 8000000
namespace Zn
open PySem PySem.Spec PyProof.Rows L2 Dl
/-! ### readings of a plan: the mathematics -/
/-- the sum of the jumps up to a moment -/
def sumJ (m : Int) : List Step → Int
  | [] => 0
  | s :: st => (if s.1 ≤ m then s.2 else 0) + sumJ m st
def Asc (st : List Step) : Prop := st.Pairwise fun s t => s.1 < t.1
theorem ab_nn (n : Int) : 0 ≤ ab n ∧ n ≤ ab n ∧ -n ≤ ab n := by unfold ab; split <;> omega
theorem okS_tail {s : Step} {st : List Step} (h : okS (s :: st)) : okS st :=
  ⟨fun t ht => h.1 t (List.mem_cons_of_mem _ ht), fun k t u h1 h2 => h.2 (k + 1) t u (by simpa using h1) (by simpa using h2)⟩
theorem okS_gap {s t : Step} {st : List Step} (h : okS (s :: t :: st)) : ab s.2 + ab t.2 < t.1 - s.1 := h.2 0 s t rfl rfl
theorem asc_first : ∀ {s : Step} {st : List Step}, okS (s :: st) → ∀ t ∈ st, s.1 < t.1
  | s, [], _, t, ht => by simp at ht
  | s, u :: st, h, t, ht => by
    have g := okS_gap h
    have a1 := ab_nn s.2
    have a2 := ab_nn u.2
    rcases List.mem_cons.mp ht with e | ht
    · rw [e]; omega
    · have z := asc_first (okS_tail h) t ht
      omega
theorem sum_small : ∀ {m : Int} {st : List Step}, (∀ t ∈ st, m < t.1) → sumJ m st = 0
  | m, [], _ => rfl
  | m, s :: st, h => by
    unfold sumJ
    have h1 := h s (List.mem_cons_self ..)
    rw [if_neg (by omega), sum_small fun t ht => h t (List.mem_cons_of_mem _ ht)]
    rfl
/-- from a change on readings do not fall below the one at the change -/
theorem sum_low : ∀ {m : Int} {s : Step} {st : List Step}, okS (s :: st) → s.1 ≤ m → s.1 ≤ m + sumJ m st
  | m, s, [], _, h => by unfold sumJ; omega
  | m, s, t :: st, ok, h => by
    have g := okS_gap ok
    have a1 := ab_nn s.2
    have a2 := ab_nn t.2
    by_cases z : t.1 ≤ m
    · have q := sum_low (okS_tail ok) z
      unfold sumJ
      rw [if_pos z]
      omega
    · rw [sum_small (m := m)]
      · omega
      · intro u hu
        rcases List.mem_cons.mp hu with e | hu
        · rw [e]; omega
        · have := asc_first (okS_tail ok) u hu; omega
/-- the moments of a reading, in ascending order -/
def solP (r : Int) : Int → List Step → List Int
  | o, [] => [r - o]
  | o, s :: st => (if r < s.1 + o then [r - o] else []) ++ (if r < s.1 + o + s.2 then [] else solP r (o + s.2) st)
theorem sol_mem (r : Int) : ∀ (o : Int) {st : List Step}, okS st → ∀ m, m ∈ solP r o st ↔ m + (o + sumJ m st) = r
  | o, [], _, m => by
    unfold solP sumJ
    rw [List.mem_singleton]
    omega
  | o, s :: st, ok, m => by
    have ih := sol_mem r (o + s.2) (okS_tail ok) m
    have up : m < s.1 → sumJ m st = 0 := fun h => sum_small fun t ht => by
      have := asc_first ok t ht
      omega
    unfold solP
    rw [List.mem_append]
    have e : sumJ m (s :: st) = (if s.1 ≤ m then s.2 else 0) + sumJ m st := rfl
    rw [e]
    constructor
    · rintro (h | h)
      · split at h
        · rw [List.mem_singleton] at h
          rw [up (by omega), if_neg (by omega)]
          omega
        · simp at h
      · split at h
        · simp at h
        · have q := ih.mp h
          by_cases z : s.1 ≤ m
          · rw [if_pos z]; omega
          · have := up (by omega)
            omega
    · intro h
      by_cases z : s.1 ≤ m
      · rw [if_pos z] at h
        have low := sum_low ok z
        right
        rw [if_neg (by omega)]
        exact ih.mpr (by omega)
      · rw [if_neg z, up (by omega)] at h
        left
        rw [if_pos (by omega), List.mem_singleton]
        omega
theorem sol_asc (r : Int) : ∀ (o : Int) {st : List Step}, okS st → (solP r o st).Pairwise (· < ·)
  | o, [], _ => by unfold solP; exact List.pairwise_singleton _ _
  | o, s :: st, ok => by
    unfold solP
    rw [List.pairwise_append]
    refine ⟨by split <;> simp, ?_, ?_⟩
    · split
      · exact List.Pairwise.nil
      · exact sol_asc r (o + s.2) (okS_tail ok)
    · intro a ha b hb
      split at ha
      · rw [List.mem_singleton] at ha
        split at hb
        · simp at hb
        · have q := (sol_mem r (o + s.2) (okS_tail ok) b).mp hb
          by_cases z : s.1 ≤ b
          · omega
          · have e : sumJ b st = 0 := sum_small fun t ht => by
              have := asc_first ok t ht
              omega
            omega
      · simp at ha
/-- the first gap or fold with a reading: the offsets before and behind it -/
def tornP (r : Int) : Int → List Step → Option (Int × Int)
  | _, [] => none
  | o, s :: st => if s.1 + (if o + s.2 < o then o + s.2 else o) ≤ r ∧ r < s.1 + (if o + s.2 > o then o + s.2 else o) then some (o, o + s.2) else tornP r (o + s.2) st
theorem torn_low (r : Int) : ∀ (s : Step) (o : Int) {st : List Step}, okS (s :: st) → r < s.1 + o + ab s.2 → tornP r o st = none
  | s, o, [], _, _ => rfl
  | s, o, t :: st, ok, h => by
    have g := okS_gap ok
    have a2 := ab_nn t.2
    unfold tornP
    rw [if_neg (by split <;> omega)]
    exact torn_low r t (o + t.2) (okS_tail ok) (by omega)
theorem sol_torn (r : Int) : ∀ (o : Int) {st : List Step}, okS st → (tornP r o st = none → ∃ m, solP r o st = [m]) ∧ (tornP r o st ≠ none → (solP r o st).length ≠ 1)
  | o, [], _ => ⟨fun _ => ⟨_, rfl⟩, fun h => absurd rfl h⟩
  | o, s :: st, ok => by
    have ih := sol_torn r (o + s.2) (okS_tail ok)
    have a1 := ab_nn s.2
    have j0 := (ok.1 s (List.mem_cons_self ..)).1
    unfold tornP solP
    by_cases c : s.1 + (if o + s.2 < o then o + s.2 else o) ≤ r ∧ r < s.1 + (if o + s.2 > o then o + s.2 else o)
    · rw [if_pos c]
      refine ⟨fun h => (by cases h), fun _ => ?_⟩
      obtain ⟨c1, c2⟩ := c
      by_cases z : s.2 < 0
      · rw [if_pos (by omega)] at c1
        rw [if_neg (by omega)] at c2
        have tl := torn_low r s (o + s.2) ok (by omega)
        obtain ⟨m, hm⟩ := ih.1 tl
        rw [if_pos (by omega), if_neg (by omega), hm]
        simp
      · rw [if_neg (by omega)] at c1
        rw [if_pos (by omega)] at c2
        rw [if_neg (by omega), if_pos (by omega)]
        simp
    · rw [if_neg c]
      by_cases z : r < s.1 + (if o + s.2 < o then o + s.2 else o)
      · have tl := torn_low r s (o + s.2) ok (by split at z <;> omega)
        rw [tl]
        refine ⟨fun _ => ⟨r - o, ?_⟩, fun h => absurd rfl h⟩
        rw [if_pos (by split at z <;> omega), if_pos (by split at z <;> omega)]
        rfl
      · have hh : s.1 + (if o + s.2 > o then o + s.2 else o) ≤ r := by
          by_cases y : r < s.1 + (if o + s.2 > o then o + s.2 else o)
          · exact absurd ⟨by omega, y⟩ c
          · omega
        rw [if_neg (by split at hh <;> omega), if_neg (by split at hh <;> omega), List.nil_append]
        exact ih
/-- the offsets of a plan -/
def offsP : Int → List Step → List Int
  | o, [] => [o]
  | o, s :: st => o :: offsP (o + s.2) st
theorem offs_mem (m : Int) : ∀ (o : Int) {st : List Step}, okS st → o + sumJ m st ∈ offsP o st
  | o, [], _ => by unfold offsP sumJ; simp
  | o, s :: st, ok => by
    unfold offsP
    by_cases z : s.1 ≤ m
    · refine List.mem_cons_of_mem _ ?_
      have q := offs_mem m (o + s.2) (okS_tail ok)
      have e : o + sumJ m (s :: st) = o + s.2 + sumJ m st := by
        show o + ((if s.1 ≤ m then s.2 else 0) + sumJ m st) = _
        rw [if_pos z]; omega
      rw [e]; exact q
    · have e : sumJ m (s :: st) = 0 := by
        unfold sumJ
        rw [if_neg z, sum_small fun t ht => by have := asc_first ok t ht; omega]
        rfl
      rw [e]
      simp
/-- a moment is one of those that the offsets give just if it has the reading -/
theorem sol_offs {r o : Int} {st : List Step} (ok : okS st) (m : Int) : m ∈ solP r o st ↔ ∃ x ∈ offsP o st, (if o + sumJ (r - x) st = x then some (r - x) else none) = some m := by
  rw [sol_mem r o ok]
  constructor
  · intro h
    have e : r - (o + sumJ m st) = m := by omega
    refine ⟨o + sumJ m st, offs_mem m o ok, ?_⟩
    rw [e, if_pos rfl]
  · rintro ⟨x, _, h⟩
    split at h
    · rename_i q
      cases h
      omega
    · cases h

/-! ### the same by rows -/
theorem offAt_all (m : Int) : ∀ (o : Int) {rs : List Row}, (∀ r ∈ rs, m < r.1) → offAt m o rs = o
  | o, [], _ => rfl
  | o, r :: rs, h => by
    unfold offAt
    have := h r (List.mem_cons_self ..)
    rw [if_neg (by omega)]
    exact offAt_all m o fun r hr => h r (List.mem_cons_of_mem _ hr)
theorem rows_mom : ∀ (f : Int) (st : List Step) (r : Row), r ∈ rowsP f st → ∃ s ∈ st, r.1 = s.1
  | _, [], r, h => by simp [rowsP, rowsOf, chOf] at h
  | f, s :: st, r, h => by
    rw [rowsP_cons] at h
    rcases List.mem_cons.mp h with e | h
    · exact ⟨s, List.mem_cons_self .., by rw [e]⟩
    · obtain ⟨t, ht, e⟩ := rows_mom (f + s.2) st r h
      exact ⟨t, List.mem_cons_of_mem _ ht, e⟩
theorem offAt_plan (m : Int) : ∀ (f : Int) {st : List Step}, okS st → offAt m f (rowsP f st) = f + sumJ m st
  | f, [], _ => by show f = f + 0; omega
  | f, s :: st, ok => by
    rw [rowsP_cons]
    show offAt m (if s.1 ≤ m then f + s.2 else f) (rowsP (f + s.2) st) = f + ((if s.1 ≤ m then s.2 else 0) + sumJ m st)
    by_cases z : s.1 ≤ m
    · rw [if_pos z, if_pos z, offAt_plan m (f + s.2) (okS_tail ok)]
      omega
    · rw [if_neg z, if_neg z, offAt_all m f fun r hr => ?_, sum_small fun t ht => ?_]
      · omega
      · have := asc_first ok t ht; omega
      · obtain ⟨t, ht, e⟩ := rows_mom (f + s.2) st r hr
        have := asc_first ok t ht
        omega
theorem offs_rows : ∀ (f : Int) (st : List Step), offsP f st = f :: (rowsP f st).map (·.2.2)
  | f, [] => rfl
  | f, s :: st => by
    rw [rowsP_cons, List.map_cons, ← offs_rows (f + s.2) st]
    rfl
theorem offs_ch (f : Int) (st : List Step) : offsP f st = f :: (chOf f st).map (·.2) := by
  rw [offs_rows]
  congr 1
  have h : ∀ (o : Int) (cs : List (Int × Int)), (rowsOf o cs).map (·.2.2) = cs.map (·.2) := fun o cs => by
    induction cs generalizing o with
    | nil => rfl
    | cons c cs ih => show c.2 :: (rowsOf c.2 cs).map (·.2.2) = _; rw [ih]; rfl
  exact h f _
theorem offs_len (f : Int) (st : List Step) : (offsP f st).length = st.length + 1 := by rw [offs_ch, List.length_cons, List.length_map, ch_len]
def inTorn (x : Int) (r : Row) : Bool := decide (r.1 + (if r.2.2 < r.2.1 then r.2.2 else r.2.1) ≤ x) && decide (x < r.1 + (if r.2.2 > r.2.1 then r.2.2 else r.2.1))
theorem torn_find (x : Int) : ∀ (f : Int) (st : List Step), tornP x f st = ((rowsP f st).find? (inTorn x)).map (·.2)
  | _, [] => rfl
  | f, s :: st => by
    rw [rowsP_cons, List.find?_cons]
    unfold tornP
    by_cases c : s.1 + (if f + s.2 < f then f + s.2 else f) ≤ x ∧ x < s.1 + (if f + s.2 > f then f + s.2 else f)
    · rw [if_pos c]
      have e : inTorn x (s.1, f, f + s.2) = true := by
        unfold inTorn
        rw [Bool.and_eq_true, decide_eq_true_eq, decide_eq_true_eq]
        exact c
      rw [e]
      rfl
    · rw [if_neg c]
      have e : inTorn x (s.1, f, f + s.2) = false := by
        cases q : inTorn x (s.1, f, f + s.2) with
        | false => rfl
        | true =>
          unfold inTorn at q
          rw [Bool.and_eq_true, decide_eq_true_eq, decide_eq_true_eq] at q
          exact absurd q c
      rw [e]
      exact torn_find x (f + s.2) st
/-- what placing comes to -/
def placeD (x : Int) (rule : Str) (rs : List Row) (ms : List Int) : PyData :=
  match rs.find? (inTorn x) with
  | some r => if rule = "ahead" then .int (x - r.2.1) else if rule = "behind" then .int (x - r.2.2) else .none
  | none => .int (ms.headD 0)
theorem find_take {α : Type} {p : α → Bool} {l : List α} {k : Nat} {r : α} (hk : l[k]? = some r) (h : (l.take k).find? p = none) (hp : p r = true) : l.find? p = some r := by
  have e : l = l.take k ++ r :: l.drop (k + 1) := by
    have hl := (List.getElem?_eq_some_iff.mp hk)
    obtain ⟨hl, e⟩ := hl
    rw [← e, List.getElem_cons_drop, List.take_append_drop]
  rw [e, List.find?_append, h, List.find?_cons, hp]
  rfl
theorem find_snoc {α : Type} {p : α → Bool} {l : List α} {k : Nat} {r : α} (hk : l[k]? = some r) (h : (l.take k).find? p = none) (hp : p r = false) : (l.take (k + 1)).find? p = none := by
  rw [take_snoc hk, List.find?_append, h, List.find?_cons, hp]
  rfl
theorem rowsP_at : ∀ (f : Int) (st : List Step) (k : Nat) (s : Step), st[k]? = some s → (rowsP f st)[k]? = some (s.1, offS f (st.take k), offS f (st.take k) + s.2)
  | _, [], k, s, h => by simp at h
  | f, t :: st, 0, s, h => by simp at h; subst h; rfl
  | f, t :: st, k + 1, s, h => by
    rw [rowsP_cons, List.take_succ_cons]
    show (rowsP (f + t.2) st)[k]? = some (s.1, offS (f + t.2) (st.take k), _)
    exact rowsP_at (f + t.2) st k s (by simpa using h)
end Zn

set_option Elab.async false
set_option linter.all false
set_option maxRecDepth 100000
set_option maxHeartbeats 8000000
namespace Zn
open PySem PySem.Spec PyProof.Rows L2 Dl
/-! k05: moments_of, is_rule, placed_at_change, place -/
abbrev sMom : Stmt := inClass (top 22) 9
abbrev sPlace : Stmt := inClass (top 22) 12
abbrev sPlaced : Stmt := top 28
abbrev sIsRule : Stmt := top 29
section
variable {X : Cx} {M : List Addr} {σ : L2.St} {H : Hp} {e o : Expr} {C f : Addr} {fd : FuncData} {off n : Int} {rs : List Row} {k : Nat} {pos apos : Pos} {p : Str}
/-- o.m(e), a whole number -/
theorem xd_mi {m : Str} {g : Int → List Row → Int → Int} {pl : Sem Bool} {pa : Addr} (L : Live M H) (hc : Cls X.K C) (hM : Meth X.K C m f) (h1 : (m == ("base" : Str)) = false) (h2 : (m == ("rows" : Str)) = false) (F : FnOk X.prog X.w X.K X.mg X.base CX0 k f fd ["self", p] (spMI X.K C g)) (hr : Room k X.A) (hb : Binds X.K fd ["self", p] [])
    (ho : XV X σ H o (.ref pa)) (hz : ZAt X.K C (hid M H) pa off rs) (hlen : rs.length ≤ 1000) (ha : XD X M σ H e (.int n)) (hst : starEach [e] X.env = (false, eval e X.env) :: starEach [] X.env := by rfl) (hpl : (backTo pos (starEach [] X.env)).any (·.1) = false := by rfl)
    (ht : eval (.Call (.Attribute o m apos) [e] [] pos) X.env = (do
      let ov ← eval o X.env
      standAt apos.atName
      let (f, first) ← holding [ov] (getMethod ov m pl)
      callWith pos f first (backTo pos (starEach [e] X.env)) (backToKw pos (keywordEach [] X.env))) := by rfl) : XV X σ H (.Call (.Attribute o m apos) [e] [] pos) (.int (g off rs n)) := fun H1 s Q q => by
  have hz1 := hz.up (hid_mono (M := M) s)
  have hz0 := hz1
  obtain ⟨dx, r, e1, e2⟩ := hz1
  exact re_meth (ho.up s) (hid_le _ _ e1) hc hM (zf_none off r h1 h2) F hr hb (fun H2 s2 => ra_1 (ha H2 (s.trans s2) _ fun v H3 s3 hv => ⟨M, pa, off, rs, n, by rw [dp_int hv], L.mono ((s.trans s2).trans s3), hz0.up (hid_mono (s2.trans s3)), hlen, fun H4 s4 => q H4 ((s2.trans s3).trans s4)⟩) hst) hst hpl ht
end
def spMom (K : PySem.W.Frag) (C : Addr) : Sp := fun vs H Q _ => ∃ (M : List Addr) (a : Addr) (off : Int) (st : List Step) (x : Int), vs = [.ref a, .int x] ∧ Live M H ∧ ZAt K C (hid M H) a off (rowsP off st) ∧ okS st ∧ st.length ≤ 50 ∧
  ∀ p H1, Same H H1 → H p = none → H1 p = some (.lst ((solP x off st).map V.int)) → Q (.ref p) H1
section
variable {P : Program} {w : World} {K : PySem.W.Frag} {mg : Str → Option Value} {base : Heap} {C : Addr}
theorem scMom : FnScope ["self", "reading", "offsets", "moment", "before", "after", "offset"] ["self", "reading"] (defScope sMom) := ⟨rfl, rfl, rfl, by decide +kernel, rfl, by decide +kernel, by decide +kernel⟩
def fOff (o x : Int) (st : List Step) : PyData → Option Int
  | .int y => if o + sumJ (x - y) st = y then some (x - y) else none
  | _ => none
theorem ok_momentsOf {f fN fW fO : Addr} {fd fdN fdW fdO : FuncData} (T : Nm mg) (hS : mg "sorted" = none) (Z : ZT K mg C) (FW : Df K mg "is_whole" sWhole ["value"] fW fdW) (FN : Df K mg "need_integer" sNeed ["value"] fN fdN)
    (MO : Mt K C "offset_at" "Zone.offset_at" sOffAt ["self", "moment"] fO fdO) (F : Fun K "moments_of" "Zone.moments_of" sMom f fd) : FnOk P w K mg base CX0 4 f fd ["self", "reading"] (spMom K C) := by
  have GN : FnOk P w K mg base CX0 3 fN fdN ["value"] (spR K RNeed) := (ok_need T FW FN).mono (by decide)
  have GO : FnOk P w K mg base CX0 3 fO fdO ["self", "moment"] (spMI K C fun off rs m => offAt m off rs) := ok_offsetAt T Z FW FN MO.F
  refine F.ok scMom (fun vs H Q E h => ?_) (fun cdv A outer s H vs Q E hr h => ?_)
  · obtain ⟨M, a, off, st, x, rfl, _⟩ := h; rfl
  · obtain ⟨M, a, off, st, x, rfl, L, hz, ok, hlen, q⟩ := h
    refine rb_expr (M := M) (d := .none) (xd_call L GN hr FN.g FN.F.kp FN.b (xa_cons (xv_name 1 rfl).int xa_nil) ⟨x, rfl, rfl⟩) fun H1 s1 => ?_
    have hz1 := hz.up (hid_mono (M := M) s1)
    have L1 := L.mono s1
    have hrl : (rowsP off st).length ≤ 1000 := by rw [rowsP_len]; omega
    refine rb_setL (M := M) (ds := (offsP off st).map PyData.int) 2 ((xl_cat L1 (xd_lst L1 (xa_cons (xv_base ⟨_, Z⟩ hz1 (xv_name 0 rfl)).int xa_nil)) (XL.dd ((xl_comp (own := [("moment", 3), ("before", 4), ("after", 5)]) (fun d => match d with | .tuple [_, _, z] => some z | _ => none) L1 scMom.nd (xd_rows ⟨_, Z⟩ hz1 (xv_name 0 rfl))
      (blkOk_by (own := [("moment", 3), ("before", 4), ("after", 5)]) (N := ["self", "reading", "offsets", "moment", "before", "after", "offset"]) (sc := defScope sMom) (by decide +kernel)) (by rw [List.length_map]; omega) (fun p d v H2 hd hp s2 Lp hv => ?_)).to (fm_map rowD _ (fun r => .int r.2.2) (fun _ => rfl) (rowsP off st))) L1) ?_).to ?_) (fun p xs H2 s2 hp h2 hx => ?_) scMom.nd
    · obtain ⟨r, _, rfl⟩ := mem_row hd
      obtain ⟨t, rfl, ht⟩ := row_at hv
      intro s0 H0 C0 cl fp
      refine rg_tup (same_seqT hid_le ht) (rgs_cons (rg_name 3 (rgs_cons (rg_name 4 (rgs_cons (rg_name 5 (rgs_nil ?_) scMom.nd)) scMom.nd)) scMom.nd))
      refine ⟨rfl, bt_nil ⟨Same.refl _, .inl ⟨rfl, _, rfl, fun s0 H0 C0 cl fp => ?_⟩⟩⟩
      exact XV.go (xv_name 5 rfl) fun H3 s3 => ⟨s3, .int r.2.2⟩
    · rw [List.length_map, rowsP_len]
      show 1 + st.length ≤ 100000
      omega
    · rw [offs_rows, List.map_cons, List.map_map]
      rfl
    have hz2 := hz1.up (hid_mono (M := M) s2)
    have L2' := L1.mono s2
    have hpM : p ∉ M := L1.fresh hp
    have kp : Dq K (hid M H2) (.ref p) (.list ((offsP off st).map PyData.int)) := .lst (by rw [hid_of hpM]; exact h2) hx
    refine rb_retR (XL.go (xl_sortedSet (own := [("offset", 6)]) (fOff off x st) (solP x off st) hS L2' scMom.nd (xd_name 2 rfl kp)
      (blkOk_by (own := [("offset", 6)]) (N := ["self", "reading", "offsets", "moment", "before", "after", "offset"]) (sc := defScope sMom) (by decide +kernel)) (by rw [List.length_map, offs_len]; omega) (fun p d v H3 hd hp s3 Lp hv => ?_) (sol_asc x off ok) (fun m => ?_)) fun p xs H3 s3 hp h3 hx3 => ?_)
    · obtain ⟨y, _, rfl⟩ := List.mem_map.mp hd
      have ey := dp_int hv
      subst ey
      intro s0 H0 C0 cl fp
      refine rg_name 6 ?_ scMom.nd
      have hz3 : ZAt K C (hid (p :: M) H3) a off (rowsP off st) := hz2.up (hid_step hp s3)
      refine ⟨rfl, bt_one (k := decide (off + sumJ (x - y) st = y)) (fun s0 H0 C0 cl fp => ?_) fun H4 s4 => ⟨s4, ?_⟩⟩
      · refine (xt_eqI (M := p :: M) (XV.int (xd_mi (M := p :: M) (m := "offset_at") (g := fun off rs m => offAt m off rs) (n := x - y) Lp Z.cl MO.m (by decide +kernel) (by decide +kernel) GO hr MO.b (xv_name 0 rfl) hz3 hrl (xd_sub (xv_name 1 rfl).int (xv_name 6 rfl).int))) (XV.int (xv_name 6 rfl))).to ?_
        show decide (offAt (x - y) off (rowsP off st) = y) = _
        rw [offAt_plan _ off ok]
      · by_cases c : off + sumJ (x - y) st = y
        · refine .inl ⟨decide_eq_true c, x - y, if_pos c, fun s0 H0 C0 cl fp => ?_⟩
          exact XV.go (xd_sub (M := p :: M) (xv_name 1 rfl).int (xv_name 6 rfl).int).vint fun H5 s5 => ⟨s5, rfl⟩
        · exact .inr ⟨decide_eq_false c, if_neg c⟩
    · rw [sol_offs ok m]
      constructor
      · rintro ⟨y, hy, h⟩
        exact ⟨.int y, List.mem_map.mpr ⟨y, hy, rfl⟩, h⟩
      · rintro ⟨d, hd, h⟩
        obtain ⟨y, hy, rfl⟩ := List.mem_map.mp hd
        exact ⟨y, hy, h⟩
    · rw [ints_v hx3] at h3
      exact q p H3 ((s1.trans s2).trans s3) ((s1.trans s2).free hp) h3
end
end Zn

set_option Elab.async false
set_option linter.all false
set_option maxRecDepth 100000
set_option maxHeartbeats 8000000
namespace Zn
open PySem PySem.Spec PyProof.Rows L2 Dl
def isRuleS (x : Str) : Prop := x = "ahead" ∨ x = "behind" ∨ x = "strict"
section
variable {X : Cx} {M : List Addr} {σ : L2.St} {H : Hp} {a b e o : Expr} {pos apos p1 : Pos} {C f : Addr} {fd : FuncData} {off n : Int} {k : Nat}
theorem xz_v {rs : List Row} {pa : Addr} (ho : XV X σ H o (.ref pa)) (hz : ZAt X.K C (hid M H) pa off rs) : XZ C X M σ H o off rs := fun H1 s Q q => ho H1 s Q fun H2 s2 => q pa H2 s2 (hz.up (hid_mono (s.trans s2)))
theorem xt_eqS {x y : Str} (ha : XD X M σ H a (.str x)) (hb : XD X M σ H b (.str y)) : XT X σ H (.Compare a [.Eq] [b] pos) (decide (x = y)) :=
  xt_cmp op_eq ha hb fun H1 v w s hv hw Q q => by
    rw [dp_str hv, dp_str hw]
    have e : decide (V.str x = V.str y) = decide (x = y) := by
      by_cases h : x = y
      · subst h; simp
      · rw [decide_eq_false h, decide_eq_false fun z => h (V.str.inj z)]
    exact ⟨rfl, by rw [e]; exact q H1 (Same.refl _)⟩
/-- o.moments_of(e) -/
theorem xl_mom {pl : Sem Bool} {st : List Step} (L : Live M H) (hc : Cls X.K C) (hM : Meth X.K C "moments_of" f) (F : FnOk X.prog X.w X.K X.mg X.base CX0 k f fd ["self", "reading"] (spMom X.K C)) (hr : Room k X.A) (hb : Binds X.K fd ["self", "reading"] [])
    (ho : XZ C X M σ H o off (rowsP off st)) (ok : okS st) (hlen : st.length ≤ 50) (ha : XD X M σ H e (.int n)) (hst : starEach [e] X.env = (false, eval e X.env) :: starEach [] X.env := by rfl) (hpl : (backTo pos (starEach [] X.env)).any (·.1) = false := by rfl)
    (ht : eval (.Call (.Attribute o "moments_of" apos) [e] [] pos) X.env = (do
      let ov ← eval o X.env
      standAt apos.atName
      let (f, first) ← holding [ov] (getMethod ov "moments_of" pl)
      callWith pos f first (backTo pos (starEach [e] X.env)) (backToKw pos (keywordEach [] X.env))) := by rfl) : XL X M σ H (.Call (.Attribute o "moments_of" apos) [e] [] pos) ((solP n off st).map PyData.int) := fun H1 s Q q =>
  ⟨_, pe_meth re_ hc hM F hr hb .nil pass0 ra_ hst hpl ht, ho H1 s _ fun y H2 s2 hz => by
    have hz0 := hz
    obtain ⟨dx, r, e1, e2⟩ := hz
    refine ⟨y, dx, _, rfl, hid_le _ _ e1, zf_none off r (by decide +kernel) (by decide +kernel), ra_1 (ha H2 (s.trans s2) _ fun v H3 s3 hv => ?_) hst⟩
    rw [List.append_nil]
    exact ⟨M, y, off, st, n, by rw [dp_int hv], L.mono ((s.trans s2).trans s3), hz0.up (hid_mono s3), ok, hlen, fun p H4 s4 hp h4 => q p _ H4 ((s2.trans s3).trans s4) ((s2.trans s3).free hp) h4 (ints_dq _)⟩⟩
end
def RIsRule (ds : List PyData) (d : PyData) : Prop := ∃ x : Str, ds = [.str x] ∧ isRuleS x ∧ d = .bool true
/-- the tuple of the rules -/
def RulesAt (K : PySem.W.Frag) (mg : Str → Option Value) : Prop := ∃ a, mg "RULES" = some (.ref a) ∧ ∀ H, SqT K H a [.str "ahead", .str "behind", .str "strict"]
section
variable {P : Program} {w : World} {K : PySem.W.Frag} {mg : Str → Option Value} {base : Heap} {C : Addr}
theorem scIsRule : FnScope ["value"] ["value"] (defScope sIsRule) := ⟨rfl, rfl, rfl, by decide +kernel, rfl, by decide +kernel, by decide +kernel⟩
theorem ok_isRule {f : Addr} {fd : FuncData} (T : Nm mg) (hs : mg "str" = none) (hR : RulesAt K mg) (F : Df K mg "is_rule" sIsRule ["value"] f fd) : FnOk P w K mg base CX0 1 f fd ["value"] (spR K RIsRule) := by
  obtain ⟨ra, hR1, hR2⟩ := hR
  refine F.F.ok scIsRule (fun vs H Q E h => ?_) (fun cdv A outer s H vs Q E hr h => ?_)
  · obtain ⟨M, ds, d, L, hd, ⟨x, rfl, _⟩, q⟩ := h
    exact dpa_len hd
  · obtain ⟨M, ds, d, L, hd, ⟨x, rfl, hx, rfl⟩, q⟩ := h
    cases hd with
    | cons h1 h2 =>
      cases h2
      refine rb_ret (M := M) (xd_andT (xd_is1 (d := .str x) (r := true) (T := "str") (show kitB "str" "str" = some true by decide +kernel) T.isi hs (by decide +kernel) (xd_name 0 rfl h1)) (xd_one (xd_cmp (d1 := .str x) (d2 := .tuple [.str "ahead", .str "behind", .str "strict"]) op_in_seq (xd_name 0 rfl h1)
        ((xv_glob (v := .ref ra) hR1 rfl).dd (.tup (hR2 _) (.cons (.str _) (.cons (.str _) (.cons (.str _) .nil))))) (fun H1 v w s hv hw Q q => ?_)))) q
      obtain ⟨p, xs, rfl, hp, hxs⟩ := dp_tup hw
      cases hxs with
      | cons a1 hxs => cases hxs with
        | cons a2 hxs => cases hxs with
          | cons a3 hxs =>
            cases hxs
            rw [dp_str a1, dp_str a2, dp_str a3] at hp
            rw [dp_str hv]
            refine ⟨p, _, rfl, .inr (same_seqT hid_le hp), rfl, rfl, ?_⟩
            have e : inV (.str x) [.str "ahead", .str "behind", .str "strict"] = true := by
              rcases hx with rfl | rfl | rfl <;> decide +kernel
            rw [e]
            exact q _ H1 (Same.refl _) (.bl true)
def RPlaced (ds : List PyData) (d : PyData) : Prop := ∃ (r : Row) (x : Int) (rule : Str), ds = [rowD r, .int x, .str rule] ∧ d = if rule = "ahead" then .int (x - r.2.1) else if rule = "behind" then .int (x - r.2.2) else .none
theorem scPlaced : FnScope ["row", "reading", "rule"] ["row", "reading", "rule"] (defScope sPlaced) := ⟨rfl, rfl, rfl, by decide +kernel, rfl, by decide +kernel, by decide +kernel⟩
theorem ok_placed {f : Addr} {fd : FuncData} (F : Df K mg "placed_at_change" sPlaced ["row", "reading", "rule"] f fd) : FnOk P w K mg base CX0 1 f fd ["row", "reading", "rule"] (spR K RPlaced) := by
  refine F.F.ok scPlaced (fun vs H Q E h => ?_) (fun cdv A outer s H vs Q E hr h => ?_)
  · obtain ⟨M, ds, d, L, hd, ⟨r, x, rule, rfl, _⟩, q⟩ := h
    exact dpa_len hd
  · obtain ⟨M, ds, d, L, hd, ⟨r, x, rule, rfl, rfl⟩, q⟩ := h
    cases hd with
    | cons h1 hd => cases hd with
      | cons h2 hd => cases hd with
        | cons h3 hd =>
          cases hd
          refine rb_if (xt_eqS (M := M) (xd_name 2 rfl h3) xd_str) (fun e H1 s1 => ?_) (fun e H1 s1 => rb_nil ?_)
          · rw [if_pos (of_decide_eq_true e)] at q
            exact rb_ret (M := M) (xd_sub (xd_name 1 rfl (h2.up (hid_mono s1))) (xd_ixT (fun _ _ => rfl) (xd_name 0 rfl (h1.up (hid_mono s1))) xd_int rfl)) fun v H2 s2 hv => q v H2 (s1.trans s2) hv
          · rw [if_neg (of_decide_eq_false e)] at q
            refine rb_if (xt_eqS (M := M) (xd_name 2 rfl (h3.up (hid_mono s1))) xd_str) (fun e H2 s2 => ?_) (fun e H2 s2 => rb_nil ?_)
            · rw [if_pos (of_decide_eq_true e)] at q
              have s12 := s1.trans s2
              exact rb_ret (M := M) (xd_sub (xd_name 1 rfl (h2.up (hid_mono s12))) (xd_ixT (fun _ _ => rfl) (xd_name 0 rfl (h1.up (hid_mono s12))) xd_int rfl)) fun v H3 s3 hv => q v H3 (s12.trans s3) hv
            · rw [if_neg (of_decide_eq_false e)] at q
              exact rb_ret (M := M) xd_non fun v H3 s3 hv => q v H3 ((s1.trans s2).trans s3) hv
def spPlace (K : PySem.W.Frag) (C : Addr) : Sp := fun vs H Q _ => ∃ (M : List Addr) (a : Addr) (off : Int) (st : List Step) (x : Int) (rule : Str), vs = [.ref a, .int x, .str rule] ∧ isRuleS rule ∧ Live M H ∧ ZAt K C (hid M H) a off (rowsP off st) ∧ okS st ∧ st.length ≤ 50 ∧
  ∀ v H1, Same H H1 → Dq K (hid M H1) v (placeD x rule (rowsP off st) (solP x off st)) → Q v H1
theorem scPlace : FnScope ["self", "reading", "rule", "row", "low", "high"] ["self", "reading", "rule"] (defScope sPlace) := ⟨rfl, rfl, rfl, by decide +kernel, rfl, by decide +kernel, by decide +kernel⟩
theorem ok_place {f fN fW fT fR fP fm : Addr} {fd fdN fdW fdT fdR fdP fdm : FuncData} (T : Nm mg) (hs : mg "str" = none) (hR : RulesAt K mg) (Z : ZT K mg C) (FW : Df K mg "is_whole" sWhole ["value"] fW fdW) (FN : Df K mg "need_integer" sNeed ["value"] fN fdN)
    (FT : Df K mg "torn_readings" sTorn ["row"] fT fdT) (FR : Df K mg "is_rule" sIsRule ["value"] fR fdR) (FP : Df K mg "placed_at_change" sPlaced ["row", "reading", "rule"] fP fdP)
    (GM : FnOk P w K mg base CX0 4 fm fdm ["self", "reading"] (spMom K C)) (MM : Mt K C "moments_of" "Zone.moments_of" sMom ["self", "reading"] fm fdm)
    (F : Fun K "place" "Zone.place" sPlace f fd) : FnOk P w K mg base CX0 5 f fd ["self", "reading", "rule"] (spPlace K C) := by
  have GN : FnOk P w K mg base CX0 4 fN fdN ["value"] (spR K RNeed) := (ok_need T FW FN).mono (by decide)
  have GT : FnOk P w K mg base CX0 4 fT fdT ["row"] (spR K RTorn) := (ok_torn T FT).mono (by decide)
  have GR : FnOk P w K mg base CX0 4 fR fdR ["value"] (spR K RIsRule) := (ok_isRule T hs hR FR).mono (by decide)
  have GP : FnOk P w K mg base CX0 4 fP fdP ["row", "reading", "rule"] (spR K RPlaced) := (ok_placed FP).mono (by decide)
  refine F.ok scPlace (fun vs H Q E h => ?_) (fun cdv A outer s H vs Q E hr h => ?_)
  · obtain ⟨M, a, off, st, x, rule, rfl, _⟩ := h; rfl
  · obtain ⟨M, a, off, st, x, rule, rfl, hx, L, hz, ok, hlen, q⟩ := h
    refine rb_expr (M := M) (d := .none) (xd_call L GN hr FN.g FN.F.kp FN.b (xa_cons (xv_name 1 rfl).int xa_nil) ⟨x, rfl, rfl⟩) fun H1 s1 => ?_
    have L1 := L.mono s1
    refine rb_ifF ((xt_not (xt_val (M := M) (xd_call L1 GR hr FR.g FR.F.kp FR.b (xa_cons (xd_name 2 rfl (.str rule)) xa_nil) ⟨rule, rfl, hx, rfl⟩))).to rfl) fun H2 s2 => ?_
    have s12 := s1.trans s2
    have hz2 := hz.up (hid_mono (M := M) s12)
    refine rb_for (M := M) (xd_rows ⟨_, Z⟩ hz2 (xv_name 0 rfl)) fun H3 s3 => ⟨fun k σ' H' => Same H3 H' ∧ ((rowsP off st).take k).find? (inTorn x) = none ∧ ∃ a3 a4 a5, σ' = [some (.ref a), some (.int x), some (.str rule), a3, a4, a5], ⟨Same.refl _, rfl, none, none, none, rfl⟩, fun k σ' H' w => hid_mono w.1, fun k it hk σ' H' v w hv => ?_, fun σ' H' w => ?_⟩
    · obtain ⟨z1, hf, a3, a4, a5, rfl⟩ := w
      obtain ⟨r, hr1, rfl⟩ := map_get hk
      have s04 := (s12.trans s3).trans z1
      refine rg_name 3 ?_ scPlace.nd
      refine rb_asgR (XD.go (M := M) (xd_call (L.mono s04) GT hr FT.g FT.F.kp FT.b (xa_cons (xd_name 3 rfl hv) xa_nil) ⟨r, rfl, rfl⟩) fun v5 H5 s5 hv5 => ?_)
      obtain ⟨p, xs, rfl, hp, hxs⟩ := dp_tup hv5
      cases hxs with
      | cons a1 hxs => cases hxs with
        | cons a2 hxs =>
          cases hxs
          rw [dp_int a1, dp_int a2] at hp
          refine rg_tup (same_seqT hid_le hp) (rgs_cons (rg_name 4 (rgs_cons (rg_name 5 (rgs_nil ?_) scPlace.nd)) scPlace.nd))
          have hv' := hv.up (hid_mono (M := M) s5)
          refine rb_if ((xt_chainI (M := M) op_le op_lt (xv_name 4 rfl).int (xv_name 1 rfl).int (xv_name 5 rfl).int).to (show _ = inTorn x r from rfl)) (fun e H6 s6 => ?_) (fun e H6 s6 => rb_nil (rb_nil ?_))
          · have L6 := L.mono ((s04.trans s5).trans s6)
            refine rb_ret (M := M) (xd_call L6 GP hr FP.g FP.F.kp FP.b (xa_cons (xd_name 3 rfl (hv'.up (hid_mono s6))) (xa_cons (xd_name 1 rfl (.int x)) (xa_cons (xd_name 2 rfl (.str rule)) xa_nil))) ⟨r, x, rule, rfl, rfl⟩) fun v7 H7 s7 hv7 => q v7 H7 (((s04.trans s5).trans s6).trans s7) ?_
            unfold placeD
            rw [find_take hr1 hf e]
            exact hv7
          · exact ⟨(z1.trans s5).trans s6, find_snoc hr1 hf e, some v, _, _, rfl⟩
    · obtain ⟨z1, hf, a3, a4, a5, rfl⟩ := w
      rw [List.length_map, List.take_length] at hf
      have s04 := (s12.trans s3).trans z1
      have hz4 := hz.up (hid_mono (M := M) s04)
      have ht : tornP x off st = none := by rw [torn_find, hf]; rfl
      obtain ⟨m, hm⟩ := (sol_torn x off ok).1 ht
      refine rb_ret (M := M) (d := .int m) (xd_ixL (fun _ _ => rfl) (XL.dd (xl_mom (L.mono s04) Z.cl MM.m GM hr MM.b (xz_v (xv_name 0 rfl) hz4) ok hlen (xv_name 1 rfl).int) (L.mono s04)) xd_int (by rw [hm]; rfl)) fun v5 H5 s5 hv5 => q v5 H5 (s04.trans s5) ?_
      unfold placeD
      rw [hf, hm]
      exact hv5
end
end Zn

set_option Elab.async false
set_option linter.all false
set_option maxRecDepth 100000
set_option maxHeartbeats 8000000
namespace Zn
open PySem PySem.Spec PyProof.Rows L2 Dl
/-! k05: the law's own offset, moments, place, edges -/
abbrev sLOff : Stmt := top 45
abbrev sLMom : Stmt := top 46
abbrev sLPlace : Stmt := top 47
def upJ (m : Int) (s : Step) : Option Int := if s.1 ≤ m then some s.2 else none
def upD (m : Int) : PyData → Option PyData
  | .tuple [.int x, .int y] => if x ≤ m then some (.int y) else none
  | _ => none
theorem upD_all (m : Int) : ∀ st : List Step, (st.map stepD).filterMap (upD m) = (st.filterMap (upJ m)).map PyData.int
  | [] => rfl
  | s :: st => by
    rw [List.map_cons, List.filterMap_cons, List.filterMap_cons]
    have e : upD m (stepD s) = (upJ m s).map PyData.int := by
      show (if s.1 ≤ m then some (PyData.int s.2) else none) = (if s.1 ≤ m then some s.2 else none).map PyData.int
      split <;> rfl
    rw [e]
    cases upJ m s with
    | none => exact upD_all m st
    | some y => rw [List.map_cons, ← upD_all m st]; rfl
theorem sum_up (m : Int) : ∀ st : List Step, (st.filterMap (upJ m)).sum = sumJ m st
  | [] => rfl
  | s :: st => by
    rw [List.filterMap_cons]
    unfold sumJ
    by_cases z : s.1 ≤ m
    · have e : upJ m s = some s.2 := if_pos z
      rw [e, if_pos z]
      show (s.2 :: st.filterMap (upJ m)).sum = _
      rw [List.sum_cons, sum_up m st]
    · have e : upJ m s = none := if_neg z
      rw [e, if_neg z]
      show (st.filterMap (upJ m)).sum = _
      rw [sum_up m st]
      omega
def RLOff (ds : List PyData) (d : PyData) : Prop := ∃ (f : Int) (st : List Step) (m : Int), ds = [planD f st, .int m] ∧ st.length ≤ 1000 ∧ d = .int (f + sumJ m st)
def RLMom (ds es : List PyData) : Prop := ∃ (f : Int) (st : List Step) (x : Int), ds = [planD f st, .int x] ∧ okS st ∧ st.length ≤ 50 ∧ es = (solP x f st).map PyData.int
def RLPlace (ds : List PyData) (d : PyData) : Prop := ∃ (f : Int) (st : List Step) (x : Int) (rule : Str), ds = [planD f st, .int x, .str rule] ∧ okS st ∧ st.length ≤ 50 ∧ d = placeD x rule (rowsP f st) (solP x f st)
section
variable {X : Cx} {M : List Addr} {σ : L2.St} {H : Hp} {a b e o : Expr} {pos apos p1 : Pos}
theorem any_int (ns : List Int) (n : Int) : (ns.any fun m => m == n) = decide (n ∈ ns) := by
  induction ns with
  | nil => simp
  | cons m ns ih =>
    rw [List.any_cons, ih]
    by_cases h : m = n
    · subst h; simp
    · have e : (m == n) = false := by simpa using h
      rw [e, Bool.false_or]
      have h' : n ≠ m := fun z => h z.symm
      by_cases k : n ∈ ns
      · rw [decide_eq_true k, decide_eq_true (List.mem_cons_of_mem _ k)]
      · rw [decide_eq_false k, decide_eq_false (by simp [h', k])]
theorem xt_notInI {n : Int} {ns : List Int} (ha : XD X M σ H a (.int n)) (hb : XD X M σ H b (.list (ns.map PyData.int))) (hm : behindInMarks .NotIn b = false := by rfl) : XT X σ H (.Compare a [.NotIn] [b] pos) (!decide (n ∈ ns)) :=
  xt_cmp op_notIn_seq ha hb (fun H1 v w s hv hw Q q => by
    obtain ⟨p, xs, rfl, hp, hx⟩ := dp_lst hw
    have e := int_all hx
    subst e
    rw [dp_int hv]
    exact ⟨p, _, rfl, .inl (SqL.of (hid_le _ _ hp)), rfl, flat_int ns, by rw [inV_int, any_int]; exact q H1 (Same.refl _)⟩) hm
end
section
variable {P : Program} {w : World} {K : PySem.W.Frag} {mg : Str → Option Value} {base : Heap} {C : Addr}
theorem plan0 {f : Int} {st : List Step} : atI [PyData.int f, .list (st.map stepD)] 0 = some (.int f) := rfl
theorem plan1 {f : Int} {st : List Step} : atI [PyData.int f, .list (st.map stepD)] 1 = some (.list (st.map stepD)) := rfl
theorem mem_step {st : List Step} {d : PyData} (h : d ∈ st.map stepD) : ∃ s ∈ st, d = stepD s := by
  obtain ⟨s, h1, h2⟩ := List.mem_map.mp h
  exact ⟨s, h1, h2.symm⟩
theorem scLOff : FnScope ["_law_plan", "_law_moment", "_law_change", "_law_jump"] ["_law_plan", "_law_moment"] (defScope sLOff) := ⟨rfl, rfl, rfl, by decide +kernel, rfl, by decide +kernel, by decide +kernel⟩
theorem ok_loff {f : Addr} {fd : FuncData} (hs : mg "sum" = none) (F : Df K mg "_law_offset" sLOff ["_law_plan", "_law_moment"] f fd) : FnOk P w K mg base CX0 1 f fd ["_law_plan", "_law_moment"] (spR K RLOff) := by
  refine F.F.ok scLOff (fun vs H Q E h => ?_) (fun cdv A outer s H vs Q E hr h => ?_)
  · obtain ⟨M, ds, d, L, hd, ⟨f, st, m, rfl, _⟩, q⟩ := h
    exact dpa_len hd
  · obtain ⟨M, ds, d, L, hd, ⟨f, st, m, rfl, hlen, rfl⟩, q⟩ := h
    cases hd with
    | cons h1 h2 =>
      cases h2 with
      | cons h2 h3 =>
        cases h3
        have e2 := dp_int h2
        subst e2
        refine rb_ret (M := M) (xd_add (xd_ixT (fun _ _ => rfl) (xd_name 0 rfl h1) xd_int plan0) ((xd_sum (ns := st.filterMap (upJ m)) hs (((xl_comp (own := [("_law_change", 2), ("_law_jump", 3)]) (upD m) L scLOff.nd (xd_ixT (fun _ _ => rfl) (xd_name 0 rfl h1) xd_int plan1)
          (blkOk_by (own := [("_law_change", 2), ("_law_jump", 3)]) (N := ["_law_plan", "_law_moment", "_law_change", "_law_jump"]) (sc := defScope sLOff) (by decide +kernel)) (by rw [List.length_map]; omega) (fun p d v H1 hd hp s1 Lp hv => ?_)).to (upD_all m st)).dd L)).to (by rw [sum_up]))) q
        obtain ⟨sx, _, rfl⟩ := mem_step hd
        obtain ⟨t, rfl, ht⟩ := step_at hv
        intro s0 H0 C0 cl fp
        refine rg_tup (same_seqT hid_le ht) (rgs_cons (rg_name 2 (rgs_cons (rg_name 3 (rgs_nil ?_) scLOff.nd)) scLOff.nd))
        refine ⟨rfl, bt_one (k := decide (sx.1 ≤ m)) (fun s0 H0 C0 cl fp => xt_cmpI (M := p :: M) op_le (xv_name 2 rfl).int (xv_name 1 rfl).int) fun H2 s2 => ⟨s2, ?_⟩⟩
        by_cases c : sx.1 ≤ m
        · exact .inl ⟨decide_eq_true c, .int sx.2, if_pos c, fun s0 H0 C0 cl fp => XV.go (xv_name 3 rfl) fun H3 s3 => ⟨s3, .int _⟩⟩
        · exact .inr ⟨decide_eq_false c, if_neg c⟩
theorem scLMom : FnScope ["_law_plan", "_law_reading", "_law_offsets", "_law_moment", "_law_offset_here", "_law_found"] ["_law_plan", "_law_reading"] (defScope sLMom) := ⟨rfl, rfl, rfl, by decide +kernel, rfl, by decide +kernel, by decide +kernel⟩
theorem ok_lmom {f fC fO : Addr} {fd fdC fdO : FuncData} (T : Nm mg) (hS : mg "sorted" = none) (FC : Df K mg "_law_changes" sLChanges ["_law_plan"] fC fdC) (GO : FnOk P w K mg base CX0 1 fO fdO ["_law_plan", "_law_moment"] (spR K RLOff)) (FO : Df K mg "_law_offset" sLOff ["_law_plan", "_law_moment"] fO fdO)
    (F : Df K mg "_law_moments" sLMom ["_law_plan", "_law_reading"] f fd) : FnOk P w K mg base CX0 2 f fd ["_law_plan", "_law_reading"] (spL K RLMom) := by
  have GC : FnOk P w K mg base CX0 1 fC fdC ["_law_plan"] (spL K RLChanges) := ok_lchanges FC
  refine F.F.ok scLMom (fun vs H Q E h => ?_) (fun cdv A outer s H vs Q E hr h => ?_)
  · obtain ⟨M, ds, es, L, hd, ⟨f, st, x, rfl, _⟩, q⟩ := h
    exact dpa_len hd
  · obtain ⟨M, ds, es, L, hd, ⟨f, st, x, rfl, ok, hlen, rfl⟩, q⟩ := h
    cases hd with
    | cons h1 h2 =>
      cases h2 with
      | cons h2 h3 =>
        cases h3
        rename_i v0 v1
        have e2 := dp_int h2
        subst e2
        refine rb_setL (M := M) (ds := (offsP f st).map PyData.int) 2 ((xl_cat L (xd_lst L (xa_cons (xd_ixT (fun _ _ => rfl) (xd_name 0 rfl h1) xd_int plan0) xa_nil)) (XL.dd ((xl_comp (own := [("_law_moment", 3), ("_law_offset_here", 4)]) (fun d => match d with | .tuple [_, z] => some z | _ => none) L scLMom.nd (XL.dd (xl_call L GC hr FC.g FC.F.kp FC.b (xa_cons (xd_name 0 rfl h1) xa_nil) ⟨f, st, rfl, by omega, rfl⟩) L)
          (blkOk_by (own := [("_law_moment", 3), ("_law_offset_here", 4)]) (N := ["_law_plan", "_law_reading", "_law_offsets", "_law_moment", "_law_offset_here", "_law_found"]) (sc := defScope sLMom) (by decide +kernel)) (by rw [List.length_map, ch_len]; omega) (fun p d v H2 hd hp s2 Lp hv => ?_)).to (fm_map stepD _ (fun r => .int r.2) (fun _ => rfl) (chOf f st))) L) ?_).to ?_) (fun p xs H1 s1 hp h1p hx => ?_) scLMom.nd
        · obtain ⟨r, _, rfl⟩ := mem_step hd
          obtain ⟨t, rfl, ht⟩ := step_at hv
          intro s0 H0 C0 cl fp
          refine rg_tup (same_seqT hid_le ht) (rgs_cons (rg_name 3 (rgs_cons (rg_name 4 (rgs_nil ?_) scLMom.nd)) scLMom.nd))
          refine ⟨rfl, bt_nil ⟨Same.refl _, .inl ⟨rfl, _, rfl, fun s0 H0 C0 cl fp => ?_⟩⟩⟩
          exact XV.go (xv_name 4 rfl) fun H3 s3 => ⟨s3, .int r.2⟩
        · rw [List.length_map, ch_len]
          show 1 + st.length ≤ 100000
          omega
        · rw [offs_ch, List.map_cons, List.map_map]
          rfl
        have L1 := L.mono s1
        have k1 : Dq K (hid M H1) (.ref p) (.list ((offsP f st).map PyData.int)) := .lst (by rw [hid_of (L.fresh hp)]; exact h1p) hx
        refine rb_setL 5 (xl_lst L1 xa_nil) (fun l xs2 H2 s2 hl h2l hx2 => ?_) scLMom.nd
        cases hx2
        have g0 : Same (hid M H1) (hid (l :: M) H2) := hid_step hl s2
        have Ll : Live (l :: M) H2 := fun b hb => by
          rcases List.mem_cons.mp hb with z | hb
          · subst z; rw [h2l]; simp
          · exact L1.mono s2 b hb
        have kf := (h1.up (hid_mono (M := M) s1)).up g0
        refine rb_for (M := l :: M) (xd_name 2 rfl (k1.up g0)) fun H3 s3 => ⟨fun k σ' H' => Same (hid (l :: M) H3) (hid (l :: M) H') ∧ Live (l :: M) H' ∧ Same H H' ∧ ∃ (acc : List Int) (a3 a4 : Option V), σ' = [some v0, some (.int x), some (.ref p), a3, a4, some (.ref l)] ∧ H' l = some (.lst (acc.map V.int)) ∧ acc.Nodup ∧ acc.length ≤ k ∧
            ∀ m, m ∈ acc ↔ ∃ y ∈ (offsP f st).take k, (if f + sumJ (x - y) st = y then some (x - y) else none) = some m,
          ⟨Same.refl _, Ll.mono s3, (s1.trans s2).trans s3, [], none, none, rfl, s3 _ _ h2l, List.nodup_nil, Nat.le_refl _, fun m => by simp⟩, fun k σ' H' w => w.1, fun k it hk σ' H' v hw hv => ?_, fun σ' H' hw => ?_⟩
        · obtain ⟨z1, L4, z2, acc, a3, a4, rfl, hl4, hnd, hle, hmem⟩ := hw
          obtain ⟨y, hy, rfl⟩ := map_get hk
          have hk50 : k ≤ 60 := by
            have z := (List.getElem?_eq_some_iff.mp hy).1
            rw [offs_len] at z
            omega
          have ey := dp_int hv
          subst ey
          refine rg_name 4 ?_ scLMom.nd
          refine rb_set 3 (M := l :: M) (xd_sub (xv_name 1 rfl).int (xv_name 4 rfl).int) (fun v5 H5 s5 hv5 => ?_) scLMom.nd
          have e5 := dp_int hv5
          subst e5
          have kf5 := (kf.up (hid_mono (M := l :: M) s3)).up (z1.trans (hid_mono (M := l :: M) s5))
          have L5 := L4.mono s5
          have snoc : ∀ m, (∃ z ∈ (offsP f st).take (k + 1), (if f + sumJ (x - z) st = z then some (x - z) else none) = some m) ↔ (∃ z ∈ (offsP f st).take k, (if f + sumJ (x - z) st = z then some (x - z) else none) = some m) ∨ ((if f + sumJ (x - y) st = y then some (x - y) else none) = some m) := fun m => by
            rw [take_snoc hy]
            constructor
            · rintro ⟨z, hz, e⟩
              rcases List.mem_append.mp hz with hz | hz
              · exact .inl ⟨z, hz, e⟩
              · rw [List.mem_singleton.mp hz] at e
                exact .inr e
            · rintro (⟨z, hz, e⟩ | e)
              · exact ⟨z, List.mem_append_left _ hz, e⟩
              · exact ⟨y, List.mem_append_right _ (List.mem_singleton.mpr rfl), e⟩
          have hlM : l ∉ M := L1.fresh hl
          refine rb_if (xt_and2 (xt_eqI (M := l :: M) (xd_call L5 GO hr FO.g FO.F.kp FO.b (xa_cons (xd_name 0 rfl kf5) (xa_cons (xv_name 3 rfl).int xa_nil)) ⟨f, st, x - y, rfl, by omega, rfl⟩) (xv_name 4 rfl).int) fun _ =>
            xt_notInI (M := M) (n := x - y) (ns := acc) (xv_name 3 rfl).int (xd_name 5 rfl (.lst (by rw [hid_of hlM]; exact s5 _ _ hl4) (ints_dq acc)))) (fun e H6 s6 => ?_) (fun e H6 s6 => rb_nil (rb_nil ?_))
          · rw [Bool.and_eq_true, decide_eq_true_eq] at e
            obtain ⟨e1, e2⟩ := e
            have e3 : x - y ∉ acc := by simpa using e2
            refine rb_append (M := l :: M) (xs := acc.map V.int) (List.mem_cons_self ..) (xv_name 5 rfl) (s6 _ _ (s5 _ _ hl4)) (xv_name 3 rfl).int (by rw [List.length_map]; omega) fun v7 H7 s7 hv7 => rb_nil (rb_nil ?_)
            have e7 := dp_int hv7
            subst e7
            have s47 := (s5.trans s6).trans s7
            refine ⟨?_, (L4.mono s47).upd, ?_, acc ++ [x - y], _, _, rfl, ?_, ?_, ?_, fun m => ?_⟩
            · rw [hid_cons_upd]; exact z1.trans (hid_mono s47)
            · exact same_upd (z2.trans s47) (s1.free hl)
            · rw [List.map_append]; exact upd_same
            · rw [List.nodup_append]
              refine ⟨hnd, by simp, fun u hu v hv => ?_⟩
              rw [List.mem_singleton.mp hv]
              exact fun z => e3 (z ▸ hu)
            · rw [List.length_append]; simp; omega
            · rw [List.mem_append, hmem m, snoc m, if_pos e1, List.mem_singleton]
              constructor
              · rintro (h | h)
                · exact .inl h
                · exact .inr (by rw [h])
              · rintro (h | h)
                · exact .inl h
                · exact .inr (Option.some.inj h).symm
          · have s46 := s5.trans s6
            refine ⟨z1.trans (hid_mono s46), L4.mono s46, z2.trans s46, acc, _, _, rfl, s46 _ _ hl4, hnd, by omega, fun m => ?_⟩
            rw [hmem m, snoc m]
            constructor
            · exact .inl
            · rintro (h | h)
              · exact h
              · by_cases c : f + sumJ (x - y) st = y
                · rw [if_pos c] at h
                  have h := Option.some.inj h
                  rw [decide_eq_true c, Bool.true_and] at e
                  have e3 : x - y ∈ acc := by simpa using e
                  rw [← h]
                  exact (hmem _).mp e3
                · rw [if_neg c] at h; cases h
        · obtain ⟨z1, L4, z2, acc, a3, a4, rfl, hl4, hnd, hle, hmem⟩ := hw
          have hlM : l ∉ M := L1.fresh hl
          rw [List.length_map, List.take_length] at hmem
          rw [List.length_map, offs_len] at hle
          refine rb_retR (XL.go (M := M) (xl_sortedI (solP x f st) hS (Live.tail L4) (xd_name 5 rfl (.lst (by rw [hid_of hlM]; exact hl4) (ints_dq acc))) (by omega) hnd (sol_asc x f ok) (fun m => (sol_offs ok m).trans (hmem m).symm)) fun r xs H5 s5 hr5 h5 hx5 => q r xs H5 (z2.trans s5) (z2.free hr5) h5 hx5)
end
end Zn

set_option Elab.async false
set_option linter.all false
set_option maxRecDepth 100000
set_option maxHeartbeats 8000000
namespace Zn
open PySem PySem.Spec PyProof.Rows L2 Dl
section
variable {P : Program} {w : World} {K : PySem.W.Frag} {mg : Str → Option Value} {base : Heap} {C : Addr}
theorem scLPlace : FnScope ["_law_plan", "_law_reading", "_law_rule", "_law_found", "_law_offset_here", "_law_moment", "_law_jump", "_law_low", "_law_high"] ["_law_plan", "_law_reading", "_law_rule"] (defScope sLPlace) := ⟨rfl, rfl, rfl, by decide +kernel, rfl, by decide +kernel, by decide +kernel⟩
theorem ok_lplace {f fM : Addr} {fd fdM : FuncData} (T : Nm mg) (GM : FnOk P w K mg base CX0 2 fM fdM ["_law_plan", "_law_reading"] (spL K RLMom)) (FM : Df K mg "_law_moments" sLMom ["_law_plan", "_law_reading"] fM fdM)
    (F : Df K mg "_law_place" sLPlace ["_law_plan", "_law_reading", "_law_rule"] f fd) : FnOk P w K mg base CX0 3 f fd ["_law_plan", "_law_reading", "_law_rule"] (spR K RLPlace) := by
  refine F.F.ok scLPlace (fun vs H Q E h => ?_) (fun cdv A outer s H vs Q E hr h => ?_)
  · obtain ⟨M, ds, d, L, hd, ⟨f, st, x, rule, rfl, _⟩, q⟩ := h
    exact dpa_len hd
  · obtain ⟨M, ds, d, L, hd, ⟨f, st, x, rule, rfl, ok, hlen, rfl⟩, q⟩ := h
    cases hd with
    | cons h1 hd => cases hd with
      | cons h2 hd => cases hd with
        | cons h3 hd =>
          cases hd
          rename_i v0 v1 v2
          have e2 := dp_int h2
          subst e2
          have e3 := dp_str h3
          subst e3
          have tt := sol_torn x f ok
          refine rb_par (M := M) (d1 := .list ((solP x f st).map PyData.int)) (d2 := .int f) 3 4 (xa_cons (XL.dd (xl_call L GM hr FM.g FM.F.kp FM.b (xa_cons (xd_name 0 rfl h1) (xa_cons (xd_name 1 rfl (.int x)) xa_nil)) ⟨f, st, x, rfl, ok, hlen, rfl⟩) L) (xa_cons (xd_ixT (fun _ _ => rfl) (xd_name 0 rfl h1) xd_int plan0) xa_nil)) (fun v3 v4 H1 s1 hv3 hv4 => ?_) scLPlace.nd
          have e4 := dp_int hv4
          subst e4
          refine rb_if (xt_eqI (M := M) (xd_len T.len (xd_name 3 rfl hv3)) xd_int) (fun e H2 s2 => ?_) (fun e H2 s2 => rb_nil ?_)
          · have el : (solP x f st).length = 1 := by
              have z := of_decide_eq_true e
              rw [List.length_map] at z
              omega
            have tn : tornP x f st = none := Classical.byContradiction fun z => tt.2 z el
            obtain ⟨m, hm⟩ := tt.1 tn
            have hf : (rowsP f st).find? (inTorn x) = none := by
              rw [torn_find] at tn
              cases z : (rowsP f st).find? (inTorn x) with
              | none => rfl
              | some r => rw [z] at tn; cases tn
            refine rb_ret (M := M) (d := .int m) (xd_ixL (fun _ _ => rfl) (xd_name 3 rfl (hv3.up (hid_mono s2))) xd_int (by rw [hm]; rfl)) fun v5 H5 s5 hv5 => q v5 H5 ((s1.trans s2).trans s5) ?_
            unfold placeD
            rw [hf, hm]
            exact hv5
          · have el : (solP x f st).length ≠ 1 := by
              have z := of_decide_eq_false e
              rw [List.length_map] at z
              omega
            have s12 := s1.trans s2
            have kf := h1.up (hid_mono (M := M) s12)
            refine rb_for (M := M) (xd_ixT (fun _ _ => rfl) (xd_name 0 rfl kf) xd_int plan1) fun H3 s3 => ⟨fun k σ' H' => Same H3 H' ∧ ((rowsP f st).take k).find? (inTorn x) = none ∧ ∃ a5 a6 a7 a8, σ' = [some v0, some (.int x), some (.str rule), some v3, some (.int (offS f (st.take k))), a5, a6, a7, a8], ⟨Same.refl _, rfl, none, none, none, none, rfl⟩, fun k σ' H' w => hid_mono w.1, fun k it hk σ' H' v w hv => ?_, fun σ' H' w => ?_⟩
            · obtain ⟨z1, hf, a5, a6, a7, a8, rfl⟩ := w
              obtain ⟨sx, hsx, rfl⟩ := map_get hk
              have hrow := rowsP_at f st k sx hsx
              obtain ⟨t, rfl, ht⟩ := step_at hv
              refine rg_tup (same_seqT hid_le ht) (rgs_cons (rg_name 5 (rgs_cons (rg_name 6 (rgs_nil ?_) scLPlace.nd)) scLPlace.nd))
              generalize hoo : offS f (st.take k) = oo at hrow
              refine rb_par (M := M) (d1 := .int (sx.1 + (if oo + sx.2 < oo then oo + sx.2 else oo))) (d2 := .int (sx.1 + (if oo + sx.2 > oo then oo + sx.2 else oo))) 7 8 (xa_cons (xd_add (xv_name 5 rfl).int (xd_min T.min (xa_cons (xv_name 4 rfl).int (xa_cons (xd_add (xv_name 4 rfl).int (xv_name 6 rfl).int) xa_nil))))
                (xa_cons (xd_add (xv_name 5 rfl).int (xd_max T.max (xa_cons (xv_name 4 rfl).int (xa_cons (xd_add (xv_name 4 rfl).int (xv_name 6 rfl).int) xa_nil)))) xa_nil)) (fun v7 v8 H5 s5 hv7 hv8 => ?_) scLPlace.nd
              have e7 := dp_int hv7
              subst e7
              have e8 := dp_int hv8
              subst e8
              refine rb_if ((xt_chainI (M := M) op_le op_lt (xv_name 7 rfl).int (xv_name 1 rfl).int (xv_name 8 rfl).int).to (show _ = inTorn x (sx.1, oo, oo + sx.2) from rfl)) (fun e H6 s6 => ?_) (fun e H6 s6 => rb_nil ?_)
              · have s06 := (((s12.trans s3).trans z1).trans s5).trans s6
                refine rb_ret (M := M) (xd_get2 (Nat.lt_of_le_of_lt (Nat.add_le_add_left (by decide : 1 ≤ 64) _) hr.units) (xd_sub (xv_name 1 rfl).int (xv_name 4 rfl).int) (xd_sub (xd_sub (xv_name 1 rfl).int (xv_name 4 rfl).int) (xv_name 6 rfl).int) (xd_name 2 rfl (.str rule)) (by decide +kernel) ⟨rfl, rfl, rfl, rfl⟩) fun v9 H9 s9 hv9 => q v9 H9 (s06.trans s9) ?_
                unfold placeD
                rw [find_take hrow hf e]
                have e0 : x - oo - sx.2 = x - (oo + sx.2) := by omega
                rw [e0] at hv9
                exact hv9
              · refine rb_set 4 (M := M) (xd_add (xv_name 4 rfl).int (xv_name 6 rfl).int) (fun v9 H9 s9 hv9 => rb_nil ?_) scLPlace.nd
                have e9 := dp_int hv9
                subst e9
                refine ⟨((z1.trans s5).trans s6).trans s9, find_snoc hrow hf e, some (.int sx.1), some (.int sx.2), some (.int (sx.1 + (if oo + sx.2 < oo then oo + sx.2 else oo))), some (.int (sx.1 + (if oo + sx.2 > oo then oo + sx.2 else oo))), ?_⟩
                rw [take_snoc hsx, off_snoc, hoo]
                rfl
            · obtain ⟨z1, hf, a5, a6, a7, a8, rfl⟩ := w
              rw [List.length_map] at hf
              have tn : tornP x f st = none := by
                rw [torn_find, ← List.take_length (l := rowsP f st), rowsP_len, hf]
                rfl
              obtain ⟨m, hm⟩ := tt.1 tn
              rw [hm] at el
              exact absurd rfl el
/-! edges -/
def bigI (n : Nat) (ns : List Int) : Prop := ∀ x ∈ ns, x.natAbs < n
theorem offS_small : ∀ (f : Int) (st : List Step), (∀ s ∈ st, okJ s.2) → (offS f st).natAbs ≤ f.natAbs + 720 * st.length
  | f, [], _ => by show f.natAbs ≤ _; simp
  | f, s :: st, h => by
    have a := h s (List.mem_cons_self ..)
    unfold okJ at a
    have b := offS_small (f + s.2) st fun t ht => h t (List.mem_cons_of_mem _ ht)
    show (offS (f + s.2) st).natAbs ≤ _
    rw [List.length_cons]
    omega
theorem rb_extendI {X : Cx} {M : List Addr} {σ : L2.St} {H : Hp} {o e : Expr} {p1 p2 pos : Pos} {D : Ends} {rest : List Stmt} {l : Addr} {xs : List V} {ns : List Int} (hl : l ∈ M) (ho : XV X σ H o (.ref l)) (h1 : H l = some (.lst xs)) (he : XD X M σ H e (.list (ns.map PyData.int))) (hz : xs.length + ns.length ≤ 100000) (k : ∀ H1, Same H H1 → RB X rest D σ (upd H1 l (.lst (xs ++ ns.map V.int))))
    (hbase : attributeBase o "extend" X.env (eval o X.env) = eval o X.env := by rfl)
    (hfew : ((backTo p2 (starEach [e] X.env)).all (fun x => !x.1) && (backToKw p2 (keywordEach [] X.env)).all (fun x => x.1.isSome) && decide ([e].length + ([] : List Keyword).length + (if ([] : List Keyword).isEmpty then 0 else 1) < 30)) = true := by rfl)
    (hline : (p1.endLine == p2.line) = true := by rfl) (hs : starEach [e] X.env = (false, eval e X.env) :: starEach [] X.env := by rfl) (hplain : (backTo p2 (starEach [] X.env)).any (·.1) = false := by rfl)
    (hsw : swapsWith (.Call (.Attribute o "extend" p1) [e] [] p2) none pos.line X.env = pure false := by rfl) : RB X (.Expr (.Call (.Attribute o "extend" p1) [e] [] p2) pos :: rest) D σ H :=
  rb_extend hl ho h1 he (by rw [List.length_map]; exact hz) (fun vs H1 s1 hv => by rw [ints_v hv]; exact k H1 s1) hbase hfew hline hs hplain hsw
end
end Zn

set_option Elab.async false
set_option linter.all false
set_option maxRecDepth 100000
set_option maxHeartbeats 8000000
namespace Zn
open PySem PySem.Spec PyProof.Rows L2 Dl
/-! ### data that can be shown: whole numbers of up to thirty-three digits -/
theorem log_big {i : Int} (h : i.natAbs < 10 ^ 33) : i.natAbs.log2 < 110 := by
  by_cases z : i.natAbs = 0
  · rw [z]; decide
  · rw [Nat.log2_lt z]
    exact Nat.lt_trans h (by decide)
theorem ints_show : ∀ {ns : List Int}, bigI (10 ^ 33) ns → PyData.leavesShortAll 40 (ns.map PyData.int) = true ∧ PyData.showableAll (ns.map PyData.int) = true ∧ PyData.hasDictAll (ns.map PyData.int) = false ∧ PyData.depthAll (ns.map PyData.int) = 0 ∧ PyData.weightAll (ns.map PyData.int) ≤ 200 * ns.length
  | [], _ => ⟨rfl, rfl, rfl, rfl, Nat.zero_le _⟩
  | n :: ns, h => by
    have hn := h n (List.mem_cons_self ..)
    have lg := log_big hn
    obtain ⟨b1, b2, b3, b4, b5⟩ := ints_show (ns := ns) fun x hx => h x (List.mem_cons_of_mem _ hx)
    have e := int_text_length_le10 (k := 33) (by decide) hn
    rw [List.map_cons]
    refine ⟨?_, ?_, ?_, ?_, ?_⟩
    · simp only [PyData.leavesShortAll, PyData.leavesShort, b1, Bool.and_true, decide_eq_true_eq]
      show (Str.ofString (toString n)).length ≤ 40
      rw [PySem.ofString_length]; omega
    · simp only [PyData.showableAll, PyData.showable, b2, Bool.and_true, decide_eq_true_eq]; omega
    · simp only [PyData.hasDictAll, PyData.hasDict, b3, Bool.or_self]
    · simp only [PyData.depthAll, PyData.depth, b4]; rfl
    · simp only [PyData.weightAll, PyData.weight, List.length_cons, Nat.mul_add]
      split <;> omega
structure Shows (ds : List PyData) : Prop where
  h1 : (PyData.list ds).showable = true
  h2 : (PyData.list ds).hasDict = false
  h3 : (PyData.list ds).depth ≤ 60
  h4 : (PyData.list ds).shown.length ≤ sizeLine
theorem shows_ints {ns : List Int} (h : bigI (10 ^ 33) ns) (hn : ns.length ≤ 100) : Shows (ns.map PyData.int) := by
  obtain ⟨b1, b2, b3, b4, b5⟩ := ints_show h
  refine ⟨by simpa only [PyData.showable] using b2, by simpa only [PyData.hasDict] using b3, by simp only [PyData.depth, b4]; omega, ?_⟩
  have ls : (PyData.list (ns.map PyData.int)).leavesShort 40 = true := by simpa only [PyData.leavesShort] using b1
  have e := PyData.shown_le 40 (by decide) _ ls
  have w : (PyData.list (ns.map PyData.int)).weight ≤ 20000 := by simp only [PyData.weight]; omega
  rw [sizeLine_eq]
  omega
theorem eqv_ints : ∀ ns : List Int, PyData.eqvAll (ns.map PyData.int) (ns.map PyData.int) = true
  | [] => by simp [PyData.eqvAll]
  | n :: ns => by
    rw [List.map_cons]
    show (PyData.eqv (.int n) (.int n) && PyData.eqvAll (ns.map PyData.int) (ns.map PyData.int)) = true
    rw [eqv_ints ns]
    simp [PyData.eqv]
theorem lay_ints : ∀ ns : List Int, PyData.canLayAll0 (ns.map PyData.int) = true
  | [] => by simp [PyData.canLayAll0]
  | r :: rs => by
    rw [List.map_cons]
    show (PyData.canLay0 (.int r) && PyData.canLayAll0 (rs.map PyData.int)) = true
    rw [lay_ints rs]
    simp [PyData.canLay0]
theorem depth_ints : ∀ ns : List Int, PyData.depthAll (ns.map PyData.int) = 0
  | [] => by simp [PyData.depthAll]
  | r :: rs => by
    rw [List.map_cons]
    show max (PyData.depth (.int r)) (PyData.depthAll (rs.map PyData.int)) = 0
    rw [depth_ints rs]
    simp [PyData.depth]
theorem shaped_ints (ns : List Int) : SeqAt.shaped (.list (ns.map PyData.int)) = true := by
  unfold SeqAt.shaped
  rw [show PyData.canLay0 (.list (ns.map PyData.int)) = PyData.canLayAll0 (ns.map PyData.int) by simp [PyData.canLay0], lay_ints, show PyData.depth (.list (ns.map PyData.int)) = PyData.depthAll (ns.map PyData.int) + 1 by simp [PyData.depth], depth_ints]
  simp
/-! ### how great the values are -/
theorem offs_small : ∀ (f : Int) (st : List Step), (∀ s ∈ st, okJ s.2) → ∀ y ∈ offsP f st, y.natAbs ≤ f.natAbs + 720 * st.length
  | f, [], _, y, h => by
    unfold offsP at h
    rw [List.mem_singleton.mp h]
    simp
  | f, s :: st, hj, y, h => by
    have a := hj s (List.mem_cons_self ..)
    unfold okJ at a
    unfold offsP at h
    rw [List.length_cons]
    rcases List.mem_cons.mp h with e | h
    · rw [e]; omega
    · have b := offs_small (f + s.2) st (fun t ht => hj t (List.mem_cons_of_mem _ ht)) y h
      omega
theorem rows_offs : ∀ (f : Int) (st : List Step) (r : Row), r ∈ rowsP f st → r.2.1 ∈ offsP f st ∧ r.2.2 ∈ offsP f st
  | _, [], r, h => by simp [rowsP, rowsOf, chOf] at h
  | f, s :: st, r, h => by
    rw [rowsP_cons] at h
    unfold offsP
    rcases List.mem_cons.mp h with e | h
    · subst e
      refine ⟨List.mem_cons_self .., List.mem_cons_of_mem _ ?_⟩
      cases st with
      | nil => exact List.mem_cons_self ..
      | cons t st => exact List.mem_cons_self ..
    · obtain ⟨a, b⟩ := rows_offs (f + s.2) st r h
      exact ⟨List.mem_cons_of_mem _ a, List.mem_cons_of_mem _ b⟩
theorem plan_off {f : Int} {st : List Step} (h : PlanOk f st) : ∀ y ∈ offsP f st, y.natAbs ≤ 15000 := fun y hy => by
  have a := offs_small f st h.ok.1 y hy
  have := h.len
  have := h.f0
  have := h.f1
  omega
theorem sol_big {f x : Int} {st : List Step} (h : PlanOk f st) (hx : x.natAbs < 10 ^ 32) : bigI (10 ^ 33) (solP x f st) := fun m hm => by
  obtain ⟨y, hy, e⟩ := (sol_offs h.ok m).mp hm
  have := plan_off h y hy
  have e1 : (10 : Nat) ^ 33 = 10 * 10 ^ 32 := by decide
  have e2 : (10 : Nat) ^ 32 = 100000000000000000000000000000000 := by decide
  split at e
  · cases e; omega
  · cases e
theorem sol_len (x : Int) : ∀ (f : Int) (st : List Step), (solP x f st).length ≤ st.length + 1
  | f, [] => Nat.le_refl _
  | f, s :: st => by
    unfold solP
    rw [List.length_append, List.length_cons]
    have a := sol_len x (f + s.2) st
    have b : (if x < s.1 + f then [x - f] else []).length ≤ 1 := by split <;> simp
    have c : (if x < s.1 + f + s.2 then ([] : List Int) else solP x (f + s.2) st).length ≤ st.length + 1 := by split <;> first | exact a | simp
    omega
theorem plain_int {i : Int} (h : i.natAbs < 10 ^ 33) : Plain (.int i) := .inr ⟨i, rfl, by have := log_big h; omega⟩
theorem place_plain {f x : Int} {st : List Step} {rule : Str} (h : PlanOk f st) (hx : x.natAbs < 10 ^ 32) : Plain (placeD x rule (rowsP f st) (solP x f st)) := by
  have e1 : (10 : Nat) ^ 33 = 10 * 10 ^ 32 := by decide
  have e2 : (10 : Nat) ^ 32 = 100000000000000000000000000000000 := by decide
  unfold placeD
  cases e : (rowsP f st).find? (inTorn x) with
  | none =>
    refine plain_int ?_
    cases e3 : solP x f st with
    | nil => show (0 : Int).natAbs < _; decide
    | cons m ms => exact sol_big h hx m (by rw [e3]; exact List.mem_cons_self ..)
  | some r =>
    obtain ⟨a, b⟩ := rows_offs f st r (List.mem_of_find?_eq_some e)
    have a' := plan_off h _ a
    have b' := plan_off h _ b
    show Plain (if rule = "ahead" then PyData.int (x - r.2.1) else if rule = "behind" then PyData.int (x - r.2.2) else PyData.none)
    split
    · exact plain_int (by omega)
    · split
      · exact plain_int (by omega)
      · exact .inl rfl
section
variable {X : Cx} {M : List Addr} {σ : L2.St} {H : Hp} {e e2 o : Expr} {pos apos p1 : Pos} {C f : Addr} {fd : FuncData} {off n : Int} {k : Nat}
/-- o.place(e, e2) -/
theorem xd_place {pl : Sem Bool} {st : List Step} {rule : Str} {pa : Addr} (L : Live M H) (hc : Cls X.K C) (hM : Meth X.K C "place" f) (F : FnOk X.prog X.w X.K X.mg X.base CX0 k f fd ["self", "reading", "rule"] (spPlace X.K C)) (hr : Room k X.A) (hb : Binds X.K fd ["self", "reading", "rule"] [])
    (ho : XV X σ H o (.ref pa)) (hz : ZAt X.K C (hid M H) pa off (rowsP off st)) (ok : okS st) (hlen : st.length ≤ 50) (hx : isRuleS rule) (ha : XD X M σ H e (.int n)) (ha2 : XD X M σ H e2 (.str rule))
    (hst : starEach [e, e2] X.env = (false, eval e X.env) :: starEach [e2] X.env := by rfl) (hst2 : starEach [e2] X.env = (false, eval e2 X.env) :: starEach [] X.env := by rfl) (hpl : (backTo pos (starEach [e2] X.env)).any (·.1) = false := by rfl)
    (ht : eval (.Call (.Attribute o "place" apos) [e, e2] [] pos) X.env = (do
      let ov ← eval o X.env
      standAt apos.atName
      let (f, first) ← holding [ov] (getMethod ov "place" pl)
      callWith pos f first (backTo pos (starEach [e, e2] X.env)) (backToKw pos (keywordEach [] X.env))) := by rfl) : XD X M σ H (.Call (.Attribute o "place" apos) [e, e2] [] pos) (placeD n rule (rowsP off st) (solP n off st)) := fun H1 s Q q => by
  have hz1 := hz.up (hid_mono (M := M) s)
  have hz0 := hz1
  obtain ⟨dx, r, e1, e3⟩ := hz1
  exact re_meth (ho.up s) (hid_le _ _ e1) hc hM (zf_none off r (by decide +kernel) (by decide +kernel)) F hr hb (fun H2 s2 => ra_cons (ha H2 (s.trans s2) _ fun v H3 s3 hv => ra_1 (ha2 H3 ((s.trans s2).trans s3) _ fun u H4 s4 hu =>
    ⟨M, pa, off, st, n, rule, by rw [dp_int hv, dp_str hu], hx, L.mono (((s.trans s2).trans s3).trans s4), hz0.up (hid_mono ((s2.trans s3).trans s4)), ok, hlen, fun w H5 s5 hw => q w H5 (((s2.trans s3).trans s4).trans s5) hw⟩) hst2) hst) hst hpl ht
end
end Zn

set_option Elab.async false
set_option linter.all false
set_option maxRecDepth 100000
set_option maxHeartbeats 8000000
namespace Zn
open PySem PySem.Spec PyProof.Rows L2 Dl
/-! k31: the days on which a time is touched -/
def loR (r : Row) : Int := r.1 + (if r.2.2 < r.2.1 then r.2.2 else r.2.1)
def hiR (r : Row) : Int := r.1 + (if r.2.2 > r.2.1 then r.2.2 else r.2.1)
theorem torn_eq (r : Row) : tornD r = .tuple [.int (loR r), .int (hiR r)] := rfl
def wordR (r : Row) : Str := if 0 < jmp r then "gap" else "fold"
def dayR (t : Int) (r : Row) : Int := (hiR r - 1 - t) / 1440
/-- the day on which a time is in what a row tears -/
def touR (t : Int) (w : Str) (r : Row) : Option (Int × Str) := if loR r ≤ dayR t r * 1440 + t then some (dayR t r, w) else none
def touL (t : Int) (rs : List Row) : List (Int × Str) := rs.filterMap fun r => touR t (wordR r) r
theorem row_w {r : Row} (h : okJ (jmp r)) : loR r < hiR r ∧ hiR r ≤ loR r + 720 := by
  unfold okJ jmp at h
  unfold loR hiR
  split <;> split <;> omega
theorem rows_jmp : ∀ (f : Int) {st : List Step}, okS st → ∀ r ∈ rowsP f st, okJ (jmp r)
  | _, [], _, r, h => by simp [rowsP, rowsOf, chOf] at h
  | f, s :: st, ok, r, h => by
    rw [rowsP_cons] at h
    rcases List.mem_cons.mp h with e | h
    · subst e
      have e : jmp (s.1, f, f + s.2) = s.2 := by show f + s.2 - f = s.2; omega
      rw [e]
      exact ok.1 s (List.mem_cons_self ..)
    · exact rows_jmp (f + s.2) (okS_tail ok) r h
theorem rows_low : ∀ (f : Int) {s : Step} {st : List Step}, okS (s :: st) → ∀ r ∈ rowsP (f + s.2) st, s.1 + f + s.2 + ab s.2 ≤ loR r
  | f, s, [], _, r, h => by simp [rowsP, rowsOf, chOf] at h
  | f, s, t :: st, ok, r, h => by
    have g := okS_gap ok
    have nt := ab_nn t.2
    have ns := ab_nn s.2
    rw [rowsP_cons] at h
    rcases List.mem_cons.mp h with e | h
    · subst e
      show _ ≤ t.1 + (if f + s.2 + t.2 < f + s.2 then f + s.2 + t.2 else f + s.2)
      split <;> omega
    · have a := rows_low (f + s.2) (okS_tail ok) r h
      omega
theorem hi_head (f : Int) (s : Step) : hiR (s.1, f, f + s.2) ≤ s.1 + f + s.2 + ab s.2 := by
  have ns := ab_nn s.2
  show s.1 + (if f + s.2 > f then f + s.2 else f) ≤ _
  split <;> omega
theorem rows_asc : ∀ (f : Int) {st : List Step}, okS st → (rowsP f st).Pairwise fun a b => hiR a ≤ loR b
  | _, [], _ => .nil
  | f, s :: st, ok => by
    rw [rowsP_cons]
    refine List.pairwise_cons.mpr ⟨fun r h => ?_, rows_asc (f + s.2) (okS_tail ok)⟩
    have a := rows_low f ok r h
    have b := hi_head f s
    omega
theorem day_low {t : Int} {r : Row} (ht : 0 ≤ t ∧ t ≤ 1439) : dayR t r * 1440 + t < hiR r := by unfold dayR; omega
theorem tou_asc {t : Int} (ht : 0 ≤ t ∧ t ≤ 1439) (f : Int) {st : List Step} (ok : okS st) : (touL t (rowsP f st)).Pairwise fun a b => a.1 < b.1 := by
  unfold touL
  refine List.Pairwise.filterMap _ (fun a b hab x hx y hy => ?_) (rows_asc f ok)
  unfold touR at hx hy
  split at hx
  · split at hy
    · rename_i h1 h2
      injection hx with hx
      injection hy with hy
      subst hx hy
      have := day_low (t := t) (r := a) ht
      show dayR t a < dayR t b
      omega
    · cases hy
  · cases hx
/-- gaps first, then folds: the same, in another order -/
theorem tou_perm (t : Int) : ∀ {rs : List Row}, (∀ r ∈ rs, okJ (jmp r)) → ((rs.filter fun r => decide (0 < jmp r)).filterMap (touR t "gap") ++ (rs.filter fun r => decide (jmp r < 0)).filterMap (touR t "fold")).Perm (touL t rs)
  | [], _ => .refl _
  | r :: rs, h => by
    have ih := tou_perm t fun x hx => h x (List.mem_cons_of_mem _ hx)
    have hj := h r (List.mem_cons_self ..)
    unfold okJ at hj
    unfold touL
    rw [List.filterMap_cons]
    by_cases p : 0 < jmp r
    · have n : ¬ jmp r < 0 := by omega
      have ew : wordR r = "gap" := if_pos p
      rw [List.filter_cons_of_pos (by simpa using p), List.filter_cons_of_neg (by simpa using n), List.filterMap_cons, ew]
      cases touR t "gap" r with
      | none => exact ih
      | some y => exact ih.cons y
    · have n : jmp r < 0 := by omega
      have ew : wordR r = "fold" := if_neg p
      rw [List.filter_cons_of_neg (by simpa using p), List.filter_cons_of_pos (by simpa using n), List.filterMap_cons, ew]
      cases touR t "fold" r with
      | none => exact ih
      | some y => exact List.perm_middle.trans (ih.cons y)
theorem touL_len (t : Int) (rs : List Row) : (touL t rs).length ≤ rs.length := List.length_filterMap_le ..
/-! the law's own days -/
def dayI (lo hi t : Int) (w : Str) (i : Nat) : Option (Int × Str) := if lo ≤ 1440 * (lo / 1440 + i) + t ∧ 1440 * (lo / 1440 + i) + t < hi then some (lo / 1440 + i, w) else none
def daysI (lo hi t : Int) (w : Str) (n : Nat) : List (Int × Str) := (List.range n).filterMap (dayI lo hi t w)
theorem daysI_succ (lo hi t : Int) (w : Str) (n : Nat) : daysI lo hi t w (n + 1) = daysI lo hi t w n ++ (dayI lo hi t w n).toList := by
  unfold daysI
  rw [List.range_succ, List.filterMap_append]
  cases e : dayI lo hi t w n <;> simp [e]
theorem days_all {t : Int} (ht : 0 ≤ t ∧ t ≤ 1439) {r : Row} (h : okJ (jmp r)) (w : Str) : daysI (loR r) (hiR r) t w (hiR r / 1440 + 1 - loR r / 1440).toNat = (touR t w r).toList := by
  obtain ⟨a, b⟩ := row_w h
  unfold touR dayR
  generalize loR r = lo at a b ⊢
  generalize hiR r = hi at a b ⊢
  have c : hi / 1440 = lo / 1440 ∨ hi / 1440 = lo / 1440 + 1 := by omega
  rcases c with c | c
  · have e : (hi / 1440 + 1 - lo / 1440).toNat = 1 := by omega
    rw [e]
    by_cases z : lo ≤ (hi - 1 - t) / 1440 * 1440 + t
    · rw [if_pos z]
      have ed : (hi - 1 - t) / 1440 = lo / 1440 := by omega
      have y : dayI lo hi t w 0 = some ((hi - 1 - t) / 1440, w) := by
        unfold dayI
        rw [if_pos (by omega)]
        congr 2
        omega
      simp [daysI, y]
    · rw [if_neg z]
      have y : dayI lo hi t w 0 = none := by
        unfold dayI
        rw [if_neg (by omega)]
      simp [daysI, y]
  · have e : (hi / 1440 + 1 - lo / 1440).toNat = 2 := by omega
    rw [e]
    by_cases z : lo ≤ (hi - 1 - t) / 1440 * 1440 + t
    · rw [if_pos z]
      by_cases y0 : (hi - 1 - t) / 1440 = lo / 1440
      · have y : dayI lo hi t w 0 = some ((hi - 1 - t) / 1440, w) := by
          unfold dayI
          rw [if_pos (by omega)]
          congr 2
          omega
        have y1 : dayI lo hi t w 1 = none := by
          unfold dayI
          rw [if_neg (by omega)]
        simp [daysI, List.range_succ, y, y1]
      · have y : dayI lo hi t w 0 = none := by
          unfold dayI
          rw [if_neg (by omega)]
        have y1 : dayI lo hi t w 1 = some ((hi - 1 - t) / 1440, w) := by
          unfold dayI
          rw [if_pos (by omega)]
          congr 2
          omega
        simp [daysI, List.range_succ, y, y1]
    · rw [if_neg z]
      have y : dayI lo hi t w 0 = none := by
        unfold dayI
        rw [if_neg (by omega)]
      have y1 : dayI lo hi t w 1 = none := by
        unfold dayI
        rw [if_neg (by omega)]
      simp [daysI, List.range_succ, y, y1]
theorem touL_snoc (t : Int) (rs : List Row) (r : Row) : touL t (rs ++ [r]) = touL t rs ++ (touR t (wordR r) r).toList := by
  unfold touL
  rw [List.filterMap_append]
  cases e : touR t (wordR r) r <;> simp [e]
end Zn

set_option Elab.async false
set_option linter.all false
set_option maxRecDepth 100000
set_option maxHeartbeats 8000000
namespace Zn
open PySem PySem.Spec PyProof.Rows L2 Dl
/-! k31: is_integer, is_time, need_time, day_of, reading_of, need_zone, need_rule, need_daily, daily, daily_list, touched_days -/
abbrev sIsInt : Stmt := top 13
abbrev sIsTime : Stmt := top 14
abbrev sNeedT : Stmt := top 16
abbrev sDayOf : Stmt := top 17
abbrev sReadOf : Stmt := top 18
abbrev sNeedZ : Stmt := top 30
abbrev sDaily : Stmt := top 33
abbrev sDailyL : Stmt := top 34
abbrev sNeedD : Stmt := top 35
abbrev sNeedR : Stmt := top 36
abbrev sTouch : Stmt := top 37
section
variable {X : Cx} {M : List Addr} {σ : L2.St} {H H' : Hp} {a b c : Expr} {pos : Pos}
/-- l <= x <= h, as a value -/
theorem xd_chainI {op op' : CmpOp} {g g' : Int → Int → Bool} {l m n : Int} (ho : OpR X (compareOp op) (rI0 fun i j => .bl (g i j))) (ho' : OpR X (compareOp op') (rI0 fun i j => .bl (g' i j))) (ha : XD X M σ H a (.int l)) (hb : XD X M σ H b (.int m)) (hc : XD X M σ H c (.int n))
    (hm : lastMarks [op, op'] [b, c] = false := by with_unfolding_all rfl) : XD X M σ H (.Compare a [op, op'] [b, c] pos) (.bool (g l m && g' m n)) := fun H1 s Q q =>
  ⟨_, pe_chain ho ho' re_ re_ re_ hm, ha H1 s _ fun v H2 s2 hv => hb H2 (s.trans s2) _ fun u H3 s3 hu => ⟨l, m, dp_int hv, dp_int hu, g l m, rfl, by
    cases e : g l m with
    | false =>
      rw [e] at q
      exact iteF (q _ H3 (s2.trans s3) (.bl _))
    | true =>
      rw [e] at q
      exact iteT (hc H3 ((s.trans s2).trans s3) _ fun y H4 s4 hy => ⟨m, n, dp_int hu, dp_int hy, q _ H4 ((s2.trans s3).trans s4) (.bl _)⟩)⟩⟩
end
section
variable {P : Program} {w : World} {K : PySem.W.Frag} {mg : Str → Option Value} {base : Heap} {C : Addr}
def RInt (ds : List PyData) (d : PyData) : Prop := ∃ x lo hi : Int, ds = [.int x, .int lo, .int hi] ∧ d = .bool (decide (lo ≤ x) && decide (x ≤ hi))
theorem scIsInt : FnScope ["value", "low", "high"] ["value", "low", "high"] (defScope sIsInt) := ⟨rfl, rfl, rfl, by decide +kernel, rfl, by decide +kernel, by decide +kernel⟩
theorem ok_isInt {f fW : Addr} {fd fdW : FuncData} (T : Nm mg) (FW : Df K mg "is_whole" sWhole ["value"] fW fdW) (F : Df K mg "is_integer" sIsInt ["value", "low", "high"] f fd) : FnOk P w K mg base CX0 2 f fd ["value", "low", "high"] (spR K RInt) := by
  have GW : FnOk P w K mg base CX0 1 fW fdW ["value"] (spR K RWhole) := ok_whole T FW
  refine F.F.ok scIsInt (fun vs H Q E h => ?_) (fun cdv A outer s H vs Q E hr h => ?_)
  · obtain ⟨M, ds, d, L, hd, ⟨x, lo, hi, rfl, _⟩, q⟩ := h
    exact dpa_len hd
  · obtain ⟨M, ds, d, L, hd, ⟨x, lo, hi, rfl, rfl⟩, q⟩ := h
    cases hd with
    | cons h1 hd => cases hd with
      | cons h2 hd => cases hd with
        | cons h3 hd =>
          cases hd
          exact rb_ret (M := M) (xd_andT (xd_call L GW hr FW.g FW.F.kp FW.b (xa_cons (xd_name 0 rfl h1) xa_nil) ⟨.int x, rfl, rfl⟩) (xd_one (xd_chainI op_le op_le (xd_name 1 rfl h2) (xd_name 0 rfl h1) (xd_name 2 rfl h3)))) q
def RTime (ds : List PyData) (d : PyData) : Prop := ∃ t : Int, ds = [.int t] ∧ (0 ≤ t ∧ t ≤ 1439) ∧ d = .bool true
theorem scIsTime : FnScope ["value"] ["value"] (defScope sIsTime) := ⟨rfl, rfl, rfl, by decide +kernel, rfl, by decide +kernel, by decide +kernel⟩
theorem ok_isTime {f fI : Addr} {fd fdI : FuncData} (hD : ∃ t, mg "DAY_LENGTH" = some (.int 1440 t)) (GI : FnOk P w K mg base CX0 2 fI fdI ["value", "low", "high"] (spR K RInt)) (FI : Df K mg "is_integer" sIsInt ["value", "low", "high"] fI fdI) (F : Df K mg "is_time" sIsTime ["value"] f fd) : FnOk P w K mg base CX0 3 f fd ["value"] (spR K RTime) := by
  obtain ⟨tk, hD⟩ := hD
  refine F.F.ok scIsTime (fun vs H Q E h => ?_) (fun cdv A outer s H vs Q E hr h => ?_)
  · obtain ⟨M, ds, d, L, hd, ⟨x, rfl, _⟩, q⟩ := h
    exact dpa_len hd
  · obtain ⟨M, ds, d, L, hd, ⟨t, rfl, ht, rfl⟩, q⟩ := h
    cases hd with
    | cons h1 hd =>
      cases hd
      refine rb_ret (M := M) ((xd_call L GI hr FI.g FI.F.kp FI.b (xa_cons (xd_name 0 rfl h1) (xa_cons xd_int (xa_cons (xd_sub (xv_glob (v := .int 1440) hD ⟨tk, rfl⟩).int xd_int) xa_nil))) ⟨t, 0, 1440 - 1, rfl, rfl⟩).to ?_) q
      rw [decide_eq_true ht.1, decide_eq_true (show t ≤ 1440 - 1 from ht.2)]
      rfl
def RNeedT (ds : List PyData) (d : PyData) : Prop := ∃ t : Int, ds = [.int t] ∧ (0 ≤ t ∧ t ≤ 1439) ∧ d = .none
theorem scNeedT : FnScope ["value"] ["value"] (defScope sNeedT) := ⟨rfl, rfl, rfl, by decide +kernel, rfl, by decide +kernel, by decide +kernel⟩
theorem ok_needT {f fI : Addr} {fd fdI : FuncData} (GI : FnOk P w K mg base CX0 3 fI fdI ["value"] (spR K RTime)) (FI : Df K mg "is_time" sIsTime ["value"] fI fdI) (F : Df K mg "need_time" sNeedT ["value"] f fd) : FnOk P w K mg base CX0 4 f fd ["value"] (spR K RNeedT) := by
  refine F.F.ok scNeedT (fun vs H Q E h => ?_) (fun cdv A outer s H vs Q E hr h => ?_)
  · obtain ⟨M, ds, d, L, hd, ⟨x, rfl, _⟩, q⟩ := h
    exact dpa_len hd
  · obtain ⟨M, ds, d, L, hd, ⟨t, rfl, ht, rfl⟩, q⟩ := h
    cases hd with
    | cons h1 hd =>
      cases hd
      exact rb_ifF ((xt_not (xt_val (M := M) (xd_call L GI hr FI.g FI.F.kp FI.b (xa_cons (xd_name 0 rfl h1) xa_nil) ⟨t, rfl, ht, rfl⟩))).to rfl) fun H1 s1 => rb_nil (q .non H1 s1 .non)
def RDay (ds : List PyData) (d : PyData) : Prop := ∃ x : Int, ds = [.int x] ∧ d = .int (x / 1440)
theorem scDayOf : FnScope ["reading"] ["reading"] (defScope sDayOf) := ⟨rfl, rfl, rfl, by decide +kernel, rfl, by decide +kernel, by decide +kernel⟩
theorem ok_dayOf {f fN : Addr} {fd fdN : FuncData} (hD : ∃ t, mg "DAY_LENGTH" = some (.int 1440 t)) (GN : FnOk P w K mg base CX0 2 fN fdN ["value"] (spR K RNeed)) (FN : Df K mg "need_integer" sNeed ["value"] fN fdN) (F : Df K mg "day_of" sDayOf ["reading"] f fd) : FnOk P w K mg base CX0 3 f fd ["reading"] (spR K RDay) := by
  obtain ⟨tk, hD⟩ := hD
  refine F.F.ok scDayOf (fun vs H Q E h => ?_) (fun cdv A outer s H vs Q E hr h => ?_)
  · obtain ⟨M, ds, d, L, hd, ⟨x, rfl, _⟩, q⟩ := h
    exact dpa_len hd
  · obtain ⟨M, ds, d, L, hd, ⟨x, rfl, rfl⟩, q⟩ := h
    cases hd with
    | cons h1 hd =>
      cases hd
      refine rb_expr (M := M) (d := .none) (xd_call L GN hr FN.g FN.F.kp FN.b (xa_cons (xd_name 0 rfl h1) xa_nil) ⟨x, rfl, rfl⟩) fun H1 s1 => ?_
      exact rb_ret (M := M) (xd_div (xd_name 0 rfl (h1.up (hid_mono s1))) (xv_glob (v := .int 1440) hD ⟨tk, rfl⟩).int (cdiv (by decide) (by decide))) fun v H2 s2 hv => q v H2 (s1.trans s2) hv
def RRead (ds : List PyData) (d : PyData) : Prop := ∃ x t : Int, ds = [.int x, .int t] ∧ (0 ≤ t ∧ t ≤ 1439) ∧ d = .int (x * 1440 + t)
theorem scReadOf : FnScope ["day", "time"] ["day", "time"] (defScope sReadOf) := ⟨rfl, rfl, rfl, by decide +kernel, rfl, by decide +kernel, by decide +kernel⟩
theorem ok_readOf {f fN fT : Addr} {fd fdN fdT : FuncData} (hD : ∃ t, mg "DAY_LENGTH" = some (.int 1440 t)) (GN : FnOk P w K mg base CX0 2 fN fdN ["value"] (spR K RNeed)) (FN : Df K mg "need_integer" sNeed ["value"] fN fdN)
    (GT : FnOk P w K mg base CX0 4 fT fdT ["value"] (spR K RNeedT)) (FT : Df K mg "need_time" sNeedT ["value"] fT fdT) (F : Df K mg "reading_of" sReadOf ["day", "time"] f fd) : FnOk P w K mg base CX0 5 f fd ["day", "time"] (spR K RRead) := by
  obtain ⟨tk, hD⟩ := hD
  refine F.F.ok scReadOf (fun vs H Q E h => ?_) (fun cdv A outer s H vs Q E hr h => ?_)
  · obtain ⟨M, ds, d, L, hd, ⟨x, t, rfl, _⟩, q⟩ := h
    exact dpa_len hd
  · obtain ⟨M, ds, d, L, hd, ⟨x, t, rfl, ht, rfl⟩, q⟩ := h
    have hr2 := hr.mono (show 2 ≤ 4 by decide)
    cases hd with
    | cons h1 hd => cases hd with
      | cons h2 hd =>
        cases hd
        refine rb_expr (M := M) (d := .none) (xd_call L GN hr2 FN.g FN.F.kp FN.b (xa_cons (xd_name 0 rfl h1) xa_nil) ⟨x, rfl, rfl⟩) fun H1 s1 => ?_
        refine rb_expr (M := M) (d := .none) (xd_call (L.mono s1) GT hr FT.g FT.F.kp FT.b (xa_cons (xd_name 1 rfl (h2.up (hid_mono s1))) xa_nil) ⟨t, rfl, ht, rfl⟩) fun H2 s2 => ?_
        have s12 := s1.trans s2
        exact rb_ret (M := M) (xd_add (xd_mul (xd_name 0 rfl (h1.up (hid_mono s12))) (xv_glob (v := .int 1440) hD ⟨tk, rfl⟩).int (.inr (by decide))) (xd_name 1 rfl (h2.up (hid_mono s12)))) fun v H3 s3 hv => q v H3 (s12.trans s3) hv
def spNeedZ (K : PySem.W.Frag) (C : Addr) : Sp := fun vs H Q _ => ∃ (M : List Addr) (a : Addr) (off : Int) (rs : List Row), vs = [.ref a] ∧ ZAt K C (hid M H) a off rs ∧ ∀ H1, Same H H1 → Q .non H1
theorem scNeedZ : FnScope ["value"] ["value"] (defScope sNeedZ) := ⟨rfl, rfl, rfl, by decide +kernel, rfl, by decide +kernel, by decide +kernel⟩
theorem ok_needZ {f : Addr} {fd : FuncData} (T : Nm mg) (Z : ZT K mg C) (I : ZI K C) (F : Df K mg "need_zone" sNeedZ ["value"] f fd) : FnOk P w K mg base CX0 1 f fd ["value"] (spNeedZ K C) := by
  refine F.F.ok scNeedZ (fun vs H Q E h => ?_) (fun cdv A outer s H vs Q E hr h => ?_)
  · obtain ⟨M, a, off, rs, rfl, _⟩ := h; rfl
  · obtain ⟨M, a, off, rs, rfl, hz, q⟩ := h
    have hty : ∀ H1, Same H H1 → TyX K H1 (.ref a) (.ref C) := fun H1 s1 => by
      obtain ⟨dx, r, e1, _⟩ := hz
      exact .base (.ins (s1 _ _ (hid_le _ _ e1)) Z.cl I.ha I.hn I.htk I.hm)
    exact rb_ifF ((xt_not (xt_val (M := M) (xd_isZ T.isi Z.mgC (xv_name 0 rfl) (hty H (Same.refl H)) hty I.yes))).to rfl) fun H1 s1 => rb_nil (q H1 s1)
def RNeedR (ds : List PyData) (d : PyData) : Prop := ∃ x : Str, ds = [.str x] ∧ isRuleS x ∧ d = .none
theorem scNeedR : FnScope ["value"] ["value"] (defScope sNeedR) := ⟨rfl, rfl, rfl, by decide +kernel, rfl, by decide +kernel, by decide +kernel⟩
theorem ok_needR {f fI : Addr} {fd fdI : FuncData} (GI : FnOk P w K mg base CX0 1 fI fdI ["value"] (spR K RIsRule)) (FI : Df K mg "is_rule" sIsRule ["value"] fI fdI) (F : Df K mg "need_rule" sNeedR ["value"] f fd) : FnOk P w K mg base CX0 2 f fd ["value"] (spR K RNeedR) := by
  refine F.F.ok scNeedR (fun vs H Q E h => ?_) (fun cdv A outer s H vs Q E hr h => ?_)
  · obtain ⟨M, ds, d, L, hd, ⟨x, rfl, _⟩, q⟩ := h
    exact dpa_len hd
  · obtain ⟨M, ds, d, L, hd, ⟨x, rfl, hx, rfl⟩, q⟩ := h
    cases hd with
    | cons h1 hd =>
      cases hd
      exact rb_ifF ((xt_not (xt_val (M := M) (xd_call L GI hr FI.g FI.F.kp FI.b (xa_cons (xd_name 0 rfl h1) xa_nil) ⟨x, rfl, hx, rfl⟩))).to rfl) fun H1 s1 => rb_nil (q .non H1 s1 .non)
/-! ### need_daily, daily -/
def spNeedD (K : PySem.W.Frag) (C : Addr) : Sp := fun vs H Q _ => ∃ (M : List Addr) (a : Addr) (off : Int) (rs : List Row) (t : Int) (rule : Str) (d : Int), vs = [.ref a, .int t, .str rule, .int d] ∧ isRuleS rule ∧ (0 ≤ t ∧ t ≤ 1439) ∧ Live M H ∧ ZAt K C (hid M H) a off rs ∧ ∀ H1, Same H H1 → Q .non H1
theorem scNeedD : FnScope ["zone", "time", "rule", "day"] ["zone", "time", "rule", "day"] (defScope sNeedD) := ⟨rfl, rfl, rfl, by decide +kernel, rfl, by decide +kernel, by decide +kernel⟩
theorem ok_needD {f fZ fT fR fN : Addr} {fd fdZ fdT fdR fdN : FuncData} (GZ : FnOk P w K mg base CX0 1 fZ fdZ ["value"] (spNeedZ K C)) (FZ : Df K mg "need_zone" sNeedZ ["value"] fZ fdZ) (GT : FnOk P w K mg base CX0 4 fT fdT ["value"] (spR K RNeedT)) (FT : Df K mg "need_time" sNeedT ["value"] fT fdT)
    (GR : FnOk P w K mg base CX0 2 fR fdR ["value"] (spR K RNeedR)) (FR : Df K mg "need_rule" sNeedR ["value"] fR fdR) (GN : FnOk P w K mg base CX0 2 fN fdN ["value"] (spR K RNeed)) (FN : Df K mg "need_integer" sNeed ["value"] fN fdN)
    (F : Df K mg "need_daily" sNeedD ["zone", "time", "rule", "day"] f fd) : FnOk P w K mg base CX0 5 f fd ["zone", "time", "rule", "day"] (spNeedD K C) := by
  refine F.F.ok scNeedD (fun vs H Q E h => ?_) (fun cdv A outer s H vs Q E hr h => ?_)
  · obtain ⟨M, a, off, rs, t, rule, d, rfl, _⟩ := h; rfl
  · obtain ⟨M, a, off, rs, t, rule, d, rfl, hx, ht, L, hz, q⟩ := h
    have hr2 := hr.mono (show 2 ≤ 4 by decide)
    have hr1 := hr.mono (show 1 ≤ 4 by decide)
    refine rb_exprR (re_call GZ hr1 FZ.g FZ.F.kp FZ.b (ra_1 (XV.go (xv_name 0 rfl) fun H0 s0 => ⟨M, a, off, rs, rfl, hz.up (hid_mono s0), fun H1 s1 => ?_⟩)))
    have L1 := (L.mono s0).mono s1
    refine rb_expr (M := M) (d := .none) (xd_call L1 GT hr FT.g FT.F.kp FT.b (xa_cons (xv_name 1 rfl).int xa_nil) ⟨t, rfl, ht, rfl⟩) fun H2 s2 => ?_
    refine rb_expr (M := M) (d := .none) (xd_call (L1.mono s2) GR hr2 FR.g FR.F.kp FR.b (xa_cons (xd_name 2 rfl (.str rule)) xa_nil) ⟨rule, rfl, hx, rfl⟩) fun H3 s3 => ?_
    exact rb_expr (M := M) (d := .none) (xd_call ((L1.mono s2).mono s3) GN hr2 FN.g FN.F.kp FN.b (xa_cons (xv_name 3 rfl).int xa_nil) ⟨d, rfl, rfl⟩) fun H4 s4 => rb_nil (q H4 ((((s0.trans s1).trans s2).trans s3).trans s4))
def dueD (t : Int) (rule : Str) (off : Int) (st : List Step) (d : Int) : PyData := placeD (d * 1440 + t) rule (rowsP off st) (solP (d * 1440 + t) off st)
def spDaily (K : PySem.W.Frag) (C : Addr) : Sp := fun vs H Q _ => ∃ (M : List Addr) (a : Addr) (off : Int) (st : List Step) (t : Int) (rule : Str) (d : Int), vs = [.ref a, .int t, .str rule, .int d] ∧ isRuleS rule ∧ (0 ≤ t ∧ t ≤ 1439) ∧ Live M H ∧ ZAt K C (hid M H) a off (rowsP off st) ∧ okS st ∧ st.length ≤ 50 ∧
  ∀ v H1, Same H H1 → Dq K (hid M H1) v (dueD t rule off st d) → Q v H1
theorem scDaily : FnScope ["zone", "time", "rule", "day"] ["zone", "time", "rule", "day"] (defScope sDaily) := ⟨rfl, rfl, rfl, by decide +kernel, rfl, by decide +kernel, by decide +kernel⟩
theorem ok_daily {f fD fO fP : Addr} {fd fdD fdO fdP : FuncData} (Z : ZT K mg C) (GD : FnOk P w K mg base CX0 5 fD fdD ["zone", "time", "rule", "day"] (spNeedD K C)) (FD : Df K mg "need_daily" sNeedD ["zone", "time", "rule", "day"] fD fdD)
    (GO : FnOk P w K mg base CX0 5 fO fdO ["day", "time"] (spR K RRead)) (FO : Df K mg "reading_of" sReadOf ["day", "time"] fO fdO) (GP : FnOk P w K mg base CX0 5 fP fdP ["self", "reading", "rule"] (spPlace K C)) (MP : Mt K C "place" "Zone.place" sPlace ["self", "reading", "rule"] fP fdP)
    (F : Df K mg "daily" sDaily ["zone", "time", "rule", "day"] f fd) : FnOk P w K mg base CX0 6 f fd ["zone", "time", "rule", "day"] (spDaily K C) := by
  refine F.F.ok scDaily (fun vs H Q E h => ?_) (fun cdv A outer s H vs Q E hr h => ?_)
  · obtain ⟨M, a, off, st, t, rule, d, rfl, _⟩ := h; rfl
  · obtain ⟨M, a, off, st, t, rule, d, rfl, hx, ht, L, hz, ok, hlen, q⟩ := h
    refine rb_exprR (re_call GD hr FD.g FD.F.kp FD.b (ra_cons (XV.go (xv_name 0 rfl) fun Ha sa => ra_cons (XV.go (xv_name 1 rfl) fun Hb sb => ra_cons (XV.go (xv_name 2 rfl) fun Hc sc => ra_1 (XV.go (xv_name 3 rfl) fun Hd sd =>
      ⟨M, a, off, _, t, rule, d, rfl, hx, ht, L.mono (((sa.trans sb).trans sc).trans sd), hz.up (hid_mono (((sa.trans sb).trans sc).trans sd)), fun H1 s1 => ?_⟩))))))
    have s01 : Same H H1 := ((((sa.trans sb).trans sc).trans sd).trans s1)
    have L1 := L.mono s01
    exact rb_ret (M := M) (xd_place (M := M) L1 Z.cl MP.m GP hr MP.b (xv_name 0 rfl) (hz.up (hid_mono s01)) ok hlen hx (xd_call L1 GO hr FO.g FO.F.kp FO.b (xa_cons (xv_name 3 rfl).int (xa_cons (xv_name 1 rfl).int xa_nil)) ⟨d, t, rfl, ht, rfl⟩) (xd_name 2 rfl (.str rule)))
      fun v H2 s2 hv => q v H2 (s01.trans s2) hv
/-! ### daily_list -/
def dueL (t : Int) (rule : Str) (off : Int) (st : List Step) (d : Int) (n : Nat) : List PyData := (List.range n).map fun i : Nat => dueD t rule off st (d + (i : Int))
def spDailyL (K : PySem.W.Frag) (C : Addr) : Sp := fun vs H Q _ => ∃ (M : List Addr) (a : Addr) (off : Int) (st : List Step) (t : Int) (rule : Str) (d : Int) (n : Nat), vs = [.ref a, .int t, .str rule, .int d, .int (n : Int)] ∧ isRuleS rule ∧ (0 ≤ t ∧ t ≤ 1439) ∧ n ≤ 200 ∧ Live M H ∧ ZAt K C (hid M H) a off (rowsP off st) ∧ okS st ∧ st.length ≤ 50 ∧
  ∀ p xs H1, Same H H1 → H p = none → H1 p = some (.lst xs) → DqAll K (hid M H1) xs (dueL t rule off st d n) → Q (.ref p) H1
theorem scDailyL : FnScope ["zone", "time", "rule", "day", "many", "later"] ["zone", "time", "rule", "day", "many"] (defScope sDailyL) := ⟨rfl, rfl, rfl, by decide +kernel, rfl, by decide +kernel, by decide +kernel⟩
theorem ok_dailyL {f fD fO fP fI : Addr} {fd fdD fdO fdP fdI : FuncData} (T : Nm mg) (Z : ZT K mg C) (hM : ∃ t, mg "MOST_RESULTS" = some (.int 200 t)) (GD : FnOk P w K mg base CX0 5 fD fdD ["zone", "time", "rule", "day"] (spNeedD K C)) (FD : Df K mg "need_daily" sNeedD ["zone", "time", "rule", "day"] fD fdD)
    (GO : FnOk P w K mg base CX0 5 fO fdO ["day", "time"] (spR K RRead)) (FO : Df K mg "reading_of" sReadOf ["day", "time"] fO fdO) (GP : FnOk P w K mg base CX0 5 fP fdP ["self", "reading", "rule"] (spPlace K C)) (MP : Mt K C "place" "Zone.place" sPlace ["self", "reading", "rule"] fP fdP)
    (GI : FnOk P w K mg base CX0 2 fI fdI ["value", "low", "high"] (spR K RInt)) (FI : Df K mg "is_integer" sIsInt ["value", "low", "high"] fI fdI)
    (F : Df K mg "daily_list" sDailyL ["zone", "time", "rule", "day", "many"] f fd) : FnOk P w K mg base CX0 6 f fd ["zone", "time", "rule", "day", "many"] (spDailyL K C) := by
  obtain ⟨tk, hM⟩ := hM
  refine F.F.ok scDailyL (fun vs H Q E h => ?_) (fun cdv A outer s H vs Q E hr h => ?_)
  · obtain ⟨M, a, off, st, t, rule, d, n, rfl, _⟩ := h; rfl
  · obtain ⟨M, a, off, st, t, rule, d, n, rfl, hx, ht, hn, L, hz, ok, hlen, q⟩ := h
    have hr2 := hr.mono (show 2 ≤ 5 by decide)
    refine rb_exprR (re_call GD hr FD.g FD.F.kp FD.b (ra_cons (XV.go (xv_name 0 rfl) fun Ha sa => ra_cons (XV.go (xv_name 1 rfl) fun Hb sb => ra_cons (XV.go (xv_name 2 rfl) fun Hc sc => ra_1 (XV.go (xv_name 3 rfl) fun Hd sd =>
      ⟨M, a, off, _, t, rule, d, rfl, hx, ht, L.mono (((sa.trans sb).trans sc).trans sd), hz.up (hid_mono (((sa.trans sb).trans sc).trans sd)), fun H1 s1 => ?_⟩))))))
    have s01 : Same H H1 := ((((sa.trans sb).trans sc).trans sd).trans s1)
    have L1 := L.mono s01
    refine rb_ifF ((xt_not (xt_val (M := M) (xd_call L1 GI hr2 FI.g FI.F.kp FI.b (xa_cons (xv_name 4 rfl).int (xa_cons xd_int (xa_cons (xv_glob (v := .int 200) hM ⟨tk, rfl⟩).int xa_nil))) ⟨(n : Int), 0, 200, rfl, rfl⟩))).to ?_) fun H2 s2 => ?_
    · rw [decide_eq_true (show (0 : Int) ≤ (n : Int) by omega), decide_eq_true (show (n : Int) ≤ 200 by omega)]
      rfl
    have s02 := s01.trans s2
    have L2' := L.mono s02
    have hz2 := hz.up (hid_mono (M := M) s02)
    refine rb_retR (XL.go (M := M) (xl_rngD (own := [("later", 5)]) n (by omega) (fun i => dueD t rule off st (d + (i : Int))) T.rng L2' scDailyL.nd (xv_name 4 rfl).int
      (blkOk_by (own := [("later", 5)]) (N := ["zone", "time", "rule", "day", "many", "later"]) (sc := defScope sDailyL) (by decide +kernel)) (fun p i H3 hi hp s3 Lp => ?_)) fun p xs H3 s3 hp h3 hx3 => q p xs H3 (s02.trans s3) (s02.free hp) h3 hx3)
    intro s0 H0 C0 cl fp
    refine rg_name 5 ?_ scDailyL.nd
    refine ⟨rfl, Same.refl _, fun s0 H0 C0 cl fp => ?_⟩
    have hz3 : ZAt K C (hid (p :: M) H3) a off (rowsP off st) := hz2.up (hid_step hp s3)
    exact XD.go (xd_place (M := p :: M) Lp Z.cl MP.m GP hr MP.b (xv_name 0 rfl) hz3 ok hlen hx (xd_call Lp GO hr FO.g FO.F.kp FO.b (xa_cons (xd_add (xv_name 3 rfl).int (xv_name 5 rfl).int) (xa_cons (xv_name 1 rfl).int xa_nil)) ⟨d + (i : Int), t, rfl, ht, rfl⟩) (xd_name 2 rfl (.str rule)))
      fun v H4 s4 hv => ⟨s4, hv⟩
end
end Zn

set_option Elab.async false
set_option linter.all false
set_option maxRecDepth 100000
set_option maxHeartbeats 8000000
namespace Zn
open PySem PySem.Spec PyProof.Rows L2 Dl
/-! k31: touched_days -/
def t3D (w : Str) (r : Row) : PyData := .tuple [.int (loR r), .int (hiR r), .str w]
def d3D (t : Int) (w : Str) (r : Row) : PyData := .tuple [.int (dayR t r), .int (loR r), .str w]
def fWord (w : Str) : PyData → Option PyData
  | .tuple [a, b] => some (.tuple [a, b, .str w])
  | _ => none
theorem fm_gaps (rs : List Row) : (gapsOf rs).filterMap (fWord "gap") = (rs.filter fun r => decide (0 < jmp r)).map (t3D "gap") := by
  unfold gapsOf
  induction rs with
  | nil => rfl
  | cons r rs ih =>
    by_cases z : 0 < jmp r
    · rw [List.filterMap_cons, if_pos z, List.filter_cons_of_pos (by simpa using z), List.map_cons, ← ih]
      rfl
    · rw [List.filterMap_cons, if_neg z, List.filter_cons_of_neg (by simpa using z), ← ih]
theorem fm_folds (rs : List Row) : (foldsOf rs).filterMap (fWord "fold") = (rs.filter fun r => decide (jmp r < 0)).map (t3D "fold") := by
  unfold foldsOf
  induction rs with
  | nil => rfl
  | cons r rs ih =>
    by_cases z : jmp r < 0
    · rw [List.filterMap_cons, if_pos z, List.filter_cons_of_pos (by simpa using z), List.map_cons, ← ih]
      rfl
    · rw [List.filterMap_cons, if_neg z, List.filter_cons_of_neg (by simpa using z), ← ih]
def fDay (t : Int) : PyData → Option PyData
  | .tuple [.int lo, .int hi, w] => some (.tuple [.int ((hi - 1 - t) / 1440), .int lo, w])
  | _ => none
def fTou (t : Int) : PyData → Option PyData
  | .tuple [.int d, .int lo, .str w] => if lo ≤ d * 1440 + t then some (.tuple [.int d, .str w]) else none
  | _ => none
theorem fm_tou (t : Int) (w : Str) (rs : List Row) : (rs.map (d3D t w)).filterMap (fTou t) = (rs.filterMap (touR t w)).map encIS := by
  induction rs with
  | nil => rfl
  | cons r rs ih =>
    rw [List.map_cons, List.filterMap_cons, List.filterMap_cons]
    by_cases z : loR r ≤ dayR t r * 1440 + t
    · have e1 : fTou t (d3D t w r) = some (encIS (dayR t r, w)) := if_pos z
      have e2 : touR t w r = some (dayR t r, w) := if_pos z
      rw [e1, e2, List.map_cons, ← ih]
    · have e1 : fTou t (d3D t w r) = none := if_neg z
      have e2 : touR t w r = none := if_neg z
      rw [e1, e2, ← ih]
theorem mem_torn {rs : List Row} {d : PyData} (h : d ∈ gapsOf rs ∨ d ∈ foldsOf rs) : ∃ r, d = tornD r := by
  rcases h with h | h
  · obtain ⟨r, _, e⟩ := List.mem_filterMap.mp h
    split at e
    · cases e; exact ⟨r, rfl⟩
    · cases e
  · obtain ⟨r, _, e⟩ := List.mem_filterMap.mp h
    split at e
    · cases e; exact ⟨r, rfl⟩
    · cases e
theorem torn_at {K : PySem.W.Frag} {H : Hp} {v : V} {r : Row} (h : Dq K H v (tornD r)) : ∃ p, v = .ref p ∧ SqT K H p [.int (loR r), .int (hiR r)] := by
  obtain ⟨p, xs, rfl, hp, hx⟩ := dp_tup h
  cases hx with
  | cons a1 hx => cases hx with
    | cons a2 hx => cases hx; rw [dp_int a1, dp_int a2] at hp; exact ⟨p, rfl, hp⟩
theorem t3_at {K : PySem.W.Frag} {H : Hp} {v : V} {a b : Int} {w : Str} (h : Dq K H v (.tuple [.int a, .int b, .str w])) : ∃ p, v = .ref p ∧ SqT K H p [.int a, .int b, .str w] := by
  obtain ⟨p, xs, rfl, hp, hx⟩ := dp_tup h
  cases hx with
  | cons a1 hx => cases hx with
    | cons a2 hx => cases hx with
      | cons a3 hx => cases hx; rw [dp_int a1, dp_int a2, dp_str a3] at hp; exact ⟨p, rfl, hp⟩
theorem gaps_len (rs : List Row) : (gapsOf rs).length ≤ rs.length := List.length_filterMap_le ..
theorem folds_len (rs : List Row) : (foldsOf rs).length ≤ rs.length := List.length_filterMap_le ..
def gR (rs : List Row) : List Row := rs.filter fun r => decide (0 < jmp r)
def fR (rs : List Row) : List Row := rs.filter fun r => decide (jmp r < 0)
theorem gR_len (rs : List Row) : (gR rs).length ≤ rs.length := List.length_filter_le ..
theorem fR_len (rs : List Row) : (fR rs).length ≤ rs.length := List.length_filter_le ..
section
variable {X : Cx} {M : List Addr} {σ : L2.St} {H : Hp} {e o : Expr} {C : Addr} {off : Int} {rs : List Row} {pos apos p1 : Pos} {f : Addr} {fd : FuncData}
/-- o.m(), a new list -/
theorem xl_z {m : Str} {g : Int → List Row → List PyData} {k : Nat} {pl : Sem Bool} (L : Live M H) (hc : Cls X.K C) (hM : Meth X.K C m f) (h1 : (m == ("base" : Str)) = false) (h2 : (m == ("rows" : Str)) = false) (F : FnOk X.prog X.w X.K X.mg X.base CX0 k f fd ["self"] (spML X.K C g)) (hr : Room k X.A) (hb : Binds X.K fd ["self"] [])
    (ho : XZ C X M σ H o off rs) (hlen : rs.length ≤ 1000)
    (ht : eval (.Call (.Attribute o m apos) [] [] pos) X.env = (do
      let ov ← eval o X.env
      standAt apos.atName
      let (f, first) ← holding [ov] (getMethod ov m pl)
      callWith pos f first (backTo pos (starEach [] X.env)) (backToKw pos (keywordEach [] X.env))) := by rfl) : XL X M σ H (.Call (.Attribute o m apos) [] [] pos) (g off rs) := fun H1 s Q q =>
  ⟨_, pe_meth0 re_ hc hM F hr hb .nil pass0 ht, ho H1 s _ fun y H2 s2 hz => by
    obtain ⟨dx, r, e1, e2⟩ := hz
    exact ⟨y, dx, _, rfl, hid_le _ _ e1, zf_none off r h1 h2, M, y, off, rs, rfl, L.mono (s.trans s2), ⟨dx, r, e1, e2⟩, hlen, fun p xs H3 s3 hp h3 hd => q p xs H3 (s2.trans s3) (s2.free hp) h3 hd⟩⟩
end
section
variable {P : Program} {w : World} {K : PySem.W.Frag} {mg : Str → Option Value} {base : Heap} {C : Addr}
def spTouch (K : PySem.W.Frag) (C : Addr) : Sp := fun vs H Q _ => ∃ (M : List Addr) (a : Addr) (off : Int) (st : List Step) (t : Int), vs = [.ref a, .int t] ∧ (0 ≤ t ∧ t ≤ 1439) ∧ Live M H ∧ ZAt K C (hid M H) a off (rowsP off st) ∧ okS st ∧ st.length ≤ 50 ∧
  ∀ p xs H1, Same H H1 → H p = none → H1 p = some (.lst xs) → DqAll K (hid M H1) xs ((touL t (rowsP off st)).map encIS) → Q (.ref p) H1
theorem scTouch : FnScope ["zone", "time", "torn", "days", "low", "high", "word", "day"] ["zone", "time"] (defScope sTouch) := ⟨rfl, rfl, rfl, by decide +kernel, rfl, by decide +kernel, by decide +kernel⟩
abbrev touN : List Str := ["zone", "time", "torn", "days", "low", "high", "word", "day"]
theorem ok_touch {f fZ fT fD fO fg ff : Addr} {fd fdZ fdT fdD fdO fdg fdf : FuncData} (T : Nm mg) (hS : mg "sorted" = none) (Z : ZT K mg C) (GZ : FnOk P w K mg base CX0 1 fZ fdZ ["value"] (spNeedZ K C)) (FZ : Df K mg "need_zone" sNeedZ ["value"] fZ fdZ)
    (GT : FnOk P w K mg base CX0 4 fT fdT ["value"] (spR K RNeedT)) (FT : Df K mg "need_time" sNeedT ["value"] fT fdT) (GD : FnOk P w K mg base CX0 3 fD fdD ["reading"] (spR K RDay)) (FD : Df K mg "day_of" sDayOf ["reading"] fD fdD)
    (GO : FnOk P w K mg base CX0 5 fO fdO ["day", "time"] (spR K RRead)) (FO : Df K mg "reading_of" sReadOf ["day", "time"] fO fdO)
    (Gg : FnOk P w K mg base CX0 2 fg fdg ["self"] (spML K C fun _ rs => gapsOf rs)) (Mg : Mt K C "gaps" "Zone.gaps" sGaps ["self"] fg fdg) (Gf : FnOk P w K mg base CX0 2 ff fdf ["self"] (spML K C fun _ rs => foldsOf rs)) (Mf : Mt K C "folds" "Zone.folds" sFolds ["self"] ff fdf)
    (F : Df K mg "touched_days" sTouch ["zone", "time"] f fd) : FnOk P w K mg base CX0 6 f fd ["zone", "time"] (spTouch K C) := by
  refine F.F.ok scTouch (fun vs H Q E h => ?_) (fun cdv A outer s H vs Q E hr h => ?_)
  · obtain ⟨M, a, off, st, t, rfl, _⟩ := h; rfl
  · obtain ⟨M, a, off, st, t, rfl, ht, L, hz, ok, hlen, q⟩ := h
    have hr4 := hr.mono (show 4 ≤ 5 by decide)
    have hr3 := hr.mono (show 3 ≤ 5 by decide)
    have hr2 := hr.mono (show 2 ≤ 5 by decide)
    have hr1 := hr.mono (show 1 ≤ 5 by decide)
    have hrl : (rowsP off st).length ≤ 50 := by rw [rowsP_len]; exact hlen
    have hjm := rows_jmp off ok
    have hasc := tou_asc ht off ok
    have hperm := tou_perm t hjm
    generalize hrs : rowsP off st = rs at hz hrl hjm hasc hperm q
    have lg := gaps_len rs
    have lf := folds_len rs
    have lgR := gR_len rs
    have lfR := fR_len rs
    refine rb_exprR (re_call GZ hr1 FZ.g FZ.F.kp FZ.b (ra_1 (XV.go (xv_name 0 rfl) fun H0 s0 => ⟨M, a, off, rs, rfl, hz.up (hid_mono s0), fun H1 s1 => ?_⟩)))
    have L1 := (L.mono s0).mono s1
    refine rb_expr (M := M) (d := .none) (xd_call L1 GT hr4 FT.g FT.F.kp FT.b (xa_cons (xv_name 1 rfl).int xa_nil) ⟨t, rfl, ht, rfl⟩) fun H2 s2 => ?_
    have s02 := (s0.trans s1).trans s2
    have L2' := L.mono s02
    have hz2 := hz.up (hid_mono (M := M) s02)
    refine rb_setL (M := M) (ds := (gR rs).map (t3D "gap") ++ (fR rs).map (t3D "fold")) 2 (xl_cat L2' (XL.dd ((xl_comp (own := [("low", 4), ("high", 5)]) (fWord "gap") L2' scTouch.nd (XL.dd (xl_z (m := "gaps") (g := fun _ rs => gapsOf rs) L2' Z.cl Mg.m (by decide +kernel) (by decide +kernel) Gg hr2 Mg.b (xz_v (xv_name 0 rfl) hz2) (by omega)) L2')
        (blkOk_by (own := [("low", 4), ("high", 5)]) (N := touN) (sc := defScope sTouch) (by decide +kernel)) (by omega) (fun p d v H3 hd hp s3 Lp hv => ?c1)).to (fm_gaps rs)) L2')
      (XL.dd ((xl_comp (own := [("low", 4), ("high", 5)]) (fWord "fold") L2' scTouch.nd (XL.dd (xl_z (m := "folds") (g := fun _ rs => foldsOf rs) L2' Z.cl Mf.m (by decide +kernel) (by decide +kernel) Gf hr2 Mf.b (xz_v (xv_name 0 rfl) hz2) (by omega)) L2')
        (blkOk_by (own := [("low", 4), ("high", 5)]) (N := touN) (sc := defScope sTouch) (by decide +kernel)) (by omega) (fun p d v H3 hd hp s3 Lp hv => ?c2)).to (fm_folds rs)) L2') (by rw [List.length_map, List.length_map]; omega)) (fun p xs H3 s3 hp h3 hx3 => ?_) scTouch.nd
    case c1 =>
      obtain ⟨r, rfl⟩ := mem_torn (.inl hd)
      obtain ⟨tp, rfl, htp⟩ := torn_at hv
      intro s0 H0 C0 cl fp
      refine rg_tup (same_seqT hid_le htp) (rgs_cons (rg_name 4 (rgs_cons (rg_name 5 (rgs_nil ?_) scTouch.nd)) scTouch.nd))
      refine ⟨rfl, bt_nil ⟨Same.refl _, .inl ⟨rfl, _, rfl, fun s0 H0 C0 cl fp => ?_⟩⟩⟩
      exact XD.go (xd_tup Lp (xa_cons (xv_name 4 rfl).int (xa_cons (xv_name 5 rfl).int (xa_cons xd_str xa_nil)))) fun v H4 s4 hv4 => ⟨s4, hv4⟩
    case c2 =>
      obtain ⟨r, rfl⟩ := mem_torn (.inr hd)
      obtain ⟨tp, rfl, htp⟩ := torn_at hv
      intro s0 H0 C0 cl fp
      refine rg_tup (same_seqT hid_le htp) (rgs_cons (rg_name 4 (rgs_cons (rg_name 5 (rgs_nil ?_) scTouch.nd)) scTouch.nd))
      refine ⟨rfl, bt_nil ⟨Same.refl _, .inl ⟨rfl, _, rfl, fun s0 H0 C0 cl fp => ?_⟩⟩⟩
      exact XD.go (xd_tup Lp (xa_cons (xv_name 4 rfl).int (xa_cons (xv_name 5 rfl).int (xa_cons xd_str xa_nil)))) fun v H4 s4 hv4 => ⟨s4, hv4⟩
    have L3 := L2'.mono s3
    have k3 : Dq K (hid M H3) (.ref p) (.list ((gR rs).map (t3D "gap") ++ (fR rs).map (t3D "fold"))) := .lst (by rw [hid_of (L2'.fresh hp)]; exact h3) hx3
    have hmem : ∀ d ∈ (gR rs).map (t3D "gap") ++ (fR rs).map (t3D "fold"), ∃ r w, d = t3D w r := fun d hd => by
      rcases List.mem_append.mp hd with hd | hd
      · obtain ⟨r, _, e⟩ := List.mem_map.mp hd
        exact ⟨r, _, e.symm⟩
      · obtain ⟨r, _, e⟩ := List.mem_map.mp hd
        exact ⟨r, _, e.symm⟩
    have hfm : ((gR rs).map (t3D "gap") ++ (fR rs).map (t3D "fold")).filterMap (fDay t) = (gR rs).map (d3D t "gap") ++ (fR rs).map (d3D t "fold") := by
      rw [List.filterMap_append, fm_map (t3D "gap") (fDay t) (d3D t "gap") (fun _ => rfl), fm_map (t3D "fold") (fDay t) (d3D t "fold") (fun _ => rfl)]
    refine rb_setC0 3 (M := M) (own := [("low", 4), ("high", 5), ("word", 6)]) (fDay t) L3 scTouch.nd (xd_name 2 rfl k3) (blkOk_by (own := [("low", 4), ("high", 5), ("word", 6)]) (N := touN) (sc := defScope sTouch) (by decide +kernel)) (by rw [List.length_append, List.length_map, List.length_map]; omega) (fun p d v H4 hd hp s4 Lp hv => ?c3) (fun p4 xs4 H4 s4 hp4 h4 hx4 => ?_)
    case c3 =>
      obtain ⟨r, w, rfl⟩ := hmem d hd
      obtain ⟨tp, rfl, htp⟩ := t3_at hv
      intro s0 H0 C0 cl fp
      refine rg_tup (same_seqT hid_le htp) (rgs_cons (rg_name 4 (rgs_cons (rg_name 5 (rgs_cons (rg_name 6 (rgs_nil ?_) scTouch.nd)) scTouch.nd)) scTouch.nd))
      refine ⟨rfl, bt_nil ⟨Same.refl _, .inl ⟨rfl, _, rfl, fun s0 H0 C0 cl fp => ?_⟩⟩⟩
      exact XD.go (xd_tup Lp (xa_cons (xd_call Lp GD hr3 FD.g FD.F.kp FD.b (xa_cons (xd_sub (xd_sub (xv_name 5 rfl).int xd_int) (xv_name 1 rfl).int) xa_nil) ⟨hiR r - 1 - t, rfl, rfl⟩) (xa_cons (xv_name 4 rfl).int (xa_cons (xd_name 6 rfl (.str w)) xa_nil)))) fun v H4 s4 hv4 => ⟨s4, hv4⟩
    rw [hfm] at hx4
    have L4 := L3.mono s4
    have k4 : Dq K (hid M H4) (.ref p4) (.list ((gR rs).map (d3D t "gap") ++ (fR rs).map (d3D t "fold"))) := .lst (by rw [hid_of (L3.fresh hp4)]; exact h4) hx4
    have s04 := (s02.trans s3).trans s4
    have hmem4 : ∀ d ∈ (gR rs).map (d3D t "gap") ++ (fR rs).map (d3D t "fold"), ∃ r w, d = d3D t w r := fun d hd => by
      rcases List.mem_append.mp hd with hd | hd
      · obtain ⟨r, _, e⟩ := List.mem_map.mp hd
        exact ⟨r, _, e.symm⟩
      · obtain ⟨r, _, e⟩ := List.mem_map.mp hd
        exact ⟨r, _, e.symm⟩
    have hfm4 : ((gR rs).map (d3D t "gap") ++ (fR rs).map (d3D t "fold")).filterMap (fTou t) = ((gR rs).filterMap (touR t "gap") ++ (fR rs).filterMap (touR t "fold")).map encIS := by
      rw [List.filterMap_append, fm_tou, fm_tou, List.map_append]
    refine rb_retR (XL.go (M := M) (xl_sortedIS (bs := (gR rs).filterMap (touR t "gap") ++ (fR rs).filterMap (touR t "fold")) (cs := touL t rs) hr.units hS L4 (XL.dd ((xl_comp (own := [("day", 7), ("low", 4), ("word", 6)]) (fTou t) L4 scTouch.nd (xd_name 3 rfl k4)
      (blkOk_by (own := [("day", 7), ("low", 4), ("word", 6)]) (N := touN) (sc := defScope sTouch) (by decide +kernel)) (by rw [List.length_append, List.length_map, List.length_map]; omega) (fun p d v H5 hd hp s5 Lp hv => ?c4)).to hfm4) L4) ?_ hperm hasc) fun p5 xs5 H5 s5 hp5 h5 hx5 => q p5 xs5 H5 (s04.trans s5) (s04.free hp5) h5 hx5)
    case c4 =>
      obtain ⟨r, w, rfl⟩ := hmem4 d hd
      obtain ⟨tp, rfl, htp⟩ := t3_at hv
      intro s0 H0 C0 cl fp
      refine rg_tup (same_seqT hid_le htp) (rgs_cons (rg_name 7 (rgs_cons (rg_name 4 (rgs_cons (rg_name 6 (rgs_nil ?_) scTouch.nd)) scTouch.nd)) scTouch.nd))
      refine ⟨rfl, bt_one (k := decide (loR r ≤ dayR t r * 1440 + t)) (fun s0 H0 C0 cl fp => xt_cmpI (M := p :: M) op_le (xv_name 4 rfl).int (xd_call Lp GO hr FO.g FO.F.kp FO.b (xa_cons (xv_name 7 rfl).int (xa_cons (xv_name 1 rfl).int xa_nil)) ⟨dayR t r, t, rfl, ht, rfl⟩)) fun H6 s6 => ⟨s6, ?_⟩⟩
      by_cases c : loR r ≤ dayR t r * 1440 + t
      · refine .inl ⟨decide_eq_true c, encIS (dayR t r, w), if_pos c, fun s0 H0 C0 cl fp => ?_⟩
        exact XD.go (xd_tup (Lp.mono s6) (xa_cons (xv_name 7 rfl).int (xa_cons (xd_name 6 rfl (.str w)) xa_nil))) fun v H7 s7 hv7 => ⟨s7, hv7⟩
      · exact .inr ⟨decide_eq_false c, if_neg c⟩
    · have a1 : ((gR rs).filterMap (touR t "gap")).length ≤ (gR rs).length := List.length_filterMap_le ..
      have a2 : ((fR rs).filterMap (touR t "fold")).length ≤ (fR rs).length := List.length_filterMap_le ..
      rw [List.length_append]
      omega
end
end Zn

set_option Elab.async false
set_option linter.all false
set_option maxRecDepth 100000
set_option maxHeartbeats 8000000
namespace Zn
open PySem PySem.Spec PyProof.Rows L2 Dl
/-! k31: the law's own days and times -/
abbrev sLTou : Stmt := top 48
abbrev sLTimes : Stmt := top 49
section
variable {X : Cx} {M : List Addr} {σ : L2.St} {H H' : Hp} {a b c k : Expr} {pos : Pos} {d1 d2 : PyData}
theorem xd_ifE {t : Bool} (hc : XT X σ H k t) (ha : XD X M σ H a d1) (hb : XD X M σ H b d2) : XD X M σ H (.IfExp k a b pos) (if t = true then d1 else d2) := by
  cases t with
  | true => exact xd_ifT hc ha
  | false => exact xd_ifF hc hb
end
def RLTou (ds es : List PyData) : Prop := ∃ (f : Int) (st : List Step) (t : Int), ds = [planD f st, .int t] ∧ (0 ≤ t ∧ t ≤ 1439) ∧ PlanOk f st ∧ es = (touL t (rowsP f st)).map encIS
section
variable {P : Program} {w : World} {K : PySem.W.Frag} {mg : Str → Option Value} {base : Heap} {C : Addr}
theorem scLTou : FnScope ["_law_plan", "_law_time", "_law_found", "_law_offset_here", "_law_moment", "_law_jump", "_law_low", "_law_high", "_law_day"] ["_law_plan", "_law_time"] (defScope sLTou) := ⟨rfl, rfl, rfl, by decide +kernel, rfl, by decide +kernel, by decide +kernel⟩
theorem ok_ltou {f : Addr} {fd : FuncData} (T : Nm mg) (F : Df K mg "_law_touched" sLTou ["_law_plan", "_law_time"] f fd) : FnOk P w K mg base CX0 1 f fd ["_law_plan", "_law_time"] (spL K RLTou) := by
  refine F.F.ok scLTou (fun vs H Q E h => ?_) (fun cdv A outer s H vs Q E hr h => ?_)
  · obtain ⟨M, ds, es, L, hd, ⟨f, st, t, rfl, _⟩, q⟩ := h
    exact dpa_len hd
  · obtain ⟨M, ds, es, L, hd, ⟨f, st, t, rfl, ht, hpl, rfl⟩, q⟩ := h
    have hlen := hpl.len
    have ok := hpl.ok
    cases hd with
    | cons h1 h2 => cases h2 with
      | cons h2 h3 =>
      cases h3
      rename_i v0 v1
      have e1 := dp_int h2
      subst e1
      refine rb_parR 2 3 (ra_cons (XL.go (xl_lst L xa_nil) fun p xs H1 s1 hp h1p hxs => ra_1 (XD.go (xd_ixT (fun _ _ => rfl) (xd_name 0 rfl (h1.up (hid_mono s1))) xd_int plan0) fun v2 H2 s2 hv2 => ⟨_, _, rfl, ?_⟩))) scLTou.nd
      cases hxs
      have e2 := dp_int hv2
      subst e2
      have s12 := s1.trans s2
      have g0 : Same (hid M H) (hid (p :: M) H2) := hid_step hp s12
      have Lp : Live (p :: M) H2 := fun b hb => by
        rcases List.mem_cons.mp hb with z | hb
        · subst z; rw [s2 _ _ h1p]; simp
        · exact L.mono s12 b hb
      have k1 := h1.up g0
      refine rb_for (M := p :: M) (xd_ixT (fun _ _ => rfl) (xd_name 0 rfl k1) xd_int plan1) fun H3 s3 => ⟨fun k σ' H' => Same (hid (p :: M) H3) (hid (p :: M) H') ∧ Live (p :: M) H' ∧ Same H H' ∧ ∃ (xs : List V) (a4 a5 a6 a7 a8 : Option V), σ' = [some v0, some (.int t), some (.ref p), some (.int (offS f (st.take k))), a4, a5, a6, a7, a8] ∧ H' p = some (.lst xs) ∧ DqAll K (hid (p :: M) H') xs ((touL t ((rowsP f st).take k)).map encIS),
        ⟨Same.refl _, Lp.mono s3, s12.trans s3, [], none, none, none, none, none, rfl, s3 _ _ (s2 _ _ h1p), .nil⟩, fun k σ' H' w => w.1, fun k it hk σ' H' v hw hv => ?_, fun σ' H' hw => ?_⟩
      · obtain ⟨z1, L4, z2, xs, a4, a5, a6, a7, a8, rfl, hp4, hx4⟩ := hw
        obtain ⟨sx, hsx, rfl⟩ := map_get hk
        have hrow := rowsP_at f st k sx hsx
        have hklt : k < st.length := (List.getElem?_eq_some_iff.mp hsx).1
        have hjr := rows_jmp f ok _ (List.mem_of_getElem? hrow)
        have hw1 := row_w hjr
        have hbg := hpl.big sx (List.mem_of_getElem? hsx)
        have hoo := offS_small f (st.take k) fun u hu => ok.1 u (List.mem_of_mem_take hu)
        have htl : (st.take k).length ≤ 19 := by rw [List.length_take]; omega
        have hf0 := hpl.f0
        have hf1 := hpl.f1
        have hj0 := ok.1 sx (List.mem_of_getElem? hsx)
        unfold okJ at hj0
        obtain ⟨tp, rfl, htp⟩ := step_at hv
        refine rg_tup (same_seqT hid_le htp) (rgs_cons (rg_name 4 (rgs_cons (rg_name 5 (rgs_nil ?_) scLTou.nd)) scLTou.nd))
        have hsn := touL_snoc t ((rowsP f st).take k) (sx.1, offS f (st.take k), offS f (st.take k) + sx.2)
        rw [← take_snoc hrow] at hsn
        have htk : (touL t ((rowsP f st).take k)).length ≤ 19 := by
          have a := touL_len t ((rowsP f st).take k)
          rw [List.length_take] at a
          omega
        generalize hoe : offS f (st.take k) = oo at hrow hjr hw1 hoo hsn
        have hlo : -(2 ^ 60) < loR (sx.1, oo, oo + sx.2) ∧ loR (sx.1, oo, oo + sx.2) < 2 ^ 60 := by
          show _ < sx.1 + (if oo + sx.2 < oo then oo + sx.2 else oo) ∧ sx.1 + (if oo + sx.2 < oo then oo + sx.2 else oo) < _
          split <;> omega
        refine rb_par (M := p :: M) (d1 := .int (loR (sx.1, oo, oo + sx.2))) (d2 := .int (hiR (sx.1, oo, oo + sx.2))) 6 7 (xa_cons (xd_add (xv_name 4 rfl).int (xd_min T.min (xa_cons (xv_name 3 rfl).int (xa_cons (xd_add (xv_name 3 rfl).int (xv_name 5 rfl).int) xa_nil))))
              (xa_cons (xd_add (xv_name 4 rfl).int (xd_max T.max (xa_cons (xv_name 3 rfl).int (xa_cons (xd_add (xv_name 3 rfl).int (xv_name 5 rfl).int) xa_nil)))) xa_nil)) (fun v6 v7 H5 s5 hv6 hv7 => ?_) scLTou.nd
        have e6 := dp_int hv6
        subst e6
        have e7 := dp_int hv7
        subst e7
        have hda := days_all ht hjr (wordR (sx.1, oo, oo + sx.2))
        have hwd : wordR (sx.1, oo, oo + sx.2) = if decide (0 < sx.2) = true then ("gap" : Str) else "fold" := by
          have e : jmp (sx.1, oo, oo + sx.2) = sx.2 := by show oo + sx.2 - oo = _; omega
          unfold wordR
          rw [e]
          by_cases z : 0 < sx.2
          · rw [if_pos z, if_pos (decide_eq_true z)]
          · rw [if_neg z, if_neg (by simp [z])]
        generalize wordR (sx.1, oo, oo + sx.2) = wd at hda hwd hsn
        generalize loR (sx.1, oo, oo + sx.2) = lo at hw1 hlo hda
        generalize hiR (sx.1, oo, oo + sx.2) = hi at hw1 hda
        have L5 := L4.mono s5
        have en : hi / 1440 + 1 = lo / 1440 + ((hi / 1440 + 1 - lo / 1440).toNat : Int) := by omega
        generalize hnn : (hi / 1440 + 1 - lo / 1440).toNat = nn at en hda
        have hnn2 : nn ≤ 2 := by omega
        refine rb_range2 (M := p :: M) (lo := lo / 1440) (n := nn) T.rng (by omega) (by omega) (xd_div (xv_name 6 rfl).int xd_int (cdiv (by decide) (by decide))) ((xd_add (xd_div (xv_name 7 rfl).int xd_int (cdiv (by decide) (by decide))) xd_int).to (congrArg PyData.int en)) fun H6 s6 => ?_
        refine ⟨fun i σ' H9 => Same (hid (p :: M) H6) (hid (p :: M) H9) ∧ Live (p :: M) H9 ∧ Same H H9 ∧ ∃ (xs : List V) (a8 : Option V), σ' = [some v0, some (.int t), some (.ref p), some (.int oo), some (.int sx.1), some (.int sx.2), some (.int lo), some (.int hi), a8] ∧ H9 p = some (.lst xs) ∧ DqAll K (hid (p :: M) H9) xs ((touL t ((rowsP f st).take k) ++ daysI lo hi t wd i).map encIS),
          ⟨Same.refl _, L5.mono s6, (z2.trans s5).trans s6, xs, a8, ?start, s6 _ _ (s5 _ _ hp4), ?data⟩, fun i σ' H9 hi9 hw => ?_, fun σ' H9 hw => ?_⟩
        case start => rfl
        case data => exact (by show DqAll K (hid (p :: M) H6) xs ((touL t ((rowsP f st).take k) ++ []).map encIS); rw [List.append_nil]; exact (hx4.up (hid_mono s5)).up (hid_mono s6))
        · obtain ⟨y1, L7, y2, ys, a8, rfl, hp7, hx7⟩ := hw
          have hys : ys.length < 100000 := by
            rw [dpa_len hx7, List.length_map, List.length_append]
            have a := List.length_filterMap_le (dayI lo hi t wd) (List.range i)
            rw [List.length_range] at a
            show _ + (List.filterMap (dayI lo hi t wd) (List.range i)).length < _
            omega
          refine rg_name 8 ?_ scLTou.nd
          refine rb_if (xt_chainI (M := p :: M) op_le op_lt (xv_name 6 rfl).int (xd_add (xd_mul xd_int (xv_name 8 rfl).int (.inl (by decide))) (xv_name 1 rfl).int) (xv_name 7 rfl).int) (fun e H8 s8 => ?_) (fun e H8 s8 => rb_nil (rb_nil ?_))
          · have ec : lo ≤ 1440 * (lo / 1440 + (i : Int)) + t ∧ 1440 * (lo / 1440 + (i : Int)) + t < hi := by
              rw [Bool.and_eq_true] at e
              exact ⟨of_decide_eq_true e.1, of_decide_eq_true e.2⟩
            refine rb_append (M := p :: M) (d := encIS (lo / 1440 + (i : Int), wd)) (xs := ys) (List.mem_cons_self ..) (xv_name 2 rfl) (s8 _ _ hp7)
              (xd_tup (L7.mono s8) (xa_cons (xv_name 8 rfl).int (xa_cons ((xd_ifE (xt_cmpI (M := []) op_gt (xv_name 5 rfl).int xd_int) xd_str xd_str).to ?_) xa_nil))) hys fun v9 H9 s9 hv9 => rb_nil (rb_nil ?_)
            · rw [hwd]
              by_cases z : decide (0 < sx.2) = true
              · rw [if_pos z]
                exact congrArg PyData.str (if_pos z).symm
              · rw [if_neg z]
                exact congrArg PyData.str (if_neg z).symm
            have s79 := s8.trans s9
            refine ⟨?_, (L7.mono s79).upd, same_upd (y2.trans s79) hp, ys ++ [v9], _, rfl, upd_same, ?_⟩
            · rw [hid_cons_upd]; exact y1.trans (hid_mono s79)
            · rw [hid_cons_upd, daysI_succ]
              have e9 : dayI lo hi t wd i = some (lo / 1440 + (i : Int), wd) := if_pos ec
              rw [e9, ← List.append_assoc, List.map_append]
              exact dpa_app (hx7.up (hid_mono s79)) (.cons hv9 .nil)
          · have ec : ¬ (lo ≤ 1440 * (lo / 1440 + (i : Int)) + t ∧ 1440 * (lo / 1440 + (i : Int)) + t < hi) := fun z => by
              have e' : (decide (lo ≤ 1440 * (lo / 1440 + (i : Int)) + t) && decide (1440 * (lo / 1440 + (i : Int)) + t < hi)) = false := e
              rw [decide_eq_true z.1, decide_eq_true z.2] at e'
              cases e'
            refine ⟨y1.trans (hid_mono s8), L7.mono s8, y2.trans s8, ys, _, rfl, s8 _ _ hp7, ?_⟩
            rw [daysI_succ]
            have e9 : dayI lo hi t wd i = none := if_neg ec
            rw [e9]
            show DqAll K _ ys ((touL t ((rowsP f st).take k) ++ (daysI lo hi t wd i ++ [])).map encIS)
            rw [List.append_nil]
            exact hx7.up (hid_mono s8)
        · obtain ⟨y1, L7, y2, ys, a8, rfl, hp7, hx7⟩ := hw
          rw [hda, ← hsn] at hx7
          refine rb_set 3 (M := p :: M) (xd_add (xv_name 3 rfl).int (xv_name 5 rfl).int) (fun v10 H10 s10 hv10 => rb_nil ?_) scLTou.nd
          have e10 := dp_int hv10
          subst e10
          refine ⟨((z1.trans (hid_mono s5)).trans (hid_mono s6)).trans (y1.trans (hid_mono s10)), L7.mono s10, y2.trans s10, ys, some (.int sx.1), some (.int sx.2), some (.int lo), some (.int hi), a8, ?_, s10 _ _ hp7, hx7.up (hid_mono s10)⟩
          rw [take_snoc hsx, off_snoc, hoe]
          rfl
      · obtain ⟨z1, L4, z2, xs, a4, a5, a6, a7, a8, rfl, hp4, hx4⟩ := hw
        refine rb_retR (XV.go (xv_name 2 rfl) fun H5 s5 => q p xs H5 (z2.trans s5) hp (s5 _ _ hp4) ?_)
        rw [List.length_map, ← rowsP_len f st, List.take_length] at hx4
        exact (hx4.up (hid_mono (M := p :: M) s5)).up hid_weak
/-! times -/
def spTimes (K : PySem.W.Frag) : Sp := fun vs H Q _ => ∃ (b : Addr) (vp : V) (f : Int) (st : List Step) (n : Nat), vs = [.ref b, vp] ∧ BagAt H b n ∧ n ≤ 10000 ∧ Dq K (hid [b] H) vp (planD f st) ∧ st.length ≤ 50 ∧
  ∀ (p : Addr) (ts : List Int) (H1 : Hp), SameB b H H1 → BagAt H1 b (n + 1) → H p = none → H1 p = some (.lst (ts.map V.int)) → 3 ≤ ts.length → ts.length ≤ 300 → (∀ x ∈ ts, (0 : Int) ≤ x ∧ x ≤ 1439) → Q (.ref p) H1
theorem scLTimes : FnScope ["_law_bag_here", "_law_plan", "_law_found", "_law_offset_here", "_law_moment", "_law_jump", "_law_reading"] ["_law_bag_here", "_law_plan"] (defScope sLTimes) := ⟨rfl, rfl, rfl, by decide +kernel, rfl, by decide +kernel, by decide +kernel⟩
theorem ok_ltimes {f fT : Addr} {fd fdT : FuncData} (FT : Df K mg "_law_take" sTake ["_law_bag_here", "_law_many"] fT fdT) (F : Df K mg "_law_times" sLTimes ["_law_bag_here", "_law_plan"] f fd) : FnOk P w K mg base CX0 2 f fd ["_law_bag_here", "_law_plan"] (spTimes K) := by
  have GT : FnOk P w K mg base CX0 1 fT fdT ["_law_bag_here", "_law_many"] spTake := ok_take FT
  refine F.F.ok scLTimes (fun vs H Q E h => ?_) (fun cdv A outer s H vs Q E hr h => ?_)
  · obtain ⟨b, vp, f, st, n, rfl, _⟩ := h; rfl
  · obtain ⟨b, v0, f, st, n, rfl, hB, hn, h1, hlen, q⟩ := h
    refine rb_parR 2 3 (ra_cons ⟨_, pe_lst ra_, ra_int xv_int fun Ha sa => ra_int xv_int fun Hb sb => ra_1 (re_take GT FT hr (xv_name 0 rfl) xv_int (hB.up (sa.trans sb) (Nat.le_refl _)) fun r Hc r0 r1 sB hBc => ⟨by show 3 ≤ sizeLine; decide, fun p hp => ra_1 (XD.go (M := [p, b]) (d := .int f) (xd_ixT (fun _ _ => rfl) (xd_name (d := planD f st) 1 rfl ?k1) xd_int plan0) fun v2 H2 s2 hv2 => ⟨_, _, rfl, ?_⟩)⟩)⟩) scLTimes.nd
    case k1 => exact h1.up ((((SameB.of (sa.trans sb)).trans sB).hid (List.mem_singleton.mpr rfl)).trans (hid_step hp (same_new hp)))
    have sBc : SameB b H Hc := (SameB.of (sa.trans sb)).trans sB
    have g1 : Same (hid [b] H) (hid [p, b] (upd Hc p (.lst [.int 0, .int 1439, .int r]))) := (sBc.hid (List.mem_singleton.mpr rfl)).trans (hid_step hp (same_new hp))
    have e2 := dp_int hv2
    subst e2
    have hpb : p ≠ b := fun e => by rw [e] at hp; exact hBc.some hp
    have hp0 : H p = none := by
      cases e : H p with
      | none => rfl
      | some o =>
        have z := sBc p o hpb e
        rw [hp] at z
        cases z
    have sc2 : Same Hc H2 := (same_new hp).trans s2
    have h2p : H2 p = some (.lst ([0, 1439, r].map V.int)) := s2 _ _ upd_same
    have Lp : Live [p, b] H2 := fun y hy => by
      rcases List.mem_cons.mp hy with z | hy
      · subst z; rw [h2p]; simp
      · rw [List.mem_singleton.mp hy]
        exact (hBc.up sc2 (Nat.le_refl _)).some
    have k2 := (h1.up g1).up (hid_mono (M := [p, b]) s2)
    show RB _ _ _ [some (.ref b), some v0, some (.ref p), some (.int f), none, none, none] H2
    refine rb_for (M := [p, b]) (xd_ixT (fun _ _ => rfl) (xd_name 1 rfl k2) xd_int plan1) fun H3 s3 => ⟨fun k σ' H' => Same (hid [p, b] H3) (hid [p, b] H') ∧ Live [p, b] H' ∧ Same Hc H' ∧ ∃ (ts : List Int) (a4 a5 a6 : Option V), σ' = [some (.ref b), some v0, some (.ref p), some (.int (offS f (st.take k))), a4, a5, a6] ∧ H' p = some (.lst (ts.map V.int)) ∧ 3 ≤ ts.length ∧ ts.length ≤ 3 + 4 * k ∧ ∀ x ∈ ts, (0 : Int) ≤ x ∧ x ≤ 1439,
      ⟨Same.refl _, Lp.mono s3, sc2.trans s3, [0, 1439, r], none, none, none, rfl, s3 _ _ h2p, Nat.le_refl _, Nat.le_refl _, fun x hx => ?_⟩, fun k σ' H' w => w.1, fun k it hk σ' H' v hw hv => ?_, fun σ' H' hw => ?_⟩
    · simp only [List.mem_cons, List.not_mem_nil, or_false] at hx
      rcases hx with e | e | e <;> omega
    · obtain ⟨z1, L4, z2, ts, a4, a5, a6, rfl, hp4, hge, hle, hall⟩ := hw
      obtain ⟨sx, hsx, rfl⟩ := map_get hk
      have hklt : k < st.length := (List.getElem?_eq_some_iff.mp hsx).1
      obtain ⟨tp, rfl, htp⟩ := step_at hv
      refine rg_tup (same_seqT hid_le htp) (rgs_cons (rg_name 4 (rgs_cons (rg_name 5 (rgs_nil ?_) scLTimes.nd)) scLTimes.nd))
      generalize hoe : offS f (st.take k) = oo
      refine rb_for (M := [p, b]) (ds := [sx.1 + oo, sx.1 + oo + sx.2].map PyData.int) (xd_lst L4 (xa_cons (xd_add (xv_name 4 rfl).int (xv_name 3 rfl).int) (xa_cons (xd_add (xd_add (xv_name 4 rfl).int (xv_name 3 rfl).int) (xv_name 5 rfl).int) xa_nil))) fun H5 s5 => ⟨fun i σ' H' => Same (hid [p, b] H5) (hid [p, b] H') ∧ Live [p, b] H' ∧ Same Hc H' ∧ ∃ (ts : List Int) (a6 : Option V), σ' = [some (.ref b), some v0, some (.ref p), some (.int oo), some (.int sx.1), some (.int sx.2), a6] ∧ H' p = some (.lst (ts.map V.int)) ∧ 3 ≤ ts.length ∧ ts.length ≤ 3 + 4 * k + 2 * i ∧ ∀ x ∈ ts, (0 : Int) ≤ x ∧ x ≤ 1439,
        ⟨Same.refl _, L4.mono s5, z2.trans s5, ts, a6, rfl, s5 _ _ hp4, hge, hle, hall⟩, fun i σ' H' w => w.1, fun i it hi σ' H' v hw hv => ?_, fun σ' H' hw => ?_⟩
      · obtain ⟨y1, L6, y2, us, a6, rfl, hp6, uge, ule, uall⟩ := hw
        obtain ⟨x, hx, rfl⟩ := map_get hi
        have hi2 : i < 2 := (List.getElem?_eq_some_iff.mp hx).1
        have ev := dp_int hv
        subst ev
        refine rg_name 6 ?_ scLTimes.nd
        refine rb_extendI (M := [p, b]) (ns := [(x - 1) % 1440, x % 1440]) (List.mem_cons_self ..) (xv_name 2 rfl) hp6 (xd_lst L6 (xa_cons (xd_mod (xd_sub (xv_name 6 rfl).int xd_int) xd_int (by decide)) (xa_cons (xd_mod (xv_name 6 rfl).int xd_int (by decide)) xa_nil))) (by rw [List.length_map]; show us.length + 2 ≤ _; omega) fun H7 s7 => rb_nil ?_
        refine ⟨?_, (L6.mono s7).upd, same_upd (y2.trans s7) hp, us ++ [(x - 1) % 1440, x % 1440], _, rfl, ?_, ?_, ?_, fun y hy => ?_⟩
        · rw [hid_cons_upd]; exact y1.trans (hid_mono s7)
        · rw [List.map_append]; exact upd_same
        · rw [List.length_append]; omega
        · rw [List.length_append]; show us.length + 2 ≤ _; omega
        · rcases List.mem_append.mp hy with hy | hy
          · exact uall y hy
          · simp only [List.mem_cons, List.not_mem_nil, or_false] at hy
            rcases hy with e | e <;> omega
      · obtain ⟨y1, L6, y2, us, a6, rfl, hp6, uge, ule, uall⟩ := hw
        refine rb_set 3 (M := [p, b]) (xd_add (xv_name 3 rfl).int (xv_name 5 rfl).int) (fun v10 H10 s10 hv10 => rb_nil ?_) scLTimes.nd
        have e10 := dp_int hv10
        subst e10
        refine ⟨(z1.trans (hid_mono s5)).trans (y1.trans (hid_mono s10)), L6.mono s10, y2.trans s10, us, some (.int sx.1), some (.int sx.2), a6, ?_, s10 _ _ hp6, uge, ?_, uall⟩
        · rw [take_snoc hsx, off_snoc, hoe]
          rfl
        · have e : ([sx.1 + oo, sx.1 + oo + sx.2].map PyData.int).length = 2 := rfl
          rw [e] at ule
          omega
    · obtain ⟨z1, L4, z2, ts, a4, a5, a6, rfl, hp4, hge, hle, hall⟩ := hw
      rw [List.length_map] at hle
      exact rb_retR (XV.go (xv_name 2 rfl) fun H5 s5 => q p ts H5 (sBc.trans (.of (z2.trans s5))) (hBc.up (z2.trans s5) (Nat.le_refl _)) hp0 (s5 _ _ hp4) hge (by omega) hall)
end
end Zn

set_option Elab.async false
set_option linter.all false
set_option maxRecDepth 100000
set_option maxHeartbeats 8000000
namespace Zn
open PySem PySem.Spec PyProof.Rows L2 Dl
/-! k31: what can be shown; rules for the law -/
abbrev sLaw : Stmt := top 50
def spLaw (K : PySem.W.Frag) : Sp := fun vs H Q _ => ∃ (a : Addr) (ns : List Int), vs = [.ref a] ∧ SqL K H a (ns.map V.int) ∧ ∀ H1, Same H H1 → Q (.bl true) H1
structure Sn (k W : Nat) (d : PyData) : Prop where
  ls : d.leavesShort 40 = true
  sh : d.showable = true
  nd : d.hasDict = false
  dp : d.depth ≤ k
  wt : d.weight ≤ W
  cl : d.canLay0 = true
theorem sn_int {i : Int} (h : i.natAbs < 10 ^ 33) : Sn 0 199 (.int i) := by
  have e := int_text_length_le10 (k := 33) (by decide) h
  have hl := log_big h
  refine ⟨?_, ?_, rfl, Nat.le_refl _, ?_, rfl⟩
  · simp only [PyData.leavesShort, decide_eq_true_eq]
    show (Str.ofString (toString i)).length ≤ 40
    rw [PySem.ofString_length]; omega
  · simp only [PyData.showable, decide_eq_true_eq]; omega
  · simp only [PyData.weight]
    split <;> omega
theorem sn_all {k W : Nat} : ∀ {xs : List PyData}, (∀ x ∈ xs, Sn k W x) → PyData.leavesShortAll 40 xs = true ∧ PyData.showableAll xs = true ∧ PyData.hasDictAll xs = false ∧ PyData.depthAll xs ≤ k ∧ PyData.weightAll xs ≤ (W + 1) * xs.length ∧ PyData.canLayAll0 xs = true
  | [], _ => ⟨rfl, rfl, rfl, Nat.zero_le _, Nat.zero_le _, rfl⟩
  | x :: xs, h => by
    have a := h x (List.mem_cons_self ..)
    obtain ⟨b1, b2, b3, b4, b5, b6⟩ := sn_all (xs := xs) fun y hy => h y (List.mem_cons_of_mem _ hy)
    refine ⟨?_, ?_, ?_, ?_, ?_, ?_⟩
    · simp only [PyData.leavesShortAll, a.ls, b1, Bool.and_self]
    · simp only [PyData.showableAll, a.sh, b2, Bool.and_self]
    · simp only [PyData.hasDictAll, a.nd, b3, Bool.or_self]
    · simp only [PyData.depthAll]; have := a.dp; omega
    · simp only [PyData.weightAll, List.length_cons, Nat.mul_add]; have := a.wt; omega
    · simp only [PyData.canLayAll0, a.cl, b6, Bool.and_self]
theorem sn_list {k W n : Nat} {xs : List PyData} (h : ∀ x ∈ xs, Sn k W x) (hn : xs.length ≤ n) : Sn (k + 1) ((W + 1) * n) (.list xs) := by
  obtain ⟨b1, b2, b3, b4, b5, b6⟩ := sn_all h
  refine ⟨by simpa only [PyData.leavesShort] using b1, by simpa only [PyData.showable] using b2, by simpa only [PyData.hasDict] using b3, by simp only [PyData.depth]; omega, ?_, by simpa only [PyData.canLay0] using b6⟩
  simp only [PyData.weight]
  exact Nat.le_trans b5 (Nat.mul_le_mul_left _ hn)
theorem sn_tup {k W n : Nat} {xs : List PyData} (h : ∀ x ∈ xs, Sn k W x) (hn : xs.length ≤ n) : Sn (k + 1) ((W + 1) * n) (.tuple xs) := by
  obtain ⟨b1, b2, b3, b4, b5, b6⟩ := sn_all h
  refine ⟨by simpa only [PyData.leavesShort] using b1, by simpa only [PyData.showable] using b2, by simpa only [PyData.hasDict] using b3, by simp only [PyData.depth]; omega, ?_, by simpa only [PyData.canLay0] using b6⟩
  simp only [PyData.weight]
  exact Nat.le_trans b5 (Nat.mul_le_mul_left _ hn)
theorem Sn.up {k W k' W' : Nat} {d : PyData} (h : Sn k W d) (h1 : k ≤ k') (h2 : W ≤ W') : Sn k' W' d := ⟨h.ls, h.sh, h.nd, Nat.le_trans h.dp h1, Nat.le_trans h.wt h2, h.cl⟩
theorem Sn.fit {k W : Nat} {d : PyData} (h : Sn k W d) (hW : W ≤ 100000) : d.shown.length ≤ sizeLine := by
  have e := PyData.shown_le 40 (by decide) d h.ls
  have := h.wt
  rw [sizeLine_eq]
  omega
theorem Sn.shaped {k W : Nat} {d : PyData} (h : Sn k W d) (hk : k ≤ 60) : SeqAt.shaped d = true := by
  unfold SeqAt.shaped
  rw [h.cl, decide_eq_true (by have := h.dp; omega)]
  rfl
theorem Sn.refl {k W : Nat} {d : PyData} (h : Sn k W d) : PyData.eqv d d = true := SeqAt.eqv_refl d h.cl
theorem Sn.shows {k W : Nat} {ds : List PyData} (h : Sn k W (.list ds)) (hk : k ≤ 60) (hW : W ≤ 100000) : Shows ds := ⟨h.sh, h.nd, Nat.le_trans h.dp hk, h.fit hW⟩

theorem sn_non : Sn 0 199 .none := ⟨by decide +kernel, by decide +kernel, rfl, Nat.le_refl _, by decide +kernel, rfl⟩
theorem sn_word {x : Str} (h : x = "gap" ∨ x = "fold") : Sn 0 199 (.str x) := by
  rcases h with rfl | rfl <;> exact ⟨by decide +kernel, by decide +kernel, by decide +kernel, by decide +kernel, by decide +kernel, by decide +kernel⟩
theorem e33 : (10 : Nat) ^ 33 = 1000000000000000000000000000000000 := by decide
theorem e32 : (10 : Nat) ^ 32 = 100000000000000000000000000000000 := by decide
theorem sn_place {f x : Int} {st : List Step} {rule : Str} (h : PlanOk f st) (hx : x.natAbs < 10 ^ 32) : Sn 0 199 (placeD x rule (rowsP f st) (solP x f st)) := by
  have e1 := e33
  have e2 := e32
  unfold placeD
  cases e : (rowsP f st).find? (inTorn x) with
  | none =>
    refine sn_int ?_
    cases e3 : solP x f st with
    | nil => show (0 : Int).natAbs < _; decide
    | cons m ms => exact sol_big h hx m (by rw [e3]; exact List.mem_cons_self ..)
  | some r =>
    obtain ⟨a, b⟩ := rows_offs f st r (List.mem_of_find?_eq_some e)
    have a' := plan_off h _ a
    have b' := plan_off h _ b
    show Sn 0 199 (if rule = "ahead" then PyData.int (x - r.2.1) else if rule = "behind" then PyData.int (x - r.2.2) else PyData.none)
    split
    · exact sn_int (by omega)
    · split
      · exact sn_int (by omega)
      · exact sn_non
theorem sn_dueL {f t d : Int} {st : List Step} {rule : Str} {n : Nat} (h : PlanOk f st) (ht : 0 ≤ t ∧ t ≤ 1439) (hd : d.natAbs ≤ 10 ^ 13) (hn : n ≤ 200) : Shows (dueL t rule f st d n) := by
  refine (sn_list (k := 0) (W := 199) (n := 200) (fun x hx => ?_) (by unfold dueL; rw [List.length_map, List.length_range]; exact hn)).shows (by decide) (by decide)
  obtain ⟨i, hi, rfl⟩ := List.mem_map.mp hx
  have hi2 := List.mem_range.mp hi
  have e13 : (10 : Nat) ^ 13 = 10000000000000 := by decide
  have := e32
  exact sn_place h (by omega)
theorem tou_mem {t : Int} {rs : List Row} {y : Int × Str} (h : y ∈ touL t rs) : ∃ r ∈ rs, y.1 = dayR t r ∧ (y.2 = "gap" ∨ y.2 = "fold") := by
  obtain ⟨r, hr, e⟩ := List.mem_filterMap.mp h
  unfold touR at e
  split at e
  · cases e
    refine ⟨r, hr, rfl, ?_⟩
    show wordR r = _ ∨ wordR r = _
    unfold wordR
    split
    · exact .inl rfl
    · exact .inr rfl
  · cases e
theorem sn_tou {f t : Int} {st : List Step} (h : PlanOk f st) (ht : 0 ≤ t ∧ t ≤ 1439) : Shows ((touL t (rowsP f st)).map encIS) := by
  refine (sn_list (k := 1) (W := 400) (n := 19) (fun x hx => ?_) (by rw [List.length_map]; exact Nat.le_trans (touL_len _ _) (by rw [rowsP_len]; exact h.len))).shows (by decide) (by decide)
  obtain ⟨y, hy, rfl⟩ := List.mem_map.mp hx
  obtain ⟨r, hr, e1, e2⟩ := tou_mem hy
  obtain ⟨a, b⟩ := rows_offs f st r hr
  have a' := plan_off h _ a
  have b' := plan_off h _ b
  obtain ⟨u, hu, eu⟩ := rows_mom f st r hr
  have hm := h.big u hu
  have hd : y.1.natAbs < 10 ^ 33 := by
    have := e33
    rw [e1]
    unfold dayR hiR
    split <;> omega
  refine sn_tup (k := 0) (W := 199) (n := 2) (fun z hz => ?_) (by simp)
  simp only [List.mem_cons, List.not_mem_nil, or_false] at hz
  rcases hz with e | e
  · rw [e]; exact sn_int hd
  · rw [e]; exact sn_word e2
theorem at_any {vs : List V} {r : Int} (h0 : 0 ≤ r) (h1 : r.toNat < vs.length) : atI vs r = some (vs[r.toNat]) := by
  obtain ⟨n, rfl⟩ : ∃ n : Nat, r = (n : Int) := ⟨r.toNat, by omega⟩
  have h2 : n < vs.length := by omega
  unfold atI
  rw [show ixN vs.length (n : Int) = some n by unfold ixN; simp; omega]
  simp [h2]
theorem day_len {ds : List Int} {r : Int} (h0 : 0 ≤ r) (h1 : r < ds.length) : ∃ v, atI (ds.map V.int) r = some (V.int v) ∧ v ∈ ds := by
  have h : r.toNat < ds.length := by omega
  exact ⟨ds[r.toNat], at_menu h0 h, List.getElem_mem h⟩
section
variable {X : Cx} {M : List Addr} {σ : L2.St} {H : Hp} {a b c e e2 e3 e4 e5 o : Expr} {pos apos p1 p2 py spos : Pos} {C f : Addr} {fd : FuncData} {off n : Int} {k : Nat} {D : Ends} {rest : List Stmt} {x : Str} {scope : Scope} {own : List (Str × Nat)} {elt tg : Expr} {Q : VK} {esl : List Expr}
/-- x = [.. for tg in range(a)], on one line -/
theorem rb_setCR (i : Nat) (hm : X.mg "range" = none) (hN : X.N.Nodup) (ok : BlkOk X.N X.env.scope scope own) (h : tLc (iRng1 (RA X [a])) (BG X scope tg) (BT X scope []) (BE X scope elt) (own.map (·.2)) σ H fun v H1 => RB X rest D (σ.set i (some v)) H1)
    (hi : X.N[i]? = some x := by rfl) (hx : X.env.scope.names.lookup x = some .local := by rfl) (hsw : swapsWith (.ListComp elt [⟨tg, .Call (.Name "range" p1) [a] [] p2, [], 0⟩] scope pos) (some (.Name x py)) spos.line X.env = pure true := by exact sw_true rfl rfl rfl rfl)
    (hc : X.calm = true := by rfl) (hg : Gl X "range" := by rfl) (he : starEach [a] X.env = [(false, eval a X.env)] := by rfl) (hs : ∀ x, foldedSetIterable (.Call (.Name "range" p1) [a] [] p2) X.env x = pure x := by intro _; rfl) : RB X (.Assign [.Name x py] (.ListComp elt [⟨tg, .Call (.Name "range" p1) [a] [] p2, [], 0⟩] scope pos) spos :: rest) D σ H :=
  ⟨_, pss_cons (ps_setLc (own := own) hc hN hi hx hsw (pi_range1 hg hm ra_ he) ok (fun _ _ _ _ _ => bg_) (fun _ _ _ _ _ => bt_) (fun _ _ _ _ _ => be_) hs) rb_, h⟩
/-- [.. for tg in range(a)], draws in it -/
theorem re_lcR (hm : X.mg "range" = none) (hN : X.N.Nodup) (ok : BlkOk X.N X.env.scope scope own) (h : tLc (iRng1 (RA X [a])) (BG X scope tg) (BT X scope []) (BE X scope elt) (own.map (·.2)) σ H Q)
    (hc : X.calm = true := by rfl) (hg : Gl X "range" := by rfl) (he : starEach [a] X.env = [(false, eval a X.env)] := by rfl) (hs : ∀ x, foldedSetIterable (.Call (.Name "range" p1) [a] [] p2) X.env x = pure x := by intro _; rfl) : RE X (.ListComp elt [⟨tg, .Call (.Name "range" p1) [a] [] p2, [], 0⟩] scope pos) σ H Q :=
  ⟨_, pe_lc (own := own) hc hN (pi_range1 hg hm ra_ he) ok (fun _ _ _ _ _ => bg_) (fun _ _ _ _ _ => bt_) (fun _ _ _ _ _ => be_) hs, h⟩
theorem re_menuV {vs : List V} (hs : PlainIx b) (hn : vs.length ≤ 1000) (h : RA X esl σ H fun ws H1 => ws = vs ∧ ∀ l, H1 l = none → RE X b σ (upd H1 l (.lst vs)) fun y H3 => ∃ r : Int, y = .int r ∧ 0 ≤ r ∧ r < vs.length ∧ H3 l = some (.lst vs) ∧ ∀ z, z ∈ vs → Q z H3) :
    RE X (.Subscript (.List esl p1) b pos) σ H Q :=
  ⟨_, pe_ix ix_list (pe_lst ra_) re_ hs, ra_mono h fun ws H1 ⟨e1, k⟩ => by
    subst e1
    exact ⟨Nat.le_trans hn (by decide), fun l hl => re_mono (k l hl) fun y H3 ⟨r, ey, r0, r1, h3, q⟩ => by
      subst ey
      have hlt : r.toNat < ws.length := by omega
      refine ⟨l, ws, r, ws[r.toNat], rfl, rfl, SqL.of h3, ?_, q _ (List.getElem_mem hlt)⟩
      exact at_any r0 hlt⟩⟩
theorem rb_forE {tg : Expr} {body : List Stmt} (h : RE X e σ H fun v H1 => ∃ ds, Dq X.K (hid M H1) v (.list ds) ∧ ∃ Pv : Nat → L2.St → Hp → Prop, Pv 0 σ H1 ∧ (∀ k σ' H', Pv k σ' H' → Same (hid M H1) (hid M H')) ∧
      (∀ k d, ds[k]? = some d → ∀ σ' H' v, Pv k σ' H' → Dq X.K (hid M H') v d → RG X tg v σ' H' fun σ2 H2 => RB X body { D with nx := Pv (k + 1), ct := Pv (k + 1), bk := RB X rest D } σ2 H2) ∧ ∀ σ' H', Pv ds.length σ' H' → RB X rest D σ' H')
    (hp : PassesOwn (model X.prog X.w) X.A X.env X.xe := by exact PassesOwn.never) (hc : X.calm = true := by rfl) (hs : ∀ x, foldedSetIterable e X.env x = pure x := by intro _; rfl) : RB X (.For tg e body [] pos :: rest) D σ H :=
  ⟨_, pss_cons (ps_for hp hc (pi_list re_) rg_ rb_ hs) rb_, re_mono h fun v H1 ⟨ds, hv, Pv, h0, hk, hst, hd⟩ => by
    obtain ⟨a, xs, rfl, ha, hx⟩ := dp_lst hv
    refine ⟨a, rfl, ⟨xs, SqL.of (hid_le _ _ ha)⟩, for_list (xs := xs) Pv h0 (fun i σ' H' _ p => SqL.of (hid_le _ _ (hk i σ' H' p _ _ ha))) (fun i x σ' H' hi p => ?_) (by rw [dpa_len hx]; exact hd)⟩
    obtain ⟨d, h1, h2⟩ := dpa_get' hx hi
    exact hst i d h1 σ' H' x p (h2.up (hk i σ' H' p))⟩
/-- _law_made(e) -/
theorem xz_made {st : List Step} (L : Live M H) (F : FnOk X.prog X.w X.K X.mg X.base CX0 6 f fd ["_law_plan"] (spMade X.K C)) (hr : Room 6 X.A) (FF : Df X.K X.mg "_law_made" sLMade ["_law_plan"] f fd) (ha : XD X M σ H e (planD off st)) (hlen : st.length ≤ 1000) (hok : okS st)
    (hg : Gl X "_law_made" := by rfl) (he : starEach [e] X.env = (false, eval e X.env) :: starEach [] X.env := by rfl) (hpl : (backTo pos (starEach [] X.env)).any (·.1) = false := by rfl) : XZ C X M σ H (.Call (.Name "_law_made" p1) [e] [] pos) off (rowsP off st) := fun H1 s Q q =>
  re_call F hr FF.g FF.F.kp FF.b (ra_1 (ha H1 s _ fun v H2 s2 hv => ⟨M, v, off, st, rfl, L.mono (s.trans s2), hv, hlen, hok, fun y H3 s3 hz => q y H3 (s2.trans s3) hz⟩) he) hg (by decide) he hpl
/-- daily(o, e, e2, e3) -/
theorem xd_daily {st : List Step} {t d : Int} {rule : Str} {pa : Addr} (L : Live M H) (F : FnOk X.prog X.w X.K X.mg X.base CX0 6 f fd ["zone", "time", "rule", "day"] (spDaily X.K C)) (hr : Room 6 X.A) (FF : Df X.K X.mg "daily" sDaily ["zone", "time", "rule", "day"] f fd)
    (ho : XV X σ H o (.ref pa)) (hz : ZAt X.K C (hid M H) pa off (rowsP off st)) (ok : okS st) (hlen : st.length ≤ 50) (hx : isRuleS rule) (ht : 0 ≤ t ∧ t ≤ 1439) (ha : XV X σ H e (.int t)) (hb : XV X σ H e2 (.str rule)) (hc : XV X σ H e3 (.int d))
    (hg : Gl X "daily" := by rfl) (he : starEach [o, e, e2, e3] X.env = (false, eval o X.env) :: starEach [e, e2, e3] X.env := by rfl) (he2 : starEach [e, e2, e3] X.env = (false, eval e X.env) :: starEach [e2, e3] X.env := by rfl) (he3 : starEach [e2, e3] X.env = (false, eval e2 X.env) :: starEach [e3] X.env := by rfl) (he4 : starEach [e3] X.env = (false, eval e3 X.env) :: starEach [] X.env := by rfl)
    (hpl : (backTo pos (starEach [e, e2, e3] X.env)).any (·.1) = false := by rfl) : XD X M σ H (.Call (.Name "daily" p1) [o, e, e2, e3] [] pos) (dueD t rule off st d) := fun H1 s Q q =>
  re_call F hr FF.g FF.F.kp FF.b (ra_cons (ho H1 s _ fun H2 s2 => ra_cons (ha H2 (s.trans s2) _ fun H3 s3 => ra_cons (hb H3 ((s.trans s2).trans s3) _ fun H4 s4 => ra_1 (hc H4 (((s.trans s2).trans s3).trans s4) _ fun H5 s5 =>
    ⟨M, pa, off, st, t, rule, d, rfl, hx, ht, L.mono ((((s.trans s2).trans s3).trans s4).trans s5), hz.up (hid_mono ((((s.trans s2).trans s3).trans s4).trans s5)), ok, hlen, fun v H6 s6 hv => q v H6 ((((s2.trans s3).trans s4).trans s5).trans s6) hv⟩) he4) he3) he2) he) hg (by decide) he hpl
/-- daily_list(o, e, e2, e3, e4) -/
theorem xl_dailyL {st : List Step} {t d : Int} {m : Nat} {rule : Str} {pa : Addr} (L : Live M H) (F : FnOk X.prog X.w X.K X.mg X.base CX0 6 f fd ["zone", "time", "rule", "day", "many"] (spDailyL X.K C)) (hr : Room 6 X.A) (FF : Df X.K X.mg "daily_list" sDailyL ["zone", "time", "rule", "day", "many"] f fd)
    (ho : XV X σ H o (.ref pa)) (hz : ZAt X.K C (hid M H) pa off (rowsP off st)) (ok : okS st) (hlen : st.length ≤ 50) (hx : isRuleS rule) (ht : 0 ≤ t ∧ t ≤ 1439) (hm : m ≤ 200) (ha : XV X σ H e (.int t)) (hb : XV X σ H e2 (.str rule)) (hc : XV X σ H e3 (.int d)) (hd : XV X σ H e4 (.int (m : Int)))
    (hg : Gl X "daily_list" := by rfl) (he : starEach [o, e, e2, e3, e4] X.env = (false, eval o X.env) :: starEach [e, e2, e3, e4] X.env := by rfl) (he2 : starEach [e, e2, e3, e4] X.env = (false, eval e X.env) :: starEach [e2, e3, e4] X.env := by rfl) (he3 : starEach [e2, e3, e4] X.env = (false, eval e2 X.env) :: starEach [e3, e4] X.env := by rfl) (he4 : starEach [e3, e4] X.env = (false, eval e3 X.env) :: starEach [e4] X.env := by rfl) (he5 : starEach [e4] X.env = (false, eval e4 X.env) :: starEach [] X.env := by rfl)
    (hpl : (backTo pos (starEach [e, e2, e3, e4] X.env)).any (·.1) = false := by rfl) : XL X M σ H (.Call (.Name "daily_list" p1) [o, e, e2, e3, e4] [] pos) (dueL t rule off st d m) := fun H1 s Q q =>
  re_call F hr FF.g FF.F.kp FF.b (ra_cons (ho H1 s _ fun H2 s2 => ra_cons (ha H2 (s.trans s2) _ fun H3 s3 => ra_cons (hb H3 ((s.trans s2).trans s3) _ fun H4 s4 => ra_cons (hc H4 (((s.trans s2).trans s3).trans s4) _ fun H5 s5 => ra_1 (hd H5 ((((s.trans s2).trans s3).trans s4).trans s5) _ fun H6 s6 =>
    ⟨M, pa, off, st, t, rule, d, m, rfl, hx, ht, hm, L.mono (((((s.trans s2).trans s3).trans s4).trans s5).trans s6), hz.up (hid_mono (((((s.trans s2).trans s3).trans s4).trans s5).trans s6)), ok, hlen, fun p xs H7 s7 hp h7 hx7 => q p xs H7 (((((s2.trans s3).trans s4).trans s5).trans s6).trans s7) (((((s2.trans s3).trans s4).trans s5).trans s6).free hp) h7 hx7⟩) he5) he4) he3) he2) he) hg (by decide) he hpl
/-- touched_days(o, e) -/
theorem xl_touch {st : List Step} {t : Int} {pa : Addr} (L : Live M H) (F : FnOk X.prog X.w X.K X.mg X.base CX0 6 f fd ["zone", "time"] (spTouch X.K C)) (hr : Room 6 X.A) (FF : Df X.K X.mg "touched_days" sTouch ["zone", "time"] f fd)
    (ho : XV X σ H o (.ref pa)) (hz : ZAt X.K C (hid M H) pa off (rowsP off st)) (ok : okS st) (hlen : st.length ≤ 50) (ht : 0 ≤ t ∧ t ≤ 1439) (ha : XV X σ H e (.int t))
    (hg : Gl X "touched_days" := by rfl) (he : starEach [o, e] X.env = (false, eval o X.env) :: starEach [e] X.env := by rfl) (he2 : starEach [e] X.env = (false, eval e X.env) :: starEach [] X.env := by rfl)
    (hpl : (backTo pos (starEach [e] X.env)).any (·.1) = false := by rfl) : XL X M σ H (.Call (.Name "touched_days" p1) [o, e] [] pos) ((touL t (rowsP off st)).map encIS) := fun H1 s Q q =>
  re_call F hr FF.g FF.F.kp FF.b (ra_cons (ho H1 s _ fun H2 s2 => ra_1 (ha H2 (s.trans s2) _ fun H3 s3 =>
    ⟨M, pa, off, st, t, rfl, ht, L.mono ((s.trans s2).trans s3), hz.up (hid_mono ((s.trans s2).trans s3)), ok, hlen, fun p xs H4 s4 hp h4 hx4 => q p xs H4 ((s2.trans s3).trans s4) ((s2.trans s3).free hp) h4 hx4⟩) he2) he) hg (by decide) he hpl
end
end Zn

set_option Elab.async false
set_option linter.all false
set_option maxRecDepth 100000
set_option maxHeartbeats 8000000
namespace Zn
open PySem PySem.Spec PyProof.Rows L2 Dl
/-- all defs that the law wants -/
structure Al (P : Program) (w : World) (K : PySem.W.Frag) (mg : Str → Option Value) (base : Heap) (C : Addr) : Prop where
  T : Nm mg
  Z : ZT K mg C
  cell : ∃ f fd, Df K mg "_law_cell" sCell ["_law_script", "_law_index"] f fd ∧ FnOk P w K mg base CX0 1 f fd ["_law_script", "_law_index"] (spCell K)
  bag : ∃ f fd, Df K mg "_law_bag" sBag ["_law_cell_here"] f fd ∧ FnOk P w K mg base CX0 1 f fd ["_law_cell_here"] spBag
  take : ∃ f fd, Df K mg "_law_take" sTake ["_law_bag_here", "_law_many"] f fd ∧ FnOk P w K mg base CX0 1 f fd ["_law_bag_here", "_law_many"] spTake
  zone : ∃ f fd, Df K mg "_law_zone" sZone ["_law_bag_here", "_law_most"] f fd ∧ FnOk P w K mg base CX0 2 f fd ["_law_bag_here", "_law_most"] (spZone K)
  made : ∃ f fd, Df K mg "_law_made" sLMade ["_law_plan"] f fd ∧ FnOk P w K mg base CX0 6 f fd ["_law_plan"] (spMade K C)
  lplace : ∃ f fd, Df K mg "_law_place" sLPlace ["_law_plan", "_law_reading", "_law_rule"] f fd ∧ FnOk P w K mg base CX0 3 f fd ["_law_plan", "_law_reading", "_law_rule"] (spR K RLPlace)
  ltou : ∃ f fd, Df K mg "_law_touched" sLTou ["_law_plan", "_law_time"] f fd ∧ FnOk P w K mg base CX0 1 f fd ["_law_plan", "_law_time"] (spL K RLTou)
  ltimes : ∃ f fd, Df K mg "_law_times" sLTimes ["_law_bag_here", "_law_plan"] f fd ∧ FnOk P w K mg base CX0 2 f fd ["_law_bag_here", "_law_plan"] (spTimes K)
  daily : ∃ f fd, Df K mg "daily" sDaily ["zone", "time", "rule", "day"] f fd ∧ FnOk P w K mg base CX0 6 f fd ["zone", "time", "rule", "day"] (spDaily K C)
  dailyL : ∃ f fd, Df K mg "daily_list" sDailyL ["zone", "time", "rule", "day", "many"] f fd ∧ FnOk P w K mg base CX0 6 f fd ["zone", "time", "rule", "day", "many"] (spDailyL K C)
  touch : ∃ f fd, Df K mg "touched_days" sTouch ["zone", "time"] f fd ∧ FnOk P w K mg base CX0 6 f fd ["zone", "time"] (spTouch K C)
theorem bag_ne {b p : Addr} {H H' : Hp} {n : Nat} (h : BagAt H b n) (s : SameB p H H') (ne : b ≠ p) : BagAt H' b n := by
  obtain ⟨g, m, c, e1, e2⟩ := h
  exact ⟨g, m, c, s b _ ne e1, e2⟩
theorem rule_of {z : V} (h : z ∈ [V.str "ahead", .str "behind", .str "strict"]) : ∃ x : Str, z = .str x ∧ isRuleS x := by
  simp only [List.mem_cons, List.not_mem_nil, or_false] at h
  rcases h with e | e | e
  · exact ⟨_, e, .inl rfl⟩
  · exact ⟨_, e, .inr (.inl rfl)⟩
  · exact ⟨_, e, .inr (.inr rfl)⟩
theorem many_of {z : Int} (h : z ∈ ([0, 1, 3, 12, 3, 1, 61, 200] : List Int)) : ∃ n : Nat, z = (n : Int) ∧ n ≤ 200 := by
  simp only [List.mem_cons, List.not_mem_nil, or_false] at h
  exact ⟨z.toNat, by omega, by omega⟩
theorem due_eq {t d : Int} {rule : Str} {f : Int} {st : List Step} : placeD (1440 * d + t) rule (rowsP f st) (solP (1440 * d + t) f st) = dueD t rule f st d := by
  unfold dueD
  rw [Int.mul_comm]
section
variable {P : Program} {w : World} {K : PySem.W.Frag} {mg : Str → Option Value} {base : Heap} {C : Addr}
abbrev lawN : List Str := ["_law_script", "_law_index", "_law_bag_here", "_law_plan", "_law_zone_here", "_law_days", "_law_moment", "_law_jump", "_law_times_here", "_law_lap", "_law_time", "_law_rule", "_law_many", "_law_day", "_law_at", "_law_due", "_law_found", "_law_told"]
theorem scLaw : FnScope ["_law_script", "_law_index", "_law_bag_here", "_law_plan", "_law_zone_here", "_law_days", "_law_moment", "_law_jump", "_law_times_here", "_law_lap", "_law_time", "_law_rule", "_law_many", "_law_day", "_law_at", "_law_due", "_law_found", "_law_told"] ["_law_script"] (defScope sLaw) := ⟨rfl, rfl, rfl, by decide +kernel, rfl, by decide +kernel, by decide +kernel⟩
theorem ok_law {f : Addr} {fd : FuncData} (A : Al P w K mg base C) (F : Fun K "law" "law" sLaw f fd) : FnG P w K mg base 8 f fd ["_law_script"] (spLaw K) := by
  obtain ⟨fc, fdc, FC, GC⟩ := A.cell
  obtain ⟨fb, fdb, FB, GB⟩ := A.bag
  obtain ⟨ft, fdt, FT, GT⟩ := A.take
  obtain ⟨fzo, fdzo, FZo, GZo⟩ := A.zone
  obtain ⟨fm, fdm, FM, GM⟩ := A.made
  obtain ⟨fl, fdl, FL, GL⟩ := A.lplace
  obtain ⟨fo, fdo, FO, GO⟩ := A.ltou
  obtain ⟨fi, fdi, FI, GI⟩ := A.ltimes
  obtain ⟨fy, fdy, FY, GY⟩ := A.daily
  obtain ⟨fx, fdx, FX, GX⟩ := A.dailyL
  obtain ⟨fu, fdu, FU, GU⟩ := A.touch
  have T := A.T
  have Z := A.Z
  refine fn_g F scLaw (fun vs H Q E h => ?_) (fun cdv A outer s H vs Q E hA hr h => ?_)
  · obtain ⟨a, ns, rfl, _⟩ := h; rfl
  · obtain ⟨a, ns, rfl, hS, q⟩ := h
    have hr6 := hr.mono (show 6 ≤ 7 by decide)
    have hr3 := hr.mono (show 3 ≤ 7 by decide)
    have hr2 := hr.mono (show 2 ≤ 7 by decide)
    have hr1 := hr.mono (show 1 ≤ 7 by decide)
    have e13 : (10 : Nat) ^ 13 = 10000000000000 := by decide
    refine rb_range T.rng (XD.go (M := []) (xd_max T.max (xa_cons xd_int (xa_cons (xd_min T.min (xa_cons xd_int (xa_cons (xv_lenS T.len (xv_name 0 rfl) hS).int xa_nil))) xa_nil))) fun v H0 s0 hv => ?_)
    have ev := dp_int hv
    subst ev
    generalize hnn : (if (if ((ns.map V.int).length : Int) < 6 then ((ns.map V.int).length : Int) else 6) > 2 then (if ((ns.map V.int).length : Int) < 6 then ((ns.map V.int).length : Int) else 6) else 2) = nn
    have hn2 : 0 ≤ nn ∧ nn ≤ 100 := by
      rw [← hnn]
      split <;> split <;> omega
    refine ⟨nn.toNat, by rw [Int.toNat_of_nonneg hn2.1], by omega, fun k σ' H' => Same H H' ∧ ∃ u1 u2 u3 u4 u5 u6 u7 u8 u9 u10 u11 u12 u13 u14 u15 u16 u17, σ' = [some (.ref a), u1, u2, u3, u4, u5, u6, u7, u8, u9, u10, u11, u12, u13, u14, u15, u16, u17], ⟨s0, none, none, none, none, none, none, none, none, none, none, none, none, none, none, none, none, none, rfl⟩, fun k σ' H' hk w => ?_, fun σ' H' w => ?_⟩
    · obtain ⟨sH0, u1, u2, u3, u4, u5, u6, u7, u8, u9, u10, u11, u12, u13, u14, u15, u16, u17, rfl⟩ := w
      refine rg_name 1 ?_ scLaw.nd
      -- the bag, the plan
      refine rb_setR 2 (re_call GB hr1 FB.g FB.F.kp FB.b (ra_1 (re_call GC hr1 FC.g FC.F.kp FC.b (ra_cons (XV.go (xv_name 0 rfl) fun Ha sa => ra_1 (XV.go (xv_name 1 rfl) fun Hb sb => ⟨a, ns, k, rfl, ((sH0.trans sa).trans sb).seq hS, fun nc Hc sc => ⟨nc, rfl, fun b H1 s1 hb hB => ?_⟩⟩)))))) scLaw.nd
      have s01 : Same H' H1 := ((sa.trans sb).trans sc).trans s1
      have hb0 : H' b = none := ((sa.trans sb).trans sc).free hb
      refine rb_setR 3 (re_call GZo hr2 FZo.g FZo.F.kp FZo.b (ra_cons (XV.go (xv_name 2 rfl) fun H2 s2 => ra_1 (XV.go xv_int fun H3 s3 => ⟨[], b, 5, 0, rfl, by decide, by decide, Live.nil, hB.up (s2.trans s3) (Nat.le_refl _), by decide, fun f st vp H4 hp4 sB hB4 hvp => ?_⟩)))) scLaw.nd
      have s04 : Same H' H4 := fun x o e => sB x o (ne_of_none e hb0) ((s01.trans (s2.trans s3)) x o e)
      have hvb : Dq K (hid [b] H4) vp (planD f st) := hvp
      have hl19 := hp4.len
      have hlen : st.length ≤ 1000 := by omega
      have hlen50 : st.length ≤ 50 := by omega
      have hok := hp4.ok
      have Lb : Live [b] H4 := fun y hy => by rw [List.mem_singleton.mp hy]; exact hB4.some
      -- the zone, the days
      refine rb_parR 4 5 (ra_cons (XZ.go (xz_made (M := [b]) Lb GM hr6 FM (xd_name 3 rfl hvb) hlen hok) fun z H5 s5 hz5 => ra_1 (XL.go (M := [b]) (xl_lst (Lb.mono s5) (xa_cons xd_int (xa_cons ((xd_neg xd_int).to (show PyData.int (-3) = .int (-3) from rfl)) xa_nil))) fun pd xd H6 s6 hpd h6 hx6 => ⟨_, _, rfl, ?_⟩))) scLaw.nd
      have ex := ints_v (ns := [0, -3]) hx6
      subst ex
      have s46 : Same H4 H6 := s5.trans s6
      have g6 : Same (hid [b] H5) (hid [pd, b] H6) := hid_step hpd s6
      have hz6 : ZAt K C (hid [pd, b] H6) z f (rowsP f st) := hz5.up g6
      have hv6 : Dq K (hid [pd, b] H6) vp (planD f st) := (hvb.up (hid_mono s5)).up g6
      have hB6 : BagAt H6 b 300 := hB4.up s46 (Nat.le_refl _)
      have hpdb : pd ∉ [b] := (Lb.mono s5).fresh hpd
      have hbpd : b ≠ pd := fun e => hpdb (by rw [e]; exact List.mem_singleton.mpr rfl)
      have hpd0 : H' pd = none := (s04.trans s5).free hpd
      clear hB4
      have L6 : Live [pd, b] H6 := fun y hy => by
        rcases List.mem_cons.mp hy with e | hy
        · subst e; rw [h6]; simp
        · rw [List.mem_singleton.mp hy]; exact hB6.some
      refine rb_for (M := [pd, b]) (xd_ixT (fun _ _ => rfl) (xd_name 3 rfl hv6) xd_int plan1) fun H7 s7 => ⟨fun j σ' H8 => Same (hid [pd, b] H7) (hid [pd, b] H8) ∧ Live [pd, b] H8 ∧ SameB pd H6 H8 ∧ ∃ (dl : List Int) (w6 w7 : Option V), σ' = [some (.ref a), some (.int (k : Int)), some (.ref b), some vp, some (.ref z), some (.ref pd), w6, w7, u8, u9, u10, u11, u12, u13, u14, u15, u16, u17] ∧ H8 pd = some (.lst (dl.map V.int)) ∧ 2 ≤ dl.length ∧ dl.length ≤ 2 + 2 * j ∧ bigI (10 ^ 13) dl,
        ⟨Same.refl _, L6.mono s7, .of s7, [0, -3], u6, u7, rfl, s7 _ _ h6, Nat.le_refl _, Nat.le_refl _, fun x hx => ?big0⟩, fun j σ' H8 w => w.1, fun j it hj σ' H8 v hw hv => ?_, fun σ' H8 hw => ?_⟩
      case big0 =>
        simp only [List.mem_cons, List.not_mem_nil, or_false] at hx
        rcases hx with e | e <;> omega
      · obtain ⟨z1, L8, z2, dl, w6, w7, rfl, hp8, hge, hle, hbig⟩ := hw
        obtain ⟨sx, hsx, rfl⟩ := map_get hj
        have hjlt : j < st.length := (List.getElem?_eq_some_iff.mp hsx).1
        have hsm := hp4.big sx (List.mem_of_getElem? hsx)
        have hf0 := hp4.f0
        have hf1 := hp4.f1
        obtain ⟨tp, rfl, htp⟩ := step_at hv
        refine rg_tup (same_seqT hid_le htp) (rgs_cons (rg_name 6 (rgs_cons (rg_name 7 (rgs_nil ?_) scLaw.nd)) scLaw.nd))
        have kv8 : Dq K (hid [pd, b] H8) vp (planD f st) := (hv6.up (hid_mono s7)).up z1
        refine rb_extendI (M := [pd, b]) (ns := [(sx.1 + f) / 1440 - 1, (sx.1 + f) / 1440 + 1]) (List.mem_cons_self ..) (xv_name 5 rfl) hp8
          (xd_lst L8 (xa_cons (xd_sub (xd_div (xd_add (xv_name 6 rfl).int (xd_ixT (fun _ _ => rfl) (xd_name 3 rfl kv8) xd_int plan0)) xd_int (cdiv (by decide) (by decide))) xd_int) (xa_cons (xd_add (xd_div (xd_add (xv_name 6 rfl).int (xd_ixT (fun _ _ => rfl) (xd_name 3 rfl kv8) xd_int plan0)) xd_int (cdiv (by decide) (by decide))) xd_int) xa_nil))) (by rw [List.length_map]; show dl.length + 2 ≤ _; omega) fun H9 s9 => rb_nil ?_
        refine ⟨?_, (L8.mono s9).upd, fun y o ny e => by rw [upd_ne ny]; exact s9 _ _ (z2 y o ny e), dl ++ [(sx.1 + f) / 1440 - 1, (sx.1 + f) / 1440 + 1], _, _, rfl, ?_, ?_, ?_, fun y hy => ?_⟩
        · rw [hid_cons_upd]; exact z1.trans (hid_mono s9)
        · rw [List.map_append]; exact upd_same
        · rw [List.length_append]; omega
        · rw [List.length_append]; show dl.length + 2 ≤ _; omega
        · rcases List.mem_append.mp hy with hy | hy
          · exact hbig y hy
          · simp only [List.mem_cons, List.not_mem_nil, or_false] at hy
            rcases hy with e | e <;> omega
      obtain ⟨z1, L8, z2, dl, w6, w7, rfl, hp8, hge, hle, hbig⟩ := hw
      rw [List.length_map] at hle
      have kz8 : ZAt K C (hid [b] H8) z f (rowsP f st) := ((hz6.up (hid_mono s7)).up z1).up hid_weak
      have kv8 : Dq K (hid [b] H8) vp (planD f st) := ((hv6.up (hid_mono s7)).up z1).up hid_weak
      have hB8 : BagAt H8 b 300 := bag_ne hB6 z2 hbpd
      have s08 : Same H' H8 := fun y o e => z2 y o (ne_of_none e hpd0) ((s04.trans s46) y o e)
      -- the times
      refine rb_setR 8 (re_call GI hr2 FI.g FI.F.kp FI.b (ra_cons (XV.go (xv_name 2 rfl) fun Ha sa => ra_1 (XD.go (M := [b]) (xd_name 3 rfl (kv8.up (hid_mono sa))) fun vq Hb sb hvq => ⟨b, vq, f, st, 300, rfl, hB8.up (sa.trans sb) (Nat.le_refl _), by decide, hvq, hlen50, fun pt ts H10 sBt hB10 hpt h10 tge tle tall => ?_⟩)))) scLaw.nd
      have sB10 : SameB b H8 H10 := (SameB.of (sa.trans sb)).trans sBt
      have kz10 := kz8.up (sB10.hid (List.mem_singleton.mpr rfl))
      have kv10 := kv8.up (sB10.hid (List.mem_singleton.mpr rfl))
      have hp10 : H10 pd = some (.lst (dl.map V.int)) := sB10 _ _ (Ne.symm hbpd) hp8
      have hptb : pt ≠ b := fun e => by
        rw [e] at hpt
        exact (hB8.up (sa.trans sb) (Nat.le_refl _)).some hpt
      clear hB8
      refine rb_forE (M := [b]) (re_lcR (own := [("_law_lap", 9)]) T.rng scLaw.nd (blkOk_by (own := [("_law_lap", 9)]) (N := lawN) (sc := defScope sLaw) (by decide +kernel)) (ra_1 (XV.go xv_int fun H11 s11 => ⟨8, rfl, by decide, by decide, fun l hl => ?_⟩)))
      have hlb : l ≠ b := fun e => by
        rw [e] at hl
        exact (hB10.up s11 (Nat.le_refl _)).some hl
      refine lc_range (lo := 0) (n := (8 : Int).toNat) (fun i Hx => SameB b H11 Hx ∧ BagAt Hx b (301 + i) ∧ ∃ acc : List Int, Hx l = some (.lst (acc.map V.int)) ∧ acc.length ≤ i ∧ ∀ x ∈ acc, (0 : Int) ≤ x ∧ x ≤ 1439) ⟨.of (same_new hl), hB10.up (s11.trans (same_new hl)) (Nat.le_refl _), [], upd_same, Nat.le_refl _, fun x hx => by simp at hx⟩ (fun i Hx hi w => ?_) (fun Hx w => ?_)
      · obtain ⟨sX, hBx, acc, hacc, hal, hab⟩ := w
        have hi8 : i < 8 := hi
        have hpx : Hx pt = some (.lst (ts.map V.int)) := sX _ _ hptb (s11 _ _ h10)
        refine fun s0 H0 C0 cl fp => rg_name 9 ⟨rfl, bt_nil (iteT fun s0 H0 C0 cl fp => ?_)⟩ scLaw.nd
        have hplen : ((ts.map V.int).length : Int) = (ts.length : Int) := by rw [List.length_map]
        refine ⟨_, pe_ix ix_list re_ re_ (fun _ _ => rfl), XV.go (xv_name 8 rfl) fun Ha sa => ?_⟩
        have c300 : (300 : Nat) < 2 ^ 200 := by decide
        refine re_take GT FT hr1 (xv_name 2 rfl) (xv_lenS T.len (xv_name 8 rfl) (SqL.of (sa _ _ hpx))) (hBx.up sa (Nat.le_refl _)) (fun r1 Hb r10 r11 sb hBb => ?_) (by rw [hplen]; omega) (by rw [hplen]; omega)
        rw [hplen] at r11
        obtain ⟨pv, hpv, hpm⟩ := day_len r10 r11
        have hpxb := sb _ _ hptb (sa _ _ hpx)
        refine ⟨pt, _, r1, _, rfl, rfl, SqL.of hpxb, hpv, ?_⟩
        have sX2 : SameB b Hx Hb := (SameB.of sa).trans sb
        have pb := tall pv hpm
        refine ⟨_, sX2 _ _ hlb hacc, ?_, fun y o ny e => ?_, ?_, acc ++ [pv], ?_, ?_, ?_⟩
        · have h4 : 100000 < sizeLine := by decide
          rw [List.length_map]; omega
        · rw [upd_ne (ne_of_none e hl)]
          exact sX2 y o ny (sX y o ny e)
        · obtain ⟨g, m, c, e1, e2, e3, e4, e5⟩ := hBb
          exact ⟨g, m, c, by rw [upd_ne (Ne.symm hlb)]; exact e1, e2, e3, e4, by omega⟩
        · rw [List.map_append]; exact upd_same
        · rw [List.length_append]; simp; omega
        · intro x hx
          rcases List.mem_append.mp hx with hx | hx
          · exact hab x hx
          · rw [List.mem_singleton.mp hx]; exact pb
      obtain ⟨sX, hBx, acc, hacc, hal, hab⟩ := w
      have hal8 : acc.length ≤ 8 := hal
      have sB8x : SameB b H8 Hx := (sB10.trans (.of s11)).trans sX
      have s0x : Same H' Hx := fun y o e => sB8x y o (ne_of_none e hb0) (s08 y o e)
      have g10 : Same (hid [b] H10) (hid [b] Hx) := (hid_mono s11).trans (sX.hid (List.mem_singleton.mpr rfl))
      have kzx := kz10.up g10
      have kvx := kv10.up g10
      have hpdx : Hx pd = some (.lst (dl.map V.int)) := sX _ _ (Ne.symm hbpd) (s11 _ _ hp10)
      have hlM : l ∉ [b] := fun e => hlb (List.mem_singleton.mp e)
      refine ⟨acc.map PyData.int, .lst (by rw [hid_of hlM]; exact hacc) (ints_dq _), fun j σ' H12 => SameB b Hx H12 ∧ BagAt H12 b (309 + 3 * j) ∧ ∃ v9 v10 v11 v12 v13 v14 v15 v16 v17, σ' = [some (.ref a), some (.int (k : Int)), some (.ref b), some vp, some (.ref z), some (.ref pd), w6, w7, some (.ref pt), v9, v10, v11, v12, v13, v14, v15, v16, v17],
        ⟨.of (Same.refl _), hBx.up (Same.refl _) (by show 301 + 8 ≤ _; omega), u9, u10, u11, u12, u13, u14, u15, u16, u17, rfl⟩, fun j σ' H12 w => w.1.hid (List.mem_singleton.mpr rfl), fun j it hj σ' H12 v hw hv => ?_, fun σ' H12 hw => ?_⟩
      · obtain ⟨y1, hB12, v9, v10, v11, v12, v13, v14, v15, v16, v17, rfl⟩ := hw
        obtain ⟨t, ht0, rfl⟩ := map_get hj
        have hj8 : j < 8 := by
          have := (List.getElem?_eq_some_iff.mp ht0).1
          omega
        have ht := hab t (List.mem_of_getElem? ht0)
        have ev := dp_int hv
        subst ev
        refine rg_name 10 ?_ scLaw.nd
        -- the rule, how many, the day
        refine rb_setR 11 (re_menuV (vs := [.str "ahead", .str "behind", .str "strict"]) (fun _ _ => rfl) (by decide) (ra_cons (XV.go xv_str fun Ha sa => ra_cons (XV.go xv_str fun Hb sb => ra_1 (XV.go xv_str fun Hc sc => ⟨rfl, fun l2 hl2 => ?_⟩))))) scLaw.nd
        have hBc := hB12.up ((sa.trans sb).trans sc) (Nat.le_refl _)
        have hl2b : l2 ≠ b := fun e => by rw [e] at hl2; exact hBc.some hl2
        refine re_take GT FT hr1 (xv_name 2 rfl) xv_int (bag_new hBc hl2) fun r Hd r0 r3 sd hBd => ⟨r, rfl, r0, r3, sd l2 _ hl2b upd_same, fun zv hzv => ?_⟩
        obtain ⟨rule, rfl, hrule⟩ := rule_of hzv
        have yd : SameB b Hx Hd := (y1.trans (.of (((sa.trans sb).trans sc).trans (same_new hl2)))).trans sd
        refine rb_setR 12 (re_menu (n := 8) (fun _ _ => rfl) (by decide) (ra_int xv_int fun Ia ia => ra_int xv_int fun Ib ib => ra_int xv_int fun Ic ic => ra_int xv_int fun Id id => ra_int xv_int fun Ie ie => ra_int xv_int fun If if' => ra_int xv_int fun Ig ig => ra_1 (XV.go (v := .int 200) xv_int fun Ih ih => ⟨[0, 1, 3, 12, 3, 1, 61, 200], rfl, rfl, fun l3 hl3 => ?_⟩))) scLaw.nd
        have sI := ((((((ia.trans ib).trans ic).trans id).trans ie).trans if').trans ig).trans ih
        have hBi := hBd.up sI (Nat.le_refl _)
        have hl3b : l3 ≠ b := fun e => by rw [e] at hl3; exact hBi.some hl3
        refine re_take GT FT hr1 (xv_name 2 rfl) xv_int (bag_new hBi hl3) fun r' He r0' r8 se hBe => ⟨r', rfl, r0', r8, se l3 _ hl3b upd_same, fun mz hmz => ?_⟩
        obtain ⟨n, rfl, hn⟩ := many_of hmz
        have ye : SameB b Hx He := (yd.trans (.of (sI.trans (same_new hl3)))).trans se
        have hpde : He pd = some (.lst (dl.map V.int)) := ye _ _ (Ne.symm hbpd) hpdx
        refine rb_setR 13 ⟨_, pe_ix ix_list re_ re_ (fun _ _ => rfl), XV.go (xv_name 5 rfl) fun Ja ja => ?_⟩ scLaw.nd
        have hdlen : ((dl.map V.int).length : Int) = (dl.length : Int) := by rw [List.length_map]
        have c300 : (300 : Nat) < 2 ^ 200 := by decide
        refine re_take GT FT hr1 (xv_name 2 rfl) (xv_lenS T.len (xv_name 5 rfl) (SqL.of (ja _ _ hpde))) (hBe.up ja (Nat.le_refl _)) (fun r'' Hf r0'' r9 sf hBf => ?_) (by rw [hdlen]; omega) (by rw [hdlen]; omega)
        rw [hdlen] at r9
        obtain ⟨dy, hdy, hdm⟩ := day_len r0'' r9
        have hpdf := sf _ _ (Ne.symm hbpd) (ja _ _ hpde)
        refine ⟨pd, _, r'', _, rfl, rfl, SqL.of hpdf, hdy, ?_⟩
        have hdb := hbig dy hdm
        have yf : SameB b Hx Hf := (ye.trans (.of ja)).trans sf
        have Lf : Live [b] Hf := fun y hy => by rw [List.mem_singleton.mp hy]; exact hBf.some
        have kzf := kzx.up (yf.hid (List.mem_singleton.mpr rfl))
        have kvf := kvx.up (yf.hid (List.mem_singleton.mpr rfl))
        -- what is due
        refine rb_setRD 15 (M := [b]) (own := [("_law_at", 14)]) n (by omega) (fun i => dueD t rule f st (dy + (i : Int))) T.rng Lf scLaw.nd (xv_name 12 rfl).int (blkOk_by (own := [("_law_at", 14)]) (N := lawN) (sc := defScope sLaw) (by decide +kernel)) (fun p i H1 hi hp s1 Lp => ?comp) (fun pu xu Hg sg hpu hg hxu => ?_)
        case comp =>
          intro s0 H0 C0 cl fp
          refine rg_name 14 ?_ scLaw.nd
          refine ⟨rfl, Same.refl _, fun s0 H0 C0 cl fp => ?_⟩
          exact XD.go ((xd_call Lp GL hr3 FL.g FL.F.kp FL.b (xa_cons (xd_name 3 rfl (kvf.up (hid_step hp s1))) (xa_cons (xd_add (xd_mul xd_int (xd_add (xv_name 13 rfl).int (xv_name 14 rfl).int) (.inl (by decide))) (xv_name 10 rfl).int) (xa_cons (xd_name 11 rfl (.str rule)) xa_nil))) ⟨f, st, 1440 * (dy + (i : Int)) + t, rule, rfl, hok, hlen50, rfl⟩).to due_eq) fun v H4 s4 hv => ⟨s4, hv⟩
        have Lg := Lf.mono sg
        have kzg := kzf.up (hid_mono sg)
        have kvg := kvf.up (hid_mono sg)
        have kug : Dq K (hid [b] Hg) (.ref pu) (.list (dueL t rule f st dy n)) := .lst (by rw [hid_of (Lf.fresh hpu)]; exact hg) hxu
        have sh1 := sn_dueL (d := dy) (rule := rule) hp4 ht (Nat.le_of_lt hdb) hn
        have sh2 := sn_tou hp4 ht
        refine rb_range T.rng (XV.go xv_int fun Hh sh => ?_)
        refine ⟨2, rfl, by decide, fun i σ' H1 => Same Hg H1 ∧ ∃ x9 x16 x17, σ' = [some (.ref a), some (.int (k : Int)), some (.ref b), some vp, some (.ref z), some (.ref pd), w6, w7, some (.ref pt), x9, some (.int t), some (.str rule), some (.int (n : Int)), some (.int dy), v14, some (.ref pu), x16, x17], ⟨sh, v9, v16, v17, rfl⟩, fun i σ' H1 hi w => ?_, fun σ' H1 w => ?_⟩
        · obtain ⟨sg1, x9, x16, x17, rfl⟩ := w
          have L1 := Lg.mono sg1
          have kz1 := kzg.up (hid_mono (M := [b]) sg1)
          have kv1 := kvg.up (hid_mono (M := [b]) sg1)
          have ku1 := kug.up (hid_mono (M := [b]) sg1)
          refine rg_name 9 ?_ scLaw.nd
          refine rb_parR 16 17 (ra_cons (XL.go (M := [b]) (xl_dailyL L1 GX hr6 FX (xv_name 4 rfl) kz1 hok hlen50 hrule ht hn (xv_name 10 rfl) (xv_name 11 rfl) (xv_name 13 rfl) (xv_name 12 rfl)) fun pf xf H2 s2 hpf h2 hx2 => ra_1 (XL.go (M := [b]) (xl_touch (L1.mono s2) GU hr6 FU (xv_name 4 rfl) (kz1.up (hid_mono s2)) hok hlen50 ht (xv_name 10 rfl)) fun pq xq H3 s3 hpq h3 hx3 => ⟨_, _, rfl, ?_⟩))) scLaw.nd
          have s13 := s2.trans s3
          have L3 := L1.mono s13
          have kf : Dq K (hid [b] H3) (.ref pf) (.list (dueL t rule f st dy n)) := .lst (by rw [hid_of (L1.fresh hpf)]; exact s3 _ _ h2) (hx2.up (hid_mono s3))
          have kq : Dq K (hid [b] H3) (.ref pq) (.list ((touL t (rowsP f st)).map encIS)) := .lst (by rw [hid_of ((L1.mono s2).fresh hpq)]; exact h3) hx3
          refine rb_ifF ((xt_or2 (xt_reprNe (M := [b]) hA hr.units T.rep (xd_name 16 rfl kf) (xd_name 15 rfl (ku1.up (hid_mono s13))) sh1.h1 sh1.h2 sh1.h3 sh1.h4) fun _ =>
            xt_reprNe (M := [b]) hA hr.units T.rep (xd_name 17 rfl kq) (XL.dd (xl_call L3 GO hr1 FO.g FO.F.kp FO.b (xa_cons (xd_name 3 rfl (kv1.up (hid_mono s13))) (xa_cons (xv_name 10 rfl).int xa_nil)) ⟨f, st, t, rfl, ht, hp4, rfl⟩) L3) sh2.h1 sh2.h2 sh2.h3 sh2.h4).to rfl) fun H4 s4 => ?_
          have hlf : xf.length < 100000 := by
            rw [dpa_len hx2]
            unfold dueL
            rw [List.length_map, List.length_range]
            omega
          have hlq : xq.length < 100000 := by
            rw [dpa_len hx3, List.length_map]
            have := touL_len t (rowsP f st)
            rw [rowsP_len] at this
            omega
          refine rb_append (M := [pf]) (xs := xf) (List.mem_singleton.mpr rfl) (xv_name 16 rfl) (s4 _ _ (s3 _ _ h2)) xd_str hlf fun v5 H5 s5 hv5 => ?_
          have hqf : pq ≠ pf := fun e => by
            rw [e] at hpq
            rw [h2] at hpq
            cases hpq
          have hpf0 : Hg pf = none := sg1.free hpf
          have hpq0 : Hg pq = none := (sg1.trans s2).free hpq
          refine rb_append (M := [pq]) (xs := xq) (List.mem_singleton.mpr rfl) (xv_name 17 rfl) (by rw [upd_ne hqf]; exact s5 _ _ (s4 _ _ h3)) xd_str hlq fun v6 H6 s6 hv6 => rb_nil ?_
          exact ⟨same_upd ((same_upd (((sg1.trans s13).trans s4).trans s5) hpf0).trans s6) hpq0, _, _, _, rfl⟩
        · obtain ⟨sg1, x9, x16, x17, rfl⟩ := w
          have L1 := Lg.mono sg1
          have kz1 := kzg.up (hid_mono (M := [b]) sg1)
          have kv1 := kvg.up (hid_mono (M := [b]) sg1)
          refine rb_for (M := [b]) (ds := [dy, dy + 1, 10 ^ 20].map PyData.int) (xd_lst L1 (xa_cons (xv_name 13 rfl).int (xa_cons (xd_add (xv_name 13 rfl).int xd_int) (xa_cons (xd_pow xd_int xd_int ⟨by decide, by decide, by decide⟩) xa_nil)))) fun H2 s2 => ⟨fun i σ' H3 => Same H2 H3 ∧ ∃ x14, σ' = [some (.ref a), some (.int (k : Int)), some (.ref b), some vp, some (.ref z), some (.ref pd), w6, w7, some (.ref pt), x9, some (.int t), some (.str rule), some (.int (n : Int)), some (.int dy), x14, some (.ref pu), x16, x17], ⟨Same.refl _, v14, rfl⟩, fun i σ' H3 w => hid_mono w.1, fun i it hi σ' H3 v w hv => ?_, fun σ' H3 w => ?_⟩
          · obtain ⟨r1, x14, rfl⟩ := w
            obtain ⟨d, hd0, rfl⟩ := map_get hi
            have ev := dp_int hv
            subst ev
            have e20 : (10 : Int) ^ 20 = 100000000000000000000 := by decide
            have hd : d.natAbs ≤ 10 ^ 21 := by
              have e21 : (10 : Nat) ^ 21 = 1000000000000000000000 := by decide
              have hm := List.mem_of_getElem? hd0
              simp only [List.mem_cons, List.not_mem_nil, or_false] at hm
              rcases hm with e | e | e <;> omega
            have hx32 : (d * 1440 + t).natAbs < 10 ^ 32 := by
              have e21 : (10 : Nat) ^ 21 = 1000000000000000000000 := by decide
              have := e32
              omega
            have s23 := s2.trans r1
            refine rg_name 14 ?_ scLaw.nd
            refine rb_ifF (xt_reprNeP T.rep (d := dueD t rule f st d) (place_plain (rule := rule) hp4 hx32) (xd_daily (M := [b]) (L1.mono s23) GY hr6 FY (xv_name 4 rfl) (kz1.up (hid_mono s23)) hok hlen50 hrule ht (xv_name 10 rfl) (xv_name 11 rfl) (xv_name 14 rfl))
              ((xd_call (M := [b]) (L1.mono s23) GL hr3 FL.g FL.F.kp FL.b (xa_cons (xd_name 3 rfl (kv1.up (hid_mono s23))) (xa_cons (xd_add (xd_mul xd_int (xv_name 14 rfl).int (.inl (by decide))) (xv_name 10 rfl).int) (xa_cons (xd_name 11 rfl (.str rule)) xa_nil))) ⟨f, st, 1440 * d + t, rule, rfl, hok, hlen50, rfl⟩).to due_eq)) fun H4 s4 => rb_nil ?_
            exact ⟨r1.trans s4, _, rfl⟩
          · obtain ⟨r1, x14, rfl⟩ := w
            have sgz : Same Hf H3 := ((sg.trans sg1).trans s2).trans r1
            exact rb_nil ⟨yf.trans (.of sgz), hBf.up sgz (by omega), _, _, _, _, _, _, _, _, _, rfl⟩
      · obtain ⟨y1, hB12, v9, v10, v11, v12, v13, v14, v15, v16, v17, rfl⟩ := hw
        exact rb_nil ⟨sH0.trans fun y o e => y1 y o (ne_of_none e hb0) (s0x y o e), _, _, _, _, _, _, _, _, _, _, _, _, _, _, _, _, _, rfl⟩
    · obtain ⟨sH0, u1, u2, u3, u4, u5, u6, u7, u8, u9, u10, u11, u12, u13, u14, u15, u16, u17, rfl⟩ := w
      exact rb_ret (M := []) xd_bl fun v H1 s1 hv => by
        rw [dp_bl hv]
        exact q H1 (sH0.trans s1)
end
end Zn

set_option Elab.async false
set_option linter.all false
set_option maxRecDepth 100000
set_option maxHeartbeats 8000000
namespace Zn
open PySem PySem.Spec PyProof.Rows L2 Dl
/-! ### the law called behind the top -/
section
variable {P : Program} {w : World} {K : PySem.W.Frag} {mg mb : Str → Option Value} {fa a : Addr} {fd : FuncData} {t : Shared} {us : List Value} {ns : List Int}
/-- from a heap H that tells of the script at most -/
theorem head_from {H : Hp} (KX : K.In t.heap) (hg : t.heap.Ns mainGlobals mg) (hb : t.heap.Ns builtinsNs mb) (hbb : ∀ x : Str, x ≠ "__name__" → mb x = bootBuiltins x) (hlim : t.heap.NoLimit) (gens : t.gens = #[])
    (hobj : t.heap.get? a = some { cls := .type "list", data := .seq us.toArray })
    (F : ∀ base : Heap, K.In base → base.Ns mainGlobals mg → FnG P w K mg base 8 fa fd ["_law_script"] (spLaw K)) (hbd : ∀ (s : Shared) (u : Value), BindsTo s fd ⟨[u], []⟩ [("_law_script", u)])
    (only : Only H) (hS : SqL K H a (ns.map V.int)) (hok : HOk P w H t.heap) (at1 : ∀ b, H b ≠ none → b = a) (nk : H a ≠ none → K.lookup a = none) :
    codeAny (model P w) callerA (.call (.ref fa) ⟨[.ref a], []⟩) (fun r s => r = .ok (.ret (.bool true)) ∧ OldK t.heap s.heap ∧ s.os = t.os ∧ AllBare s.gens) t := by
  have kept : ∀ {b : Addr} {o : Obj}, t.heap.get? b = some o → H b = none → (hidT t.heap H).get? b = some o := fun p q => hidT_get p q
  have free : ∀ {b : Addr} {o : Obj}, t.heap.get? b = some o → (b = a → False) → H b = none := fun {b o} _ nb => Classical.byContradiction fun z => nb (at1 b z)
  have spaces : ∀ {b : Addr} {m : Str → Option Value}, t.heap.Ns b m → (hidT t.heap H).Ns b m := fun {b m} z => by
    obtain ⟨o, es, ep, p, q, r⟩ := z
    refine ⟨o, es, ep, kept p (free p fun e => ?_), q, r⟩
    rw [e, hobj] at p
    injection p with p
    rw [← p] at q
    injection q
  have kin : K.In (hidT t.heap H) := fun b o e => kept (KX b o e) (Classical.byContradiction fun z => by
    have eb := at1 b z
    rw [eb] at z e
    rw [nk z] at e
    cases e)
  obtain ⟨mc, hl1, hl2⟩ := hlim
  have md : Mod K mg (hidT t.heap H) := ⟨kin, spaces hg, ⟨mb, spaces hb, hbb⟩, mc, spaces hl1, hl2⟩
  have env : Env0 P w K mg (hidT t.heap H) callerA [] t H := { frames := rfl, mod := md, bs := fun b o e => of_hidT e, bsz := Nat.le_of_eq (hidT_size _ _), funs := trivial, frf := fun b z => absurd z List.not_mem_nil, hok := hok, bare := .of_eq gens }
  have run := (F _ kin (spaces hg)).run callerA rfl ⟨rfl, by decide, by decide⟩ [] t H ⟨[.ref a], []⟩ [.ref a] [.ref a] (fun v _ => v = .bl true) (fun _ _ _ => False) env (hbd t (.ref a)) (.cons rfl .nil) ⟨a, ns, rfl, hS, fun _ _ => rfl⟩
  refine codeAny_mono run fun r s z => ?_
  match r, z with
  | .error e, z => exact z.elim
  | .ok .next, z => exact z.elim
  | .ok .brk, z => exact z.elim
  | .ok .cont, z => exact z.elim
  | .ok (.ret u), z =>
    obtain ⟨v, H2, os, bare, un, hok2, rv, ev⟩ := z
    have ev' : v = .bl true := ev
    rw [ev'] at rv
    have eu : u = Value.bool true := rv
    rw [eu]
    refine ⟨rfl, OldK.of_keep fun b o e => ?_, os, bare⟩
    rcases only b with n | ⟨ob, xs, fz⟩
    · exact un.keep b o e n (fun q => absurd (show b ∈ ([] : List Addr) from q) List.not_mem_nil) (by simp)
    · have p1 := (hok b _ fz).1
      have p2 := (hok2 b _ (un.frzs b ob _ fz)).1
      rw [e] at p1
      injection p1 with p1
      rw [p1]
      exact p2
/-- the law, called with a script -/
theorem head_g (KX : K.In t.heap) (hg : t.heap.Ns mainGlobals mg) (hb : t.heap.Ns builtinsNs mb) (hbb : ∀ x : Str, x ≠ "__name__" → mb x = bootBuiltins x) (hlim : t.heap.NoLimit) (gens : t.gens = #[])
    (hobj : t.heap.get? a = some { cls := .type "list", data := .seq us.toArray }) (hi : IntsAre us ns) (hl : ns.length ≤ sizeLine)
    (F : ∀ base : Heap, K.In base → base.Ns mainGlobals mg → FnG P w K mg base 8 fa fd ["_law_script"] (spLaw K)) (hbd : ∀ (s : Shared) (u : Value), BindsTo s fd ⟨[u], []⟩ [("_law_script", u)]) :
    codeAny (model P w) callerA (.call (.ref fa) ⟨[.ref a], []⟩) (fun r s => r = .ok (.ret (.bool true)) ∧ OldK t.heap s.heap ∧ s.os = t.os ∧ AllBare s.gens) t := by
  have vi := vals_ints hi
  have el := hi.length
  rcases lk : K.lookup a with _ | o
  · have e1 : ∀ b, b ≠ a → (if b = a then some (HO.frz { cls := .type "list", data := .seq us.toArray } (.lst (ns.map V.int))) else none) = none := fun b n => if_neg n
    refine head_from (H := fun b => if b = a then some (.frz { cls := .type "list", data := .seq us.toArray } (.lst (ns.map V.int))) else none) (ns := ns) KX hg hb hbb hlim gens hobj F hbd (fun b => ?_) (.inl (.inr ⟨_, if_pos rfl⟩)) (fun b u z => ?_) (fun b z => Classical.byContradiction fun n => z (e1 b n)) fun _ => lk
    · exact (Classical.em (b = a)).elim (fun z => .inr ⟨_, _, if_pos z⟩) fun z => .inl (e1 b z)
    · rcases Classical.em (b = a) with e | e
      · rw [e] at z ⊢
        have z' := (if_pos rfl).symm.trans z
        injection z' with z'
        rw [← z']
        exact ⟨hobj, by rw [List.length_map]; exact hl, us, _, vi, hobj⟩
      · exact absurd ((e1 b e).symm.trans z) (fun q => nomatch q)
  · have e := KX a o lk
    rw [hobj] at e
    injection e with e
    rw [← e] at lk
    exact head_from (H := fun _ => none) (ns := ns) KX hg hb hbb hlim gens hobj F hbd (fun _ => .inl rfl) (.inr ⟨_, us.toArray, _, lk, rfl, rfl, rfl, by rw [List.size_toArray, el]; exact hl, by simpa using vi⟩) (fun _ _ z => nomatch z) (fun _ z => absurd rfl z) (fun z => absurd rfl z)
end
theorem walk_g {l : PySem.W.OpenLaw} {q : Program} {loose : List Str} {XP : (Str → Option Value) → Heap → Prop} {YP : World → Heap → Prop} {d : DefRec} {K : Params → PySem.W.Frag} (hn : l.most = some 63) (hdf : d.params.defaults = [])
    (hY : ∀ (w : World) (h : Heap), YP w h → (K w.params).In h)
    (F : ∀ (w : World) (mg : Str → Option Value) (fa : Addr) (h : Heap), (K w.params).In h → h.Ns mainGlobals mg → mg d.name = some (.ref fa) →
      ∃ fd : FuncData, (∀ (s : Shared) (u : Value), BindsTo s fd ⟨[u], []⟩ [("_law_script", u)]) ∧ ∀ base : Heap, (K w.params).In base → base.Ns mainGlobals mg → FnG l.prog w (K w.params) mg base 8 fa fd ["_law_script"] (spLaw (K w.params))) :
    PySem.W.WalkO q loose XP YP l.row.toRowW d [] (fun f vs => PySem.call f vs) :=
  Att.attach_call hn hdf fun w _ s1 mg _ fa _ _ _ _ a us ns G Y _ _ _ hm hobj hi hl hg => by
    have KX := hY w _ Y
    obtain ⟨fd, hb, hF⟩ := F w mg fa _ KX G.T.g hm
    exact head_g KX G.T.g G.T.b G.T.builtins G.T.nolimit hg hobj hi (Nat.le_trans hl (by decide)) hF hb
end Zn

set_option Elab.async false
set_option linter.all false
set_option maxRecDepth 100000
set_option maxHeartbeats 8000000
namespace Zn
open PySem PySem.Spec PyProof.Rows L2 Dl
/-! ### what the start has written, put together -/
def DfE (K : PySem.W.Frag) (mg : Str → Option Value) (x : Str) (st : Stmt) (ps : List Str) : Prop := ∃ f fd, Df K mg x st ps f fd
theorem df_mk {K : PySem.W.Frag} {h : Heap} {mg : Str → Option Value} {x : Str} {st : Stmt} {ps : List Str} {f : Addr} {od an : Option Addr} {osl : Array (Option Value)} {oc kV dc pm cd ct : Value} (X : K.In h) (G : h.Ns mainGlobals mg)
    (a : PySem.W.nsIn K mainGlobals x = some (some (.ref f))) (l : K.lookup f = some ⟨oc, od, .func (PySem.W.fnOf x x (defArgs st) (defBody st) (defScope st) .none kV dc pm an cd ct), osl⟩) (c : PySem.W.codeIn K cd x = true) (k : PySem.W.keepIn K (.ref f) = true)
    (hb : ∀ (us : List Value), us.length = ps.length → bindArgs (PySem.W.fnOf x x (defArgs st) (defBody st) (defScope st) .none kV dc pm an cd ct) ⟨us, []⟩ = pure (ps.zip us)) : DfE K mg x st ps :=
  ⟨f, _, fun_mk l c k, PySem.W.mg_of X G a, .all hb⟩
def MtE (K : PySem.W.Frag) (C : Addr) (x q : Str) (st : Stmt) (ps : List Str) : Prop := ∃ f fd, Mt K C x q st ps f fd
theorem mt_mk {K : PySem.W.Frag} {C : Addr} {x q : Str} {st : Stmt} {ps : List Str} {f : Addr} {od an : Option Addr} {osl : Array (Option Value)} {oc kV dc pm cd ct : Value}
    (a : PySem.W.findIn K (.ref C) x = some (some (.ref f))) (i : PySem.W.isFn K (.ref f) = true) (l : K.lookup f = some ⟨oc, od, .func (PySem.W.fnOf x q (defArgs st) (defBody st) (defScope st) .none kV dc pm an cd ct), osl⟩) (c : PySem.W.codeIn K cd q = true) (k : PySem.W.keepIn K (.ref f) = true)
    (hb : ∀ (us : List Value), us.length = ps.length → bindArgs (PySem.W.fnOf x q (defArgs st) (defBody st) (defScope st) .none kV dc pm an cd ct) ⟨us, []⟩ = pure (ps.zip us)) : MtE K C x q st ps :=
  ⟨f, _, fun_mk l c k, .all hb, a, i, k⟩
structure ZC (K : PySem.W.Frag) (C : Addr) : Prop where
  aC : PySem.W.nsIn K mainGlobals "Zone" = some (some (.ref C))
  pg : PySem.W.plainGet K C Str.empty = true
  hd : PySem.W.hasDictIn K C = true
  po : PySem.W.plainOver K C = true
  sa : PySem.W.findIn K (.ref C) "__setattr__" = some (some (.builtin "object.__setattr__"))
  ha : PySem.W.findIn K (.ref C) "__class__" = some (some (.builtin "object.__class__"))
  hm : PySem.W.mroIn K C (.type "object") = some true
  bq : (Value.ref C == Value.ref C) = true
  mks : PySem.W.makesIn K C = true
  kc : PySem.W.keepIn K (.ref C) = true
  no : PySem.W.kitOne K (.type "list") (.ref C) = some false
  nB : PySem.W.findIn K (.ref C) "base" = some none
  nR : PySem.W.findIn K (.ref C) "rows" = some none
  mO : MtE K C "offset_at" "Zone.offset_at" sOffAt ["self", "moment"]
  mM : MtE K C "moments_of" "Zone.moments_of" sMom ["self", "reading"]
  mP : MtE K C "place" "Zone.place" sPlace ["self", "reading", "rule"]
  mG : MtE K C "gaps" "Zone.gaps" sGaps ["self"]
  mF : MtE K C "folds" "Zone.folds" sFolds ["self"]
/-- what all classes share -/
structure ObF (K : PySem.W.Frag) : Prop where
  hn : PySem.W.specialIn K (.builtin "object.__class__") "__get__" = some (some (.builtin "getset_descriptor.__get__"))
  htk : PySem.W.takesIn K (.builtin "object.__class__") = some true
/-- the class's maker -/
structure InF (K : PySem.W.Frag) (C : Addr) : Prop where
  ex : ∃ (f dt et : Addr) (od an : Option Addr) (osl : Array (Option Value)) (oc kV dc pm cd ct : Value) (o oe : Obj) (n ne : Nat), PySem.W.findIn K (.ref C) "__init__" = some (some (.ref f)) ∧ PySem.W.isFn K (.ref f) = true ∧
    K.lookup f = some ⟨oc, od, .func (PySem.W.fnOf "__init__" "Zone.__init__" (defArgs sInit) (defBody sInit) (defScope sInit) (.ref dt) kV dc pm an cd ct), osl⟩ ∧ PySem.W.codeIn K cd "Zone.__init__" = true ∧
    K.lookup dt = some o ∧ o.data = .seq #[.ref et] n ∧ K.lookup et = some oe ∧ oe.cls = .type "tuple" ∧ oe.data = .seq #[] ne
theorem in_mk {K : PySem.W.Frag} {C f dt et : Addr} {od an : Option Addr} {osl : Array (Option Value)} {oc kV dc pm cd ct : Value} {o oe : Obj} {n ne : Nat} (a : PySem.W.findIn K (.ref C) "__init__" = some (some (.ref f))) (i : PySem.W.isFn K (.ref f) = true)
    (l : K.lookup f = some ⟨oc, od, .func (PySem.W.fnOf "__init__" "Zone.__init__" (defArgs sInit) (defBody sInit) (defScope sInit) (.ref dt) kV dc pm an cd ct), osl⟩) (c : PySem.W.codeIn K cd "Zone.__init__" = true)
    (d : K.lookup dt = some o) (dd : o.data = .seq #[.ref et] n) (e : K.lookup et = some oe) (ec : oe.cls = .type "tuple") (ed : oe.data = .seq #[] ne) : InF K C :=
  ⟨⟨f, dt, et, od, an, osl, oc, kV, dc, pm, cd, ct, o, oe, n, ne, a, i, l, c, d, dd, e, ec, ed⟩⟩
theorem ci_mk {K : PySem.W.Frag} {x : Str} {n : Int} {t : Tok} (h : PySem.W.nsIn K mainGlobals x = some (some (.int n t))) : ∃ t, PySem.W.nsIn K mainGlobals x = some (some (.int n t)) := ⟨t, h⟩
theorem kit_self {K : PySem.W.Frag} {C : Addr} (h : (Value.ref C == Value.ref C) = true) : PySem.W.kitOne K (.ref C) (.ref C) = some true := by
  unfold PySem.W.kitOne
  exact if_pos h
theorem kit_list {K : PySem.W.Frag} {C : Addr} {co} (h : (Value.type "list" == Value.ref C) = false) (c : PySem.W.clsIn K C = some co) (t : PySem.W.typeIn K (.ref C) = some (.type "type")) (s : PySem.W.subIn K (.type "list") (.ref C) = some false) : PySem.W.kitOne K (.type "list") (.ref C) = some false := by
  unfold PySem.W.kitOne
  rw [if_neg (by rw [h]; decide)]
  unfold PySem.W.kitCls
  show (if ((PySem.W.clsIn K C).isSome && PySem.W.typeIn K (.ref C) == some (.type "type")) = true then PySem.W.subIn K (.type "list") (.ref C) else none) = some false
  rw [c, t, if_pos (by rfl), s]
theorem binds_init {K : PySem.W.Frag} {dt et : Addr} {an : Option Addr} {kV dc pm cd ct : Value} {o : Obj} {n : Nat} (ld : K.lookup dt = some o) (dd : o.data = .seq #[.ref et] n) :
    Binds K (PySem.W.fnOf "__init__" "Zone.__init__" (defArgs sInit) (defBody sInit) (defScope sInit) (.ref dt) kV dc pm an cd ct) ["self", "offset", "changes"] [] ∧ Binds K (PySem.W.fnOf "__init__" "Zone.__init__" (defArgs sInit) (defBody sInit) (defScope sInit) (.ref dt) kV dc pm an cd ct) ["self", "offset", "changes"] [.ref et] :=
  ⟨fun s us X hl => by
    rw [List.append_nil] at hl ⊢
    match us, hl with
    | [_, _, _], _ => exact PySem.W.binds_K X rfl ld dd rfl rfl, fun s us X hl => by
    rw [List.length_append] at hl
    have h2 : us.length = 2 := by simpa using hl
    match us, h2 with
    | [_, _], _ => exact PySem.W.binds_K X rfl ld dd rfl rfl⟩
/-- the tuple of the rules, as the start has laid it -/
structure RuF (K : PySem.W.Frag) : Prop where
  ex : ∃ (a : Addr) (o : Obj) (t1 t2 t3 : Tok) (n : Nat), PySem.W.nsIn K mainGlobals "RULES" = some (some (.ref a)) ∧ K.lookup a = some o ∧ o.cls = .type "tuple" ∧ o.data = .seq #[.str "ahead" t1, .str "behind" t2, .str "strict" t3] n
theorem ru_mk {K : PySem.W.Frag} {a : Addr} {o : Obj} {t1 t2 t3 : Tok} {n : Nat} (g : PySem.W.nsIn K mainGlobals "RULES" = some (some (.ref a))) (l : K.lookup a = some o) (c : o.cls = .type "tuple") (d : o.data = .seq #[.str "ahead" t1, .str "behind" t2, .str "strict" t3] n) : RuF K :=
  ⟨a, o, t1, t2, t3, n, g, l, c, d⟩
structure NoB (K : PySem.W.Frag) : Prop where
  isi : PySem.W.nsIn K mainGlobals "isinstance" = some none
  int : PySem.W.nsIn K mainGlobals "int" = some none
  bool : PySem.W.nsIn K mainGlobals "bool" = some none
  lst : PySem.W.nsIn K mainGlobals "list" = some none
  tup : PySem.W.nsIn K mainGlobals "tuple" = some none
  len : PySem.W.nsIn K mainGlobals "len" = some none
  abs : PySem.W.nsIn K mainGlobals "abs" = some none
  min : PySem.W.nsIn K mainGlobals "min" = some none
  max : PySem.W.nsIn K mainGlobals "max" = some none
  rep : PySem.W.nsIn K mainGlobals "repr" = some none
  rng : PySem.W.nsIn K mainGlobals "range" = some none
  str : PySem.W.nsIn K mainGlobals "str" = some none
  sum : PySem.W.nsIn K mainGlobals "sum" = some none
  srt : PySem.W.nsIn K mainGlobals "sorted" = some none
structure DfA (K : PySem.W.Frag) (mg : Str → Option Value) : Prop where
  d0 : DfE K mg "is_whole" sWhole ["value"]
  d1 : DfE K mg "is_whole_pair" sPair ["value"]
  d2 : DfE K mg "is_integer" sIsInt ["value", "low", "high"]
  d3 : DfE K mg "is_time" sIsTime ["value"]
  d4 : DfE K mg "need_integer" sNeed ["value"]
  d5 : DfE K mg "need_time" sNeedT ["value"]
  d6 : DfE K mg "day_of" sDayOf ["reading"]
  d7 : DfE K mg "reading_of" sReadOf ["day", "time"]
  d8 : DfE K mg "rows_of" sRows ["offset", "changes"]
  d9 : DfE K mg "can_follow" sFollow ["rows", "row"]
  d10 : DfE K mg "is_jump" sIsJump ["value"]
  d11 : DfE K mg "jump_of" sJump ["row"]
  d12 : DfE K mg "torn_readings" sTorn ["row"]
  d13 : DfE K mg "placed_at_change" sPlaced ["row", "reading", "rule"]
  d14 : DfE K mg "is_rule" sIsRule ["value"]
  d15 : DfE K mg "need_zone" sNeedZ ["value"]
  d16 : DfE K mg "daily" sDaily ["zone", "time", "rule", "day"]
  d17 : DfE K mg "daily_list" sDailyL ["zone", "time", "rule", "day", "many"]
  d18 : DfE K mg "need_daily" sNeedD ["zone", "time", "rule", "day"]
  d19 : DfE K mg "need_rule" sNeedR ["value"]
  d20 : DfE K mg "touched_days" sTouch ["zone", "time"]
  d21 : DfE K mg "_law_cell" sCell ["_law_script", "_law_index"]
  d22 : DfE K mg "_law_bag" sBag ["_law_cell_here"]
  d23 : DfE K mg "_law_take" sTake ["_law_bag_here", "_law_many"]
  d24 : DfE K mg "_law_zone" sZone ["_law_bag_here", "_law_most"]
  d25 : DfE K mg "_law_changes" sLChanges ["_law_plan"]
  d26 : DfE K mg "_law_made" sLMade ["_law_plan"]
  d27 : DfE K mg "_law_offset" sLOff ["_law_plan", "_law_moment"]
  d28 : DfE K mg "_law_moments" sLMom ["_law_plan", "_law_reading"]
  d29 : DfE K mg "_law_place" sLPlace ["_law_plan", "_law_reading", "_law_rule"]
  d30 : DfE K mg "_law_touched" sLTou ["_law_plan", "_law_time"]
  d31 : DfE K mg "_law_times" sLTimes ["_law_bag_here", "_law_plan"]
  d32 : DfE K mg "law" sLaw ["_law_script"]
theorem al_of {P : Program} {w : World} {K : PySem.W.Frag} {h : Heap} {mg : Str → Option Value} {base : Heap} {C : Addr} (X : K.In h) (G : h.Ns mainGlobals mg) (hGJ : ∃ t, PySem.W.nsIn K mainGlobals "GREATEST_JUMP" = some (some (.int 720 t))) (hDL : ∃ t, PySem.W.nsIn K mainGlobals "DAY_LENGTH" = some (some (.int 1440 t))) (hMR : ∃ t, PySem.W.nsIn K mainGlobals "MOST_RESULTS" = some (some (.int 200 t))) (B : NoB K) (D : DfA K mg) (O : ObF K) (Q : ZC K C) (R : RuF K) (J : InF K C) : Al P w K mg base C := by
  have T : Nm mg := ⟨PySem.W.mg_none_of X G B.isi, PySem.W.mg_none_of X G B.int, PySem.W.mg_none_of X G B.bool, PySem.W.mg_none_of X G B.lst, PySem.W.mg_none_of X G B.tup, PySem.W.mg_none_of X G B.len, PySem.W.mg_none_of X G B.abs, PySem.W.mg_none_of X G B.min, PySem.W.mg_none_of X G B.max, PySem.W.mg_none_of X G B.rep, PySem.W.mg_none_of X G B.rng⟩
  have hstr := PySem.W.mg_none_of X G B.str
  have hsum := PySem.W.mg_none_of X G B.sum
  have hsrt := PySem.W.mg_none_of X G B.srt
  have Z : ZT K mg C := ⟨⟨Q.pg, Q.hd, Q.po, Q.sa⟩, Q.nB, Q.nR, PySem.W.mg_of X G Q.aC⟩
  have IZ : ZI K C := ⟨Q.ha, O.hn, O.htk, Q.hm, kit_self Q.bq, Q.no⟩
  obtain ⟨tg, hg⟩ := hGJ
  have hG : ∃ t, mg "GREATEST_JUMP" = some (.int 720 t) := ⟨tg, PySem.W.mg_of X G hg⟩
  obtain ⟨tg2, hg2⟩ := hDL
  have hD : ∃ t, mg "DAY_LENGTH" = some (.int 1440 t) := ⟨tg2, PySem.W.mg_of X G hg2⟩
  obtain ⟨tg3, hg3⟩ := hMR
  have hM : ∃ t, mg "MOST_RESULTS" = some (.int 200 t) := ⟨tg3, PySem.W.mg_of X G hg3⟩
  have RA : RulesAt K mg := by
    obtain ⟨a, o, t1, t2, t3, n, r1, r2, r3, r4⟩ := R
    exact ⟨a, PySem.W.mg_of X G r1, fun H => .inr ⟨o, _, n, r2, r3, r4, (by show 3 ≤ sizeLine; decide), .cons ⟨t1, rfl⟩ (.cons ⟨t2, rfl⟩ (.cons ⟨t3, rfl⟩ .nil))⟩⟩
  obtain ⟨f0, fd0, F0⟩ := D.d0
  obtain ⟨f1, fd1, F1⟩ := D.d1
  obtain ⟨f2, fd2, F2⟩ := D.d2
  obtain ⟨f3, fd3, F3⟩ := D.d3
  obtain ⟨f4, fd4, F4⟩ := D.d4
  obtain ⟨f5, fd5, F5⟩ := D.d5
  obtain ⟨f6, fd6, F6⟩ := D.d6
  obtain ⟨f7, fd7, F7⟩ := D.d7
  obtain ⟨f8, fd8, F8⟩ := D.d8
  obtain ⟨f9, fd9, F9⟩ := D.d9
  obtain ⟨f10, fd10, F10⟩ := D.d10
  obtain ⟨f11, fd11, F11⟩ := D.d11
  obtain ⟨f12, fd12, F12⟩ := D.d12
  obtain ⟨f13, fd13, F13⟩ := D.d13
  obtain ⟨f14, fd14, F14⟩ := D.d14
  obtain ⟨f15, fd15, F15⟩ := D.d15
  obtain ⟨f16, fd16, F16⟩ := D.d16
  obtain ⟨f17, fd17, F17⟩ := D.d17
  obtain ⟨f18, fd18, F18⟩ := D.d18
  obtain ⟨f19, fd19, F19⟩ := D.d19
  obtain ⟨f20, fd20, F20⟩ := D.d20
  obtain ⟨f21, fd21, F21⟩ := D.d21
  obtain ⟨f22, fd22, F22⟩ := D.d22
  obtain ⟨f23, fd23, F23⟩ := D.d23
  obtain ⟨f24, fd24, F24⟩ := D.d24
  obtain ⟨f25, fd25, F25⟩ := D.d25
  obtain ⟨f26, fd26, F26⟩ := D.d26
  obtain ⟨f27, fd27, F27⟩ := D.d27
  obtain ⟨f28, fd28, F28⟩ := D.d28
  obtain ⟨f29, fd29, F29⟩ := D.d29
  obtain ⟨f30, fd30, F30⟩ := D.d30
  obtain ⟨f31, fd31, F31⟩ := D.d31
  obtain ⟨c_mO, d_mO, C_mO⟩ := Q.mO
  obtain ⟨c_mM, d_mM, C_mM⟩ := Q.mM
  obtain ⟨c_mP, d_mP, C_mP⟩ := Q.mP
  obtain ⟨c_mG, d_mG, C_mG⟩ := Q.mG
  obtain ⟨c_mF, d_mF, C_mF⟩ := Q.mF
  obtain ⟨fi, dt, et, od, an, osl, oc, kV, dc, pm, cd, ct, oo, oe, n, ne, i1, i2, i3, i4, i5, i6, i7, i8, i9⟩ := J
  have W : ZMk P w K mg base C fi (PySem.W.fnOf "__init__" "Zone.__init__" (defArgs sInit) (defBody sInit) (defScope sInit) (.ref dt) kV dc pm an cd ct) et :=
    ⟨Z, ⟨Q.mks, i1, i2, Q.kc⟩, ok_init (fd := fd0) T Z hG F0 F1 F11 F10 F9 F8 F4 i3 i4, (binds_init i5 i6).1, (binds_init i5 i6).2, .inr ⟨oe, #[], ne, i7, i8, i9, by decide, .nil⟩⟩
  have GO : FnOk P w K mg base CX0 3 c_mO d_mO ["self", "moment"] (spMI K C fun off rs m => offAt m off rs) := ok_offsetAt T Z F0 F4 C_mO.F
  have GM : FnOk P w K mg base CX0 4 c_mM d_mM ["self", "reading"] (spMom K C) := ok_momentsOf T hsrt Z F0 F4 C_mO C_mM.F
  have GP : FnOk P w K mg base CX0 5 c_mP d_mP ["self", "reading", "rule"] (spPlace K C) := ok_place T hstr RA Z F0 F4 F12 F14 F13 GM C_mM C_mP.F
  have L1 : FnOk P w K mg base CX0 1 f27 fd27 ["_law_plan", "_law_moment"] (spR K RLOff) := ok_loff hsum F27
  have L2' : FnOk P w K mg base CX0 2 f28 fd28 ["_law_plan", "_law_reading"] (spL K RLMom) := ok_lmom T hsrt F25 L1 F27 F28
  have L3 : FnOk P w K mg base CX0 3 f29 fd29 ["_law_plan", "_law_reading", "_law_rule"] (spR K RLPlace) := ok_lplace T L2' F28 F29
  have GMd : FnOk P w K mg base CX0 6 f26 fd26 ["_law_plan"] (spMade K C) := ok_lmade W F25 F26
  have GGa : FnOk P w K mg base CX0 2 c_mG d_mG ["self"] (spML K C fun _ rs => gapsOf rs) := ok_gaps T Z F11 F12 C_mG.F
  have GFo : FnOk P w K mg base CX0 2 c_mF d_mF ["self"] (spML K C fun _ rs => foldsOf rs) := ok_folds T Z F11 F12 C_mF.F
  have GNI : FnOk P w K mg base CX0 2 f4 fd4 ["value"] (spR K RNeed) := ok_need T F0 F4
  have GII : FnOk P w K mg base CX0 2 f2 fd2 ["value", "low", "high"] (spR K RInt) := ok_isInt T F0 F2
  have GIT : FnOk P w K mg base CX0 3 f3 fd3 ["value"] (spR K RTime) := ok_isTime hD GII F2 F3
  have GNT : FnOk P w K mg base CX0 4 f5 fd5 ["value"] (spR K RNeedT) := ok_needT GIT F3 F5
  have GDO : FnOk P w K mg base CX0 3 f6 fd6 ["reading"] (spR K RDay) := ok_dayOf hD GNI F4 F6
  have GRO : FnOk P w K mg base CX0 5 f7 fd7 ["day", "time"] (spR K RRead) := ok_readOf hD GNI F4 GNT F5 F7
  have GN : FnOk P w K mg base CX0 1 f15 fd15 ["value"] (spNeedZ K C) := ok_needZ T Z IZ F15
  have GNR : FnOk P w K mg base CX0 2 f19 fd19 ["value"] (spR K RNeedR) := ok_needR (ok_isRule T hstr RA F14) F14 F19
  have GND : FnOk P w K mg base CX0 5 f18 fd18 ["zone", "time", "rule", "day"] (spNeedD K C) := ok_needD GN F15 GNT F5 GNR F19 GNI F4 F18
  exact
  { T := T
    Z := Z
    cell := ⟨_, _, F21, ok_cell T F21⟩
    bag := ⟨_, _, F22, ok_bag T F22⟩
    take := ⟨_, _, F23, ok_take F23⟩
    zone := ⟨_, _, F24, ok_zone T F23 F24⟩
    made := ⟨_, _, F26, GMd⟩
    lplace := ⟨_, _, F29, L3⟩
    ltou := ⟨_, _, F30, ok_ltou T F30⟩
    ltimes := ⟨_, _, F31, ok_ltimes F23 F31⟩
    daily := ⟨_, _, F16, ok_daily Z GND F18 GRO F7 GP C_mP F16⟩
    dailyL := ⟨_, _, F17, ok_dailyL T Z hM GND F18 GRO F7 GP C_mP GII F2 F17⟩
    touch := ⟨_, _, F20, ok_touch T hsrt Z GN F15 GNT F5 GDO F6 GRO F7 GGa C_mG GFo C_mF F20⟩ }
theorem all_g {l : PySem.W.OpenLaw} {w : World} {K : PySem.W.Frag} {h : Heap} {mg : Str → Option Value} {fa C : Addr} (X : K.In h) (G : h.Ns mainGlobals mg) (hfa : mg "law" = some (.ref fa)) (hGJ : ∃ t, PySem.W.nsIn K mainGlobals "GREATEST_JUMP" = some (some (.int 720 t))) (hDL : ∃ t, PySem.W.nsIn K mainGlobals "DAY_LENGTH" = some (some (.int 1440 t))) (hMR : ∃ t, PySem.W.nsIn K mainGlobals "MOST_RESULTS" = some (some (.int 200 t))) (B : NoB K) (D : DfA K mg) (O : ObF K) (Q : ZC K C) (R : RuF K) (J : InF K C) :
    ∃ fd : FuncData, (∀ (s : Shared) (v : Value), BindsTo s fd ⟨[v], []⟩ [("_law_script", v)]) ∧ ∀ base : Heap, K.In base → base.Ns mainGlobals mg → FnG l.prog w K mg base 8 fa fd ["_law_script"] (spLaw K) := by
  obtain ⟨f, fd, F⟩ := D.d32
  have e := hfa.symm.trans F.g
  injection e with e
  injection e with e
  subst e
  obtain ⟨oc, od, kV, dc, pm, an, cdv, ct, osl, rfl, _⟩ := F.F.ex
  exact ⟨_, fun s v => .of_eq rfl, fun base _ _ => ok_law (al_of X G hGJ hDL hMR B D O Q R J) F.F⟩
end Zn

set_option Elab.async false
open PySem PySem.W PyProof.Rows in
set_option maxRecDepth 100000 in
set_option maxHeartbeats 0 in
theorem PySem.Challenge.cw_everyzone_k31_each_day_at_one_time_holds : PySem.Challenge.rw_everyzone_k31_each_day_at_one_time.Holds := by
  w_on; o_law; k_head; (case hw => w_witness2)
  k_fill
  refine Zn.walk_g (l := PySem.Challenge.rw_everyzone_k31_each_day_at_one_time) rfl rfl (fun w h Y => PySem.W.kIn_of Y) ?F
  case F =>
    intro w mg fa h KX G hmg
    refine' Zn.all_g KX G hmg (Zn.ci_mk ?gj) (Zn.ci_mk ?gj2) (Zn.ci_mk ?gj3) ?B ?D ⟨?ohn, ?ohtk⟩ ?Q ?R ?J
    case Q =>
      refine' ⟨?aC, ?pg, ?hd, ?po, ?sa, ?ha, ?hm, ?bq, ?mks, ?kc, ?no, ?nB, ?nR, ?mO, ?mM, ?mP, ?mG, ?mF⟩
      (case aC => k_is)
      (case pg => k_is)
      (case hd => k_is)
      (case po => k_is)
      (case sa => k_is)
      (case ha => k_is)
      (case hm => k_is)
      (case bq => rfl)
      (case mks => k_is)
      (case kc => k_is)
      (case nB => k_is)
      (case nR => k_is)
      case no =>
        refine' Zn.kit_list ?h ?c ?t ?s
        (case h => rfl)
        (case c => k_is)
        (case t => k_is)
        (case s => k_is)
      case mO =>
        refine' Zn.mt_mk ?a ?i ?l ?c ?k ?b
        (case a => k_is)
        (case i => k_is)
        (case l => k_is)
        (case c => k_is)
        (case k => k_is)
        (case b => exact fun us hl => match us, hl with | [_, _], _ => rfl)
      case mM =>
        refine' Zn.mt_mk ?a ?i ?l ?c ?k ?b
        (case a => k_is)
        (case i => k_is)
        (case l => k_is)
        (case c => k_is)
        (case k => k_is)
        (case b => exact fun us hl => match us, hl with | [_, _], _ => rfl)
      case mP =>
        refine' Zn.mt_mk ?a ?i ?l ?c ?k ?b
        (case a => k_is)
        (case i => k_is)
        (case l => k_is)
        (case c => k_is)
        (case k => k_is)
        (case b => exact fun us hl => match us, hl with | [_, _, _], _ => rfl)
      case mG =>
        refine' Zn.mt_mk ?a ?i ?l ?c ?k ?b
        (case a => k_is)
        (case i => k_is)
        (case l => k_is)
        (case c => k_is)
        (case k => k_is)
        (case b => exact fun us hl => match us, hl with | [_], _ => rfl)
      case mF =>
        refine' Zn.mt_mk ?a ?i ?l ?c ?k ?b
        (case a => k_is)
        (case i => k_is)
        (case l => k_is)
        (case c => k_is)
        (case k => k_is)
        (case b => exact fun us hl => match us, hl with | [_], _ => rfl)
    case R =>
      refine' Zn.ru_mk ?g ?l ?c ?d
      (case g => k_is)
      (case l => k_is)
      (case c => rfl)
      (case d => rfl)
    case J =>
      refine' Zn.in_mk ?a ?i ?l ?c ?d ?dd ?e ?ec ?ed
      (case a => k_is)
      (case i => k_is)
      (case l => k_is)
      (case c => k_is)
      (case d => k_is)
      (case dd => rfl)
      (case e => k_is)
      (case ec => rfl)
      (case ed => rfl)
    (case gj => k_is)
    (case gj2 => k_is)
    (case gj3 => k_is)
    (case ohn => k_is)
    (case ohtk => k_is)
    case B =>
      refine' ⟨?n0, ?n1, ?n2, ?n3, ?n4, ?n5, ?n6, ?n7, ?n8, ?n9, ?n10, ?n11, ?n12, ?n13⟩
      (case n0 => k_is)
      (case n1 => k_is)
      (case n2 => k_is)
      (case n3 => k_is)
      (case n4 => k_is)
      (case n5 => k_is)
      (case n6 => k_is)
      (case n7 => k_is)
      (case n8 => k_is)
      (case n9 => k_is)
      (case n10 => k_is)
      (case n11 => k_is)
      (case n12 => k_is)
      (case n13 => k_is)
    case D =>
      refine' ⟨?d0, ?d1, ?d2, ?d3, ?d4, ?d5, ?d6, ?d7, ?d8, ?d9, ?d10, ?d11, ?d12, ?d13, ?d14, ?d15, ?d16, ?d17, ?d18, ?d19, ?d20, ?d21, ?d22, ?d23, ?d24, ?d25, ?d26, ?d27, ?d28, ?d29, ?d30, ?d31, ?d32⟩
      case d0 =>
        refine' Zn.df_mk KX G ?a ?l ?c ?k ?b
        (case a => k_is)
        (case l => k_is)
        (case c => k_is)
        (case k => k_is)
        (case b => exact fun us hl => match us, hl with | [_], _ => rfl)
      case d1 =>
        refine' Zn.df_mk KX G ?a ?l ?c ?k ?b
        (case a => k_is)
        (case l => k_is)
        (case c => k_is)
        (case k => k_is)
        (case b => exact fun us hl => match us, hl with | [_], _ => rfl)
      case d2 =>
        refine' Zn.df_mk KX G ?a ?l ?c ?k ?b
        (case a => k_is)
        (case l => k_is)
        (case c => k_is)
        (case k => k_is)
        (case b => exact fun us hl => match us, hl with | [_, _, _], _ => rfl)
      case d3 =>
        refine' Zn.df_mk KX G ?a ?l ?c ?k ?b
        (case a => k_is)
        (case l => k_is)
        (case c => k_is)
        (case k => k_is)
        (case b => exact fun us hl => match us, hl with | [_], _ => rfl)
      case d4 =>
        refine' Zn.df_mk KX G ?a ?l ?c ?k ?b
        (case a => k_is)
        (case l => k_is)
        (case c => k_is)
        (case k => k_is)
        (case b => exact fun us hl => match us, hl with | [_], _ => rfl)
      case d5 =>
        refine' Zn.df_mk KX G ?a ?l ?c ?k ?b
        (case a => k_is)
        (case l => k_is)
        (case c => k_is)
        (case k => k_is)
        (case b => exact fun us hl => match us, hl with | [_], _ => rfl)
      case d6 =>
        refine' Zn.df_mk KX G ?a ?l ?c ?k ?b
        (case a => k_is)
        (case l => k_is)
        (case c => k_is)
        (case k => k_is)
        (case b => exact fun us hl => match us, hl with | [_], _ => rfl)
      case d7 =>
        refine' Zn.df_mk KX G ?a ?l ?c ?k ?b
        (case a => k_is)
        (case l => k_is)
        (case c => k_is)
        (case k => k_is)
        (case b => exact fun us hl => match us, hl with | [_, _], _ => rfl)
      case d8 =>
        refine' Zn.df_mk KX G ?a ?l ?c ?k ?b
        (case a => k_is)
        (case l => k_is)
        (case c => k_is)
        (case k => k_is)
        (case b => exact fun us hl => match us, hl with | [_, _], _ => rfl)
      case d9 =>
        refine' Zn.df_mk KX G ?a ?l ?c ?k ?b
        (case a => k_is)
        (case l => k_is)
        (case c => k_is)
        (case k => k_is)
        (case b => exact fun us hl => match us, hl with | [_, _], _ => rfl)
      case d10 =>
        refine' Zn.df_mk KX G ?a ?l ?c ?k ?b
        (case a => k_is)
        (case l => k_is)
        (case c => k_is)
        (case k => k_is)
        (case b => exact fun us hl => match us, hl with | [_], _ => rfl)
      case d11 =>
        refine' Zn.df_mk KX G ?a ?l ?c ?k ?b
        (case a => k_is)
        (case l => k_is)
        (case c => k_is)
        (case k => k_is)
        (case b => exact fun us hl => match us, hl with | [_], _ => rfl)
      case d12 =>
        refine' Zn.df_mk KX G ?a ?l ?c ?k ?b
        (case a => k_is)
        (case l => k_is)
        (case c => k_is)
        (case k => k_is)
        (case b => exact fun us hl => match us, hl with | [_], _ => rfl)
      case d13 =>
        refine' Zn.df_mk KX G ?a ?l ?c ?k ?b
        (case a => k_is)
        (case l => k_is)
        (case c => k_is)
        (case k => k_is)
        (case b => exact fun us hl => match us, hl with | [_, _, _], _ => rfl)
      case d14 =>
        refine' Zn.df_mk KX G ?a ?l ?c ?k ?b
        (case a => k_is)
        (case l => k_is)
        (case c => k_is)
        (case k => k_is)
        (case b => exact fun us hl => match us, hl with | [_], _ => rfl)
      case d15 =>
        refine' Zn.df_mk KX G ?a ?l ?c ?k ?b
        (case a => k_is)
        (case l => k_is)
        (case c => k_is)
        (case k => k_is)
        (case b => exact fun us hl => match us, hl with | [_], _ => rfl)
      case d16 =>
        refine' Zn.df_mk KX G ?a ?l ?c ?k ?b
        (case a => k_is)
        (case l => k_is)
        (case c => k_is)
        (case k => k_is)
        (case b => exact fun us hl => match us, hl with | [_, _, _, _], _ => rfl)
      case d17 =>
        refine' Zn.df_mk KX G ?a ?l ?c ?k ?b
        (case a => k_is)
        (case l => k_is)
        (case c => k_is)
        (case k => k_is)
        (case b => exact fun us hl => match us, hl with | [_, _, _, _, _], _ => rfl)
      case d18 =>
        refine' Zn.df_mk KX G ?a ?l ?c ?k ?b
        (case a => k_is)
        (case l => k_is)
        (case c => k_is)
        (case k => k_is)
        (case b => exact fun us hl => match us, hl with | [_, _, _, _], _ => rfl)
      case d19 =>
        refine' Zn.df_mk KX G ?a ?l ?c ?k ?b
        (case a => k_is)
        (case l => k_is)
        (case c => k_is)
        (case k => k_is)
        (case b => exact fun us hl => match us, hl with | [_], _ => rfl)
      case d20 =>
        refine' Zn.df_mk KX G ?a ?l ?c ?k ?b
        (case a => k_is)
        (case l => k_is)
        (case c => k_is)
        (case k => k_is)
        (case b => exact fun us hl => match us, hl with | [_, _], _ => rfl)
      case d21 =>
        refine' Zn.df_mk KX G ?a ?l ?c ?k ?b
        (case a => k_is)
        (case l => k_is)
        (case c => k_is)
        (case k => k_is)
        (case b => exact fun us hl => match us, hl with | [_, _], _ => rfl)
      case d22 =>
        refine' Zn.df_mk KX G ?a ?l ?c ?k ?b
        (case a => k_is)
        (case l => k_is)
        (case c => k_is)
        (case k => k_is)
        (case b => exact fun us hl => match us, hl with | [_], _ => rfl)
      case d23 =>
        refine' Zn.df_mk KX G ?a ?l ?c ?k ?b
        (case a => k_is)
        (case l => k_is)
        (case c => k_is)
        (case k => k_is)
        (case b => exact fun us hl => match us, hl with | [_, _], _ => rfl)
      case d24 =>
        refine' Zn.df_mk KX G ?a ?l ?c ?k ?b
        (case a => k_is)
        (case l => k_is)
        (case c => k_is)
        (case k => k_is)
        (case b => exact fun us hl => match us, hl with | [_, _], _ => rfl)
      case d25 =>
        refine' Zn.df_mk KX G ?a ?l ?c ?k ?b
        (case a => k_is)
        (case l => k_is)
        (case c => k_is)
        (case k => k_is)
        (case b => exact fun us hl => match us, hl with | [_], _ => rfl)
      case d26 =>
        refine' Zn.df_mk KX G ?a ?l ?c ?k ?b
        (case a => k_is)
        (case l => k_is)
        (case c => k_is)
        (case k => k_is)
        (case b => exact fun us hl => match us, hl with | [_], _ => rfl)
      case d27 =>
        refine' Zn.df_mk KX G ?a ?l ?c ?k ?b
        (case a => k_is)
        (case l => k_is)
        (case c => k_is)
        (case k => k_is)
        (case b => exact fun us hl => match us, hl with | [_, _], _ => rfl)
      case d28 =>
        refine' Zn.df_mk KX G ?a ?l ?c ?k ?b
        (case a => k_is)
        (case l => k_is)
        (case c => k_is)
        (case k => k_is)
        (case b => exact fun us hl => match us, hl with | [_, _], _ => rfl)
      case d29 =>
        refine' Zn.df_mk KX G ?a ?l ?c ?k ?b
        (case a => k_is)
        (case l => k_is)
        (case c => k_is)
        (case k => k_is)
        (case b => exact fun us hl => match us, hl with | [_, _, _], _ => rfl)
      case d30 =>
        refine' Zn.df_mk KX G ?a ?l ?c ?k ?b
        (case a => k_is)
        (case l => k_is)
        (case c => k_is)
        (case k => k_is)
        (case b => exact fun us hl => match us, hl with | [_, _], _ => rfl)
      case d31 =>
        refine' Zn.df_mk KX G ?a ?l ?c ?k ?b
        (case a => k_is)
        (case l => k_is)
        (case c => k_is)
        (case k => k_is)
        (case b => exact fun us hl => match us, hl with | [_, _], _ => rfl)
      case d32 =>
        refine' Zn.df_mk KX G ?a ?l ?c ?k ?b
        (case a => k_is)
        (case l => k_is)
        (case c => k_is)
        (case k => k_is)
        (case b => exact fun us hl => match us, hl with | [_], _ => rfl)
